import PyProof.Rows.All
import Wide.All
import OpenK.AllK
import Wide.FinOn
import HandS.ForMost
import HandS.ForExc
import HandS.Strs
import HandS.SetFor
import HandS.SetKeys
import HandS.TupAny
import HandS.Style
import HandS.Gcd
import HandS.Wide
import HandS.IsInst
import HandS.Conv
import HandS.Flow
import PyProof.ReprRoads
import HandS.More
import PyProof.ReprLen
import HandS.ExcInit
import HandS.ExcField
import HandS.ExcIs
import KE.KExcInit
import HandS.MakeKw
import KE.KTryMore
import HandS.HotCalls
import KE.KUnpack
import HandS.Lambda
import HandS.Words
import HandS.EndTab
import KE.KNest
import PySem.Challenge.RW_rimorders_k08_steps_and_ranks_refused
set_option Elab.async false
set_option linter.all false
set_option maxRecDepth 100000
set_option maxHeartbeats 4000000
/-! general rules of mine: repr of data, set of a list of ints, t[:0:-1] -/
namespace Gn
open PySem PySem.Spec PyProof.Rows L2
section
variable {X : Cx}
/-! repr of lists and tuples -/
mutual
theorem dp_nodict {K : PySem.W.Frag} {H : Hp} : ∀ (d : PyData) (v : V), Dp K H v d → d.hasDict = false
  | .none, _, _ => by simp only [PyData.hasDict]
  | .bool _, _, _ => by simp only [PyData.hasDict]
  | .int _, _, _ => by simp only [PyData.hasDict]
  | .str _, _, _ => by simp only [PyData.hasDict]
  | .list ds, _, h => by
    cases h with
    | lst _ ha => simp only [PyData.hasDict]; exact dps_nodict ds _ ha
  | .tuple ds, _, h => by
    cases h with
    | tup _ ha => simp only [PyData.hasDict]; exact dps_nodict ds _ ha
  | .dict _, _, h => by cases h
theorem dps_nodict {K : PySem.W.Frag} {H : Hp} : ∀ (ds : List PyData) (vs : List V), DpAll K H vs ds → PyData.hasDictAll ds = false
  | [], _, _ => by simp only [PyData.hasDictAll]
  | d :: ds, _, h => by
    cases h with
    | cons h1 h2 => simp only [PyData.hasDictAll, dp_nodict d _ h1, dps_nodict ds _ h2, Bool.or_self]
end
/-- repr(x), x a list or a tuple of data -/
def rRepr (K : PySem.W.Frag) : List V → Hp → VK → Prop := fun xs H Q => ∃ a d, xs = [V.ref a] ∧ Dp K H (.ref a) d ∧ d.showable = true ∧ d.depth < 60 ∧ d.shown.length ≤ sizeLine ∧ Q (.str d.shown) H
theorem cr_repr (hg : X.A.guards = some []) (hu : X.A.units + 64 < cLine) : CallR X (.builtin "repr") (rRepr X.K) := by
  intro pins s σ H xs us Q I r h
  obtain ⟨a, d, rfl, hd, hs, hdp, hz, q⟩ := h
  rw [Vals.ref1 r]
  obtain ⟨as, rd⟩ := Dp.reads I d _ _ hd rfl
  exact repr_of_reads' rd hs (PySem.PyData.noDict_hsm (dp_nodict d _ hd)) hg (by omega) (fun _ _ e => e) (fun h' u tk k => ⟨.str d.shown, H, I.kept (t' := tk) k, ⟨u, rfl⟩, q⟩) hz
end
end Gn
set_option Elab.async false
set_option linter.all false
set_option maxRecDepth 100000
set_option maxHeartbeats 4000000
namespace Gn
open PySem PySem.Spec PyProof.Rows L2
/-- the empty set object as the machine lays it -/
abbrev eSet (w : World) : Obj := { cls := .type "set", dict := none, data := .set #[] 0 (.fresh 0 0 (!w.params.followText "set-order")) }
section
variable {P : Program} {w : World} {A : Around} {E : Value → Shared → Prop} {s : Shared}
/-- what the init leaves: a set of the ints ns at S, no older object changed -/
abbrev Filled (w : World) (ns : List Int) (s0 : Shared) (S : Addr) (s2 : Shared) : Prop := ∃ (h' : Heap) (tk c : Nat), s2 = { s0 with heap := h', toks := tk } ∧ SetR w h' S (fun j => decide (j ∈ ns)) c ∧ c ≤ ns.length ∧ ∀ b o, s0.heap.get? b = some o → h'.get? b = some o
set_option maxHeartbeats 6000000 in
/-- set(l), l a list of ints -/
theorem set_of_ints {l : Addr} {its : Array Value} (ns : List Int) {Q : Value → Shared → Prop} (hh : A.handled = none) (hl : s.heap.IsList l its) (hi : IntsAre its.toList ns) (hb : ns.length + 1 < scanBound)
    (h : ∀ s2, Filled w ns s s.heap.objs.size s2 → Q (.ref s.heap.objs.size) s2) : wpAny (model P w) A (call (.type "set") [.ref l]) Q E s := by
  have hN : its.size = ns.length := by have q := IntsAre.length hi; rw [Array.length_toList] at q; exact q
  obtain ⟨c, tl, hmro⟩ := F.called_set.mro; have hmade := F.called_set.made; have hsub := F.called_set.sub
  refine wpAny_call (codeAny_of_tree ?_); show wpAny _ _ (callAny (.type "set") _) _ _ _
  refine wpAny_pure ⟨Code.quiet_builtin _ (by decide +kernel), codeAny_builtin F.entry_type_call ?_⟩; rw [Around.under_plain (weight_type_call_type "set" [.ref l] []) rfl]
  have h1 := F.called_set.notType; have h2 := F.called_set.canCreate; have hct := F.typeCall_set_1 (.ref l)
  repeat (any_goals (first | assumption | wp_step))
  refine codeAny_mono (code_set_led1 (.ref l) (E := E) (Q₁ := fun v z => v = .ref s.heap.objs.size ∧ z = { s with heap := s.heap.push (eSet w) }) ⟨rfl, rfl⟩) fun r z hr => ?_
  cases r with
  | error e => exact hr
  | ok fl =>
    cases fl with
    | ret obj =>
      obtain ⟨rfl, rfl⟩ := hr
      have hS : (s.heap.push (eSet w)).get? s.heap.objs.size = some (eSet w) := Heap.get?_push_size _ rfl
      have hT : Shared.TypeIs { s with heap := s.heap.push (eSet w) } (.ref s.heap.objs.size) "set" := ⟨_, hS, rfl⟩
      have hli := F.called_set.init.lookup; have hbi := F.called_set.init.bind (.ref s.heap.objs.size)
      repeat (any_goals (first | assumption | wp_step))
      refine codeAny_mono (codeAny_call_builtin (R := wants (fun r z => r = .none ∧ Filled w ns s s.heap.objs.size z) E) F.called_set.init.plain F.entry_set_init (check_set_init_1 hT ?_)) fun r2 z2 hr2 => ?_
      · obtain ⟨⟨lc, ld, lx, ls⟩, hol, hcl, nl, hdl⟩ := hl
        simp only at hcl hdl
        subst hcl; subst hdl
        have hol' : (s.heap.push (eSet w)).get? l = some { cls := .type "list", dict := ld, data := .seq its nl, slots := ls } := Heap.get?_push_of_some _ hol
        have hsls := F.sub_list_set; have hslf := F.sub_list_frozenset; have hne : (Value.type "list" == Value.type "dict") = false := by decide
        have hl1 : (s.heap.push (eSet w)).IsList l its := ⟨_, hol', rfl, nl, rfl⟩
        unfold Builtin.«set.__init__» noKeywords Builtin.Frozenset.updateFrom
        generalize hPI : pyIter = PI
        wp_walk
        subst hPI
        refine wpAny_pyIter_list hl1 (wpAny_bind (wpAny_runValue ?_))
        have hlS : l < s.heap.objs.size := Heap.lt_size hol
        have h3 : A.in1.in1.in1.handled = none := by simp [hh]
        have z1 : (s.heap.push (eSet w)).objs.size = s.heap.objs.size + 1 := Heap.size_push ..
        have nI : l ≠ (s.heap.push (eSet w)).objs.size := by rw [z1]; exact Nat.ne_of_lt (Nat.lt_succ_of_lt hlS)
        have nF : s.heap.objs.size ∉ [(s.heap.push (eSet w)).objs.size, l] := by
          rw [z1]; intro q; rcases List.mem_cons.mp q with q | q
          · exact Nat.succ_ne_self _ q.symm
          · exact Nat.ne_of_gt hlS (List.mem_singleton.mp q)
        have hval : ∀ (i : Nat) (v : Value), its[i]? = some v → ∃ k t, ns[i]? = some k ∧ v = .int k t := fun i v hv => by
          have hil : i < ns.length := by rw [← hN]; exact (Array.getElem?_eq_some_iff.mp hv).1
          obtain ⟨t, e⟩ := IntsAre.int_at hi i v (by rw [Array.getElem?_toList]; exact hv)
          exact ⟨ns[i], t, List.getElem?_eq_getElem hil, by rw [e, List.getD_eq_getElem?_getD, List.getElem?_eq_getElem hil] <;> rfl⟩
        refine set_update_ints ((Walks.list h3 _ l nI its).toS) s.heap.objs.size nF ns hN hb hval (its.size - 0) 0 _ (by omega) (Nat.zero_le _) ⟨⟨_, Heap.get?_push_size _ rfl, rfl, rfl⟩, (hl1.push _)⟩ ⟨0, Nat.le_refl 0, setR_new_at (Heap.get?_push_of_some _ hS)⟩ ?_
        intro z' c' hm hc' hS'
        obtain ⟨h', g2, d', tk', os'⟩ := z'
        obtain rfl : g2 = s.gens := hm.gens
        obtain rfl : d' = s.drawn := hm.drawn
        obtain rfl : os' = s.os := hm.os
        show wpAny _ _ _ _ _ _
        refine wpAny_pure ?_; show wpAny _ _ (ret Value.none) _ _ _; rw [hN] at hc'
        refine wpAny_pure ⟨rfl, h', tk', c', rfl, hS', hc', fun b o e => ?_⟩
        have hb0 : b < s.heap.objs.size := Heap.lt_size e
        refine hm.heap b o (fun q => ?_) (Heap.get?_push_of_some _ (Heap.get?_push_of_some _ e))
        rcases List.mem_cons.mp q with q | q
        · exact Nat.ne_of_lt hb0 q
        · exact Nat.ne_of_lt (Nat.lt_succ_of_lt hb0) ((List.mem_singleton.mp q).trans z1)
      · cases r2 with
        | error e => exact hr2
        | ok fl2 =>
          cases fl2 with
          | ret r =>
            obtain ⟨rfl, h', tk, c', rfl, hS', hc', hk'⟩ := hr2
            repeat (any_goals (first | assumption | wp_step))
            exact h _ ⟨_, _, _, rfl, hS', hc', hk'⟩
          | _ => exact hr2.elim
    | _ => exact hr.elim
end
section
variable {X : Cx}
/-- set(l) of a list of fewer than 64 ints -/
def rSetI (K : PySem.W.Frag) (w : World) : List V → Hp → VK → Prop := fun xs H Q => ∃ (l : Addr) (ns : List Int), xs = [.ref l] ∧ SqL K H l (ns.map V.int) ∧ ns.length < 64 ∧ ∀ p c, H p = none → c ≤ ns.length → Q (.ref p) (upd H p (SetO w p (fun j => decide (j ∈ ns)) c))
theorem cr_setI (hc : X.calm = true) : CallR X (.type "set") (rSetI X.K X.w) := by
  intro pins s σ H xs us Q I r h
  obtain ⟨l, ns, rfl, hl, hf, q⟩ := h
  rw [Vals.ref1 r]
  obtain ⟨its, rv, pl, hz⟩ := I.list hl
  refine set_of_ints ns (I.ok.hd hc) pl.isList (by simpa using intsAre_of rv) (by unfold scanBound; omega) fun s2 hs => ?_
  obtain ⟨h', tk, c, rfl, hS, hcn, k⟩ := hs
  exact ⟨.ref s.heap.objs.size, _, I.laid (t' := tk) k (Nat.le_refl _) (setO_new hS), rfl, q _ c (I.hok.fresh (Nat.le_refl _)) hcn⟩
end
end Gn
set_option Elab.async false
set_option linter.all false
set_option maxRecDepth 100000
set_option maxHeartbeats 4000000
namespace Gn
open PySem PySem.Spec PyProof.Rows L2
/-! t[:0:-1], t a tuple -/
theorem back_adjust (n : Nat) : Builtin.Slice.slicePlaces (Builtin.Slice.sliceAdjust none (some 0) (-1) (n : Int)).1 (Builtin.Slice.sliceAdjust none (some 0) (-1) (n : Int)).2 (-1) = n - 1 ∧ (Builtin.Slice.sliceAdjust none (some 0) (-1) (n : Int)).1 = (n : Int) - 1 := by
  have a : (Builtin.Slice.sliceAdjust none (some 0) (-1) (n : Int)) = ((n : Int) - 1, min 0 ((n : Int) - 1)) := by
    simp only [Builtin.Slice.sliceAdjust, show ((-1 : Int) < 0) = True by decide, show ((0 : Int) < 0) = False by decide, if_true, if_false]
  rw [a]
  refine ⟨?_, rfl⟩
  unfold Builtin.Slice.slicePlaces
  simp only [show ((-1 : Int) > 0) = False by decide, if_false, show (-(-1) : Int) = 1 by decide, Int.ediv_one]
  split <;> omega
theorem back_pick (xs : Array Value) : ((List.range (xs.size - 1)).filterMap fun (m : Nat) => xs[(((xs.size : Nat) : Int) - 1 + (m : Int) * (-1)).toNat]?).toArray = (xs.toList.drop 1).reverse.toArray := by
  congr 1
  have g : ∀ k, k ≤ xs.size - 1 → ((List.range k).filterMap fun (m : Nat) => xs[(((xs.size : Nat) : Int) - 1 + (m : Int) * (-1)).toNat]?) = ((xs.toList.drop 1).reverse).take k := by
    intro k
    induction k with
    | zero => intro _; rfl
    | succ k ih =>
      intro hk
      have i1 : (((xs.size : Nat) : Int) - 1 + (k : Int) * (-1)).toNat = xs.size - 1 - k := by omega
      have i2 : xs.size - 1 - k < xs.size := by omega
      have hl : k < (xs.toList.drop 1).reverse.length := by rw [List.length_reverse, List.length_drop, Array.length_toList]; omega
      rw [List.range_succ, List.filterMap_append, ih (by omega), List.take_add_one, List.getElem?_eq_getElem hl]
      congr 1
      simp only [List.filterMap_cons, List.filterMap_nil, i1, Array.getElem?_eq_getElem i2, Option.toList]
      congr 1
      rw [List.getElem_reverse, List.getElem_drop]
      simp only [List.length_drop, Array.length_toList, Array.getElem_toList]
      congr 1
      omega
  rw [g _ (Nat.le_refl _)]
  refine List.take_of_length_le ?_
  rw [List.length_reverse, List.length_drop, Array.length_toList]
  exact Nat.le_refl _
section
variable {prog : Program} {w : World} {A : Around} {E : Value → Shared → Prop} {s : Shared}
theorem back_item {t sl : Addr} {its : Array Value} {vl vu vs : Value} {Q : Value → Shared → Prop} (ht : IsTup s.heap t its) (hs : s.heap.IsSliceOf sl vl vu vs) (pl : IsPart vl none) (pu : IsPart vu (some 0)) (ps : IsPart vs (some (-1)))
    (h : Q (.ref s.heap.objs.size) { s with heap := s.heap.push { cls := .type "tuple", data := .seq (its.toList.drop 1).reverse.toArray } }) (hz : its.size ≤ sizeLine) : wpAny (model prog w) A (getItem (.ref t) (.ref sl)) Q E s := by
  have hfit : sizeOk (.seq (its.toList.drop 1).reverse.toArray) := by
    show ((its.toList.drop 1).reverse).toArray.size ≤ sizeLine
    rw [List.size_toArray, List.length_reverse, List.length_drop, Array.length_toList]; omega
  obtain ⟨os, hos, hcs, hds⟩ := id hs
  unfold getItem
  try with_reducible refine wpAny_holding ?_
  first | refine wpAny_bind (wpAny_pure ?_) | skip
  refine wpAny_bind (wpAny_sequenceKey ht.typeIs (by decide) (wpAny_bind (wpAny_callSpecial?_slot (name := Str.ofString "__getitem__") ht.typeIs PyProof.Rows.slot_tuple_getitem (wpAny_call_entry PyProof.Rows.slot_tuple_getitem ht.typeIs PyProof.Rows.entry_tuple_getitem ?_ (PyProof.Rows.args_tuple_getitem _ _)))))
  show wpAny _ _ (Builtin.Tuple.tupleItemsOf (.ref t) >>= _) _ _ s
  refine wpAny_bind (PyProof.Rows.tupleItemsOf_ ht (wpAny_bind (wpAny_typeOf (show s.TypeIs (.ref sl) "slice" from ⟨os, hos, hcs⟩) ?_)))
  rw [if_pos (by decide)]
  refine wpAny_bind ?_
  unfold Builtin.Slice.sliceApplied Builtin.Slice.sliceFields
  refine wpAny_bind (wpAny_bind (wpAny_field hos hds (x := vl) rfl (wpAny_bind (wpAny_field hos hds (x := vu) rfl (wpAny_bind (wpAny_field hos hds (x := vs) rfl (wpAny_pure (wpAny_bind (HT.slicePart_ ps ?_)))))))))
  show wpAny _ _ (if ((-1 : Int) == 0) = true then _ else _) _ _ s
  rw [if_neg (by decide)]
  refine wpAny_bind (HT.slicePart_ pl (wpAny_bind (HT.slicePart_ pu (wpAny_bind (wpAny_pure ?_)))))
  have e1 := (back_adjust its.size).1
  have e2 := (back_adjust its.size).2
  show wpAny _ _ (pure ((Builtin.Slice.sliceAdjust none (some 0) (-1) (its.size : Int)).1, (-1 : Int), Builtin.Slice.slicePlaces (Builtin.Slice.sliceAdjust none (some 0) (-1) (its.size : Int)).1 (Builtin.Slice.sliceAdjust none (some 0) (-1) (its.size : Int)).2 (-1))) _ _ s
  rw [e1, e2]
  refine wpAny_pure ?_
  have no : ¬ ((((its.size : Nat) : Int) - 1 == 0 && (-1 : Int) == 1 && (its.size - 1) == its.size) = true) := by
    rw [show ((-1 : Int) == 1) = false by decide]; simp
  show wpAny _ _ (if ((((its.size : Nat) : Int) - 1 == 0 && (-1 : Int) == 1 && (its.size - 1) == its.size) = true) then _ else _) _ _ s
  rw [if_neg no, back_pick]
  first
    | exact wpAny_bind (m := Builtin.Tuple.tupleExact _) (wpAny_newObj_type (wpAny_pure ⟨_, rfl, wpAny_pure h⟩) hfit)
    | exact wpAny_bind (wpAny_bind (m := Builtin.Tuple.tupleExact _) (wpAny_newObj_type (wpAny_pure ⟨_, rfl, wpAny_pure h⟩) hfit))
    | exact wpAny_bind (wpAny_bind (m := Builtin.Tuple.tupleExact _) (wpAny_newObj_type (wpAny_pure (wpAny_pure ⟨_, rfl, wpAny_pure h⟩)) hfit))
end
def tBack (K : PySem.W.Frag) (te : TE) : TE := fun σ H Q => te σ H fun x H1 => ∃ a xs, x = .ref a ∧ SqT K H1 a xs ∧ ∀ p, H1 p = none → Q (.ref p) (upd H1 p (.tup (xs.drop 1).reverse))
section
variable {X : Cx}
theorem pe_back {e : Expr} {te : TE} {k k0 : Nat} {p0 p1 p2 p3 pos : Pos} (he : PE X e te) : PE X (.Subscript e (.Slice none (some (.Constant (.int 0) k0 p0)) (some (.UnaryOp .USub (.Constant (.int 1) k p1) p2)) p3) pos) (tBack X.K te) := by
  refine ⟨fun pins s σ H Q I h => ?_⟩
  refine Subscript_ (thn (he.run pins s σ H _ I h) fun v s1 ⟨x, H1, I1, r1, q1⟩ => ?_)
  obtain ⟨a, xs, ex, hx, q⟩ := q1
  subst ex
  cases r1
  have hup : PO X (some (.Constant (.int 0) k0 p0)) (tPart (tC (.int 0))) := po_some pe_int
  have hst : PO X (some (.UnaryOp .USub (.Constant (.int 1) k p1) p2)) (tPart (tUn (rU fun i => .int (-i)) (tC (.int 1)))) := po_some (pe_un un_neg pe_int)
  refine wpAny_Slice (thn (po_none.run pins s1 σ H1 (fun o H2 => o = none ∧ H2 = H1) I1 ⟨rfl, rfl⟩) fun vl s2 ⟨l, H2, I2, pl, el, e2⟩ => ?_)
  subst el e2
  refine thn (hup.run pins s2 σ H2 (fun o H3 => o = some 0 ∧ H3 = H2) I2 ⟨0, rfl, rfl, rfl⟩) fun vu s3 ⟨u, H3, I3, pu, eu, e3⟩ => ?_
  subst eu e3
  refine thn (hst.run pins s3 σ H3 (fun o H4 => o = some (-1) ∧ H4 = H3) I3 ⟨1, rfl, -1, rfl, rfl, rfl⟩) fun vs s4 ⟨o, H4, I4, ps, eo, e4⟩ => ?_
  subst eo e4
  have I5 : Inv X pins σ H4 { s4 with heap := s4.heap.push { cls := .type "slice", data := .fields #[vl, vu, vs] } } := I4.kept (t' := s4.toks) fun b ob q => Heap.get?_push_of_some _ q
  obtain ⟨its, r, ht, hz⟩ := I5.tuple hx
  have hlen := r.length
  show wpAny (model X.prog X.w) X.A (subscriptTail e (.Slice none (some (.Constant (.int 0) k0 p0)) (some (.UnaryOp .USub (.Constant (.int 1) k p1) p2)) p3) (.ref a) (.ref s4.heap.objs.size)) (EP X pins σ Q) X.xe { s4 with heap := s4.heap.push { cls := .type "slice", data := .fields #[vl, vu, vs] } }
  refine tail_any (ops := [.ref a, .ref s4.heap.objs.size]) ht.typeIs (PyProof.Rows.slot_tuple_getitem.lookup) ?_ (by with_unfolding_all rfl)
  refine back_item ht (Heap.IsSliceOf.new _ vl vu vs) pl pu ps ?_ (by rw [List.size_toArray]; omega)
  refine ⟨.ref _, _, I5.laid (t' := s4.toks) (o := .tup (xs.drop 1).reverse) (fun b ob q => Heap.get?_push_of_some _ q) (Nat.le_refl _) ?_, rfl, q _ (I5.hok.fresh (Nat.le_refl _))⟩
  exact ⟨by rw [List.length_reverse, List.length_drop]; omega, _, (Vals.drop 1 r).reverse, ⟨_, Heap.get?_push_size _ rfl, rfl, _, rfl⟩⟩
end
end Gn
set_option Elab.async false
set_option linter.all false
set_option maxRecDepth 100000
set_option maxHeartbeats 4000000
namespace Gn
open PySem PySem.Spec PyProof.Rows L2
/-- a def's promise where no repr runs around (the guards are known to be none) -/
structure FnG (P : Program) (w : World) (K : PySem.W.Frag) (mg : Str → Option Value) (base : Heap) (CX : CXT) (k : Nat) (f : Addr) (fd : FuncData) (ps : List Str) (sp : Sp) : Prop where
  len : ∀ vs H Q E, sp vs H Q E → vs.length = ps.length
  run : ∀ (A : Around) (outer : List Env) (s : Shared) (H : Hp) (args : Args) (us : List Value) (vs : List V) (Q : VK) (E : XK), A.guards = some [] → Room k A → Env0 P w K mg base A outer s H → BindsTo s fd args (ps.zip us) → Vals vs us → sp vs H Q E →
    codeAny (model P w) A (.call (.ref f) args) (CR CX outer P w H s Q E) s
section
variable {P : Program} {w : World} {K : PySem.W.Frag} {mg : Str → Option Value} {base : Heap}
theorem FnG.of {CX : CXT} {k : Nat} {f : Addr} {fd : FuncData} {ps : List Str} {sp : Sp} (F : FnOk P w K mg base CX k f fd ps sp) : FnG P w K mg base CX k f fd ps sp := ⟨F.len, fun A o s H a us vs Q E _ => F.run A o s H a us vs Q E⟩
theorem funG {CX : CXT} {x qual : Str} {st : Stmt} {f : Addr} {fd : FuncData} {N ps : List Str} {k : Nat} {sp : Sp} (F : Fun K x qual st f fd) (S : FnScope N ps (defScope st)) (len : ∀ vs H Q E, sp vs H Q E → vs.length = ps.length)
    (hbody : ∀ (cdv : Value) (A : Around) (outer : List Env) (s : Shared) (H : Hp) (vs : List V) (Q : VK) (E : XK), (A.deeper (envOfC qual (defScope st) s.heap.objs.size f cdv)).guards = some [] → Room k (A.deeper (envOfC qual (defScope st) s.heap.objs.size f cdv)) → sp vs H Q E →
      ∃ t, PSs (cxOf CX P w K mg base N qual (defScope st) f cdv A outer s H E) (defBody st) t ∧ t { nx := fun _ H' => Q .non H', rt := Q } (start N vs) H) : FnG P w K mg base CX (k + 1) f fd ps sp := by
  obtain ⟨oc, od, kV, doc, pm, an, cdv, ct, osl, rfl, lk, hcd⟩ := F.ex
  refine ⟨len, fun A outer s H args us vs Q E hg hr e0 hb r hsp => ?_⟩
  have KX : K.In s.heap := e0.mod.kin.keeps fun b o e => (e0.bs b o e).1
  have hkind : ∀ y ∈ ps.zip us, (defScope st).names.lookup y.1 = some .local ∨ ((defScope st).names.lookup y.1 = some .cell ∧ ((cellsFrom (s.heap.objs.size + 1) (defScope st).names []).lookup y.1).isSome = true) := fun y hy =>
    (S.par y.1 (List.of_mem_zip hy).1).elim .inl fun q => .inr ⟨q, PySem.W.cellsFrom_some _ _ _ (.inl q)⟩
  refine codeAny_call_function hr.depth (KX _ _ lk) rfl S.co S.gen rfl (PySem.W.codeRec_of KX hcd) (hb _ _ _ _ (wpAny_newFunctionEnv_cells S.kind hkind fun env he s1 x => ?_))
  subst he
  refine ⟨(e0.mod.nolimit.keeps fun b o e => (e0.bs b o e).1).keeps x.toInCall.keep, codeAny_func ?_⟩
  obtain ⟨t, ht, hq⟩ := hbody cdv A outer s H vs Q E hg (hr.deeper _) hsp
  have I : Inv (cxOf CX P w K mg base N qual (defScope st) f cdv A outer s H E) [] (start N vs) H s1 := inv_start S hr.hd e0 (len _ _ _ _ hsp) r x
  refine wpAny_mono (ht.run [] s1 (start N vs) H _ I hq) (fun fl s' hs => ?_) fun _ _ hs => hs
  cases fl with
  | ret u => obtain ⟨v, σ', H', J, rv, q⟩ := hs; exact ⟨v, H', J.os, J.bare, J.base, J.hok, rv, q⟩
  | next => obtain ⟨σ', H', J, q⟩ := hs; exact ⟨V.non, H', J.os, J.bare, J.base, J.hok, rfl, q⟩
  | brk => obtain ⟨_, _, _, q⟩ := hs; exact False.elim q
  | cont => obtain ⟨_, _, _, q⟩ := hs; exact False.elim q
/-- as Fun.ok: nothing leaves the def -/
theorem funG0 {x qual : Str} {st : Stmt} {f : Addr} {fd : FuncData} {N ps : List Str} {k : Nat} {sp : Sp} (F : Fun K x qual st f fd) (S : FnScope N ps (defScope st)) (len : ∀ vs H Q E, sp vs H Q E → vs.length = ps.length)
    (hbody : ∀ (cdv : Value) (A : Around) (outer : List Env) (s : Shared) (H : Hp) (vs : List V) (Q : VK) (E : XK), (A.deeper (envOfC qual (defScope st) s.heap.objs.size f cdv)).guards = some [] → Room k (A.deeper (envOfC qual (defScope st) s.heap.objs.size f cdv)) → sp vs H Q E →
      ∃ t, PSs (cxOf CX0 P w K mg base N qual (defScope st) f cdv A outer s H E).nox (defBody st) t ∧ t { nx := fun _ H' => Q .non H', rt := Q } (start N vs) H) : FnG P w K mg base CX0 (k + 1) f fd ps sp :=
  funG F S len fun cdv A outer s H vs Q E hg hr hsp => by
    obtain ⟨t, h, q⟩ := hbody cdv A outer s H vs Q E hg hr hsp
    exact ⟨t, h.nox, q⟩
end
section
variable {X : Cx} {CX : CXT} {k : Nat} {f : Addr} {fd : FuncData} {ps ks : List Str} {sp : Sp} {dvs : List V} {ds : List Value} {E : XK} {x : Str} {p pos : Pos} {e : Expr} {es : List Expr} {kws : List Keyword} {t tk : TA}
theorem back_of {pins : List (Addr × Obj)} {σ : L2.St} {H : Hp} {s s' : Shared} {Q : VK} (hx : Passes CX X E) (I : Inv X pins σ H s) {r : Result} (h : CR CX X.stack X.prog X.w H s Q E r s') :
    match r with | .ok (.ret u) => EP X pins σ Q u s' | .ok _ => False | .error e => X.xe e s' := by
  cases r with
  | error e => exact hx pins σ H s e s' I h
  | ok fl => cases fl with
    | ret u => exact I.after h
    | next => exact h
    | brk => exact h
    | cont => exact h
theorem run_fnG {pins : List (Addr × Obj)} {σ : L2.St} {H : Hp} {s : Shared} {Q : VK} {us : List Value} {vs : List V} (F : FnG X.prog X.w X.K X.mg X.base CX k f fd ps sp) (hg : X.A.guards = some []) (hr : Room k X.A) (hb : Binds X.K fd ps ds) (hd : Vals dvs ds) (hx : Passes CX X E)
    (I : Inv X pins σ H s) (r : Vals vs us) (h : sp (vs ++ dvs) H Q E) : wpAny (model X.prog X.w) X.A (call (.ref f) us) (EP X pins σ Q) X.xe s := by
  have r2 : Vals (vs ++ dvs) (us ++ ds) := r.append hd
  refine wpAny_call (codeAny_mono (F.run X.A X.stack s H ⟨us, []⟩ (us ++ ds) (vs ++ dvs) Q E hg hr I.env0 (hb s us I.kIn (by rw [← r2.length]; exact F.len _ _ _ _ h)) r2 h) fun r s' hq => ?_)
  have z := back_of hx I hq
  cases r with
  | error e => exact z
  | ok fl => cases fl with
    | ret u => exact z
    | next => exact z.elim
    | brk => exact z.elim
    | cont => exact z.elim
theorem pe_callG (F : FnG X.prog X.w X.K X.mg X.base CX k f fd ps sp) (hgu : X.A.guards = some []) (hr : Room k X.A) (hg : Gl X x) (hm : X.mg x = some (.ref f)) (hk : PySem.W.keepIn X.K (.ref f) = true) (hb : Binds X.K fd ps ds) (hd : Vals dvs ds) (hx : Passes CX X E)
    (ha : PA X (e :: es) t) (hdb : (x == ("__debug__" : Str)) = false := by decide) (he : starEach (e :: es) X.env = (false, eval e X.env) :: starEach es X.env := by rfl) (hpl : (backTo pos (starEach es X.env)).any (·.1) = false := by rfl) :
    PE X (.Call (.Name x p) (e :: es) [] pos) (tCall sp dvs E t) := ⟨fun pins s σ H Q I h =>
  wpAny_Call_Name_kw (ld_glob I hg hm (PySem.W.callWith_K (h₀ := X.base) I.ok.mod.kin hk (thn (ha.run pos pins s σ H _ I h) fun us s1 ⟨vs, H1, I1, r, q⟩ => ⟨I1.kIn, run_fnG F hgu hr hb hd hx I1 r q⟩) he hpl) hdb)⟩
end
/-! the end of a law -/
section
variable {P : Program} {w : World} {K : PySem.W.Frag} {mg mb : Str → Option Value}
theorem lawG {CX : CXT} {k : Nat} {fa a : Addr} {fd : FuncData} {x : Str} {sp : Sp} {s₁ : Shared} {vs : List Value} {ns : List Int}
    (KX : K.In s₁.heap) (hns : s₁.heap.Ns mainGlobals mg) (hb : s₁.heap.Ns builtinsNs mb) (hbb : ∀ x : Str, x ≠ "__name__" → mb x = bootBuiltins x) (hlim : s₁.heap.NoLimit) (hg : s₁.gens = #[])
    (ha : s₁.heap.get? a = some { cls := .type "list", data := .seq vs.toArray }) (hi : IntsAre vs ns) (hl : ns.length ≤ sizeLine) (hr : Room k callerA)
    (F : ∀ base : Heap, K.In base → base.Ns mainGlobals mg → FnG P w K mg base CX k fa fd [x] sp) (hbind : ∀ (s : Shared) (u : Value), BindsTo s fd ⟨[u], []⟩ [(x, u)])
    (hsp : ∀ H : Hp, Only H → SqL K H a (ns.map V.int) → sp [.ref a] H (fun v _ => v = .bl true) fun _ _ _ => False) (hCX : ∀ H e s', CX [] H s₁ (fun _ _ _ => False) e s' → False) :
    codeAny (model P w) callerA (.call (.ref fa) ⟨[.ref a], []⟩) (fun r s' => r = .ok (.ret (.bool true)) ∧ OldK s₁.heap s'.heap ∧ s'.os = s₁.os ∧ AllBare s'.gens) s₁ := by
  have rv := vals_ints hi
  have main : ∀ H : Hp, Only H → SqL K H a (ns.map V.int) → HOk P w H s₁.heap → (∀ b, H b ≠ none → b = a ∧ K.lookup a = none) →
      codeAny (model P w) callerA (.call (.ref fa) ⟨[.ref a], []⟩) (fun r s' => r = .ok (.ret (.bool true)) ∧ OldK s₁.heap s'.heap ∧ s'.os = s₁.os ∧ AllBare s'.gens) s₁ := by
    intro H hO hS hok hA
    have untr : ∀ {b : Addr}, b ≠ a ∨ K.lookup a ≠ none → H b = none := fun {b} h => by
      cases q : H b with
      | none => rfl
      | some u => have z := hA b (by rw [q]; simp); exact (h.elim (fun n => n z.1) fun n => n z.2).elim
    have ns_of : ∀ {b : Addr} {m : Str → Option Value}, s₁.heap.Ns b m → (hidT s₁.heap H).Ns b m := fun {b m} ⟨o, es, ep, e, d, r⟩ => ⟨o, es, ep, hidT_get e (untr (.inl fun z => by
      subst z
      rw [ha] at e
      cases e
      exact absurd (show Data.seq vs.toArray _ = Data.dict es ep from d) (fun z => by cases z))), d, r⟩
    have kb : K.In (hidT s₁.heap H) := fun b o e => hidT_get (KX b o e) (by
      by_cases z : b = a
      · exact untr (.inr fun y => by subst z; rw [y] at e; cases e)
      · exact untr (.inl z))
    have md : Mod K mg (hidT s₁.heap H) := ⟨kb, ns_of hns, ⟨mb, ns_of hb, hbb⟩, let ⟨mc, h1, h2⟩ := hlim; ⟨mc, ns_of h1, h2⟩⟩
    have e0 : Env0 P w K mg (hidT s₁.heap H) callerA [] s₁ H := ⟨rfl, md, fun b o e => of_hidT e, Nat.le_of_eq (hidT_size _ _), trivial, fun b hb => absurd (show b ∈ ([] : List Addr) from hb) (by simp), hok, .of_eq hg⟩
    refine codeAny_mono ((F _ kb (ns_of hns)).run callerA [] s₁ H ⟨[.ref a], []⟩ [.ref a] [.ref a] _ _ rfl hr e0 (hbind s₁ (.ref a)) (.cons rfl .nil) (hsp H hO hS)) fun r s' h => ?_
    cases r with
    | error e => exact (hCX H e s' h).elim
    | ok fl => cases fl with
      | next => exact False.elim h
      | brk => exact False.elim h
      | cont => exact False.elim h
      | ret u =>
        obtain ⟨v, H', os, bare, un, hok', r', q⟩ := h
        obtain rfl : v = .bl true := q
        obtain rfl : u = Value.bool true := r'
        refine ⟨rfl, OldK.of_keep fun b o e => ?_, os, bare⟩
        rcases hO b with z | ⟨ob, xs, z⟩
        · exact un.keep b o e z (fun y => nomatch y) (fun y => nomatch y)
        · obtain ⟨e1, _⟩ := hok b _ z
          obtain ⟨e2, _⟩ := hok' b _ (un.frzs b ob _ z)
          exact e2.trans (e1.symm.trans e)
  cases hk : K.lookup a with
  | some o =>
    have e := KX a o hk
    rw [ha] at e
    cases e
    exact main (fun _ => none) (fun _ => .inl rfl) (.inr ⟨_, vs.toArray, _, hk, rfl, rfl, rfl, by rw [List.size_toArray, hi.length]; exact hl, by simpa using rv⟩) (fun b u z => by cases (show (none : Option HO) = some u from z)) fun b z => absurd rfl z
  | none =>
    have at_ : ∀ {b : Addr} {u : HO}, (if b = a then some (HO.frz { cls := .type "list", data := .seq vs.toArray } (.lst (ns.map V.int))) else none) = some u → b = a ∧ u = .frz { cls := .type "list", data := .seq vs.toArray } (.lst (ns.map V.int)) := fun {b u} z => by
      by_cases y : b = a
      · rw [if_pos y] at z; exact ⟨y, (Option.some.inj z).symm⟩
      · rw [if_neg y] at z; cases z
    refine main (fun b => if b = a then some (.frz { cls := .type "list", data := .seq vs.toArray } (.lst (ns.map V.int))) else none) (fun b => ?_) (.inl (.inr ⟨{ cls := .type "list", data := .seq vs.toArray }, if_pos rfl⟩)) (fun b u z => ?_) fun b z => ⟨?_, hk⟩
    · by_cases y : b = a
      · exact .inr ⟨_, _, if_pos y⟩
      · exact .inl (if_neg y)
    · obtain ⟨rfl, rfl⟩ := at_ z
      exact ⟨ha, by rw [List.length_map]; exact hl, vs, _, rv, ha⟩
    · by_cases y : b = a
      · exact y
      · exact absurd (if_neg y) z
theorem walkG {l : PySem.W.OpenLaw} {n k : Nat} {q : Program} {loose : List Str} {XP : (Str → Option Value) → Heap → Prop} {YP : World → Heap → Prop} {d : DefRec} {K : Params → PySem.W.Frag} {CX : World → CXT} {sp : World → Sp} {x : Str}
    (hn : l.most = some n) (hn2 : n ≤ sizeLine) (hdf : d.params.defaults = []) (hr : Room k callerA) (hY : ∀ (w : World) (h : Heap), YP w h → (K w.params).In h)
    (F : ∀ (w : World) (mg : Str → Option Value) (fa : Addr) (h : Heap), (K w.params).In h → h.Ns mainGlobals mg → mg d.name = some (.ref fa) →
      ∃ fd : FuncData, (∀ (s : Shared) (u : Value), BindsTo s fd ⟨[u], []⟩ [(x, u)]) ∧ ∀ base : Heap, (K w.params).In base → base.Ns mainGlobals mg → FnG l.prog w (K w.params) mg base (CX w) k fa fd [x] (sp w))
    (hsp : ∀ (w : World) (H : Hp) (a : Addr) (ns : List Int), ns.length ≤ n → Only H → SqL (K w.params) H a (ns.map V.int) → sp w [.ref a] H (fun v _ => v = .bl true) fun _ _ _ => False)
    (hCX : ∀ (w : World) (H : Hp) (s : Shared) (e : Value) (s' : Shared), CX w [] H s (fun _ _ _ => False) e s' → False) : PySem.W.WalkO q loose XP YP l.row.toRowW d [] (fun f vs => PySem.call f vs) :=
  Att.attach_call hn hdf fun w s₀ s₁ mg mb fa o pm cd doc a vs ns G Y ho hd hcd hmg hobj hints hlen hg => by
    obtain ⟨fd, hb, hF⟩ := F w mg fa _ (hY w _ Y) G.T.g hmg
    exact lawG (hY w _ Y) G.T.g G.T.b G.T.builtins G.T.nolimit hg hobj hints (Nat.le_trans hlen hn2) hr hF hb (fun H hO hS => hsp w H a ns hlen hO hS) fun H e s' => hCX w H s₁ e s'
end
end Gn
set_option Elab.async false
set_option linter.all false
set_option maxRecDepth 100000
set_option maxHeartbeats 4000000
namespace Gn
open PySem PySem.Spec PyProof.Rows L2
section
variable {X : Cx} {CX : CXT} {k : Nat} {f : Addr} {fd : FuncData} {ps ks : List Str} {sp : Sp} {E : XK} {x : Str} {p pos : Pos} {kws : List Keyword} {tk : TA} {g : List Value → List Value → List Value} {gV : List V → List V → List V}
/-- f(k = v, ..): keywords alone -/
theorem pe_callK0 (F : FnOk X.prog X.w X.K X.mg X.base CX k f fd ps sp) (hr : Room k X.A) (hg : Gl X x) (hm : X.mg x = some (.ref f)) (hk : PySem.W.keepIn X.K (.ref f) = true) (hb : KBinds X.K fd ps ks g gV) (hx : Passes CX X E) (hkw : PK X kws tk)
    (hall : (backToKw pos (keywordEach kws X.env)).all (·.1.isSome) = true := by rfl) (hks : (backToKw pos (keywordEach kws X.env)).filterMap (·.1) = ks := by rfl) (hdb : (x == ("__debug__" : Str)) = false := by decide)
    (hpl : ((backTo pos (starEach [] X.env)).any (·.1) || (backToKw pos (keywordEach kws X.env)).any (·.1.isNone)) = false := by rfl) : PE X (.Call (.Name x p) [] kws pos) (tCallK sp gV E tNil tk) := ⟨fun pins s σ H Q I h =>
  wpAny_Call_Name_kw (ld_glob I hg hm (PySem.W.callWith_KW0 (h₀ := X.base) I.ok.mod.kin hk hall (thn (hkw.run pos pins s σ H _ I h) fun ws s2 ⟨zs, H2, I2, rz, q2⟩ => ⟨I2.kIn, by
    rw [hks]
    exact run_fnk (us := []) (vs := []) F hr hb hx I2 .nil rz q2⟩) hpl) hdb)⟩
end
/-! keywords in the parameters' order, and two the other way round -/
def kw1 {α : Type} : List α → List α → List α
  | [], [a] => [a]
  | _, _ => []
def kw2 {α : Type} : List α → List α → List α
  | [], [a, b] => [a, b]
  | _, _ => []
def kw2s {α : Type} : List α → List α → List α
  | [], [a, b] => [b, a]
  | _, _ => []
section
variable {K : PySem.W.Frag} {fd : FuncData} {ps ks : List Str}
theorem kb1 {p : Str} (h : ∀ a : Value, bindArgs fd ⟨[], [(p, a)]⟩ = pure [(p, a)]) : KBinds K fd [p] [p] kw1 kw1 :=
  ⟨fun s us ws _ hl => match us, ws, hl with
    | [], [a], _ => .of_eq (h a)
    | [], [], z => (nomatch z)
    | [], _ :: _ :: _, z => (nomatch z)
    | _ :: _, _, z => (nomatch z), fun {vs us zs ws} r rz => by
    cases r with
    | nil => cases rz with
      | nil => exact .nil
      | cons a b => cases b with
        | nil => exact .cons a .nil
        | cons _ _ => exact .nil
    | cons _ _ => exact .nil⟩
theorem kb2 {p q : Str} (h : ∀ a b : Value, bindArgs fd ⟨[], [(p, a), (q, b)]⟩ = pure [(p, a), (q, b)]) : KBinds K fd [p, q] [p, q] kw2 kw2 :=
  ⟨fun s us ws _ hl => match us, ws, hl with
    | [], [a, b], _ => .of_eq (h a b)
    | [], [], z => (nomatch z)
    | [], [_], z => (nomatch z)
    | [], _ :: _ :: _ :: _, z => (nomatch z)
    | _ :: _, _, z => (nomatch z), fun {vs us zs ws} r rz => by
    cases r with
    | nil => cases rz with
      | nil => exact .nil
      | cons a b => cases b with
        | nil => exact .nil
        | cons c d => cases d with
          | nil => exact .cons a (.cons c .nil)
          | cons _ _ => exact .nil
    | cons _ _ => exact .nil⟩
theorem kb2s {p q : Str} (h : ∀ a b : Value, bindArgs fd ⟨[], [(q, b), (p, a)]⟩ = pure [(p, a), (q, b)]) : KBinds K fd [p, q] [q, p] kw2s kw2s :=
  ⟨fun s us ws _ hl => match us, ws, hl with
    | [], [b, a], _ => .of_eq (h a b)
    | [], [], z => (nomatch z)
    | [], [_], z => (nomatch z)
    | [], _ :: _ :: _ :: _, z => (nomatch z)
    | _ :: _, _, z => (nomatch z), fun {vs us zs ws} r rz => by
    cases r with
    | nil => cases rz with
      | nil => exact .nil
      | cons a b => cases b with
        | nil => exact .nil
        | cons c d => cases d with
          | nil => exact .cons c (.cons a .nil)
          | cons _ _ => exact .nil
    | cons _ _ => exact .nil⟩
end
end Gn
namespace Gn
open PySem PySem.Spec PyProof.Rows L2
/-- a conditional expression whose two ways change nothing -/
theorem tif {c : Bool} {ta tb : TE} {σ : L2.St} {H : Hp} {Q : VK} (v1 v2 : V) (h1 : c = true → ∀ R : VK, R v1 H → ta σ H R) (h2 : c = false → ∀ R : VK, R v2 H → tb σ H R) (k : ∀ v, (c = true → v = v1) → (c = false → v = v2) → Q v H) : if c = true then ta σ H Q else tb σ H Q := by
  cases c with
  | true => exact iteT (h1 rfl Q (k v1 (fun _ => rfl) (fun z => nomatch z)))
  | false => exact iteF (h2 rfl Q (k v2 (fun z => nomatch z) (fun _ => rfl)))
theorem cut_mem {xs : List V} {lo hi : Option Int} {x : V} (h : x ∈ cutV xs lo hi) : x ∈ xs := by
  unfold cutV at h
  exact List.mem_of_mem_drop (List.mem_of_mem_take h)
theorem int_at {ns : List Int} {x : V} (h : x ∈ ns.map V.int) : ∃ z, x = V.int z := by
  obtain ⟨z, _, e⟩ := List.mem_map.mp h
  exact ⟨z, e.symm⟩
theorem same_put {H : Hp} {p : Addr} {o : HO} (h : H p = none) : Same H (upd H p o) := fun b x e => by
  rw [upd_ne (ne_of_none e h)]
  exact e
theorem fmod_ge {a b : Int} (h : 0 < b) : 0 ≤ a.fmod b := by
  rw [Int.fmod_eq_emod_of_nonneg _ (by omega)]; exact Int.emod_nonneg _ (by omega)
theorem fmod_lt {a b : Int} (h : 0 < b) : a.fmod b < b := by
  rw [Int.fmod_eq_emod_of_nonneg _ (by omega)]; exact Int.emod_lt_of_pos _ h
end Gn
set_option Elab.async false
set_option linter.all false
set_option maxRecDepth 100000
set_option maxHeartbeats 4000000
namespace My
open PySem PySem.Spec PyProof.Rows L2 Gn
def top (i : Nat) : Stmt := PySem.Challenge.pw_rimorders_k08_steps_and_ranks_refused.main.body.getD i (.Pass ⟨0, 0, 0, 0⟩)
abbrev sTin : Stmt := top 60
abbrev sSip : Stmt := top 61
abbrev sPick : Stmt := top 62
abbrev sFar : Stmt := top 63
abbrev sGcd : Stmt := top 64
abbrev sLow : Stmt := top 65
abbrev sStep : Stmt := top 67
theorem scTin : FnScope ["_law_script", "_law_turn", "_law_entry", "_law_stirred", "_law_each"] ["_law_script", "_law_turn"] (defScope sTin) := ⟨rfl, rfl, rfl, by decide +kernel, rfl, by decide +kernel, by decide +kernel⟩
theorem scSip : FnScope ["_law_tin_here", "_law_top", "_law_digit"] ["_law_tin_here", "_law_top"] (defScope sSip) := ⟨rfl, rfl, rfl, by decide +kernel, rfl, by decide +kernel, by decide +kernel⟩
theorem scPick : FnScope ["_law_tin_here", "_law_menu"] ["_law_tin_here", "_law_menu"] (defScope sPick) := ⟨rfl, rfl, rfl, by decide +kernel, rfl, by decide +kernel, by decide +kernel⟩
theorem scFar : FnScope ["_law_tin_here", "_law_most", "_law_scale"] ["_law_tin_here", "_law_most"] (defScope sFar) := ⟨rfl, rfl, rfl, by decide +kernel, rfl, by decide +kernel, by decide +kernel⟩
theorem scGcd : FnScope ["_law_one", "_law_two"] ["_law_one", "_law_two"] (defScope sGcd) := ⟨rfl, rfl, rfl, by decide +kernel, rfl, by decide +kernel, by decide +kernel⟩
theorem scLow : FnScope ["_law_top", "_law_bottom", "_law_same"] ["_law_top", "_law_bottom"] (defScope sLow) := ⟨rfl, rfl, rfl, by decide +kernel, rfl, by decide +kernel, by decide +kernel⟩
theorem scStep : FnScope ["_law_tin_here", "_law_most", "_law_bottom"] ["_law_tin_here", "_law_most"] (defScope sStep) := ⟨rfl, rfl, rfl, by decide +kernel, rfl, by decide +kernel, by decide +kernel⟩
/-- the built-ins that the text calls are still the built-ins -/
structure Bl (mg : Str → Option Value) : Prop where
  len : mg "len" = none
  int : mg "int" = none
  abs : mg "abs" = none
/-- a tin at t: what is left of the number, the stirred one, how often it was sipped from -/
def Tin (H : Hp) (t : Addr) : Prop := ∃ a b c : Int, H t = some (.lst [.int a, .int b, .int c]) ∧ 0 ≤ a ∧ 0 ≤ b ∧ b < 2147483647
/-- all but t is as it was, t is a tin -/
def Sipped (H H' : Hp) (t : Addr) : Prop := Tin H' t ∧ ∀ b o, H b = some o → b ≠ t → H' b = some o
def spTin (K : PySem.W.Frag) : Sp := fun vs H Q _ => ∃ (a : Addr) (ns : List Int) (t : Int), vs = [.ref a, .int t] ∧ SqL K H a (ns.map V.int) ∧ 0 ≤ t ∧ t ≤ 100 ∧
  ∀ p H', Same H H' → H p = none → Tin H' p → Q (.ref p) H'
def spSip : Sp := fun vs H Q _ => ∃ (t : Addr) (n : Int), vs = [.ref t, .int n] ∧ Tin H t ∧ 0 < n ∧ n.natAbs < 2 ^ 100 ∧ ∀ d H', 0 ≤ d → d < n → Sipped H H' t → Q (.int d) H'
theorem nz1 : (999931 : Int) ≠ 0 := by decide
theorem nz2 : (2147483647 : Int) ≠ 0 := by decide
section
variable {P : Program} {w : World} {K : PySem.W.Frag} {mg : Str → Option Value} {base : Heap}
theorem ok_tin {f : Addr} {fd : FuncData} (F : Fun K "_law_tin" "_law_tin" sTin f fd) (B : Bl mg) : FnOk P w K mg base CX0 1 f fd ["_law_script", "_law_turn"] (spTin K) := by
  refine F.ok scTin (fun vs H Q E h => ?_) (fun cdv A outer s H vs Q E hr h => ?_)
  · obtain ⟨a, ns, t, rfl, _⟩ := h
    rfl
  · obtain ⟨a, ns, t, rfl, hS, t0, t1, q⟩ := h
    refine ⟨_, pss_cons (ps_set (i := 2) scTin.nd rfl (.inl rfl) (pe_ifExp (pt_cmpR op_lt (pv 1) (pe_callB call_len_seq (by rfl) B.len PySem.boot_len (pa_cons (pv 0) pa_nil)) (nomark _))
        (pe_callTy call_int1 (by rfl) B.int (by decide +kernel) (pa_cons (pe_ix ix_list (pv 0) (pv 1) (fun _ _ => rfl)) pa_nil)) (pe_op op_add (pe_op op_mul pe_int (pv 1)) pe_int)))
      (pss_cons (ps_set (i := 3) scTin.nd rfl (.inl rfl) (pe_op op_add pe_int (pe_op op_mul pe_int (pv 1))))
      (pss_cons (ps_for PassesOwn.never rfl (pi_list (pe_slice sl_list (pv 0) po_none (po_some pe_int))) (pg_name (i := 4) scTin.nd rfl (.inl rfl))
        (pss_one (ps_set (i := 3) scTin.nd rfl (.inl rfl) (pe_op op_modN (pe_callTy call_int1 (by rfl) B.int (by decide +kernel) (pa_cons
          (pe_op op_add (pe_op op_add (pe_op op_mul (pv 3) pe_int) (pe_op op_modN (pe_callTy call_int1 (by rfl) B.int (by decide +kernel) (pa_cons (pv 4) pa_nil)) pe_int)) (pv 1)) pa_nil)) pe_int))))
      (pss_cons (ps_set (i := 3) scTin.nd rfl (.inl rfl) (pe_op op_modN (pe_callTy call_int1 (by rfl) B.int (by decide +kernel) (pa_cons
          (pe_op op_add (pe_op op_mul (pv 3) pe_int) (pe_op op_modN (pe_callTy call_int1 (by rfl) B.int (by decide +kernel) (pa_cons (pv 2) pa_nil)) pe_int)) pa_nil)) pe_int))
      (pss_one (ps_ret (pe_lst (pa_cons (pe_ifExp (pt_cmpR op_ge (pe_callB call_abs (by rfl) B.abs (by decide +kernel) (pa_cons (pv 2) pa_nil)) (pe_op op_pow pe_int pe_int) (nomark _)) (pe_callB call_abs (by rfl) B.abs (by decide +kernel) (pa_cons (pv 2) pa_nil)) pe_int)
          (pa_cons (pv 3) (pa_cons pe_int pa_nil))))))))), ?_⟩
    refine ⟨_, rfl, _, rfl, a, _, rfl, .inl hS, _, _, rfl, rfl, _, rfl, ?_⟩
    refine tif (.int (ns.getD t.toNat 0)) (.int (73 * t + 23)) (fun hc R z => ?_) (fun _ R z => ?_) (fun v e1 e2 => ?_)
    · have hl : t.toNat < ns.length := by have := of_decide_eq_true hc; rw [List.length_map] at this; omega
      refine ⟨_, rfl, _, rfl, a, _, t, .int (ns.getD t.toNat 0), rfl, rfl, hS, ?_, .inl ⟨_, rfl, z⟩⟩
      exact at_of (j := t.toNat) (by omega) (by rw [List.getElem?_map, List.getElem?_eq_getElem hl, List.getD_eq_getElem?_getD, List.getElem?_eq_getElem hl]; rfl)
    · exact ⟨_, rfl, _, _, rfl, rfl, .inl ⟨by decide, by decide⟩, _, _, rfl, rfl, z⟩
    obtain ⟨e, rfl⟩ : ∃ e, v = V.int e := by
      rcases Bool.eq_false_or_eq_true (decide (t < ↑(List.map V.int ns).length)) with z | z
      · exact ⟨_, e1 z⟩
      · exact ⟨_, e2 z⟩
    refine ⟨_, rfl, _, _, rfl, rfl, .inl ⟨by decide, by decide⟩, _, _, rfl, rfl, ?_⟩
    refine ⟨_, rfl, 8, rfl, a, _, rfl, hS, fun p hp => ⟨p, rfl, ⟨_, .inl (.inl upd_same)⟩, ?_⟩⟩
    have sm := same_put (o := .lst (cutV (ns.map V.int) none (some 8))) hp
    refine for_list (K := K) (a := p) (xs := cutV (ns.map V.int) none (some 8)) (fun i σ H' => ∃ (st : Int) (y : Option V), σ = [some (.ref a), some (.int t), some (.int e), some (.int st), y] ∧ 0 ≤ st ∧ st ≤ 2147483647 ∧ H' = upd H p (.lst (cutV (ns.map V.int) none (some 8))))
      ⟨50021 + 1009 * t, none, rfl, by omega, by omega, rfl⟩ (fun i σ H' _ ⟨_, _, _, _, _, e⟩ => by rw [e]; exact .inl (.inl upd_same)) ?_ ?_
    · rintro i x σ H' hi ⟨st, y, rfl, s0, s1, rfl⟩
      obtain ⟨z, rfl⟩ := int_at (cut_mem (List.mem_of_getElem? hi))
      refine ⟨_, rfl, _, _, rfl, rfl, .inl ⟨by omega, by omega⟩, _, rfl, .inl ⟨_, rfl, _, _, rfl, rfl, nz1, _, _, rfl, rfl, _, rfl, _, _, rfl, rfl, .inl ⟨_, rfl, _, _, rfl, rfl, nz2, ?_⟩⟩⟩
      exact ⟨_, _, rfl, fmod_ge (by decide), Int.le_of_lt (fmod_lt (by decide)), rfl⟩
    · rintro σ H' ⟨st, y, rfl, s0, s1, rfl⟩
      refine ⟨_, rfl, _, _, rfl, rfl, .inl ⟨by omega, by omega⟩, _, rfl, .inl ⟨_, rfl, _, _, rfl, rfl, nz1, _, _, rfl, rfl, .inl ⟨_, rfl, _, _, rfl, rfl, nz2, ?_⟩⟩⟩
      refine ⟨_, rfl, _, rfl, _, _, rfl, rfl, ⟨by decide, by decide, by decide⟩, _, _, rfl, rfl, _, rfl, ?_⟩
      refine tif (.int (if e < 0 then -e else e)) (.int 0) (fun _ R z => ⟨_, rfl, _, rfl, z⟩) (fun _ R z => z) (fun v e1 e2 => ?_)
      obtain ⟨b, rfl, hb⟩ : ∃ b, v = V.int b ∧ 0 ≤ b := by
        rcases Bool.eq_false_or_eq_true (decide ((10 : Int) ^ (18 : Int).toNat ≤ if e < 0 then -e else e)) with z | z
        · exact ⟨_, e1 z, by split <;> omega⟩
        · exact ⟨_, e2 z, by decide⟩
      refine ⟨_, rfl, (by show 3 ≤ sizeLine; decide), fun r hr' => ?_⟩
      exact q r _ (sm.trans (same_put hr')) (sm.free hr') ⟨_, _, _, upd_same, hb, fmod_ge (by decide), fmod_lt (by decide)⟩
end
end My
set_option Elab.async false
set_option linter.all false
set_option maxRecDepth 100000
set_option maxHeartbeats 4000000
namespace My
open PySem PySem.Spec PyProof.Rows L2 Gn
theorem Tin.not {H : Hp} {t b : Addr} (T : Tin H t) (h : H b = none) : b ≠ t := by
  obtain ⟨_, _, _, h1, _⟩ := T
  exact (ne_of_none h1 h).symm
theorem Sipped.trans {H H1 H2 : Hp} {t : Addr} (a : Sipped H H1 t) (b : Sipped H1 H2 t) : Sipped H H2 t := ⟨b.1, fun c o e n => b.2 c o (a.2 c o e n) n⟩
theorem Sipped.ofSame {H H1 : Hp} {t : Addr} (T : Tin H t) (s : Same H H1) : Sipped H H1 t := by
  obtain ⟨a, b, c, h, r⟩ := T
  exact ⟨⟨a, b, c, s _ _ h, r⟩, fun c o e _ => s c o e⟩
theorem Sipped.free {H H1 : Hp} {t p : Addr} (T : Tin H t) (s : Sipped H H1 t) (h : H1 p = none) : H p = none := by
  cases q : H p with
  | none => rfl
  | some o =>
    have n : p ≠ t := by
      rintro rfl
      obtain ⟨_, _, _, e, _⟩ := s.1
      rw [h] at e; cases e
    rw [s.2 p o q n] at h
    cases h
section
variable {P : Program} {w : World} {K : PySem.W.Frag} {mg : Str → Option Value} {base : Heap}
theorem ok_sip {f : Addr} {fd : FuncData} (F : Fun K "_law_sip" "_law_sip" sSip f fd) (B : Bl mg) : FnOk P w K mg base CX0 1 f fd ["_law_tin_here", "_law_top"] spSip := by
  refine F.ok scSip (fun vs H Q E h => ?_) (fun cdv A outer s H vs Q E hr h => ?_)
  · obtain ⟨t, n, rfl, _⟩ := h
    rfl
  · obtain ⟨t, n, rfl, ⟨a, b, c, hT, a0, b0, b1⟩, n0, n1, q⟩ := h
    refine ⟨_, pss_cons (ps_asg (pe_op op_add (pe_ix ix_list (pv 0) pe_int (fun _ _ => rfl)) pe_int) (pg_sub (pv 0) pe_int set_list))
      (pss_cons (ps_if (pt_cmpR op_gt (pe_ix ix_list (pv 0) pe_int (fun _ _ => rfl)) pe_int (nomark _))
        (pss_cons (ps_set (i := 2) scSip.nd rfl (.inl rfl) (pe_op op_modN (pe_callTy call_int1 (by rfl) B.int (by decide +kernel) (pa_cons (pe_ix ix_list (pv 0) pe_int (fun _ _ => rfl)) pa_nil)) (pv 1)))
        (pss_cons (ps_asg (pe_op op_fdivW (pe_callTy call_int1 (by rfl) B.int (by decide +kernel) (pa_cons (pe_ix ix_list (pv 0) pe_int (fun _ _ => rfl)) pa_nil)) (pv 1)) (pg_sub (pv 0) pe_int set_list))
        (pss_one (ps_ret (pv 2))))) pss_nil)
      (pss_cons (ps_asg (pe_op op_modN (pe_callTy call_int1 (by rfl) B.int (by decide +kernel) (pa_cons (pe_op op_add (pe_op op_add (pe_op op_mul (pe_ix ix_list (pv 0) pe_int (fun _ _ => rfl)) pe_int) (pe_op op_mul pe_int (pe_ix ix_list (pv 0) pe_int (fun _ _ => rfl)))) pe_int) pa_nil)) pe_int) (pg_sub (pv 0) pe_int set_list))
      (pss_one (ps_ret (pe_op op_modN (pe_callTy call_int1 (by rfl) B.int (by decide +kernel) (pa_cons (pe_op op_fdivW (pe_ix ix_list (pv 0) pe_int (fun _ _ => rfl)) pe_int) pa_nil)) (pv 1)))))), ?_⟩
    -- tin[2] = tin[2] + 1
    refine ⟨_, rfl, t, _, 2, .int c, rfl, rfl, SqL.of hT, at_of (j := 2) rfl rfl, _, _, rfl, rfl, _, rfl, t, _, _, 2, rfl, rfl, hT, rfl, ?_⟩
    have h1 : upd H t (.lst ([V.int a, V.int b, V.int c].set 2 (V.int (c + 1)))) t = some (.lst [.int a, .int b, .int (c + 1)]) := upd_same
    -- if tin[0] > 0
    refine ⟨_, rfl, t, _, 0, .int a, rfl, rfl, SqL.of h1, at_of (j := 0) rfl rfl, _, _, rfl, rfl, _, rfl, ?_⟩
    refine ite2 (fun hc => ?_) (fun hc => ?_)
    · have ha : 0 < a := of_decide_eq_true hc
      refine ⟨_, rfl, t, _, 0, .int a, rfl, rfl, SqL.of h1, at_of (j := 0) rfl rfl, .inl ⟨_, rfl, _, rfl, _, _, rfl, rfl, (show n ≠ 0 by omega), ?_⟩⟩
      refine ⟨_, rfl, t, _, 0, .int a, rfl, rfl, SqL.of h1, at_of (j := 0) rfl rfl, .inl ⟨_, rfl, _, rfl, _, _, rfl, rfl, wide_div n0 n1 (by decide) (by decide), _, rfl, t, _, _, 0, rfl, rfl, h1, rfl, ?_⟩⟩
      refine ⟨_, rfl, q _ _ (fmod_ge n0) (fmod_lt n0) ⟨⟨_, _, _, upd_same, Int.ediv_nonneg (by omega) (by omega), b0, b1⟩, fun z o e hz => ?_⟩⟩
      rw [upd_ne hz, upd_ne hz]; exact e
    · refine ⟨_, rfl, t, _, 1, .int b, rfl, rfl, SqL.of h1, at_of (j := 1) rfl rfl, _, _, rfl, rfl, .inl ⟨by omega, by omega⟩, _, rfl, t, _, 2, .int (c + 1), rfl, rfl, SqL.of h1, at_of (j := 2) rfl rfl, _, _, rfl, rfl, .inl ⟨by decide, by decide⟩, _, _, rfl, rfl, _, _, rfl, rfl, .inl ⟨_, rfl, _, _, rfl, rfl, nz2, _, rfl, t, _, _, 1, rfl, rfl, h1, rfl, ?_⟩⟩
      have h2 : ∀ z : Int, upd (upd H t (.lst ([V.int a, V.int b, V.int c].set 2 (V.int (c + 1))))) t (.lst ([V.int a, V.int b, V.int (c + 1)].set 1 (V.int z))) t = some (.lst [.int a, .int z, .int (c + 1)]) := fun z => upd_same
      refine ⟨_, rfl, t, _, 1, _, rfl, rfl, SqL.of (h2 _), at_of (j := 1) rfl rfl, _, _, rfl, rfl, wide_div (b := 6) (by decide) (by decide) (by decide) (by decide), .inl ⟨_, rfl, _, rfl, _, _, rfl, rfl, (show n ≠ 0 by omega), ?_⟩⟩
      refine q _ _ (fmod_ge n0) (fmod_lt n0) ⟨⟨_, _, _, h2 _, a0, fmod_ge (by decide), fmod_lt (by decide)⟩, fun z o e hz => ?_⟩
      rw [upd_ne hz, upd_ne hz]; exact e
end
end My
set_option Elab.async false
set_option linter.all false
set_option maxRecDepth 100000
set_option maxHeartbeats 4000000
namespace My
open PySem PySem.Spec PyProof.Rows L2 Gn
def spPick : Sp := fun vs H Q _ => ∃ (t m : Addr) (xs : List V), vs = [.ref t, .ref m] ∧ Tin H t ∧ H m = some (.lst xs) ∧ m ≠ t ∧ 0 < xs.length ∧ xs.length ≤ 1000 ∧ ∀ x H', x ∈ xs → Sipped H H' t → Q x H'
def spFar : Sp := fun vs H Q _ => ∃ (t : Addr) (n : Int), vs = [.ref t, .int n] ∧ Tin H t ∧ 1 ≤ n ∧ n.natAbs < 2 ^ 100 ∧ ∀ d H', 1 ≤ d → d ≤ n → Sipped H H' t → Q (.int d) H'
def spGcd : Sp := fun vs H Q _ => ∃ (a b : Int), vs = [.int a, .int b] ∧ 0 ≤ a ∧ 0 ≤ b ∧ Q (.int ((Nat.gcd a.natAbs b.natAbs : Nat) : Int)) H
def spLow : Sp := fun vs H Q _ => ∃ (a b : Int), vs = [.int a, .int b] ∧ 0 ≤ a ∧ 0 < b ∧ b.natAbs < 2 ^ 100 ∧
  ∀ p, H p = none → Q (.ref p) (upd H p (.tup [.int (a / ((Nat.gcd a.natAbs b.natAbs : Nat) : Int)), .int (b / ((Nat.gcd a.natAbs b.natAbs : Nat) : Int))]))
/-- x / y is a step: lowest terms, from 0 on, below 1 -/
structure IsStep (x y : Int) : Prop where
  x0 : 0 ≤ x
  xy : x < y
  co : Nat.gcd x.natAbs y.natAbs = 1
def spStep : Sp := fun vs H Q _ => ∃ (t : Addr) (n : Int), vs = [.ref t, .int n] ∧ Tin H t ∧ 1 ≤ n ∧ n.natAbs < 2 ^ 100 ∧
  ∀ x y p H', IsStep x y → y ≤ n → Sipped H H' t → H p = none → H' p = some (.tup [.int x, .int y]) → Q (.ref p) H'
theorem low_step {a b : Int} (h0 : 0 ≤ a) (h : a < b) : IsStep (a / ((Nat.gcd a.natAbs b.natAbs : Nat) : Int)) (b / ((Nat.gcd a.natAbs b.natAbs : Nat) : Int)) ∧ b / ((Nat.gcd a.natAbs b.natAbs : Nat) : Int) ≤ b := by
  obtain ⟨x, rfl⟩ := Int.eq_ofNat_of_zero_le h0
  obtain ⟨y, rfl⟩ := Int.eq_ofNat_of_zero_le (show 0 ≤ b by omega)
  simp only [Int.natAbs_natCast]
  have hy : 0 < y := by omega
  have g0 : 0 < Nat.gcd x y := Nat.gcd_pos_of_pos_right _ hy
  have e1 : ((x : Int) / ((Nat.gcd x y : Nat) : Int)) = ((x / Nat.gcd x y : Nat) : Int) := by simp
  have e2 : ((y : Int) / ((Nat.gcd x y : Nat) : Int)) = ((y / Nat.gcd x y : Nat) : Int) := by simp
  rw [e1, e2]
  obtain ⟨u, hu⟩ := Nat.gcd_dvd_left x y
  obtain ⟨v, hv⟩ := Nat.gcd_dvd_right x y
  have du : x / Nat.gcd x y = u := Nat.div_eq_of_eq_mul_right g0 hu
  have dv : y / Nat.gcd x y = v := Nat.div_eq_of_eq_mul_right g0 hv
  refine ⟨⟨by omega, ?_, ?_⟩, ?_⟩
  · rw [du, dv]
    have : Nat.gcd x y * u < Nat.gcd x y * v := by rw [← hu, ← hv]; omega
    have := Nat.lt_of_mul_lt_mul_left this
    omega
  · simp only [Int.natAbs_natCast]
    exact Nat.coprime_div_gcd_div_gcd g0
  · have := Nat.div_le_self y (Nat.gcd x y)
    omega
section
variable {P : Program} {w : World} {K : PySem.W.Frag} {mg : Str → Option Value} {base : Heap}
/-- a def that the module holds under its own name, and how it binds -/
structure Df (K : PySem.W.Frag) (mg : Str → Option Value) (x : Str) (st : Stmt) (ps : List Str) (f : Addr) (fd : FuncData) : Prop where
  F : Fun K x x st f fd
  g : mg x = some (.ref f)
  b : Binds K fd ps []
theorem ok_pick {f fS : Addr} {fd fdS : FuncData} (F : Fun K "_law_pick" "_law_pick" sPick f fd) (B : Bl mg) (S : Df K mg "_law_sip" sSip ["_law_tin_here", "_law_top"] fS fdS) : FnOk P w K mg base CX0 2 f fd ["_law_tin_here", "_law_menu"] spPick := by
  have GS : FnOk P w K mg base CX0 1 fS fdS ["_law_tin_here", "_law_top"] spSip := ok_sip S.F B
  refine F.ok scPick (fun vs H Q E h => ?_) (fun cdv A outer s H vs Q E hr h => ?_)
  · obtain ⟨t, m, xs, rfl, _⟩ := h
    rfl
  · obtain ⟨t, m, xs, rfl, T, hm, ne, x0, x1, q⟩ := h
    refine ⟨_, pss_one (ps_ret (pe_ix ix_list (pv 1) (pe_call GS hr (by rfl) S.g S.F.kp S.b .nil pass0 (pa_cons (pv 0) (pa_cons (pe_callB call_len_seq (by rfl) B.len PySem.boot_len (pa_cons (pv 1) pa_nil)) pa_nil))) (fun _ _ => rfl))), ?_⟩
    refine ⟨_, rfl, _, rfl, _, rfl, m, xs, rfl, .inl (SqL.of hm), t, _, rfl, T, by omega, ?_, fun d H' d0 d1 sp => ?_⟩
    · rw [Int.natAbs_natCast]; exact Nat.lt_of_le_of_lt x1 (by decide)
    have hd : d.toNat < xs.length := by omega
    refine ⟨m, xs, d, xs[d.toNat], rfl, rfl, SqL.of (sp.2 m _ hm ne), at_of (j := d.toNat) (by omega) (List.getElem?_eq_getElem hd), q _ _ (List.getElem_mem hd) sp⟩
theorem ok_far {f fS fP : Addr} {fd fdS fdP : FuncData} (F : Fun K "_law_far" "_law_far" sFar f fd) (B : Bl mg) (S : Df K mg "_law_sip" sSip ["_law_tin_here", "_law_top"] fS fdS) (Pk : Df K mg "_law_pick" sPick ["_law_tin_here", "_law_menu"] fP fdP) : FnOk P w K mg base CX0 3 f fd ["_law_tin_here", "_law_most"] spFar := by
  have GS : FnOk P w K mg base CX0 1 fS fdS ["_law_tin_here", "_law_top"] spSip := ok_sip S.F B
  have GP : FnOk P w K mg base CX0 2 fP fdP ["_law_tin_here", "_law_menu"] spPick := ok_pick Pk.F B S
  refine F.ok scFar (fun vs H Q E h => ?_) (fun cdv A outer s H vs Q E hr h => ?_)
  · obtain ⟨t, n, rfl, _⟩ := h
    rfl
  · obtain ⟨t, n, rfl, T, n1, n2, q⟩ := h
    have hr1 : Room 1 _ := hr.mono (by decide)
    refine ⟨_, pss_cons (ps_if (pt_cmpR op_le (pv 1) (pe_op op_pow pe_int pe_int) (nomark _)) (pss_one (ps_ret (pe_op op_add pe_int (pe_call GS hr1 (by rfl) S.g S.F.kp S.b .nil pass0 (pa_cons (pv 0) (pa_cons (pv 1) pa_nil)))))) pss_nil)
      (pss_cons (ps_set (i := 2) scFar.nd rfl (.inl rfl) (pe_call GP hr (by rfl) Pk.g Pk.F.kp Pk.b .nil pass0 (pa_cons (pv 0) (pa_cons (pe_lst (pa_cons pe_int (pa_cons pe_int (pa_cons (pe_op op_pow pe_int pe_int) (pa_cons (pe_op op_pow pe_int pe_int) (pa_cons (pe_op op_pow pe_int pe_int) (pa_cons (pe_op op_pow pe_int pe_int) (pa_cons (pe_op op_pow pe_int pe_int) (pa_cons (pe_op op_pow pe_int pe_int) pa_nil))))))))) pa_nil))))
      (pss_one (ps_ret (pe_op op_add pe_int (pe_op op_modN (pe_callTy call_int1 (by rfl) B.int (by decide +kernel) (pa_cons (pe_op op_add (pe_op op_mul (pe_call GS hr1 (by rfl) S.g S.F.kp S.b .nil pass0 (pa_cons (pv 0) (pa_cons (pe_op op_pow pe_int pe_int) pa_nil))) (pv 2)) (pe_call GS hr1 (by rfl) S.g S.F.kp S.b .nil pass0 (pa_cons (pv 0) (pa_cons pe_int pa_nil)))) pa_nil)) (pv 1)))))), ?_⟩
    refine ⟨_, rfl, _, _, rfl, rfl, ⟨by decide, by decide, by decide⟩, _, _, rfl, rfl, _, rfl, ?_⟩
    refine ite2 (fun hc => ?_) (fun hc => ?_)
    · refine ⟨_, rfl, _, rfl, t, n, rfl, T, by omega, n2, fun d H' d0 d1 sp => ?_⟩
      exact ⟨_, _, rfl, rfl, q _ _ (by omega) (by omega) sp⟩
    · refine ⟨_, rfl, _, _, rfl, rfl, ⟨by decide, by decide, by decide⟩, _, _, rfl, rfl, ⟨by decide, by decide, by decide⟩, _, _, rfl, rfl, ⟨by decide, by decide, by decide⟩, _, _, rfl, rfl, ⟨by decide, by decide, by decide⟩, _, _, rfl, rfl, ⟨by decide, by decide, by decide⟩, _, _, rfl, rfl, ⟨by decide, by decide, by decide⟩, (by show 8 ≤ sizeLine; decide), fun m hm => ?_⟩
      have T1 : Tin (upd H m (.lst ([1, 7, 10 ^ 3, 10 ^ 6, 10 ^ 9, 10 ^ 14, 10 ^ 21, 10 ^ 24].map V.int))) t := (Sipped.ofSame T (same_put hm)).1
      refine ⟨t, m, ([1, 7, 10 ^ 3, 10 ^ 6, 10 ^ 9, 10 ^ 14, 10 ^ 21, 10 ^ 24] : List Int).map V.int, rfl, T1, upd_same, T.not hm, (by decide), (by decide), fun x H1 hx s1 => ?_⟩
      obtain ⟨z, rfl⟩ := int_at hx
      have s01 : Sipped H H1 t := (Sipped.ofSame T (same_put hm)).trans s1
      refine ⟨_, rfl, _, _, rfl, rfl, ⟨by decide, by decide, by decide⟩, t, _, rfl, s1.1, (by decide), (by decide), fun d H2 d0 d1 s2 => ?_⟩
      refine ⟨_, rfl, _, _, rfl, rfl, .inl ⟨by omega, ?_⟩, _, rfl, t, _, rfl, s2.1, (by decide), (by decide), fun e H3 e0 e1 s3 => ?_⟩
      · have : (d : Int) < 10 ^ 6 := d1
        omega
      refine ⟨_, _, rfl, rfl, .inl ⟨_, rfl, _, rfl, _, _, rfl, rfl, (show n ≠ 0 by omega), _, _, rfl, rfl, q _ _ ?_ ?_ ((s01.trans s2).trans s3)⟩⟩
      · have := fmod_ge (a := d * z + e) (show 0 < n by omega); omega
      · have := fmod_lt (a := d * z + e) (show 0 < n by omega); omega
theorem ok_gcd {f : Addr} {fd : FuncData} (F : Fun K "_law_gcd" "_law_gcd" sGcd f fd) (B : Bl mg) : FnOk P w K mg base CX0 1 f fd ["_law_one", "_law_two"] spGcd := by
  refine F.ok scGcd (fun vs H Q E h => ?_) (fun cdv A outer s H vs Q E hr h => ?_)
  · obtain ⟨a, b, rfl, _⟩ := h
    rfl
  · obtain ⟨a, b, rfl, a0, b0, q⟩ := h
    refine ⟨_, pss_cons (ps_while PassesOwn.never (pt_cmpR op_gt (pv 1) pe_int (nomark _)) (pss_one (ps_par (i := 0) (j := 1) (by rfl) scGcd.nd rfl rfl (by decide) rfl rfl
        (pa_cons (pv 1) (pa_cons (pe_op op_modN (pe_callTy call_int1 (by rfl) B.int (by decide +kernel) (pa_cons (pv 0) pa_nil)) (pv 1)) pa_nil)) (by rfl))))
      (pss_one (ps_ret (pv 0))), ?_⟩
    refine while_by (fun σ H' => ∃ x y : Int, σ = [some (.int x), some (.int y)] ∧ 0 ≤ x ∧ 0 ≤ y ∧ Nat.gcd x.natAbs y.natAbs = Nat.gcd a.natAbs b.natAbs ∧ H' = H)
      (fun σ _ => match σ with | [_, some (.int y)] => y.natAbs | _ => 0) ⟨a, b, rfl, a0, b0, rfl, rfl⟩ ?_ ?_
    · rintro σ H' ⟨x, y, rfl, x0, y0, hg, rfl⟩
      refine ⟨_, rfl, _, _, rfl, rfl, _, rfl, ?_⟩
      refine ite2 (fun hc => ?_) (fun hc => ?_)
      · have hy : 0 < y := of_decide_eq_true hc
        refine ⟨_, rfl, _, rfl, .inl ⟨_, rfl, _, rfl, _, _, rfl, rfl, (show y ≠ 0 by omega), _, _, rfl, ⟨y, x.fmod y, rfl, y0, fmod_ge hy, ?_, rfl⟩, ?_⟩⟩
        · rw [← hg, Int.fmod_eq_emod_of_nonneg _ y0]
          obtain ⟨m, rfl⟩ := Int.eq_ofNat_of_zero_le x0
          obtain ⟨n, rfl⟩ := Int.eq_ofNat_of_zero_le y0
          rw [← Int.natCast_emod, Int.natAbs_natCast, Int.natAbs_natCast, Int.natAbs_natCast]
          rw [Nat.gcd_comm n, ← Nat.gcd_rec, Nat.gcd_comm]
        · show (x.fmod y).natAbs < y.natAbs
          have h1 := fmod_ge (a := x) hy
          have h2 := fmod_lt (a := x) hy
          omega
      · have hy : y = 0 := by have : ¬ (0 : Int) < y := fun z => hc (decide_eq_true z); omega
        subst hy
        refine ⟨_, rfl, ?_⟩
        rw [← hg] at q
        simpa [Int.natAbs_of_nonneg x0] using q
    · rintro σ H' Q1 Q2 mo ⟨v, e1, i, j, e2, e3, k, e4, h⟩
      exact ⟨v, e1, i, j, e2, e3, k, e4, mo _ _ h⟩
theorem ok_low {f fG : Addr} {fd fdG : FuncData} (F : Fun K "_law_low" "_law_low" sLow f fd) (B : Bl mg) (G : Df K mg "_law_gcd" sGcd ["_law_one", "_law_two"] fG fdG) : FnOk P w K mg base CX0 2 f fd ["_law_top", "_law_bottom"] spLow := by
  have GG : FnOk P w K mg base CX0 1 fG fdG ["_law_one", "_law_two"] spGcd := ok_gcd G.F B
  refine F.ok scLow (fun vs H Q E h => ?_) (fun cdv A outer s H vs Q E hr h => ?_)
  · obtain ⟨a, b, rfl, _⟩ := h
    rfl
  · obtain ⟨a, b, rfl, a0, b0, b1, q⟩ := h
    refine ⟨_, pss_cons (ps_set (i := 2) scLow.nd rfl (.inl rfl) (pe_call GG hr (by rfl) G.g G.F.kp G.b .nil pass0 (pa_cons (pv 0) (pa_cons (pv 1) pa_nil))))
      (pss_one (ps_ret (pe_tup (pa_cons (pe_op op_fdivW (pv 0) (pv 2)) (pa_cons (pe_op op_fdivW (pv 1) (pv 2)) pa_nil))))), ?_⟩
    have g0 : (0 : Int) < ((Nat.gcd a.natAbs b.natAbs : Nat) : Int) := by
      have := Nat.gcd_pos_of_pos_right a.natAbs (show 0 < b.natAbs by omega); omega
    have g1 : (((Nat.gcd a.natAbs b.natAbs : Nat) : Int)).natAbs < 2 ^ 100 := by
      rw [Int.natAbs_natCast]
      exact Nat.lt_of_le_of_lt (Nat.le_of_dvd (by omega) (Nat.gcd_dvd_right _ _)) b1
    refine ⟨_, rfl, _, rfl, a, b, rfl, a0, by omega, _, rfl, _, rfl, _, _, rfl, rfl, wide_div g0 g1 (by decide) (by decide), _, rfl, _, rfl, _, _, rfl, rfl, wide_div g0 g1 (by decide) (by decide), (by show 2 ≤ sizeLine; decide), fun p hp => q p hp⟩
theorem ok_step {f fA fL : Addr} {fd fdA fdL : FuncData} {fS fP fG : Addr} {fdS fdP fdG : FuncData} (F : Fun K "_law_step" "_law_step" sStep f fd) (B : Bl mg) (S : Df K mg "_law_sip" sSip ["_law_tin_here", "_law_top"] fS fdS) (Pk : Df K mg "_law_pick" sPick ["_law_tin_here", "_law_menu"] fP fdP)
    (G : Df K mg "_law_gcd" sGcd ["_law_one", "_law_two"] fG fdG) (Fa : Df K mg "_law_far" sFar ["_law_tin_here", "_law_most"] fA fdA) (Lo : Df K mg "_law_low" sLow ["_law_top", "_law_bottom"] fL fdL) : FnOk P w K mg base CX0 4 f fd ["_law_tin_here", "_law_most"] spStep := by
  have GA : FnOk P w K mg base CX0 3 fA fdA ["_law_tin_here", "_law_most"] spFar := ok_far Fa.F B S Pk
  have GL : FnOk P w K mg base CX0 2 fL fdL ["_law_top", "_law_bottom"] spLow := ok_low Lo.F B G
  refine F.ok scStep (fun vs H Q E h => ?_) (fun cdv A outer s H vs Q E hr h => ?_)
  · obtain ⟨t, n, rfl, _⟩ := h
    rfl
  · obtain ⟨t, n, rfl, T, n1, n2, q⟩ := h
    have hr2 : Room 2 _ := hr.mono (by decide)
    refine ⟨_, pss_cons (ps_set (i := 2) scStep.nd rfl (.inl rfl) (pe_call GA hr (by rfl) Fa.g Fa.F.kp Fa.b .nil pass0 (pa_cons (pv 0) (pa_cons (pv 1) pa_nil))))
      (pss_one (ps_ret (pe_call GL hr2 (by rfl) Lo.g Lo.F.kp Lo.b .nil pass0 (pa_cons (pe_op op_modN (pe_callTy call_int1 (by rfl) B.int (by decide +kernel) (pa_cons (pe_call GA hr (by rfl) Fa.g Fa.F.kp Fa.b .nil pass0 (pa_cons (pv 0) (pa_cons (pv 1) pa_nil))) pa_nil)) (pv 2)) (pa_cons (pv 2) pa_nil))))), ?_⟩
    refine ⟨_, rfl, _, rfl, t, n, rfl, T, n1, n2, fun b H1 b0 b1 s1 => ?_⟩
    refine ⟨_, rfl, _, rfl, t, n, rfl, s1.1, n1, n2, fun a H2 a0 a1 s2 => .inl ⟨_, rfl, _, rfl, _, _, rfl, rfl, (show b ≠ 0 by omega), _, rfl, _, b, rfl, fmod_ge (by omega), by omega, ?_, fun p hp => ?_⟩⟩
    · exact Nat.lt_of_le_of_lt (by omega) n2
    obtain ⟨st, le⟩ := low_step (a := a.fmod b) (b := b) (fmod_ge (by omega)) (fmod_lt (by omega))
    have s3 : Sipped H2 (upd H2 p (.tup [.int ((a.fmod b) / ((Nat.gcd (a.fmod b).natAbs b.natAbs : Nat) : Int)), .int (b / ((Nat.gcd (a.fmod b).natAbs b.natAbs : Nat) : Int))])) t := Sipped.ofSame s2.1 (same_put hp)
    exact q _ _ p _ st (by omega) ((s1.trans s2).trans s3) ((s1.trans s2).free T hp) upd_same
end
end My
set_option Elab.async false
set_option linter.all false
set_option maxRecDepth 100000
set_option maxHeartbeats 4000000
namespace My
open PySem PySem.Spec PyProof.Rows L2 Gn
abbrev sIsInt : Stmt := top 19
abbrev sIsFr : Stmt := top 20
abbrev sIsStep : Stmt := top 21
abbrev sChStep : Stmt := top 25
abbrev sIsNum : Stmt := top 24
abbrev sChNum : Stmt := top 26
theorem scIsInt : FnScope ["given"] ["given"] (defScope sIsInt) := ⟨rfl, rfl, rfl, by decide +kernel, rfl, by decide +kernel, by decide +kernel⟩
theorem scIsFr : FnScope ["given", "top", "bottom"] ["given"] (defScope sIsFr) := ⟨rfl, rfl, rfl, by decide +kernel, rfl, by decide +kernel, by decide +kernel⟩
theorem scIsStep : FnScope ["given"] ["given"] (defScope sIsStep) := ⟨rfl, rfl, rfl, by decide +kernel, rfl, by decide +kernel, by decide +kernel⟩
theorem scChStep : FnScope ["given"] ["given"] (defScope sChStep) := ⟨rfl, rfl, rfl, by decide +kernel, rfl, by decide +kernel, by decide +kernel⟩
theorem scIsNum : FnScope ["given", "least", "most"] ["given", "least", "most"] (defScope sIsNum) := ⟨rfl, rfl, rfl, by decide +kernel, rfl, by decide +kernel, by decide +kernel⟩
theorem scChNum : FnScope ["given", "least", "most"] ["given", "least", "most"] (defScope sChNum) := ⟨rfl, rfl, rfl, by decide +kernel, rfl, by decide +kernel, by decide +kernel⟩
/-- the step x / y stands at t -/
def StepAt (H : Hp) (t : Addr) (x y : Int) : Prop := H t = some (.tup [.int x, .int y]) ∧ IsStep x y
def spIsInt : Sp := fun vs H Q _ => ∃ i : Int, vs = [.int i] ∧ Q (.bl true) H
def spIsSt (r : V) : Sp := fun vs H Q _ => ∃ (t : Addr) (x y : Int), vs = [.ref t] ∧ StepAt H t x y ∧ Q r H
def spChNum : Sp := fun vs H Q _ => ∃ (i a b : Int), vs = [.int i, .int a, .int b] ∧ a ≤ i ∧ i ≤ b ∧ Q .non H
def spIsNum : Sp := fun vs H Q _ => ∃ (i a b : Int), vs = [.int i, .int a, .int b] ∧ a ≤ i ∧ i ≤ b ∧ Q (.bl true) H
structure Bc (mg : Str → Option Value) : Prop where
  isi : mg "isinstance" = none
  int : mg "int" = none
  bool : mg "bool" = none
  tuple : mg "tuple" = none
  len : mg "len" = none
  gcd : mg "gcd" = some (.builtin "math.gcd")
section
variable {P : Program} {w : World} {K : PySem.W.Frag} {mg : Str → Option Value} {base : Heap}
theorem ok_isInt {f : Addr} {fd : FuncData} (F : Fun K "is_integer" "is_integer" sIsInt f fd) (B : Bc mg) : FnOk P w K mg base CX0 1 f fd ["given"] spIsInt := by
  refine F.ok scIsInt (fun vs H Q E h => ?_) (fun cdv A outer s H vs Q E hr h => ?_)
  · obtain ⟨i, rfl, _⟩ := h
    rfl
  · obtain ⟨i, rfl, q⟩ := h
    refine ⟨_, pss_one (ps_ret (pe_and (pe_callB call_isi (by rfl) B.isi (by decide +kernel) (pa_cons (pv 0) (pa_cons (pe_bltn (v := .ty "int") (by rfl) B.int (by decide +kernel) rfl) pa_nil)))
      (pe_one (pe_not (pe_callB call_isi (by rfl) B.isi (by decide +kernel) (pa_cons (pv 0) (pa_cons (pe_bltn (v := .ty "bool") (by rfl) B.bool (by decide +kernel) rfl) pa_nil))))))), ?_⟩
    refine ⟨_, rfl, .int i, .ty "int", _, _, true, rfl, .ty "int", .base (.int i), kit_ty (by decide +kernel), true, rfl, iteT ?_⟩
    exact ⟨_, rfl, .int i, .ty "bool", _, _, false, rfl, .ty "bool", .base (.int i), kit_ty (by decide +kernel), false, rfl, q⟩
theorem ok_isFr {f fI : Addr} {fd fdI : FuncData} (F : Fun K "is_fraction" "is_fraction" sIsFr f fd) (B : Bc mg) (D : Df K mg "is_integer" sIsInt ["given"] fI fdI) : FnOk P w K mg base CX0 2 f fd ["given"] (spIsSt (.bl true)) := by
  have GI : FnOk P w K mg base CX0 1 fI fdI ["given"] spIsInt := ok_isInt D.F B
  refine F.ok scIsFr (fun vs H Q E h => ?_) (fun cdv A outer s H vs Q E hr h => ?_)
  · obtain ⟨t, x, y, rfl, _⟩ := h
    rfl
  · obtain ⟨t, x, y, rfl, ⟨hT, st⟩, q⟩ := h
    refine ⟨_, pss_cons (ps_if (PW.pt (pw_or (pt_not (pt_val (pe_callB call_isi (by rfl) B.isi (by decide +kernel) (pa_cons (pv 0) (pa_cons (pe_bltn (v := .ty "tuple") (by rfl) B.tuple (by decide +kernel) rfl) pa_nil)))))
        (pw_or1 (pt_cmpR op_ne (pe_callB call_len_seq (by rfl) B.len PySem.boot_len (pa_cons (pv 0) pa_nil)) pe_int (nomark _))))) (pss_one (ps_ret pe_bl)) pss_nil)
      (pss_cons (ps_asg (pv 0) (pg_tup (by rfl) (pgs_cons (pg_name (i := 1) scIsFr.nd rfl (.inl rfl)) (pgs_cons (pg_name (i := 2) scIsFr.nd rfl (.inl rfl)) pgs_nil))))
      (pss_cons (ps_if (PW.pt (pw_or (pt_not (pt_val (pe_call GI hr (by rfl) D.g D.F.kp D.b .nil pass0 (pa_cons (pv 1) pa_nil)))) (pw_or1 (pt_not (pt_val (pe_call GI hr (by rfl) D.g D.F.kp D.b .nil pass0 (pa_cons (pv 2) pa_nil))))))) (pss_one (ps_ret pe_bl)) pss_nil)
      (pss_one (ps_ret (pe_and (pe_cmpR op_ge (pv 2) pe_int (nomark _)) (pe_one (pe_cmpR op_eq (pe_callBfun cr_gcd (by rfl) B.gcd (pa_cons (pv 1) (pa_cons (pv 2) pa_nil))) pe_int (nomark _)))))))), ?_⟩
    refine ⟨_, rfl, .ref t, .ty "tuple", _, _, true, rfl, .ty "tuple", .base (.tup hT), kit_ty (by decide +kernel), true, rfl, iteF ?_⟩
    refine ⟨_, rfl, t, _, rfl, .inr (SqT.of hT), rfl, _, rfl, iteF ?_⟩
    refine ⟨_, rfl, t, _, rfl, SqT.of hT, rfl, _, _, rfl, _, _, rfl, rfl, ?_⟩
    refine ⟨_, rfl, x, rfl, true, rfl, iteF ⟨_, rfl, y, rfl, true, rfl, iteF ?_⟩⟩
    have y1 : (1 : Int) ≤ y := by have := st.x0; have := st.xy; omega
    refine ⟨_, rfl, _, _, rfl, rfl, _, rfl, ?_⟩
    rw [decide_eq_true y1]
    refine iteT ⟨_, rfl, _, rfl, x, y, rfl, ?_⟩
    rw [st.co]
    exact ⟨rfl, q⟩
theorem ok_isStep {f fI fR : Addr} {fd fdI fdR : FuncData} (F : Fun K "is_step" "is_step" sIsStep f fd) (B : Bc mg) (D : Df K mg "is_integer" sIsInt ["given"] fI fdI) (R : Df K mg "is_fraction" sIsFr ["given"] fR fdR) : FnOk P w K mg base CX0 3 f fd ["given"] (spIsSt (.bl true)) := by
  have GR : FnOk P w K mg base CX0 2 fR fdR ["given"] (spIsSt (.bl true)) := ok_isFr R.F B D
  refine F.ok scIsStep (fun vs H Q E h => ?_) (fun cdv A outer s H vs Q E hr h => ?_)
  · obtain ⟨t, x, y, rfl, _⟩ := h
    rfl
  · obtain ⟨t, x, y, rfl, ⟨hT, st⟩, q⟩ := h
    refine ⟨_, pss_one (ps_ret (pe_and (pe_call GR hr (by rfl) R.g R.F.kp R.b .nil pass0 (pa_cons (pv 0) pa_nil)) (pe_one (pe_chain op_le op_lt pe_int (pe_ix ix_tup (pv 0) pe_int (fun _ _ => rfl)) (pe_ix ix_tup (pv 0) pe_int (fun _ _ => rfl)))))), ?_⟩
    refine ⟨_, rfl, t, x, y, rfl, ⟨hT, st⟩, true, rfl, iteT ?_⟩
    refine ⟨_, rfl, t, _, 0, .int x, rfl, rfl, SqT.of hT, at_of (j := 0) rfl rfl, _, _, rfl, rfl, _, rfl, ?_⟩
    rw [decide_eq_true st.x0]
    refine iteT ⟨_, rfl, t, _, 1, .int y, rfl, rfl, SqT.of hT, at_of (j := 1) rfl rfl, _, _, rfl, rfl, ?_⟩
    show Q (.bl (decide (x < y))) H
    rw [decide_eq_true st.xy]
    exact q
theorem ok_chStep {f fI fR fS : Addr} {fd fdI fdR fdS : FuncData} (F : Fun K "check_step" "check_step" sChStep f fd) (B : Bc mg) (D : Df K mg "is_integer" sIsInt ["given"] fI fdI) (R : Df K mg "is_fraction" sIsFr ["given"] fR fdR) (S : Df K mg "is_step" sIsStep ["given"] fS fdS) : FnOk P w K mg base CX0 4 f fd ["given"] (spIsSt .non) := by
  have GS : FnOk P w K mg base CX0 3 fS fdS ["given"] (spIsSt (.bl true)) := ok_isStep S.F B D R
  refine F.ok scChStep (fun vs H Q E h => ?_) (fun cdv A outer s H vs Q E hr h => ?_)
  · obtain ⟨t, x, y, rfl, _⟩ := h
    rfl
  · obtain ⟨t, x, y, rfl, st, q⟩ := h
    refine ⟨_, pss_one (ps_if (pt_not (pt_val (pe_call GS hr (by rfl) S.g S.F.kp S.b .nil pass0 (pa_cons (pv 0) pa_nil)))) (pss_one (ps_never)) pss_nil), ?_⟩
    exact ⟨_, rfl, t, x, y, rfl, st, true, rfl, iteF q⟩
theorem ok_isNum {f fI : Addr} {fd fdI : FuncData} (F : Fun K "is_number" "is_number" sIsNum f fd) (B : Bc mg) (D : Df K mg "is_integer" sIsInt ["given"] fI fdI) : FnOk P w K mg base CX0 2 f fd ["given", "least", "most"] spIsNum := by
  have GI : FnOk P w K mg base CX0 1 fI fdI ["given"] spIsInt := ok_isInt D.F B
  refine F.ok scIsNum (fun vs H Q E h => ?_) (fun cdv A outer s H vs Q E hr h => ?_)
  · obtain ⟨i, a, b, rfl, _⟩ := h
    rfl
  · obtain ⟨i, a, b, rfl, h1, h2, q⟩ := h
    refine ⟨_, pss_one (ps_ret (pe_and (pe_call GI hr (by rfl) D.g D.F.kp D.b .nil pass0 (pa_cons (pv 0) pa_nil)) (pe_one (pe_chain op_le op_le (pv 1) (pv 0) (pv 2))))), ?_⟩
    refine ⟨_, rfl, i, rfl, true, rfl, iteT ?_⟩
    refine ⟨_, rfl, _, rfl, _, _, rfl, rfl, _, rfl, ?_⟩
    rw [decide_eq_true h1]
    refine iteT ⟨_, rfl, _, _, rfl, rfl, ?_⟩
    show Q (.bl (decide (i ≤ b))) H
    rw [decide_eq_true h2]
    exact q
theorem ok_chNum {f fN fI : Addr} {fd fdN fdI : FuncData} (F : Fun K "check_number" "check_number" sChNum f fd) (B : Bc mg) (D : Df K mg "is_integer" sIsInt ["given"] fI fdI) (N : Df K mg "is_number" sIsNum ["given", "least", "most"] fN fdN) : FnOk P w K mg base CX0 3 f fd ["given", "least", "most"] spChNum := by
  have GN : FnOk P w K mg base CX0 2 fN fdN ["given", "least", "most"] spIsNum := ok_isNum N.F B D
  refine F.ok scChNum (fun vs H Q E h => ?_) (fun cdv A outer s H vs Q E hr h => ?_)
  · obtain ⟨i, a, b, rfl, _⟩ := h
    rfl
  · obtain ⟨i, a, b, rfl, h1, h2, q⟩ := h
    refine ⟨_, pss_one (ps_if (pt_not (pt_val (pe_call GN hr (by rfl) N.g N.F.kp N.b .nil pass0 (pa_cons (pv 0) (pa_cons (pv 1) (pa_cons (pv 2) pa_nil)))))) (pss_one (ps_never)) pss_nil), ?_⟩
    exact ⟨_, rfl, _, rfl, _, rfl, i, a, b, rfl, h1, h2, true, rfl, iteF q⟩
end
end My
set_option Elab.async false
set_option linter.all false
set_option maxRecDepth 100000
set_option maxHeartbeats 4000000
namespace Gn
open PySem PySem.Spec PyProof.Rows L2
/-- tuple(xs) of a list: a new tuple -/
def rTupL (K : PySem.W.Frag) : List V → Hp → VK → Prop := fun xs H Q => ∃ p ys, xs = [V.ref p] ∧ SqL K H p ys ∧ ∀ l, H l = none → Q (.ref l) (upd H l (.tup ys))
theorem cr_tupL {X : Cx} : CallR X (.type "tuple") (rTupL X.K) := by
  intro pins s σ H xs us Q I r h
  obtain ⟨p, ys, e, h1, h2⟩ := h
  exact call_tuple_of pins s σ H xs us Q I r ⟨p, ys, e, .inl ⟨h1, h2⟩⟩
end Gn
set_option Elab.async false
set_option linter.all false
set_option maxRecDepth 100000
set_option maxHeartbeats 4000000
namespace Gn
open PySem PySem.Spec PyProof.Rows L2
/-- small data: may be shown, may be compared; its text has at most c signs, its depth is at most e -/
structure Sm (c e : Nat) (d : PyData) : Prop where
  sh : d.showable = true
  ln : d.shown.length ≤ c
  dp : d.depth ≤ e
  cl : d.canLay0 = true
theorem sum_le {c : Nat} : ∀ {ts : List Str}, (∀ t ∈ ts, t.length ≤ c) → (ts.map (·.length)).sum ≤ ts.length * c
  | [], _ => by simp
  | t :: ts, h => by
    have h1 := h t List.mem_cons_self
    have h2 := sum_le fun x hx => h x (List.mem_cons_of_mem t hx)
    rw [List.map_cons, List.sum_cons, List.length_cons, Nat.succ_mul]
    omega
theorem Sm.all {c e : Nat} : ∀ {ds : List PyData}, (∀ d ∈ ds, Sm c e d) → PyData.showableAll ds = true ∧ (∀ t ∈ PyData.shownAll ds, t.length ≤ c) ∧ (PyData.shownAll ds).length = ds.length ∧ PyData.depthAll ds ≤ e ∧ PyData.canLayAll0 ds = true
  | [], _ => ⟨rfl, (fun t h => by simp [PyData.shownAll] at h), rfl, Nat.zero_le _, rfl⟩
  | d :: ds, h => by
    have a := h d List.mem_cons_self
    obtain ⟨b1, b2, b3, b4, b5⟩ := Sm.all fun x hx => h x (List.mem_cons_of_mem d hx)
    refine ⟨by simp only [PyData.showableAll, a.sh, b1, Bool.and_self], fun t ht => ?_, by simp only [PyData.shownAll, List.length_cons, b3], by simp only [PyData.depthAll]; exact Nat.max_le.mpr ⟨a.dp, b4⟩, by simp only [PyData.canLayAll0, a.cl, b5, Bool.and_self]⟩
    simp only [PyData.shownAll] at ht
    rcases List.mem_cons.mp ht with rfl | ht
    · exact a.ln
    · exact b2 t ht
theorem Sm.tup {c e n : Nat} {ds : List PyData} (h : ∀ d ∈ ds, Sm c e d) (hn : ds.length ≤ n) : Sm (n * (c + 2) + 3) (e + 1) (.tuple ds) := by
  obtain ⟨b1, b2, b3, b4, b5⟩ := Sm.all h
  refine ⟨by simpa only [PyData.showable] using b1, ?_, by simp only [PyData.depth]; omega, by simpa only [PyData.canLay0] using b5⟩
  simp only [PyData.shown]
  have z := tupleText_len_le (PyData.shownAll ds)
  have y := sum_le b2
  rw [b3] at z y
  have w := Nat.mul_le_mul_right (c + 2) hn
  rw [Nat.mul_add] at w
  omega
theorem Sm.lst {c e n : Nat} {ds : List PyData} (h : ∀ d ∈ ds, Sm c e d) (hn : ds.length ≤ n) : Sm (n * (c + 2) + 3) (e + 1) (.list ds) := by
  obtain ⟨b1, b2, b3, b4, b5⟩ := Sm.all h
  refine ⟨by simpa only [PyData.showable] using b1, ?_, by simp only [PyData.depth]; omega, by simpa only [PyData.canLay0] using b5⟩
  simp only [PyData.shown]
  have z := listText_len_le (PyData.shownAll ds)
  have y := sum_le b2
  rw [b3] at z y
  have w := Nat.mul_le_mul_right (c + 2) hn
  rw [Nat.mul_add] at w
  omega
theorem Sm.int {i : Int} (h : i.natAbs < 2 ^ 1000) : Sm 1921 0 (.int i) := by
  have hl : i.natAbs.log2 < 1920 := Nat.lt_trans (PySem.Flt.log2_lt_of (by decide) h) (by decide)
  exact ⟨by simp only [PyData.showable, hl, decide_true], by simp only [PyData.shown]; exact int_text_len_1921 hl, by simp only [PyData.depth]; exact Nat.le_refl 0, rfl⟩
theorem Sm.shaped {c e : Nat} {d : PyData} (h : Sm c e d) (he : e ≤ 64) : SeqAt.shaped d = true := by
  unfold SeqAt.shaped
  rw [h.cl, decide_eq_true (Nat.le_trans h.dp he)]; rfl
theorem Sm.ints {n : Nat} {ns : List Int} (h : ∀ i ∈ ns, i.natAbs < 2 ^ 1000) (hn : ns.length ≤ n) : Sm (n * 1923 + 3) 1 (.tuple (ns.map PyData.int)) :=
  Sm.tup (c := 1921) (e := 0) (fun d hd => by
    obtain ⟨i, hi, rfl⟩ := List.mem_map.mp hd
    exact Sm.int (h i hi)) (by rw [List.length_map]; exact hn)
end Gn
set_option Elab.async false
set_option linter.all false
set_option maxRecDepth 100000
set_option maxHeartbeats 4000000
namespace Gn
open PySem PySem.Spec PyProof.Rows L2
/-- a conditional expression whose two ways give the same data -/
theorem tIf_dp {tt : TT} {ta tb : TE} {σ : L2.St} {H : Hp} {Q : VK} {K : PySem.W.Frag} {d : PyData} (c : Bool) (ht : ∀ R : Bool → Hp → Prop, R c H → tt σ H R)
    (h1 : c = true → ∀ R : VK, (∀ v H', Same H H' → Dp K H' v d → R v H') → ta σ H R) (h2 : c = false → ∀ R : VK, (∀ v H', Same H H' → Dp K H' v d → R v H') → tb σ H R)
    (k : ∀ v H', Same H H' → Dp K H' v d → Q v H') : tIf tt ta tb σ H Q := by
  refine ht _ ?_
  cases c with
  | true => exact iteT (h1 rfl Q k)
  | false => exact iteF (h2 rfl Q k)
/-- t[lo:hi], whether it is all of t or not -/
theorem slA_of {K : PySem.W.Frag} {a : Addr} {xs : List V} {lo hi : Option Int} {H : Hp} {Q : VK} (h : SqT K H a xs) (k : ∀ b H', Same H H' → SqT K H' b (cutV xs lo hi) → Q (.ref b) H') : rSlA K (.ref a) lo hi H Q := by
  refine ⟨a, xs, rfl, h, fun hw => k a H (Same.refl H) ?_, fun _ p hp => k p _ (same_put hp) (SqT.of upd_same)⟩
  have e : cutV xs lo hi = xs := by
    unfold cutV
    rw [hw.1, hw.2, List.drop_zero, Nat.sub_zero, List.take_length]
  rw [e]; exact h
/-- t + u, whether one of them is empty or not -/
theorem catA_of {K : PySem.W.Frag} {a b : Addr} {xs ys : List V} {H : Hp} {Q : VK} (h1 : SqT K H a xs) (h2 : SqT K H b ys) (hz : xs.length + ys.length ≤ sizeLine) (k : ∀ c H', Same H H' → SqT K H' c (xs ++ ys) → Q (.ref c) H') : rCatA K (.ref a) (.ref b) H Q := by
  refine ⟨a, b, xs, ys, rfl, rfl, h1, h2, hz, fun e => k b H (Same.refl H) ?_, fun _ e => k a H (Same.refl H) ?_, fun _ _ p hp => k p _ (same_put hp) (SqT.of upd_same)⟩
  · rw [e]; exact h2
  · rw [e, List.append_nil]; exact h1
theorem cut_one (xs : List V) : cutV xs none (some 1) = xs.take 1 := by
  unfold cutV
  rw [show HT.sIx xs.length 0 none = 0 from HT.sIx_none .., show HT.sIx xs.length xs.length (some 1) = min 1 xs.length from HT.sIx_nat xs.length xs.length 1, List.drop_zero, Nat.sub_zero]
  cases xs with
  | nil => rfl
  | cons x r => rw [show min 1 (x :: r).length = 1 by rw [List.length_cons]; omega]
/-- keywords of a def of the text -/
theorem kwOf1 {K : PySem.W.Frag} {x qual : Str} {st : Stmt} {f : Addr} {fd : FuncData} {p : Str} (F : Fun K x qual st f fd)
    (h : ∀ (kV doc pm : Value) (an : Option Addr) (cdv ct a : Value), bindArgs (PySem.W.fnOf x qual (defArgs st) (defBody st) (defScope st) .none kV doc pm an cdv ct) ⟨[], [(p, a)]⟩ = pure [(p, a)]) : KBinds K fd [p] [p] kw1 kw1 := by
  obtain ⟨oc, od, kV, doc, pm, an, cdv, ct, osl, rfl, lk, hcd⟩ := F.ex
  exact kb1 fun a => h kV doc pm an cdv ct a
theorem kwOf2 {K : PySem.W.Frag} {x qual : Str} {st : Stmt} {f : Addr} {fd : FuncData} {p q : Str} (F : Fun K x qual st f fd)
    (h : ∀ (kV doc pm : Value) (an : Option Addr) (cdv ct a b : Value), bindArgs (PySem.W.fnOf x qual (defArgs st) (defBody st) (defScope st) .none kV doc pm an cdv ct) ⟨[], [(p, a), (q, b)]⟩ = pure [(p, a), (q, b)]) : KBinds K fd [p, q] [p, q] kw2 kw2 := by
  obtain ⟨oc, od, kV, doc, pm, an, cdv, ct, osl, rfl, lk, hcd⟩ := F.ex
  exact kb2 fun a b => h kV doc pm an cdv ct a b
theorem kwOf2s {K : PySem.W.Frag} {x qual : Str} {st : Stmt} {f : Addr} {fd : FuncData} {p q : Str} (F : Fun K x qual st f fd)
    (h : ∀ (kV doc pm : Value) (an : Option Addr) (cdv ct a b : Value), bindArgs (PySem.W.fnOf x qual (defArgs st) (defBody st) (defScope st) .none kV doc pm an cdv ct) ⟨[], [(q, b), (p, a)]⟩ = pure [(p, a), (q, b)]) : KBinds K fd [p, q] [q, p] kw2s kw2s := by
  obtain ⟨oc, od, kV, doc, pm, an, cdv, ct, osl, rfl, lk, hcd⟩ := F.ex
  exact kb2s fun a b => h kV doc pm an cdv ct a b
end Gn
set_option Elab.async false
set_option linter.all false
set_option maxRecDepth 100000
set_option maxHeartbeats 4000000
namespace Gn
open PySem PySem.Spec PyProof.Rows L2
/-- for x in reversed(xs): what holds behind i turns -/
theorem for_rv {K : PySem.W.Frag} {a : Addr} {xs : List V} {g : TG} {tb : TS} {D : Ends} {σ : L2.St} {H : Hp} (Pv : Nat → L2.St → Hp → Prop) (h0 : Pv 0 σ H) (hl : ∀ i σ H, i ≤ xs.length → Pv i σ H → SqL K H a xs)
    (hs : ∀ i x σ H, i < xs.length → xs[xs.length - 1 - i]? = some x → Pv i σ H → g x σ H fun σ2 H2 => tb { D with nx := Pv (i + 1), ct := Pv (i + 1), bk := D.nx } σ2 H2) (hd : ∀ σ H, Pv xs.length σ H → D.nx σ H) :
    ∃ W : Nat → Nat → L2.St → Hp → Prop, (∃ m, W 0 m σ H) ∧ ∀ i m σ H, W i m σ H →
      ((Itv K a xs.length).stop i H ∧ D.nx σ H) ∨ ((Itv K a xs.length).go i H ∧ ∃ N : L2.St → Hp → Prop, (∀ σ' H', N σ' H' → ∃ m', m' < m ∧ W (i + 1) m' σ' H') ∧ ∀ x H', (Itv K a xs.length).yld i H x H' → g x σ H' fun σ2 H2 => tb { D with nx := N, ct := N, bk := D.nx } σ2 H2) := by
  refine ⟨fun i m σ H => m = xs.length - i ∧ i ≤ xs.length ∧ Pv i σ H, ⟨xs.length, by simp, Nat.zero_le _, h0⟩, fun i m σ H ⟨em, hi, p⟩ => ?_⟩
  subst em
  have q := hl i σ H hi p
  rcases Nat.lt_or_ge i xs.length with c | c
  · have c2 : xs.length - 1 - i < xs.length := by omega
    refine .inr ⟨⟨c, xs, xs[xs.length - 1 - i], q, List.getElem?_eq_getElem c2⟩, Pv (i + 1), fun σ' H' p' => ⟨xs.length - (i + 1), by omega, rfl, c, p'⟩, fun x H' y => ?_⟩
    obtain ⟨rfl, y⟩ := y
    exact hs i x σ _ c (y xs q) p
  · obtain rfl : i = xs.length := by omega
    exact .inl ⟨Nat.le_refl _, hd σ H p⟩
end Gn
namespace Gn
open PySem PySem.Spec PyProof.Rows L2
/-- a test and a second one, their answers as one -/
theorem and_join {c : Bool} {t : TT} {σ : L2.St} {H : Hp} {Q : Bool → Hp → Prop} (e : Bool) (h1 : c = true → ∀ R : Bool → Hp → Prop, R e H → t σ H R) (h2 : c = false → e = false) (k : Q e H) : if c = true then t σ H Q else Q false H := by
  cases c with
  | true => exact iteT (h1 rfl Q k)
  | false => rw [h2 rfl] at k; exact iteF k
end Gn
set_option Elab.async false
set_option linter.all false
set_option maxRecDepth 100000
set_option maxHeartbeats 4000000
/-! own exceptions over any built-in base: kept as values -/
namespace Gn
open PySem PySem.Spec PyProof.Rows L2
/-- own classes, then a tail -/
inductive Past (t : List Value) : List Value → Prop
  | base : Past t t
  | own {c : Addr} {r : List Value} : Past t r → Past t (.ref c :: r)
section
variable {t l : List Value}
theorem Past.has (h : Past t l) (n : String) : l.contains (.type n) = t.contains (.type n) := by
  induction h with
  | base => rfl
  | own _ ih =>
    rw [List.contains_cons, ih]
    rfl
theorem Past.pass (h : Past t l) {u : Value} {x : Str} (ht : refuseLoop u x t = pure ()) : refuseLoop u x l = pure () := by
  induction h with
  | base => exact ht
  | own _ ih => exact (refuseLoop_ref u x _ _).trans ih
end
/-- what is built in of a base class -/
structure Bas (B nw it : String) (t : List Value) : Prop where
  ex : ExcBaseFacts B nw it t
  st : StoreFacts B t "object.__setattr__" "object"
theorem basV : Bas "ValueError" "ValueError.__new__" "ValueError.__init__" [.type "ValueError", .type "Exception", .type "BaseException", .type "object"] := ⟨F.excBase_ValueError, F.store_ValueError⟩
theorem basL : Bas "LookupError" "LookupError.__new__" "LookupError.__init__" [.type "LookupError", .type "Exception", .type "BaseException", .type "object"] := ⟨F.excBase_LookupError, F.store_LookupError⟩
theorem basA : Bas "ArithmeticError" "ArithmeticError.__new__" "ArithmeticError.__init__" [.type "ArithmeticError", .type "Exception", .type "BaseException", .type "object"] := ⟨F.excBase_ArithmeticError, F.store_ArithmeticError⟩
/-- what the written part says of an own class over such a base -/
structure OwC (K : PySem.W.Frag) (C : Addr) : Prop where
  cls : ∃ (nm q : Str) (N : Addr) (bs bm : List Value) (sn : List Str) (sub : List Value) (ab : Bool) (col : Option Bool) (dd : Option Addr) (k0 k1 k2 k3 k5 : Option Value) (B nw it : String) (tl : List Value),
    K.lookup C = some (excClassObj nm q C N bs bm true sn sub ab col dd k0 k1 k2 k3 k5 nw) ∧ Past tl bm ∧ Bas B nw it tl
  sa : PySem.W.findIn K (.ref C) "__setattr__" = some (some (.builtin "object.__setattr__"))
  exC : PySem.W.subIn K (.ref C) (.type "BaseException") = some true
  tyC : PySem.W.typeIn K (.ref C) = some (.type "type")
  kC : PySem.W.keepIn K (.ref C) = true
section
open Builtin Builtin.ObjectAttr
variable {P : Program} {w : World} {A : Around} {R : Result → Shared → Prop} {hp : Heap} {g : Array GenState} {d : Drawn} {t : Nat} {os : OsState} {K : PySem.W.Frag}
  {f : Str} {tk : Tok} {v : Value} {x C dx : Addr} {fv : Array Value} {cd : ClassData} {m0 : Str → Option Value} {nl : List Str} {tl : List Value} {B nw it : String}
theorem hasO (T : Bas B nw it tl) : tl.contains (.type "object") = true := T.st.hasOwner
/-- x.f = v, x without a dict -/
theorem own_put (T : Bas B nw it tl) (KX : K.In hp) (ox : hp.get? x = some { cls := .ref C, data := .fields fv }) (oc : PySem.W.clsIn K C = some cd)
    (om : Past tl cd.mro) (od : cd.hasDict = true) (on : PySem.W.findIn K (.ref C) f = some none)
    (fin : ∀ h' k' dx, (∀ b o, b ≠ x → hp.get? b = some o → h'.get? b = some o) → hp.objs.size ≤ dx → dx ≠ x →
      h'.get? x = some { cls := .ref C, dict := some dx, data := .fields fv } → h'.Ns1 dx (fun y => if y = f then some v else none) → R (.ok (.ret .none)) ⟨h', g, d, k', os⟩) :
    codeAny (model P w) A (.call (.builtin "object.__setattr__") ⟨[.ref x, .str f tk, v], []⟩) R ⟨hp, g, d, t, os⟩ := by
  have J : PySem.W.InstAt hp x { cls := .ref C, data := .fields fv } C none := ⟨ox, rfl, rfl, trivial⟩
  have S0 := F.store_object
  have hob : cd.mro.contains (.type "object") = true := (om.has "object").trans (hasO T)
  have nem : cd.mro.isEmpty = false := by
    cases e : cd.mro with
    | nil =>
      rw [e] at hob
      cases hob
    | cons _ _ => rfl
  have xs : x ≠ hp.objs.size := Nat.ne_of_lt (Heap.lt_size ox)
  have isO : PySem.W.Looks (model P w) hp (isInstance (.ref x) (.type "object")) true := J.type.andThen (PySem.W.looks_mroIn KX (by
    unfold PySem.W.mroIn
    rw [oc, Option.bind_some, if_neg (by rw [nem]; decide), hob]))
  refine codeAny_call_builtin S0.slot.plain S0.entry (@PySem.W.check_slot (model P w) _ _ ⟨hp, g, d, t, os⟩ "object.__setattr__" "object" "__setattr__"
    (.ref x) [.str f tk, v] [] _ S0.kind S0.split isO (S0.args (.ref x) (.str f tk) v) ?_)
  have l1 : PySem.W.Looks (model P w) hp (mroOf (.ref C)) cd.mro := (PySem.W.looks_clsIn KX oc).andThen .now
  have l2 : PySem.W.Looks (model P w) hp (storeTaker? none) none := .now
  have l3 : PySem.W.Looks (model P w) hp (classData C) cd := PySem.W.looks_clsIn KX oc
  rw [PySem.W.osa_eq, refuse_eq]
  refine wpAny_bind (wpAny_bind (J.type.at (wpAny_bind (l1.at ?_))))
  rw [om.pass (T.st.passes _)]
  refine wpAny_pure (wpAny_bind (J.type.at (wpAny_bind ((PySem.W.looks_findIn KX on).at (wpAny_bind (l2.at ?_))))))
  show wpAny _ _ (storeInOwnDict (.ref x) (.ref C) (.str f tk) f v false) _ _ _
  obtain ⟨c1, c2, c3, c4, c5, c6, c7, c8, c9, c10, c11⟩ := cd
  dsimp only at od
  subst od
  unfold storeInOwnDict ownDictForStores
  repeat (first
    | with_reducible refine PySem.HandSPX.store_in_new ?_ ?_
    | with_reducible refine wpAny_loadPart_at ox ?_
    | with_reducible refine l3.at ?_
    | wp_step)
  · exact ⟨_, #[], _, (Heap.get?_update_ne _ _ _ _ xs.symm).trans (Heap.get?_push_at rfl rfl), rfl, fun e z => absurd z (by simp), fun _ => rfl⟩
  · intro h' k' hn hs
    have ox1 : (hp.push { cls := .type "dict", data := .dict #[] }).get? x = some { cls := .ref C, data := .fields fv } := Heap.get?_push_of_some _ ox
    refine fin h' k' hp.objs.size (fun b o hb q => ?_) (Nat.le_refl _) xs.symm ?_ hn
    · exact (hs.2 b (Nat.ne_of_lt (Heap.lt_size q))).trans ((Heap.get?_update_ne _ _ _ _ hb).trans (Heap.get?_push_of_some _ q))
    · exact (hs.2 x xs).trans (Heap.get?_update_self _ ox1 rfl)
/-- x.f = v, x with its dict -/
theorem own_put2 (T : Bas B nw it tl) (KX : K.In hp) (ox : hp.get? x = some { cls := .ref C, dict := some dx, data := .fields fv }) (hns : hp.Ns1 dx m0) (hw : Within m0 nl) (hz : nl.length ≤ 1000)
    (oc : PySem.W.clsIn K C = some cd) (om : Past tl cd.mro) (od : cd.hasDict = true) (on : PySem.W.findIn K (.ref C) f = some none)
    (fin : ∀ h' k', (∀ b o, b ≠ dx → hp.get? b = some o → h'.get? b = some o) → h'.Ns1 dx (fun y => if y = f then some v else m0 y) → R (.ok (.ret .none)) ⟨h', g, d, k', os⟩) :
    codeAny (model P w) A (.call (.builtin "object.__setattr__") ⟨[.ref x, .str f tk, v], []⟩) R ⟨hp, g, d, t, os⟩ := by
  obtain ⟨oD, _, _, qD, _, _⟩ := hns.count hw
  have J : PySem.W.InstAt hp x { cls := .ref C, dict := some dx, data := .fields fv } C (some oD) := ⟨ox, rfl, rfl, qD⟩
  have S0 := F.store_object
  have hob : cd.mro.contains (.type "object") = true := (om.has "object").trans (hasO T)
  have nem : cd.mro.isEmpty = false := by
    cases e : cd.mro with
    | nil =>
      rw [e] at hob
      cases hob
    | cons _ _ => rfl
  have isO : PySem.W.Looks (model P w) hp (isInstance (.ref x) (.type "object")) true := J.type.andThen (PySem.W.looks_mroIn KX (by
    unfold PySem.W.mroIn
    rw [oc, Option.bind_some, if_neg (by rw [nem]; decide), hob]))
  refine codeAny_call_builtin S0.slot.plain S0.entry (@PySem.W.check_slot (model P w) _ _ ⟨hp, g, d, t, os⟩ "object.__setattr__" "object" "__setattr__"
    (.ref x) [.str f tk, v] [] _ S0.kind S0.split isO (S0.args (.ref x) (.str f tk) v) ?_)
  have l1 : PySem.W.Looks (model P w) hp (mroOf (.ref C)) cd.mro := (PySem.W.looks_clsIn KX oc).andThen .now
  have l2 : PySem.W.Looks (model P w) hp (storeTaker? none) none := .now
  have l3 : PySem.W.Looks (model P w) hp (classData C) cd := PySem.W.looks_clsIn KX oc
  rw [PySem.W.osa_eq, refuse_eq]
  refine wpAny_bind (wpAny_bind (J.type.at (wpAny_bind (l1.at ?_))))
  rw [om.pass (T.st.passes _)]
  refine wpAny_pure (wpAny_bind (J.type.at (wpAny_bind ((PySem.W.looks_findIn KX on).at (wpAny_bind (l2.at ?_))))))
  show wpAny _ _ (storeInOwnDict (.ref x) (.ref C) (.str f tk) f v false) _ _ _
  obtain ⟨c1, c2, c3, c4, c5, c6, c7, c8, c9, c10, c11⟩ := cd
  dsimp only at od
  subst od
  unfold storeInOwnDict ownDictForStores
  repeat (first
    | with_reducible refine PySem.OEX.store_in_old hns hw hz ?_
    | with_reducible refine wpAny_loadPart_at ox ?_
    | with_reducible refine l3.at ?_
    | wp_step)
  intro h' k' hn hs
  exact fin h' k' (fun b o hb q => (hs.2 b hb).trans q) hn
end
end Gn
set_option Elab.async false
set_option linter.all false
set_option maxRecDepth 100000
set_option maxHeartbeats 4000000
namespace Gn
open PySem PySem.Spec PyProof.Rows L2
section
variable {X : Cx} {pins : List (Addr × Obj)} {σ : L2.St} {H : Hp} {s : Shared} {a C dx : Addr} {f : Str} {y : V} {u : Value} {fs : List (Str × V)} {Q : Unit → Shared → Prop} {E : Value → Shared → Prop} {A : Around}
theorem put_new (T : OwC X.K C) (I : Inv X pins σ H s) (ea : H a = some (exo a C none)) (on : PySem.W.findIn X.K (.ref C) f = some none) (ry : RelV y u)
    (fin : ∀ dx s', H dx = none → dx ≠ a → Inv X pins σ (upd (upd H dx (exd dx [(f, y)])) a (exo a C (some dx))) s' → Q () s') : wpAny (model X.prog X.w) A (setAttr (.ref a) f u) Q E s := by
  obtain ⟨nm, q, N, bs, bm, sn, sub, ab, col, dd, k0, k1, k2, k3, k5, B, nw, it, tl, lk, pt, TB⟩ := T.cls
  have oc : PySem.W.clsIn X.K C = some { name := nm, bases := bs, mro := .ref C :: bm, ns := N, qualname := q, hasDict := true, slotNames := sn, subclasses := sub, abstract := ab, collection := col, hasDel := false } := by
    unfold PySem.W.clsIn
    rw [lk] <;> rfl
  obtain ⟨t1, ho⟩ := exo_at I.hok ea
  obtain ⟨hp, g, d, t, os⟩ := s
  refine PySem.W.set_plain I.kIn (ox := { cls := .ref C, dict := none, data := .fields #[.ref t1, .none, .none, .none, .bool false, .none] }) (od := none) ⟨ho, rfl, rfl, trivial⟩ T.sa ?_
  refine own_put TB I.kIn ho oc (.own pt) rfl on fun h' t' dx kp dn dne hx hn => ?_
  have fd : H dx = none := I.hok.fresh dn
  have old : ∀ {b : Addr} {o : Obj}, hp.get? b = some o → b ≠ dx := fun {b o} z => Nat.ne_of_lt (Nat.lt_of_lt_of_le (Heap.lt_size z) dn)
  have noa : ∀ {b : Addr}, H b = none → b ≠ a := fun {b} n z => by
    rw [z, ea] at n
    cases n
  have U : Un X.fs [] H (upd (upd H dx (exd dx [(f, y)])) a (exo a C (some dx))) hp h' := {
    keep := fun b o z n _ _ => kp b o (noa n) z
    slot := fun b o z n _ _ => ⟨o.slots, kp b o (noa n) z⟩
    free := fun b o z n _ => by
      rw [upd_ne (noa n), upd_ne (old z)]
      exact n
    there := fun b o z _ => by
      by_cases hb : b = a
      · exact ⟨_, by rw [hb]; exact hx⟩
      · exact ⟨o, kp b o hb z⟩
    tups := fun b xs z => by
      rw [upd_ne (at_ne ea z exo_tup), upd_ne (ne_of_none z fd)]
      exact z
    frzs := fun b o v z => by
      rw [upd_ne (at_ne ea z exo_frz), upd_ne (ne_of_none z fd)]
      exact z
    tbls := fun b ps z => ⟨#[], by
      rw [upd_ne (at_ne ea z exo_tbl), upd_ne (ne_of_none z fd), z]
      simp⟩ }
  refine fin dx _ fd dne (I.un (t' := t') U fun b o z => ?_)
  by_cases ba : b = a
  · subst ba
    rw [upd_same] at z
    cases z
    exact exo_ok hx
  · rw [upd_ne ba] at z
    by_cases bd : b = dx
    · subst bd
      rw [upd_same] at z
      cases z
      exact exd_ok hn (relO_put (fs := []) ry fun g => True.intro)
    · rw [upd_ne bd] at z
      refine (I.hok b o z).stay (fun c v hc q => kp c v ?_ q) (fun c hc => ?_) fun c xs hc => ?_
      · rcases hc with hc | hc
        · rw [hc]
          exact ba
        · exact at_ne ea hc exo_own
      · rw [upd_ne (at_ne ea hc exo_own), upd_ne (ne_of_none hc fd)]
        exact hc
      · rw [upd_ne (at_ne ea hc exo_tup), upd_ne (ne_of_none hc fd)]
        exact hc
theorem put_old (T : OwC X.K C) (I : Inv X pins σ H s) (ea : H a = some (exo a C (some dx))) (ed : H dx = some (exd dx fs)) (hl : fs.length ≤ 900) (on : PySem.W.findIn X.K (.ref C) f = some none) (ry : RelV y u)
    (fin : ∀ s', Inv X pins σ (upd H dx (exd dx ((f, y) :: fs))) s' → Q () s') : wpAny (model X.prog X.w) A (setAttr (.ref a) f u) Q E s := by
  obtain ⟨nm, q, N, bs, bm, sn, sub, ab, col, dd, k0, k1, k2, k3, k5, B, nw, it, tl, lk, pt, TB⟩ := T.cls
  have oc : PySem.W.clsIn X.K C = some { name := nm, bases := bs, mro := .ref C :: bm, ns := N, qualname := q, hasDict := true, slotNames := sn, subclasses := sub, abstract := ab, collection := col, hasDel := false } := by
    unfold PySem.W.clsIn
    rw [lk] <;> rfl
  obtain ⟨t1, ho⟩ := exo_at I.hok ea
  obtain ⟨mA, hns, rel⟩ := exd_at I.hok ed
  have hw := within_of rel
  obtain ⟨hp, g, d, t, os⟩ := s
  obtain ⟨oD, _, _, qD, _, _⟩ := hns.count hw
  refine PySem.W.set_plain I.kIn (ox := { cls := .ref C, dict := some dx, data := .fields #[.ref t1, .none, .none, .none, .bool false, .none] }) (od := some oD) ⟨ho, rfl, rfl, qD⟩ T.sa ?_
  have small : (fs.map (·.1)).length ≤ 1000 := by
    rw [List.length_map]
    omega
  refine own_put2 TB I.kIn ho hns hw small oc (.own pt) rfl on fun h' t' kp hn => ?_
  have hd : ∃ o, h'.get? dx = some o := by
    obtain ⟨o, _, _, z, _⟩ := hn
    exact ⟨o, z⟩
  exact fin _ (I.write (t' := t') (x := dx) (e := dx) (o := exd dx ((f, y) :: fs)) (by rw [ed]; exact True.intro) (.inl rfl) kp hd (exd_ok hn (relO_put ry rel)))
end
/-- self.f = e -/
def tPut (K : PySem.W.Frag) (f : Str) (to te : TE) : TS := fun D σ H => te σ H fun y H1 => to σ H1 fun x H2 => ∃ a C : Addr, x = .ref a ∧ OwC K C ∧ PySem.W.findIn K (.ref C) f = some none ∧
  ((H2 a = some (exo a C none) ∧ ∀ d, H2 d = none → d ≠ a → D.nx σ (upd (upd H2 d (exd d [(f, y)])) a (exo a C (some d)))) ∨
    ∃ (d : Addr) (fs : List (Str × V)), H2 a = some (exo a C (some d)) ∧ H2 d = some (exd d fs) ∧ fs.length ≤ 900 ∧ D.nx σ (upd H2 d (exd d ((f, y) :: fs))))
/-- C(e, ..) kept -/
def tOwn (C : Addr) (sp : Sp) (dvs : List V) (ta : TA) : TE := fun σ H Q => ta σ H fun vs H1 => vs.length ≤ 1000 ∧ ∀ a, H1 a = none →
  sp (.ref a :: (vs ++ dvs)) (upd H1 a (exo a C none)) (fun v H2 => v = .non ∧ Q (.ref a) H2) (fun _ _ _ => False)
section
variable {X : Cx} {o e : Expr} {es : List Expr} {to te : TE} {ta : TA} {f : Str} {p p' pos : Pos}
theorem ps_put (ho : PE X o to) (he : PE X e te) (hs : swapsWith e (some (.Attribute o f p')) pos.line X.env = pure false := by rfl) : PS X (.Assign [.Attribute o f p'] e pos) (tPut X.K f to te) := by
  refine ⟨fun pins s σ H D I h => ?_⟩
  refine plainObj_wpAny_Assign_Attribute (thn (he.run pins s σ H _ I h) fun v s1 ⟨y, H1, I1, r1, q1⟩ => ?_) hs
  refine thn (ho.run pins s1 σ H1 _ I1 q1) fun u s2 ⟨x, H2, I2, r2, a, C, ex, T, on, q⟩ => ?_
  subst ex
  obtain rfl : u = Value.ref a := r2
  rcases q with ⟨ea, q⟩ | ⟨dx, fs, ea, ed, hl, q⟩
  · exact put_new T I2 ea on r1 fun dx s' n ne J => ⟨σ, _, J, q dx n ne⟩
  · exact put_old T I2 ea ed hl on r1 fun s' J => ⟨σ, _, J, q⟩
theorem own_made {CX : CXT} {C fI : Addr} {k : Nat} {fd : FuncData} {ps : List Str} {sp : Sp} {ds us : List Value} {dvs vs : List V} {pins : List (Addr × Obj)} {σ : L2.St} {H1 : Hp} {s1 : Shared} {Q : VK} (T : OwC X.K C)
    (iC : PySem.W.findIn X.K (.ref C) "__init__" = some (some (.ref fI))) (tI : PySem.W.typeIn X.K (.ref fI) = some (.type "function")) (F1 : FnOk X.prog X.w X.K X.mg X.base CX k fI fd ps sp) (hr : Room (k + 1) X.A) (hb : Binds X.K fd ps ds) (hd : Vals dvs ds)
    (hx : Passes CX X (fun _ _ _ => False)) (I1 : Inv X pins σ H1 s1) (r1 : Vals vs us) (q1 : ∀ a, H1 a = none → sp (.ref a :: (vs ++ dvs)) (upd H1 a (exo a C none)) (fun v H2 => v = .non ∧ Q (.ref a) H2) (fun _ _ _ => False)) (hz : vs.length ≤ 1000) :
    wpAny (model X.prog X.w) X.A (call (.ref C) us) (EP X pins σ Q) X.xe s1 := by
  obtain ⟨nm, q, N, bs, bm, sn, sub, ab, col, dd, k0, k1, k2, k3, k5, B, nw, it, tl, lk, pt, TB⟩ := T.cls
  obtain ⟨hp, g, dr, tk, os⟩ := s1
  have up : hp.objs.size ≤ hp.objs.size + 1 := Nat.le_succ _
  have hn : H1 (hp.objs.size + 1) = none := I1.hok.fresh up
  have hq := q1 (hp.objs.size + 1) hn
  have kk : ∀ b o, hp.get? b = some o → ((hp.push (PySem.W.kdv_tup us)).push (PySem.HandSPX.excO C hp.objs.size)).get? b = some o := fun b o z =>
    Heap.get?_push_of_some _ (Heap.get?_push_of_some _ z)
  have got : ((hp.push (PySem.W.kdv_tup us)).push (PySem.HandSPX.excO C hp.objs.size)).get? (hp.objs.size + 1) = some (PySem.HandSPX.excO C hp.objs.size) := by heap_get
  have I2 := I1.laid (t' := tk) (a := hp.objs.size + 1) (o := exo (hp.objs.size + 1) C none) kk up (exo_ok got)
  have r2 : Vals (V.ref (hp.objs.size + 1) :: (vs ++ dvs)) (Value.ref (hp.objs.size + 1) :: (us ++ ds)) := .cons rfl (r1.append hd)
  have hl : (Value.ref (hp.objs.size + 1) :: us ++ ds).length = ps.length := by
    have z := r2.length
    rw [F1.len _ _ _ _ hq] at z
    exact z.symm
  have few : us.length ≤ sizeLine := by
    rw [← Paired.length r1, sizeLine_eq]
    omega
  refine wpAny_call (PySem.HandSPX.call_own TB.ex (fun n => pt.has n) (I1.kIn _ _ lk) (PySem.W.looks_findIn I1.kIn iC) (fun me => PySem.W.bind_fn I1.kIn me tI) few (codeAny_mono
    (F1.run _ X.stack _ _ ⟨Value.ref (hp.objs.size + 1) :: us, []⟩ (Value.ref (hp.objs.size + 1) :: (us ++ ds)) _ _ (fun _ _ _ => False) (hr.make C us []) (I2.env0.make C us []) (hb _ (Value.ref (hp.objs.size + 1) :: us) I2.kIn hl) r2 hq) fun r s' z => ?_))
  cases r with
  | error er => exact hx pins σ _ _ er s' I2 z
  | ok fl =>
    cases fl with
    | ret u =>
      obtain ⟨v, H2, os2, bare2, un2, hok2, rv, ev, q2⟩ := z
      subst ev
      obtain ⟨h2, g2, d2, t2, os'⟩ := s'
      exact ⟨rv, .ref (hp.objs.size + 1), H2, I1.call' (ch := []) os2 ((Un.laid kk up hn).trans un2) hok2 bare2 (fun b y => absurd y (by simp)), rfl, q2⟩
    | next => exact False.elim z
    | brk => exact False.elim z
    | cont => exact False.elim z
theorem pe_own {CX : CXT} {x : Str} {C fI : Addr} {k : Nat} {fd : FuncData} {ps : List Str} {sp : Sp} {ds : List Value} {dvs : List V} (T : OwC X.K C) (iC : PySem.W.findIn X.K (.ref C) "__init__" = some (some (.ref fI)))
    (tI : PySem.W.typeIn X.K (.ref fI) = some (.type "function")) (F1 : FnOk X.prog X.w X.K X.mg X.base CX k fI fd ps sp) (hr : Room (k + 1) X.A) (hb : Binds X.K fd ps ds) (hd : Vals dvs ds) (hx : Passes CX X (fun _ _ _ => False)) (hg : Gl X x)
    (hm : X.mg x = some (.ref C)) (ha : PA X (e :: es) ta) (hdb : (x == ("__debug__" : Str)) = false := by decide) (he : starEach (e :: es) X.env = (false, eval e X.env) :: starEach es X.env := by rfl) (hpl : (backTo pos (starEach es X.env)).any (·.1) = false := by rfl) :
    PE X (.Call (.Name x p) (e :: es) [] pos) (tOwn C sp dvs ta) := ⟨fun pins s σ H Q I h =>
  wpAny_Call_Name_kw (ld_glob I hg hm (PySem.W.callWith_K (h₀ := X.base) I.ok.mod.kin T.kC (thn (ha.run pos pins s σ H _ I h) fun us s1 ⟨vs, H1, I1, r1, hz, q1⟩ => ⟨I1.kIn, own_made T iC tI F1 hr hb hd hx I1 r1 q1 hz⟩) he hpl) hdb)⟩
theorem pe_own0 {CX : CXT} {x : Str} {C fI : Addr} {k : Nat} {fd : FuncData} {ps : List Str} {sp : Sp} {ds : List Value} {dvs : List V} (T : OwC X.K C) (iC : PySem.W.findIn X.K (.ref C) "__init__" = some (some (.ref fI)))
    (tI : PySem.W.typeIn X.K (.ref fI) = some (.type "function")) (F1 : FnOk X.prog X.w X.K X.mg X.base CX k fI fd ps sp) (hr : Room (k + 1) X.A) (hb : Binds X.K fd ps ds) (hd : Vals dvs ds) (hx : Passes CX X (fun _ _ _ => False)) (hg : Gl X x)
    (hm : X.mg x = some (.ref C)) (hdb : (x == ("__debug__" : Str)) = false := by decide) : PE X (.Call (.Name x p) [] [] pos) (tOwn C sp dvs tNil) := ⟨fun pins s σ H Q I h =>
  wpAny_Call_Name_kw (ld_glob I hg hm (PySem.W.callWith_K0 I.kIn T.kC (own_made (us := []) (vs := []) T iC tI F1 hr hb hd hx I .nil h.2 h.1)) hdb)⟩
end
end Gn
set_option Elab.async false
set_option linter.all false
set_option maxRecDepth 100000
set_option maxHeartbeats 4000000
namespace Gn
open PySem PySem.Spec PyProof.Rows L2
section
variable {X : Cx} {e : Expr} {es : List Expr} {ta : TA} {p pos : Pos}
/-- the exception without a dict is let go -/
theorem bare_gone {pins : List (Addr × Obj)} {σ : L2.St} {H1 H2 : Hp} {Q : XK} {hp hp2 h2 : Heap} {g1 g2 : Array GenState} {d1 d2 : Drawn} {t1 t2 : Nat} {os1 os2 : OsState} {a C : Addr} (T : Raises X (.ref C)) (I1 : Inv X pins σ H1 ⟨hp, g1, d1, t1, os1⟩)
    (ha : hp.objs.size ≤ a) (kp : ∀ b o, hp.get? b = some o → hp2.get? b = some o) (un : Un (frs X.stack) [] (upd H1 a (exo a C none)) H2 hp2 h2) (hok : HOk X.prog X.w H2 h2) (ho : os2 = os1) (hb : AllBare g2)
    (ea : H2 a = some (exo a C none)) (q : Q (.ref C) none (del H2 a)) : MkP X pins σ Q (.ref a) ⟨h2, g2, d2, t2, os2⟩ := by
  obtain ⟨t0, hoe⟩ := exo_at hok ea
  have hn : H1 a = none := I1.hok.fresh ha
  obtain ⟨G, y1, y2⟩ := restrict h2 fun b => decide (b ≠ a)
  have gk : ∀ b, b ≠ a → G.get? b = h2.get? b := fun b z => y1 b (decide_eq_true z)
  have ge : G.get? a = none := y2 a (by simp)
  have old : ∀ {b : Addr} {o : Obj}, hp.get? b = some o → b ≠ a := fun {b o} z => Nat.ne_of_lt (Nat.lt_of_lt_of_le (Heap.lt_size z) ha)
  have fr : ∀ {b : Addr}, b ≠ a → H1 b = none → upd H1 a (exo a C none) b = none := fun {b} z n => (upd_ne z).trans n
  have U : Un (frs X.stack) [] H1 (del H2 a) hp G := {
    keep := fun b o z n hf hx => (gk b (old z)).trans (un.keep b o (kp b o z) (fr (old z) n) hf hx)
    slot := fun b o z n hf hx => by
      rw [gk b (old z)]
      exact un.slot b o (kp b o z) (fr (old z) n) hf hx
    free := fun b o z n hx => (del_ne (old z)).trans (un.free b o (kp b o z) (fr (old z) n) hx)
    there := fun b o z hx => by
      rw [gk b (old z)]
      exact un.there b o (kp b o z) hx
    tups := fun b xs z => (del_ne (ne_of_none z hn)).trans (un.tups b xs ((upd_ne (ne_of_none z hn)).trans z))
    frzs := fun b o v z => (del_ne (ne_of_none z hn)).trans (un.frzs b o v ((upd_ne (ne_of_none z hn)).trans z))
    tbls := fun b ps z => by
      rw [del_ne (ne_of_none z hn)]
      exact un.tbls b ps ((upd_ne (ne_of_none z hn)).trans z) }
  have hok3 : HOk X.prog X.w (del H2 a) G := fun b o z => by
    have ba : b ≠ a := fun e => by
      rw [e, del_same] at z
      cases z
    rw [del_ne ba] at z
    have noa : ∀ {c : Addr}, H2 c = some (.own b) → c ≠ a := fun {c} hc => at_ne ea hc exo_own
    refine (hok b o z).stay (fun c v hc y => ?_) (fun c hc => (del_ne (noa hc)).trans hc) fun c xs hc => (del_ne (at_ne ea hc exo_tup)).trans hc
    have ca : c ≠ a := by
      rcases hc with hc | hc
      · rw [hc]
        exact ba
      · exact noa hc
    exact (gk c ca).trans y
  have J : Inv X pins σ (del H2 a) ⟨G, g2, d2, t2, os2⟩ := I1.call' (ch := []) ho U hok3 hb (fun b z => absurd z (by simp))
  refine ⟨a, _, _, ⟨G, g2, d2, t2, os2⟩, _, .ref C, none, rfl, J, fun b o z => ?_, ge, hoe, ⟨rfl, rfl⟩, rfl, rfl, del_same, rfl, hb, T, q⟩
  by_cases ba : b = a
  · rw [ba, ge] at z
    cases z
  · exact (gk b ba).symm.trans z
/-- C(e, ..) raised -/
def tThr (C : Addr) (sp : Sp) (dvs : List V) (ta : TA) : L2.St → Hp → XK → Prop := fun σ H Q => ta σ H fun vs H1 => vs.length ≤ 1000 ∧ ∀ a, H1 a = none →
  sp (.ref a :: (vs ++ dvs)) (upd H1 a (exo a C none)) (fun v H2 => v = .non ∧
    ((∃ (d : Addr) (fs : List (Str × V)), H2 a = some (exo a C (some d)) ∧ H2 d = some (exd d fs) ∧ H1 d = none ∧ Q (.ref C) (some d) (upd (del H2 a) d (.xd fs))) ∨ (H2 a = some (exo a C none) ∧ Q (.ref C) none (del H2 a)))) (fun _ _ _ => False)
theorem own_thrown {CX : CXT} {C fI : Addr} {k : Nat} {fd : FuncData} {ps : List Str} {sp : Sp} {ds us : List Value} {dvs vs : List V} {pins : List (Addr × Obj)} {σ : L2.St} {H1 : Hp} {s1 : Shared} {Q : XK} (T : OwC X.K C)
    (iC : PySem.W.findIn X.K (.ref C) "__init__" = some (some (.ref fI))) (tI : PySem.W.typeIn X.K (.ref fI) = some (.type "function")) (F1 : FnOk X.prog X.w X.K X.mg X.base CX k fI fd ps sp) (hr : Room (k + 1) X.A) (hb : Binds X.K fd ps ds) (hd : Vals dvs ds)
    (hx : Passes CX X (fun _ _ _ => False)) (I1 : Inv X pins σ H1 s1) (r1 : Vals vs us) (hz : vs.length ≤ 1000)
    (q1 : ∀ a, H1 a = none → sp (.ref a :: (vs ++ dvs)) (upd H1 a (exo a C none)) (fun v H2 => v = .non ∧
      ((∃ (d : Addr) (fs : List (Str × V)), H2 a = some (exo a C (some d)) ∧ H2 d = some (exd d fs) ∧ H1 d = none ∧ Q (.ref C) (some d) (upd (del H2 a) d (.xd fs))) ∨ (H2 a = some (exo a C none) ∧ Q (.ref C) none (del H2 a)))) (fun _ _ _ => False)) :
    wpAny (model X.prog X.w) X.A (call (.ref C) us) (MkP X pins σ Q) X.xe s1 := by
  obtain ⟨nm, q, N, bs, bm, sn, sub, ab, col, dd, k0, k1, k2, k3, k5, B, nw, it, tl, lk, pt, TB⟩ := T.cls
  obtain ⟨hp, g, dr, tk, os⟩ := s1
  have up : hp.objs.size ≤ hp.objs.size + 1 := Nat.le_succ _
  have hn : H1 (hp.objs.size + 1) = none := I1.hok.fresh up
  have hq := q1 (hp.objs.size + 1) hn
  have kk : ∀ b o, hp.get? b = some o → ((hp.push (PySem.W.kdv_tup us)).push (PySem.HandSPX.excO C hp.objs.size)).get? b = some o := fun b o z =>
    Heap.get?_push_of_some _ (Heap.get?_push_of_some _ z)
  have got : ((hp.push (PySem.W.kdv_tup us)).push (PySem.HandSPX.excO C hp.objs.size)).get? (hp.objs.size + 1) = some (PySem.HandSPX.excO C hp.objs.size) := by heap_get
  have I2 := I1.laid (t' := tk) (a := hp.objs.size + 1) (o := exo (hp.objs.size + 1) C none) kk up (exo_ok got)
  have r2 : Vals (V.ref (hp.objs.size + 1) :: (vs ++ dvs)) (Value.ref (hp.objs.size + 1) :: (us ++ ds)) := .cons rfl (r1.append hd)
  have hl : (Value.ref (hp.objs.size + 1) :: us ++ ds).length = ps.length := by
    have z := r2.length
    rw [F1.len _ _ _ _ hq] at z
    exact z.symm
  have few : us.length ≤ sizeLine := by
    rw [← Paired.length r1, sizeLine_eq]
    omega
  refine wpAny_call (PySem.HandSPX.call_own TB.ex (fun n => pt.has n) (I1.kIn _ _ lk) (PySem.W.looks_findIn I1.kIn iC) (fun me => PySem.W.bind_fn I1.kIn me tI) few (codeAny_mono
    (F1.run _ X.stack _ _ ⟨Value.ref (hp.objs.size + 1) :: us, []⟩ (Value.ref (hp.objs.size + 1) :: (us ++ ds)) _ _ (fun _ _ _ => False) (hr.make C us []) (I2.env0.make C us []) (hb _ (Value.ref (hp.objs.size + 1) :: us) I2.kIn hl) r2 hq) fun r s' z => ?_))
  cases r with
  | error er => exact hx pins σ _ _ er s' I2 z
  | ok fl =>
    cases fl with
    | ret u =>
      obtain ⟨v, H2, os2, bare2, un2, hok2, rv, ev, z2⟩ := z
      subst ev
      obtain ⟨h2, g2, d2, t2, os'⟩ := s'
      rcases z2 with ⟨dq, fs, ea, ed, hd1, q2⟩ | ⟨ea, q2⟩
      · exact ⟨rv, mk_end (raises_own T.exC T.tyC) I1 up kk un2 hok2 os2 bare2 ea ed hd1 q2⟩
      · exact ⟨rv, bare_gone (raises_own T.exC T.tyC) I1 up kk un2 hok2 os2 bare2 ea q2⟩
    | next => exact False.elim z
    | brk => exact False.elim z
    | cont => exact False.elim z
/-- raise C(e, ..) -/
theorem pmk_exo {CX : CXT} {x : Str} {C fI : Addr} {k : Nat} {fd : FuncData} {ps : List Str} {sp : Sp} {ds : List Value} {dvs : List V} (T : OwC X.K C) (iC : PySem.W.findIn X.K (.ref C) "__init__" = some (some (.ref fI)))
    (tI : PySem.W.typeIn X.K (.ref fI) = some (.type "function")) (F1 : FnOk X.prog X.w X.K X.mg X.base CX k fI fd ps sp) (hr : Room (k + 1) X.A) (hb : Binds X.K fd ps ds) (hd : Vals dvs ds) (hx : Passes CX X (fun _ _ _ => False)) (hg : Gl X x)
    (hm : X.mg x = some (.ref C)) (ha : PA X (e :: es) ta) (hdb : (x == ("__debug__" : Str)) = false := by decide) (he : starEach (e :: es) X.env = (false, eval e X.env) :: starEach es X.env := by rfl) (hpl : (backTo pos (starEach es X.env)).any (·.1) = false := by rfl) :
    PMk X (.Call (.Name x p) (e :: es) [] pos) (tThr C sp dvs ta) := fun pins s σ H Q I h =>
  wpAny_Call_Name_kw (ld_glob I hg hm (PySem.W.callWith_K (h₀ := X.base) I.ok.mod.kin T.kC (thn (ha.run pos pins s σ H _ I h) fun us s1 ⟨vs, H1, I1, r1, hz, q1⟩ => ⟨I1.kIn, own_thrown T iC tI F1 hr hb hd hx I1 r1 hz q1⟩) he hpl) hdb)
/-- raise C() -/
theorem pmk_exo0 {CX : CXT} {x : Str} {C fI : Addr} {k : Nat} {fd : FuncData} {ps : List Str} {sp : Sp} {ds : List Value} {dvs : List V} (T : OwC X.K C) (iC : PySem.W.findIn X.K (.ref C) "__init__" = some (some (.ref fI)))
    (tI : PySem.W.typeIn X.K (.ref fI) = some (.type "function")) (F1 : FnOk X.prog X.w X.K X.mg X.base CX k fI fd ps sp) (hr : Room (k + 1) X.A) (hb : Binds X.K fd ps ds) (hd : Vals dvs ds) (hx : Passes CX X (fun _ _ _ => False)) (hg : Gl X x)
    (hm : X.mg x = some (.ref C)) (hdb : (x == ("__debug__" : Str)) = false := by decide) : PMk X (.Call (.Name x p) [] [] pos) (tThr C sp dvs tNil) := fun pins s σ H Q I h =>
  wpAny_Call_Name_kw (ld_glob I hg hm (PySem.W.callWith_K0 I.kIn T.kC (own_thrown (us := []) (vs := []) T iC tI F1 hr hb hd hx I .nil h.1 h.2)) hdb)
end
/-! ### such a value: its fields, and of which classes it is -/
/-- e.f -/
def tFld (K : PySem.W.Frag) (f : Str) (te : TE) : TE := fun σ H Q => te σ H fun x H1 => ∃ (a C d : Addr) (fs : List (Str × V)) (v : V), x = .ref a ∧ H1 a = some (exo a C (some d)) ∧ H1 d = some (exd d fs) ∧ XfC K C ∧ PySem.W.findIn K (.ref C) f = some none ∧ fs.lookup f = some v ∧ Q v H1
theorem inst_at {X : Cx} {pins : List (Addr × Obj)} {σ : L2.St} {H : Hp} {s : Shared} {a C d : Addr} (I : Inv X pins σ H s) (ea : H a = some (exo a C (some d))) {fs : List (Str × V)} (ed : H d = some (exd d fs)) :
    ∃ (ox od : Obj), PySem.W.InstAt s.heap a ox C (some od) ∧ ∀ n, ∃ o, PySem.W.lookIn n od = some o ∧ RelO (fs.lookup n) o := by
  obtain ⟨t1, ho⟩ := exo_at I.hok ea
  obtain ⟨mA, hns, rel⟩ := exd_at I.hok ed
  obtain ⟨od, hd, hl⟩ := lookIn_ns hns
  exact ⟨_, od, ⟨ho, rfl, rfl, hd⟩, fun n => ⟨_, hl n, rel n⟩⟩
theorem pe_fld {X : Cx} {e : Expr} {te : TE} {pos : Pos} {f : Str} (he : PE X e te) (hb : attributeBase e f X.env (eval e X.env) = eval e X.env := by rfl) : PE X (.Attribute e f pos) (tFld X.K f te) := by
  refine ⟨fun pins s σ H Q I h => ?_⟩
  refine attr_of hb (thn (he.run pins s σ H _ I h) fun u s1 ⟨x, H1, I1, rx, a, C, d, fs, v, ex, ea, ed, T, on, lf, q⟩ => ?_)
  subst ex
  obtain rfl : u = Value.ref a := rx
  obtain ⟨ox, od, J, rel⟩ := inst_at I1 ea ed
  obtain ⟨o1, l1, r1⟩ := rel f
  obtain ⟨y, hy, ry⟩ := RelO.some_of (v := v) (o := o1) (by rw [← lf]; exact r1)
  subst hy
  exact HandSPX.exc_get I1.kIn J T.ga T.gg T.exC (PySem.W.findObj_own T.hdC on rfl l1) (handed_of ry) ⟨v, H1, I1.tok _, ry, q⟩
end Gn
set_option Elab.async false
set_option linter.all false
set_option maxRecDepth 100000
set_option maxHeartbeats 4000000
/-! isinstance of such a value, with a dict or none -/
namespace PySem.W
open PySem PySem.Spec PySem.Calls PyProof.Rows
section
variable {P : Program} {w : World} {A : Around} {E : Value → Shared → Prop} {s : Shared} {K : Frag} {x D : Addr} {ox : Obj} {od : Option Obj}
theorem gn_found {C : Addr} {n : Str} {a g : Value} (hc : (clsIn K C).isSome = true) (ha : findIn K (.ref C) n = some (some a)) (hg : specialIn K a "__get__" = some (some g)) (ht : takesIn K a = some true) : findObj K C od n = some (.bind g a) := by
  obtain ⟨cd, hc⟩ := Option.isSome_iff_exists.mp hc
  unfold findObj
  simp [hc, ha, hg, ht]
theorem gn_class {Q : Option Value → Shared → Prop} (C : L2.ExcC K D) (X : K.In s.heap) (I : InstAt s.heap x ox D od) (h : Q (some (.ref D)) { s with toks := s.toks + 1 }) : wpAny (model P w) A (getAttr? (.ref x) "__class__") Q E s := by
  obtain ⟨hga, hgt, hsub, hdct, ha, hn, htk, hm⟩ := C
  have fd : findObj K D od "__class__" = some (.bind (.builtin "getset_descriptor.__get__") (.builtin "object.__class__")) :=
    gn_found (by
      obtain ⟨cd, z, _⟩ := any_some hdct
      rw [z]
      rfl) ha hn htk
  obtain ⟨hp, g, d, t, os⟩ := s
  have T0 := I.type (M := model P w)
  have T1 := looks_findIn (M := model P w) X hga
  have T2 := looks_findIn (M := model P w) X hgt
  have T3 := looks_find (M := model P w) X I fd
  have isB : Looks (model P w) hp (isInstance (.ref x) (.type "BaseException")) true := T0.andThen (looks_subIn X hsub)
  have n0 : (false && onTheHeap (Value.builtin "BaseException.__getattribute__")) = false := rfl
  have n2 : (Value.builtin "BaseException.__getattribute__" == Value.builtin "object.__getattribute__") = false := by decide +kernel
  have n1 : (onTheHeap (Value.ref D) && Value.builtin "BaseException.__getattribute__" == Value.builtin "object.__getattribute__") = false := by
    rw [n2]
    rfl
  unfold getAttr? getAttrBy? getAttrBy
  refine wpAny_bind (wpAny_mkText (wpAny_bind (wpAny_attempt (wpAny_holding (wpAny_bind (T0.at (wpAny_bind (T1.at ?_))))))))
  show wpAny _ _ (if (onTheHeap (Value.ref D) && Value.builtin "BaseException.__getattribute__" == Value.builtin "object.__getattribute__") = true then _ else _) _ _ _
  rw [n1, if_neg Bool.false_ne_true]
  unfold getAttrByItsOwn hookBefore
  refine wpAny_bind ?_
  rw [if_pos (show onTheHeap (Value.ref D) = true from rfl)]
  refine T2.at ?_
  refine wpAny_bind (wpAny_attempt (wpAny_holding ?_))
  unfold callGetattribute
  rw [n0, if_neg Bool.false_ne_true]
  unfold boundAndCalled
  rw [PySem.F.excAttr_ValueError.ga.bind (.ref x)]
  refine wpAny_bind (wpAny_pure ?_)
  show wpAny _ _ (call (.builtin "BaseException.__getattribute__") [.ref x, .str "__class__" t]) _ _ _
  refine wpAny_call (codeAny_call_builtin PySem.F.excAttr_ValueError.ga.plain PySem.F.entry_bexc_ga ?_)
  refine @check_slot (model P w) _ _ ⟨hp, g, d, t + 1, os⟩ "BaseException.__getattribute__" "BaseException" "__getattribute__" (.ref x)
    [.str "__class__" t] [] _ (by decide +kernel) (by decide +kernel) isB (PySem.F.args_bexc_ga (.ref x) (.str "__class__" t)) ?_
  unfold Builtin.«object.__getattribute__»
  refine wpAny_bind (wpAny_of_eq (a := ((Value.ref x : Value), [Value.str "__class__" t])) (by first
    | rfl
    | (simp only [slotArgs]; rfl)) ?_)
  refine wpAny_bind (wpAny_pure (wpAny_bind (T0.at (wpAny_bind (T3.at ?_)))))
  show wpAny _ _ (holding [Value.builtin "object.__class__"] (call (.builtin "getset_descriptor.__get__") [.builtin "object.__class__", .ref x, .ref D]) >>= ret) _ _ _
  refine wpAny_bind (wpAny_holding (wpAny_call (class_get (s := ⟨hp, g, d, t + 1, os⟩) (ox := ox) (od := od) X I hm ?_)))
  refine wpAny_pure ?_
  show wpAny _ _ (handedOut (.ref D)) _ _ _
  rw [handedOut_of (v := .ref D) rfl]
  first
    | exact wpAny_pure (wpAny_pure h)
    | exact wpAny_pure h
    | exact wpAny_pure (wpAny_bind (wpAny_pure (wpAny_pure h)))
theorem gn_kit (C : L2.ExcC K D) : KitX K (.ref x) (.ref D) (fun h => ∃ ox od, InstAt h x ox D od) where
  ty := fun _ _ _ ⟨_, _, I⟩ => I.type
  it := fun _ _ X _ => by
    obtain ⟨cdD, z, _⟩ := any_some C.hd
    unfold clsIn at z
    split at z
    · rename_i c' d' cd' sl' ho
      intro A' Q' E' s' k q
      unfold isType loadHead
      exact wpAny_bind (wpAny_loadPart (k _ _ (X _ _ ho)) (wpAny_pure q))
    · cases z
  ne := fun h tp dd its n sl X htp => by
    obtain ⟨cdD, z, _⟩ := any_some C.hd
    refine Bool.eq_false_iff.mpr fun q => ?_
    have e : D = tp := Value.ref.inj (beq_iff_eq.mp q)
    subst e
    unfold clsIn at z
    split at z
    · rename_i c' d' cd' sl' ho
      have y := (X _ _ ho).symm.trans htp
      cases y
    · cases z
  ca := fun X ⟨_, _, I⟩ k => gn_class C X I k
end
end PySem.W
namespace Gn
open PySem PySem.Spec PyProof.Rows L2
theorem inst_any {X : Cx} {pins : List (Addr × Obj)} {σ : L2.St} {H : Hp} {s : Shared} {a C : Addr} {d : Option Addr} (I : Inv X pins σ H s) (ea : H a = some (exo a C d)) (hd : ∀ y, d = some y → ∃ fs, H y = some (exd y fs)) :
    ∃ ox od, PySem.W.InstAt s.heap a ox C od := by
  cases d with
  | none =>
    obtain ⟨t1, ho⟩ := exo_at I.hok ea
    exact ⟨_, none, ho, rfl, rfl, trivial⟩
  | some y =>
    obtain ⟨fs, ed⟩ := hd y rfl
    obtain ⟨ox, od, J, _⟩ := inst_at I ea ed
    exact ⟨ox, _, J⟩
/-- isinstance(e, c), e an own exception that is kept -/
def rIsO (K : PySem.W.Frag) : List V → Hp → VK → Prop := fun xs H Q => ∃ (a D : Addr) (d : Option Addr) (c : V) (cv : Value) (b : Bool), xs = [.ref a, c] ∧ ExcC K D ∧ H a = some (exo a D d) ∧ (∀ y, d = some y → ∃ fs, H y = some (exd y fs)) ∧
  (∀ u, RelV c u → u = cv) ∧ PySem.W.kitOne K (.ref D) cv = some b ∧ Q (.bl b) H
theorem cr_isO {X : Cx} : CallR X (.builtin "isinstance") (rIsO X.K) := by
  intro pins s σ H xs us Q I r h
  obtain ⟨a, D, d, c, cv, b, rfl, C, ea, hd, hcv, e, q⟩ := h
  cases r with
  | cons rx rr =>
    cases rr with
    | cons rt rr =>
      cases rr
      cases rx
      have ec := hcv _ rt
      subst ec
      exact PySem.W.kia_one (PySem.W.gn_kit C) I.kIn (inst_any I ea hd) e (fun z => nomatch z) fun tk => ⟨.bl b, H, I.kept (t' := tk) fun _ _ z => z, rfl, q⟩
/-- isinstance(e, c), e the exception that the suite holds, with a dict or none -/
def rIsH (K : PySem.W.Frag) (D a : Addr) (d : Option Addr) : List V → Hp → VK → Prop := fun xs H Q => ∃ (c : V) (cv : Value) (b : Bool), xs = [.ref a, c] ∧ (∀ y, d = some y → ∃ fs, H y = some (.xd fs)) ∧ (∀ u, RelV c u → u = cv) ∧ PySem.W.kitOne K (.ref D) cv = some b ∧ Q (.bl b) H
theorem cr_isH {X : Cx} {a D : Addr} {d : Option Addr} {oe : Obj} {pn : List (Addr × Obj)} (C : ExcC X.K D) (hz : Zc (.ref D) d oe) (hf : ∃ vs, oe.data = .fields vs) : CallR (X.suite a ((a, oe) :: pn)) (.builtin "isinstance") (rIsH X.K D a d) := by
  intro pins s σ H xs us Q I r h
  obtain ⟨c, cv, b, rfl, hd, hcv, e, q⟩ := h
  cases r with
  | cons rx rr =>
    cases rr with
    | cons rt rr =>
      cases rr
      cases rx
      have ec := hcv _ rt
      subst ec
      obtain ⟨at0, _⟩ := I.pin (a, oe) (List.mem_append.mpr (.inl List.mem_cons_self))
      obtain ⟨vs, hv⟩ := hf
      have J : ∃ ox od, PySem.W.InstAt s.heap a ox D od := by
        obtain ⟨oc, dd, oda, osl⟩ := oe
        obtain ⟨h1, h2⟩ := hz
        dsimp only at h1 h2 hv
        subst h1 h2 hv
        cases dd with
        | none => exact ⟨_, none, at0, rfl, rfl, trivial⟩
        | some y =>
          obtain ⟨fs, ed⟩ := hd y rfl
          obtain ⟨mA, hns, _⟩ := (show ObjOk X.prog X.w H s.heap y (.xd fs) from I.hok y _ ed)
          obtain ⟨od, ho, _⟩ := lookIn_ns hns
          exact ⟨_, some od, at0, rfl, rfl, ho⟩
      exact PySem.W.kia_one (PySem.W.gn_kit C) I.kIn J e (fun z => nomatch z) fun tk => ⟨.bl b, H, I.kept (t' := tk) fun _ _ z => z, rfl, q⟩
end Gn
set_option Elab.async false
set_option linter.all false
set_option maxRecDepth 100000
set_option maxHeartbeats 4000000
/-! the same made by keywords -/
namespace Gn
open PySem PySem.Spec PyProof.Rows L2
section
variable {M : Model} {A : Around} {E : Value → Shared → Prop} {h : Heap} {g : Array GenState} {d : Drawn} {t : Nat} {os : OsState}
variable {nm q : Str} {C N : Addr} {bs bm tl : List Value} {hd : Bool} {sn : List Str} {sub : List Value} {ab : Bool} {col : Option Bool} {dd : Option Addr} {k0 k1 k2 k3 k5 : Option Value} {B nw it : String} {rest : List Value} {kw : List (Str × Value)}
theorem kw_new_check (T : ExcBaseFacts B nw it tl) (pt : ∀ n : String, bm.contains (.type n) = tl.contains (.type n)) {Q : Unit → Shared → Prop}
    (lk : h.get? C = some (excClassObj nm q C N bs bm hd sn sub ab col dd k0 k1 k2 k3 k5 nw)) (fin : Q () ⟨h, g, d, t, os⟩) : wpAny M A (checkBuiltinCall nw ⟨.ref C :: rest, kw⟩) Q E ⟨h, g, d, t, os⟩ := by
  have inB : (Value.ref C :: bm).contains (.type B) = true := by
    rw [List.contains_cons, pt, T.hasB, Bool.or_true]
  have ns := T.noStar
  simp only [checkBuiltinCall, T.newKind, T.newSplit, T.newRow]
  repeat (first
    | refine wpAny_loadPart_at lk ?_
    | (refine wpAny_isSubtype_exc lk ?_; rw [inB])
    | refine wpAny_staticBase_exc lk ?_
    | refine wpAny_madeBy_exc lk ?_
    | simp only [bne_self_eq_false, Bool.false_eq_true, if_false]
    | wp_step)
  exact fin
end
section
variable {P : Program} {w : World} {A : Around} {E : Value → Shared → Prop} {R : Result → Shared → Prop} {h : Heap} {g : Array GenState} {d : Drawn} {t : Nat} {os : OsState}
variable {nm q : Str} {C N : Addr} {bs bm tl : List Value} {hd : Bool} {sn : List Str} {sub : List Value} {ab : Bool} {col : Option Bool} {dd : Option Addr} {k0 k1 k2 k3 k5 : Option Value} {B nw it : String} {rest : List Value} {kw : List (Str × Value)} {fI : Addr}
theorem kw_new (T : ExcBaseFacts B nw it tl) (pt : ∀ n : String, bm.contains (.type n) = tl.contains (.type n)) (lk : h.get? C = some (excClassObj nm q C N bs bm hd sn sub ab col dd k0 k1 k2 k3 k5 nw))
    (fin : R (.ok (.ret (.ref (h.objs.size + 1)))) ⟨(h.push (PySem.W.kdv_tup rest)).push (PySem.HandSPX.excO C h.objs.size), g, d, t, os⟩) (few : rest.length ≤ sizeLine) : codeAny (model P w) A (.builtin nw ⟨.ref C :: rest, kw⟩) R ⟨h, g, d, t, os⟩ := by
  have y0 := T.ends
  have y1 : (Value.ref C :: bm).contains (.type B) = true := by
    rw [List.contains_cons, pt, T.hasB, Bool.or_true]
  have y2 : (Value.ref C :: bm).contains (.type "AttributeError") = false := by
    rw [List.contains_cons, pt, T.noAttr]
    rfl
  have y3 : (Value.ref C :: bm).contains (.type "NameError") = false := by
    rw [List.contains_cons, pt, T.noName]
    rfl
  refine codeAny_builtinAt T.entry ?_
  unfold Builtin.«BaseException.__new__»
  refine PySem.wpAt_bind ?_
  show PySem.wpAt _ _ _ (stack >>= _) _ _ _
  refine PySem.wpAt_bind (PySem.wpAt_stack fun p below => PySem.wpAt_of_wpAny ?_)
  wp_walk
  refine PySem.wpAt_of_wpAny ?_
  rw [T.owner]
  repeat (first
    | with_reducible refine wpAny_madeHere_exc T.canon lk ?_
    | with_reducible refine wpAny_loadPart_at lk ?_
    | (with_reducible refine wpAny_isSubtype_exc lk ?_; first | rw [y1] | rw [y2] | rw [y3])
    | wp_step)
  show R _ _
  rw [Heap.size_push]
  exact fin
theorem kw_type_call (T : ExcBaseFacts B nw it tl) (pt : ∀ n : String, bm.contains (.type n) = tl.contains (.type n)) {Q : Fin → Shared → Prop} (lk : h.get? C = some (excClassObj nm q C N bs bm hd sn sub ab col dd k0 k1 k2 k3 k5 nw))
    (li : PySem.W.Looks (model P w) h (typeLookup (.ref C) "__init__") (some (.ref fI))) (lb : ∀ me, PySem.W.Looks (model P w) h (bindSpecial (.ref fI) me) (.ref fI, [me])) (few : rest.length ≤ sizeLine)
    (fin : codeAny (model P w) A (.call (.ref fI) ⟨.ref (h.objs.size + 1) :: rest, kw⟩) (fun r s' => match r with | .ok (.ret v) => v = .none ∧ Q (.done (.ret (.ref (h.objs.size + 1)))) s' | .ok _ => False | .error e => E e s')
      ⟨(h.push (PySem.W.kdv_tup rest)).push (PySem.HandSPX.excO C h.objs.size), g, d, t, os⟩) : wpAny (model P w) A (Builtin.«type.__call__» ⟨.ref C :: rest, kw⟩) Q E ⟨h, g, d, t, os⟩ := by
  repeat (first
    | with_reducible refine wpAny_loadPart_at lk ?_
    | with_reducible refine wpAny_madeBy_exc lk ?_
    | wp_step)
  refine codeAny_call_builtin_code (Code.quiet_builtin _ T.quiet) (kw_new_check T pt lk ?_)
  refine kw_new T pt lk ?_ few
  show wpAny _ _ _ _ _ _
  have kp : ∀ b o, h.get? b = some o → ((h.push (PySem.W.kdv_tup rest)).push (PySem.HandSPX.excO C h.objs.size)).get? b = some o := fun b o z =>
    Heap.get?_push_of_some _ (Heap.get?_push_of_some _ z)
  have lk1 := kp _ _ lk
  have at1 : ((h.push (PySem.W.kdv_tup rest)).push (PySem.HandSPX.excO C h.objs.size)).get? (h.objs.size + 1) = some (PySem.HandSPX.excO C h.objs.size) := by heap_get
  have inC : (Value.ref C :: bm).contains (.ref C) = true := by simp
  have i1 := li.keeps kp
  have b1 := (lb (.ref (h.objs.size + 1))).keeps kp
  unfold isInstance
  repeat (first
    | with_reducible refine wpAny_loadPart_at at1 ?_
    | (with_reducible refine wpAny_isSubtype_exc lk1 ?_; rw [inC])
    | wp_step)
  show wpAny _ _ (typeLookup (.ref C) _) _ _ _
  refine i1.at ?_
  refine wpAny_holding (wpAny_bind (b1.at ?_))
  refine wpAny_bind (wpAny_call (codeAny_mono fin fun r s' z => ?_))
  rcases r with e | (v | _ | _ | _)
  · exact z
  all_goals first
    | exact False.elim z
    | skip
  obtain ⟨rfl, z⟩ := z
  first
    | exact wpAny_pure (wpAny_pure z)
    | (wp_walk; exact z)
theorem kw_call (T : ExcBaseFacts B nw it tl) (pt : ∀ n : String, bm.contains (.type n) = tl.contains (.type n)) (lk : h.get? C = some (excClassObj nm q C N bs bm hd sn sub ab col dd k0 k1 k2 k3 k5 nw))
    (li : PySem.W.Looks (model P w) h (typeLookup (.ref C) "__init__") (some (.ref fI))) (lb : ∀ me, PySem.W.Looks (model P w) h (bindSpecial (.ref fI) me) (.ref fI, [me])) (few : rest.length ≤ sizeLine)
    (fin : codeAny (model P w) (A.under (.builtin "type.__call__" ⟨.ref C :: rest, kw⟩)) (.call (.ref fI) ⟨.ref (h.objs.size + 1) :: rest, kw⟩) (PySem.W.InitBack (h.objs.size + 1) R) ⟨(h.push (PySem.W.kdv_tup rest)).push (PySem.HandSPX.excO C h.objs.size), g, d, t, os⟩) :
    codeAny (model P w) A (.call (.ref C) ⟨rest, kw⟩) R ⟨h, g, d, t, os⟩ := by
  have f1 := tc_lookup
  have f2 := tc_bind (.ref C)
  have ty : (⟨h, g, d, t, os⟩ : Shared).TypeIs (.ref C) "type" := ⟨_, lk, rfl⟩
  have isT : PySem.W.Looks (model P w) h (isInstance (.ref C) (.type "type")) true := by
    intro A' Q' E' s' k q
    have lk2 := k _ _ lk
    have f3 := tc_sub
    unfold isInstance
    obtain ⟨h', g', d', t', os'⟩ := s'
    repeat (first
      | assumption
      | with_reducible refine wpAny_loadPart_at lk2 ?_
      | wp_step)
  refine codeAny_of_tree ?_
  show wpAny _ _ (callAny (.ref C) _) _ _ _
  repeat (any_goals (first
    | assumption
    | with_reducible refine wpAny_loadPart_at lk ?_
    | wp_step))
  refine ⟨rfl, ?_⟩
  refine codeAny_call_builtin_at (Code.quiet_builtin _ (by decide +kernel)) entry_typeCall (@PySem.W.check_slot (model P w) _ _ _ "type.__call__" "type" "__call__" (.ref C) rest kw _ tc_kind tc_split isT (PySem.W.tc_args _ _ _) (kw_type_call T pt lk li lb few ?_))
  refine codeAny_mono fin fun r s' z => ?_
  rcases r with e | (v | _ | _ | _) <;> exact z
end
end Gn
set_option Elab.async false
set_option linter.all false
set_option maxRecDepth 100000
set_option maxHeartbeats 4000000
namespace Gn
open PySem PySem.Spec PyProof.Rows L2
/-- C(k = e, ..) kept -/
def tOwnK (C : Addr) (m : Nat) (sp : Sp) (gV : List V → List V → List V) (tk : TA) : TE := fun σ H Q => tk σ H fun zs H1 => zs.length = m ∧ ∀ a, H1 a = none →
  sp (gV [.ref a] zs) (upd H1 a (exo a C none)) (fun v H2 => v = .non ∧ Q (.ref a) H2) (fun _ _ _ => False)
section
variable {X : Cx} {tk : TA} {kws : List Keyword} {p pos : Pos}
theorem own_madeK {CX : CXT} {C fI : Addr} {k : Nat} {fd : FuncData} {ps ks : List Str} {sp : Sp} {ws : List Value} {zs : List V} {g : List Value → List Value → List Value} {gV : List V → List V → List V} {pins : List (Addr × Obj)} {σ : L2.St} {H1 : Hp} {s1 : Shared} {Q : VK} (T : OwC X.K C)
    (iC : PySem.W.findIn X.K (.ref C) "__init__" = some (some (.ref fI))) (tI : PySem.W.typeIn X.K (.ref fI) = some (.type "function")) (F1 : FnOk X.prog X.w X.K X.mg X.base CX k fI fd ps sp) (hr : Room (k + 1) X.A) (hb : KBn X.K fd ps 1 ks g gV)
    (hx : Passes CX X (fun _ _ _ => False)) (I1 : Inv X pins σ H1 s1) (rz : Vals zs ws) (lz : zs.length = ks.length) (q1 : ∀ a, H1 a = none → sp (gV [.ref a] zs) (upd H1 a (exo a C none)) (fun v H2 => v = .non ∧ Q (.ref a) H2) (fun _ _ _ => False)) :
    wpAny (model X.prog X.w) X.A (call (.ref C) [] (ks.zip ws)) (EP X pins σ Q) X.xe s1 := by
  obtain ⟨nm, q, N, bs, bm, sn, sub, ab, col, dd, k0, k1, k2, k3, k5, B, nw, it, tl, lk, pt, TB⟩ := T.cls
  obtain ⟨hp, gg, dr, tok, os⟩ := s1
  have up : hp.objs.size ≤ hp.objs.size + 1 := Nat.le_succ _
  have hn : H1 (hp.objs.size + 1) = none := I1.hok.fresh up
  have hq := q1 (hp.objs.size + 1) hn
  have kk : ∀ b o, hp.get? b = some o → ((hp.push (PySem.W.kdv_tup [])).push (PySem.HandSPX.excO C hp.objs.size)).get? b = some o := fun b o z =>
    Heap.get?_push_of_some _ (Heap.get?_push_of_some _ z)
  have got : ((hp.push (PySem.W.kdv_tup [])).push (PySem.HandSPX.excO C hp.objs.size)).get? (hp.objs.size + 1) = some (PySem.HandSPX.excO C hp.objs.size) := by heap_get
  have I2 := I1.laid (t' := tok) (a := hp.objs.size + 1) (o := exo (hp.objs.size + 1) C none) kk up (exo_ok got)
  have rs : Vals [V.ref (hp.objs.size + 1)] [Value.ref (hp.objs.size + 1)] := .cons rfl .nil
  have r2 := hb.rel rs rz
  have l2 : ws.length = ks.length := rz.length.symm.trans lz
  refine wpAny_call (kw_call TB.ex (fun n => pt.has n) (I1.kIn _ _ lk) (PySem.W.looks_findIn I1.kIn iC) (fun me => PySem.W.bind_fn I1.kIn me tI) (by rw [sizeLine_eq]; decide) (codeAny_mono
    (F1.run _ X.stack _ _ ⟨[Value.ref (hp.objs.size + 1)], ks.zip ws⟩ (g [Value.ref (hp.objs.size + 1)] ws) _ _ (fun _ _ _ => False) (hr.make C [] (ks.zip ws)) (I2.env0.make C [] (ks.zip ws)) (hb.to _ [Value.ref (hp.objs.size + 1)] ws I2.kIn rfl l2) r2 hq) fun r s' z => ?_))
  cases r with
  | error er => exact hx pins σ _ _ er s' I2 z
  | ok fl =>
    cases fl with
    | ret u =>
      obtain ⟨v, H2, os2, bare2, un2, hok2, rv, ev, q2⟩ := z
      subst ev
      obtain ⟨h2, g2, d2, t2, os'⟩ := s'
      exact ⟨rv, .ref (hp.objs.size + 1), H2, I1.call' (ch := []) os2 ((Un.laid kk up hn).trans un2) hok2 bare2 (fun b y => absurd y (by simp)), rfl, q2⟩
    | next => exact False.elim z
    | brk => exact False.elim z
    | cont => exact False.elim z
theorem pe_ownK {CX : CXT} {x : Str} {C fI : Addr} {k : Nat} {fd : FuncData} {ps ks : List Str} {sp : Sp} {g : List Value → List Value → List Value} {gV : List V → List V → List V} (T : OwC X.K C) (iC : PySem.W.findIn X.K (.ref C) "__init__" = some (some (.ref fI)))
    (tI : PySem.W.typeIn X.K (.ref fI) = some (.type "function")) (F1 : FnOk X.prog X.w X.K X.mg X.base CX k fI fd ps sp) (hr : Room (k + 1) X.A) (hb : KBn X.K fd ps 1 ks g gV) (hx : Passes CX X (fun _ _ _ => False)) (hg : Gl X x)
    (hm : X.mg x = some (.ref C)) (hkw : PK X kws tk) (hall : (backToKw pos (keywordEach kws X.env)).all (·.1.isSome) = true := by rfl) (hks : (backToKw pos (keywordEach kws X.env)).filterMap (·.1) = ks := by rfl) (hdb : (x == ("__debug__" : Str)) = false := by decide)
    (hpl : ((backTo pos (starEach [] X.env)).any (·.1) || (backToKw pos (keywordEach kws X.env)).any (·.1.isNone)) = false := by rfl) :
    PE X (.Call (.Name x p) [] kws pos) (tOwnK C ks.length sp gV tk) := ⟨fun pins s σ H Q I h =>
  wpAny_Call_Name_kw (ld_glob I hg hm (PySem.W.callWith_KW0 (h₀ := X.base) I.ok.mod.kin T.kC hall (thn (hkw.run pos pins s σ H _ I h) fun ws s2 ⟨zs, H2, I2, rz, lz, q2⟩ => ⟨I2.kIn, by
    rw [hks]
    exact own_madeK T iC tI F1 hr hb hx I2 rz lz q2⟩) hpl) hdb)⟩
end
/-! one keyword, and two the other way round, behind the object itself -/
def kq1 {α : Type} : List α → List α → List α
  | [s], [a] => [s, a]
  | _, _ => []
def kq2s {α : Type} : List α → List α → List α
  | [s], [a, b] => [s, b, a]
  | _, _ => []
section
variable {K : PySem.W.Frag} {fd : FuncData}
theorem kn1 {p0 p : Str} (h : ∀ s a : Value, bindArgs fd ⟨[s], [(p, a)]⟩ = pure [(p0, s), (p, a)]) : KBn K fd [p0, p] 1 [p] kq1 kq1 :=
  ⟨fun s us ws _ l1 l2 => match us, ws, l1, l2 with
    | [x], [a], _, _ => .of_eq (h x a), fun {vs us zs ws} r rz => by
    cases r with
    | nil => exact .nil
    | cons a b => cases b with
      | nil => cases rz with
        | nil => exact .nil
        | cons c d => cases d with
          | nil => exact .cons a (.cons c .nil)
          | cons _ _ => exact .nil
      | cons _ _ => exact .nil⟩
theorem kn2s {p0 p q : Str} (h : ∀ s a b : Value, bindArgs fd ⟨[s], [(q, b), (p, a)]⟩ = pure [(p0, s), (p, a), (q, b)]) : KBn K fd [p0, p, q] 1 [q, p] kq2s kq2s :=
  ⟨fun s us ws _ l1 l2 => match us, ws, l1, l2 with
    | [x], [b, a], _, _ => .of_eq (h x a b), fun {vs us zs ws} r rz => by
    cases r with
    | nil => exact .nil
    | cons a b => cases b with
      | nil => cases rz with
        | nil => exact .nil
        | cons c d => cases d with
          | nil => exact .nil
          | cons e f => cases f with
            | nil => exact .cons a (.cons e (.cons c .nil))
            | cons _ _ => exact .nil
      | cons _ _ => exact .nil⟩
end
end Gn
set_option Elab.async false
set_option linter.all false
set_option maxRecDepth 100000
set_option maxHeartbeats 4000000
/-! own exceptions whose __init__ keeps what is passed -/
namespace Gn
open PySem PySem.Spec PyProof.Rows L2
/-- at a: an exception of the class at C that has these fields -/
def Kept (H : Hp) (a C : Addr) (fs : List (Str × V)) : Prop := (fs = [] ∧ H a = some (exo a C none)) ∨ ∃ d, H a = some (exo a C (some d)) ∧ H d = some (exd d fs)
theorem Kept.same {H H' : Hp} {a C : Addr} {fs : List (Str × V)} (h : Kept H a C fs) (e : Same H H') : Kept H' a C fs := by
  rcases h with ⟨z, h⟩ | ⟨d, h1, h2⟩
  · exact .inl ⟨z, e _ _ h⟩
  · exact .inr ⟨d, e _ _ h1, e _ _ h2⟩
/-- the same, its dict new -/
def NewE (H H' : Hp) (a C : Addr) (fs : List (Str × V)) : Prop := (fs = [] ∧ H' a = some (exo a C none)) ∨ ∃ d, H d = none ∧ H' a = some (exo a C (some d)) ∧ H' d = some (exd d fs)
theorem NewE.kept {H H' : Hp} {a C : Addr} {fs : List (Str × V)} (h : NewE H H' a C fs) : Kept H' a C fs := by
  rcases h with h | ⟨d, _, h⟩
  · exact .inl h
  · exact .inr ⟨d, h⟩
/-- all but a is as it was -/
def But (H H' : Hp) (a : Addr) : Prop := ∀ b o, b ≠ a → H b = some o → H' b = some o
def spIni (K : PySem.W.Frag) (fl : List Str) : Sp := fun vs H Q _ => ∃ (a C : Addr) (xs : List V), vs = .ref a :: xs ∧ xs.length = fl.length ∧ OwC K C ∧ (∀ f ∈ fl, PySem.W.findIn K (.ref C) f = some none) ∧ H a = some (exo a C none) ∧
  ∀ H', But H H' a → NewE H H' a C (fl.zip xs).reverse → Q .non H'
section
variable {P : Program} {w : World} {K : PySem.W.Frag} {mg : Str → Option Value} {base : Heap} {f : Addr} {fd : FuncData} {qual : Str} {st : Stmt}
theorem but_put {H : Hp} {a d : Addr} {o o' : HO} (hd : H d = none) : But H (upd (upd H d o) a o') a := fun b u hb z => by
  rw [upd_ne hb, upd_ne (ne_of_none z hd)]
  exact z
theorem ini0 {pos : Pos} (F : Fun K "__init__" qual st f fd) (S : FnScope ["self"] ["self"] (defScope st)) (hb : defBody st = [.Pass pos]) : FnOk P w K mg base CX0 1 f fd ["self"] (spIni K []) := by
  refine F.ok S (fun vs H Q E h => ?_) (fun cdv A outer s H vs Q E hr h => ?_)
  · obtain ⟨a, C, xs, rfl, l, _⟩ := h
    cases xs with
    | nil => rfl
    | cons _ _ => cases l
  · obtain ⟨a, C, xs, rfl, l, _, _, ea, q⟩ := h
    rw [hb]
    match xs, l with
    | [], _ => exact ⟨_, pss_one ps_pass, q H (fun b o _ z => z) (.inl ⟨rfl, ea⟩)⟩
theorem ini1 {n : Str} {p1 p2 p3 pos : Pos} (F : Fun K "__init__" qual st f fd) (S : FnScope ["self", n] ["self", n] (defScope st)) (hb : defBody st = [.Assign [.Attribute (.Name "self" p1) n p2] (.Name n p3) pos])
    (v0 : Vis (defScope st) "self") (v1 : Vis (defScope st) n) (d1 : (n == ("__debug__" : Str)) = false) (c1 : (n == ("__classdict__" : Str)) = false) :
    FnOk P w K mg base CX0 1 f fd ["self", n] (spIni K [n]) := by
  refine F.ok S (fun vs H Q E h => ?_) (fun cdv A outer s H vs Q E hr h => ?_)
  · obtain ⟨a, C, xs, rfl, l, _⟩ := h
    rw [List.length_cons, l]
    rfl
  · obtain ⟨a, C, xs, rfl, l, T, no, ea, q⟩ := h
    rw [hb]
    match xs, l with
    | [x], _ =>
      refine ⟨_, pss_one (ps_put (pv 0 rfl v0) (pv 1 rfl v1 d1 c1)), ?_⟩
      exact ⟨_, rfl, _, rfl, a, C, rfl, T, no n (List.mem_singleton.mpr rfl), .inl ⟨ea, fun d hd ne => q _ (but_put hd) (.inr ⟨d, hd, upd_same, by rw [upd_ne ne, upd_same]; rfl⟩)⟩⟩
theorem ini2 {n m : Str} {p1 p2 p3 p4 p5 p6 pos pos' : Pos} (F : Fun K "__init__" qual st f fd) (S : FnScope ["self", n, m] ["self", n, m] (defScope st))
    (hb : defBody st = [.Assign [.Attribute (.Name "self" p1) n p2] (.Name n p3) pos, .Assign [.Attribute (.Name "self" p4) m p5] (.Name m p6) pos'])
    (v0 : Vis (defScope st) "self") (v1 : Vis (defScope st) n) (d1 : (n == ("__debug__" : Str)) = false) (c1 : (n == ("__classdict__" : Str)) = false) (v2 : Vis (defScope st) m) (d2 : (m == ("__debug__" : Str)) = false) (c2 : (m == ("__classdict__" : Str)) = false) :
    FnOk P w K mg base CX0 1 f fd ["self", n, m] (spIni K [n, m]) := by
  refine F.ok S (fun vs H Q E h => ?_) (fun cdv A outer s H vs Q E hr h => ?_)
  · obtain ⟨a, C, xs, rfl, l, _⟩ := h
    rw [List.length_cons, l]
    rfl
  · obtain ⟨a, C, xs, rfl, l, T, no, ea, q⟩ := h
    rw [hb]
    match xs, l with
    | [x, y], _ =>
      refine ⟨_, pss_cons (ps_put (pv 0 rfl v0) (pv 1 rfl v1 d1 c1)) (pss_one (ps_put (pv 0 rfl v0) (pv 2 rfl v2 d2 c2))), ?_⟩
      refine ⟨_, rfl, _, rfl, a, C, rfl, T, no n (by simp), .inl ⟨ea, fun d hd ne => ?_⟩⟩
      refine ⟨_, rfl, _, rfl, a, C, rfl, T, no m (by simp), .inr ⟨d, _, upd_same, by rw [upd_ne ne, upd_same], by show 1 ≤ 900; decide, ?_⟩⟩
      refine q _ (fun b o hb z => ?_) (.inr ⟨d, hd, by rw [upd_ne (Ne.symm ne), upd_same], upd_same⟩)
      rw [upd_ne (ne_of_none z hd), upd_ne hb, upd_ne (ne_of_none z hd)]
      exact z
end
/-- such a class of the text: its name, the fields in the order of its parameters -/
structure OwE (P : Program) (w : World) (K : PySem.W.Frag) (mg : Str → Option Value) (base : Heap) (nm : Str) (fl : List Str) (C f : Addr) (fd : FuncData) : Prop where
  own : OwC K C
  ini : PySem.W.findIn K (.ref C) "__init__" = some (some (.ref f))
  ty : PySem.W.typeIn K (.ref f) = some (.type "function")
  xf : XfC K C
  ex : ExcC K C
  no : ∀ n ∈ fl, PySem.W.findIn K (.ref C) n = some none
  g : mg nm = some (.ref C)
  run : FnOk P w K mg base CX0 1 f fd ("self" :: fl) (spIni K fl)
  b : Binds K fd ("self" :: fl) []
def tMk (C : Addr) (fl : List Str) (ta : TA) : TE := fun σ H Q => ta σ H fun vs H1 => vs.length = fl.length ∧ ∀ a H2, Same H1 H2 → Kept H2 a C (fl.zip vs).reverse → Q (.ref a) H2
def tMkK (C : Addr) (fl : List Str) (gV : List V → List V) (n : Nat) (ta : TA) : TE := fun σ H Q => ta σ H fun zs H1 => zs.length = n ∧ ∀ a H2, Same H1 H2 → Kept H2 a C (fl.zip (gV zs)).reverse → Q (.ref a) H2
theorem PE.imp {X : Cx} {e : Expr} {t t' : TE} (h : PE X e t) (k : ∀ σ H Q, t' σ H Q → t σ H Q) : PE X e t' := ⟨fun pins s σ H Q I z => h.run pins s σ H Q I (k σ H Q z)⟩
theorem same_but {H H2 : Hp} {a : Addr} {o : HO} (ha : H a = none) (h : But (upd H a o) H2 a) : Same H H2 := fun b u z => h b u (ne_of_none z ha) (by rw [upd_ne (ne_of_none z ha)]; exact z)
section
variable {X : Cx} {nm : Str} {fl : List Str} {C f : Addr} {fd : FuncData} {e : Expr} {es : List Expr} {ta : TA} {p pos : Pos}
theorem pe_mk (T : OwE X.prog X.w X.K X.mg X.base nm fl C f fd) (hl : fl.length ≤ 1000) (hr : Room 2 X.A) (hg : Gl X nm) (hx : Passes CX0 X (fun _ _ _ => False)) (ha : PA X (e :: es) ta) (hdb : (nm == ("__debug__" : Str)) = false := by decide)
    (he : starEach (e :: es) X.env = (false, eval e X.env) :: starEach es X.env := by rfl) (hpl : (backTo pos (starEach es X.env)).any (·.1) = false := by rfl) : PE X (.Call (.Name nm p) (e :: es) [] pos) (tMk C fl ta) :=
  ⟨fun pins s σ H Q I h => wpAny_Call_Name_kw (ld_glob I hg T.g (PySem.W.callWith_K (h₀ := X.base) I.ok.mod.kin T.own.kC (thn (ha.run pos pins s σ H _ I h) fun us s1 ⟨vs, H1, I1, r1, l, k⟩ => ⟨I1.kIn,
    own_made (dvs := []) T.own T.ini T.ty T.run hr T.b .nil hx I1 r1 (fun a n => ⟨a, C, vs, by rw [List.append_nil], l, T.own, T.no, upd_same, fun H2 bt kt => ⟨rfl, k a H2 (same_but n bt) kt.kept⟩⟩) (by omega)⟩) he hpl) hdb)⟩
theorem pe_mk0 (T : OwE X.prog X.w X.K X.mg X.base nm [] C f fd) (hr : Room 2 X.A) (hg : Gl X nm) (hx : Passes CX0 X (fun _ _ _ => False)) (hdb : (nm == ("__debug__" : Str)) = false := by decide) :
    PE X (.Call (.Name nm p) [] [] pos) (tMk C [] tNil) :=
  ⟨fun pins s σ H Q I h => wpAny_Call_Name_kw (ld_glob I hg T.g (PySem.W.callWith_K0 I.kIn T.own.kC
    (own_made (us := []) (vs := []) (dvs := []) T.own T.ini T.ty T.run hr T.b .nil hx I .nil (fun a n => ⟨a, C, [], rfl, rfl, T.own, T.no, upd_same, fun H2 bt kt => ⟨rfl, h.2 a H2 (same_but n bt) kt.kept⟩⟩) (by decide))) hdb)⟩
theorem pe_mkK {kws : List Keyword} {tk : TA} {ks : List Str} {g : List Value → List Value → List Value} {gV : List V → List V → List V} (T : OwE X.prog X.w X.K X.mg X.base nm fl C f fd) (hb : KBn X.K fd ("self" :: fl) 1 ks g gV) (hr : Room 2 X.A) (hg : Gl X nm)
    (hgV : ∀ (s : V) (zs : List V), zs.length = ks.length → ∃ ys, gV [s] zs = s :: ys ∧ ys.length = fl.length ∧ ∀ s', gV [s'] zs = s' :: ys) (hx : Passes CX0 X (fun _ _ _ => False)) (hkw : PK X kws tk)
    (hall : (backToKw pos (keywordEach kws X.env)).all (·.1.isSome) = true := by rfl) (hks : (backToKw pos (keywordEach kws X.env)).filterMap (·.1) = ks := by rfl) (hdb : (nm == ("__debug__" : Str)) = false := by decide)
    (hpl : ((backTo pos (starEach [] X.env)).any (·.1) || (backToKw pos (keywordEach kws X.env)).any (·.1.isNone)) = false := by rfl) :
    PE X (.Call (.Name nm p) [] kws pos) (tMkK C fl (fun zs => (gV [.non] zs).tail) ks.length tk) :=
  ⟨fun pins s σ H Q I h => wpAny_Call_Name_kw (ld_glob I hg T.g (PySem.W.callWith_KW0 (h₀ := X.base) I.ok.mod.kin T.own.kC hall (thn (hkw.run pos pins s σ H _ I h) fun ws s2 ⟨zs, H2, I2, rz, lz, q2⟩ => ⟨I2.kIn, by
    rw [hks]
    obtain ⟨ys, e0, l0, e1⟩ := hgV .non zs lz
    exact own_madeK T.own T.ini T.ty T.run hr hb hx I2 rz lz fun a n => ⟨a, C, ys, e1 _, l0, T.own, T.no, upd_same, fun H3 bt kt => ⟨rfl, q2 a H3 (same_but n bt) (by show Kept H3 a C (fl.zip (gV [V.non] zs).tail).reverse; rw [e0]; exact kt.kept)⟩⟩⟩) hpl) hdb)⟩
/-- the rest of what is asked of such a value -/
theorem Kept.at {H : Hp} {a C : Addr} {fs : List (Str × V)} (h : Kept H a C fs) : ∃ d, H a = some (exo a C d) ∧ ∀ y, d = some y → ∃ fs, H y = some (exd y fs) := by
  rcases h with ⟨_, h⟩ | ⟨d, h1, h2⟩
  · exact ⟨none, h, fun y z => nomatch z⟩
  · exact ⟨some d, h1, fun y z => by cases z; exact ⟨_, h2⟩⟩
end
/-- such a one raised: what a handler gets -/
theorem thr_of {K : PySem.W.Frag} {C : Addr} {n : Str} {i : Nat} {x : V} {σ : L2.St} {H : Hp} {Q : XK} (T : OwC K C) (no : PySem.W.findIn K (.ref C) n = some none) (hs : σ[i]? = some (some x))
    (k : ∀ d H', Same H H' → H d = none → H' d = some (.xd [(n, x)]) → Q (.ref C) (some d) H') : tThr C (spIni K [n]) [] (tCons (tVar i) tNil) σ H Q := by
  refine ⟨x, hs, Nat.le_of_ble_eq_true rfl, fun a ha => ⟨a, C, [x], rfl, rfl, T, fun f hf => by rw [List.mem_singleton.mp hf]; exact no, upd_same, fun H2 bt kt => ⟨rfl, .inl ?_⟩⟩⟩
  rcases kt with ⟨z, _⟩ | ⟨d, hd, h1, h2⟩
  · cases z
  · have da : d ≠ a := fun z => by
      rw [z, upd_same] at hd
      cases hd
    have hd1 : H d = none := by
      rw [upd_ne da] at hd
      exact hd
    refine ⟨d, _, h1, h2, hd1, k d _ (fun b o z => ?_) hd1 upd_same⟩
    rw [upd_ne (ne_of_none z hd1), del_ne (ne_of_none z ha)]
    exact bt b o (ne_of_none z ha) (by rw [upd_ne (ne_of_none z ha)]; exact z)
end Gn
set_option Elab.async false
set_option linter.all false
set_option maxRecDepth 100000
set_option maxHeartbeats 4000000
/-! what a term makes, told by what holds of its value whatever is made behind it -/
namespace Gn
open PySem PySem.Spec PyProof.Rows L2
abbrev Fact := Hp → V → Prop
def Lasts (R : Fact) : Prop := ∀ H H' v, Same H H' → R H v → R H' v
def Fm (te : TE) (σ : L2.St) (H : Hp) (R : Fact) : Prop := ∀ H1, Same H H1 → ∀ Q : VK, (∀ v H2, Same H1 H2 → R H2 v → Q v H2) → te σ H1 Q
/-- facts of a row of values -/
def AllF : List Fact → Hp → List V → Prop
  | [], _, vs => vs = []
  | R :: Rs, H, v :: vs => R H v ∧ AllF Rs H vs
  | _ :: _, _, [] => False
def LastsAll (Rs : List Fact) : Prop := ∀ R ∈ Rs, Lasts R
def FmA (ta : TA) (σ : L2.St) (H : Hp) (Rs : List Fact) : Prop := ∀ H1, Same H H1 → ∀ Q : List V → Hp → Prop, (∀ vs H2, Same H1 H2 → AllF Rs H2 vs → Q vs H2) → ta σ H1 Q
theorem AllF.lasts : ∀ {Rs : List Fact} {H H' : Hp} {vs : List V}, LastsAll Rs → Same H H' → AllF Rs H vs → AllF Rs H' vs
  | [], _, _, _, _, _, h => h
  | R :: Rs, H, H', v :: vs, m, e, ⟨h, hs⟩ => ⟨m R (List.mem_cons_self ..) H H' v e h, AllF.lasts (fun q z => m q (List.mem_cons_of_mem _ z)) e hs⟩
  | _ :: _, _, _, [], _, _, h => h
theorem AllF.len : ∀ {Rs : List Fact} {H : Hp} {vs : List V}, AllF Rs H vs → vs.length = Rs.length
  | [], _, vs, h => by
    rw [show vs = [] from h]
    rfl
  | R :: Rs, H, v :: vs, ⟨_, hs⟩ => by rw [List.length_cons, hs.len, List.length_cons]
  | _ :: _, _, [], h => h.elim
theorem AllF.app : ∀ {Rs Ss : List Fact} {H : Hp} {vs us : List V}, AllF Rs H vs → AllF Ss H us → AllF (Rs ++ Ss) H (vs ++ us)
  | [], _, _, vs, us, h, g => by
    rw [show vs = [] from h]
    exact g
  | R :: Rs, _, _, v :: vs, us, ⟨h, hs⟩, g => ⟨h, hs.app g⟩
  | _ :: _, _, _, [], _, h, _ => h.elim
theorem AllF.at : ∀ {Rs : List Fact} {H : Hp} {vs : List V} {i : Nat}, AllF Rs H vs → ∀ R, Rs[i]? = some R → ∃ v, vs[i]? = some v ∧ R H v
  | [], _, _, i, _, R, e => by cases e
  | R :: Rs, _, v :: vs, 0, ⟨h, _⟩, R', e => by
    cases e
    exact ⟨v, rfl, h⟩
  | R :: Rs, _, v :: vs, i + 1, ⟨_, hs⟩, R', e => hs.at (i := i) R' e
  | _ :: _, _, [], _, h, _, _ => h.elim
theorem lastsAll_nil : LastsAll [] := fun _ z => nomatch z
theorem lastsAll_cons {R : Fact} {Rs : List Fact} (h : Lasts R) (hs : LastsAll Rs) : LastsAll (R :: Rs) := fun q z => by
  rcases List.mem_cons.mp z with z | z
  · rw [z]
    exact h
  · exact hs q z
theorem lastsAll_app {Rs Ss : List Fact} (h : LastsAll Rs) (g : LastsAll Ss) : LastsAll (Rs ++ Ss) := fun q z => (List.mem_append.mp z).elim (h q) (g q)
section
variable {K : PySem.W.Frag} {σ : L2.St} {H : Hp} {te tb : TE} {ta : TA} {R S : Fact} {Rs Ss : List Fact}
/-- it is this value -/
def isV (v : V) : Fact := fun _ u => u = v
theorem lasts_is {v : V} : Lasts (isV v) := fun _ _ _ _ h => h
theorem fm_c {v : V} : Fm (tC v) σ H (isV v) := fun H1 _ Q q => q v H1 (Same.refl _) rfl
theorem fm_var {i : Nat} {v : V} (h : σ[i]? = some (some v)) : Fm (tVar i) σ H (isV v) := fun H1 _ Q q => ⟨v, h, q v H1 (Same.refl _) rfl⟩
theorem fmA_nil : FmA tNil σ H [] := fun H1 _ Q q => q [] H1 (Same.refl _) rfl
theorem fmA_cons (m : Lasts R) (h : Fm te σ H R) (hs : FmA ta σ H Rs) : FmA (tCons te ta) σ H (R :: Rs) := fun H1 e Q q =>
  h H1 e _ fun v H2 e2 r => hs H2 (e.trans e2) _ fun vs H3 e3 rs => q (v :: vs) H3 (e2.trans e3) ⟨m _ _ _ e3 r, rs⟩
/-- a list of these -/
def isL (Rs : List Fact) : Fact := fun H u => ∃ p vs, u = .ref p ∧ H p = some (.lst vs) ∧ AllF Rs H vs
theorem lasts_L (m : LastsAll Rs) : Lasts (isL Rs) := fun H H' v e ⟨p, vs, q, h, hs⟩ => ⟨p, vs, q, e _ _ h, hs.lasts m e⟩
theorem fm_lst (m : LastsAll Rs) (hl : Rs.length ≤ 1000) (hs : FmA ta σ H Rs) : Fm (tLst ta) σ H (isL Rs) := fun H1 e Q q => hs H1 e _ fun vs H2 e2 rs =>
  ⟨by rw [rs.len, sizeLine_eq]; omega, fun p hp => q _ _ (e2.trans (same_put hp)) ⟨p, vs, rfl, upd_same, rs.lasts m (same_put hp)⟩⟩
theorem fm_cat (m : LastsAll Rs) (n : LastsAll Ss) (hl : Rs.length + Ss.length ≤ 1000) (h : Fm te σ H (isL Rs)) (g : Fm tb σ H (isL Ss)) : Fm (tOp rCat te tb) σ H (isL (Rs ++ Ss)) := fun H1 e Q q =>
  h H1 e _ fun u H2 e2 ⟨p, vs, eu, hp, rs⟩ => g H2 (e.trans e2) _ fun y H3 e3 ⟨p', us, ey, hp', ss⟩ => by
    subst eu ey
    have l1 := rs.len
    have l2 := ss.len
    refine ⟨p, p', vs, us, rfl, rfl, e3 _ _ hp, hp', by rw [l1, l2, sizeLine_eq]; omega, fun r hr => ?_⟩
    exact q _ _ ((e2.trans e3).trans (same_put hr)) ⟨r, vs ++ us, rfl, upd_same, ((rs.lasts m e3).app ss).lasts (lastsAll_app m n) (same_put hr)⟩
/-- an exception of the class at C -/
def isE (C : Addr) (fs : List (Str × V)) : Fact := fun H u => ∃ a, u = .ref a ∧ Kept H a C fs
theorem lasts_E {C : Addr} {fs : List (Str × V)} : Lasts (isE C fs) := fun H H' v e ⟨a, q, h⟩ => ⟨a, q, h.same e⟩
theorem same_all {v : List V} {H : Hp} : AllF (v.map isV) H v := by
  induction v with
  | nil => rfl
  | cons x r ih => exact ⟨rfl, ih⟩
theorem allF_is : ∀ {xs vs : List V} {H : Hp}, AllF (xs.map isV) H vs → vs = xs
  | [], _, _, h => h
  | x :: xs, v :: vs, H, ⟨h, hs⟩ => by rw [show v = x from h, allF_is hs]
  | _ :: _, [], _, h => h.elim
theorem fm_mk {C : Addr} {fl : List Str} {xs : List V} (h : FmA ta σ H (xs.map isV)) (hl : xs.length = fl.length) : Fm (tMk C fl ta) σ H (isE C (fl.zip xs).reverse) := fun H1 e Q q =>
  h H1 e _ fun vs H2 e2 rs => by
    have z := allF_is rs
    subst z
    exact ⟨hl, fun a H3 e3 k => q _ _ (e2.trans e3) ⟨a, rfl, k⟩⟩
theorem fm_mkK {C : Addr} {fl : List Str} {xs : List V} {gV : List V → List V} {n : Nat} (h : FmA ta σ H (xs.map isV)) (hl : xs.length = n) : Fm (tMkK C fl gV n ta) σ H (isE C (fl.zip (gV xs)).reverse) := fun H1 e Q q =>
  h H1 e _ fun vs H2 e2 rs => by
    have z := allF_is rs
    subst z
    exact ⟨hl, fun a H3 e3 k => q _ _ (e2.trans e3) ⟨a, rfl, k⟩⟩
end
end Gn
set_option Elab.async false
set_option linter.all false
set_option maxRecDepth 100000
set_option maxHeartbeats 4000000
/-! arguments of any kind: what isinstance, the checks' questions, tell of them -/
namespace Gn
open PySem PySem.Spec PyProof.Rows L2
mutual
/-- a value that holds d, its lists, tuples and empty dicts being made by the law itself -/
inductive An (K : PySem.W.Frag) (H : Hp) : V → PyData → Prop
  | non : An K H .non .none
  | bl (b : Bool) : An K H (.bl b) (.bool b)
  | int (i : Int) : An K H (.int i) (.int i)
  | str (x : Str) : An K H (.str x) (.str x)
  | lst {a : Addr} {xs : List V} {ds : List PyData} (h : H a = some (.lst xs)) (ne : a ≠ sysModules) (t : AnAll K H xs ds) : An K H (.ref a) (.list ds)
  | tup {a : Addr} {xs : List V} {ds : List PyData} (h : H a = some (.tup xs)) (t : AnAll K H xs ds) : An K H (.ref a) (.tuple ds)
  | dct {a : Addr} (h : H a = some (.dK [])) : An K H (.ref a) (.dict [])
inductive AnAll (K : PySem.W.Frag) (H : Hp) : List V → List PyData → Prop
  | nil : AnAll K H [] []
  | cons {v : V} {vs : List V} {d : PyData} {ds : List PyData} (h : An K H v d) (t : AnAll K H vs ds) : AnAll K H (v :: vs) (d :: ds)
end
theorem tyx_sqt {K : PySem.W.Frag} {H : Hp} {a : Addr} {xs : List V} (h : SqT K H a xs) : TyX K H (.ref a) (.type "tuple") := by
  rcases h with (h | ⟨o, h⟩) | ⟨o, its, n, h, hc, _⟩
  · exact .base (.tup h)
  · exact .fTuple h
  · exact .kTuple h hc
theorem tyx_sql {K : PySem.W.Frag} {H : Hp} {a : Addr} {xs : List V} (h : SqL K H a xs) : TyX K H (.ref a) (.type "list") := by
  rcases h with (h | ⟨o, h⟩) | ⟨o, its, n, h, hc, _⟩
  · exact .base (.lst h)
  · exact .base (.frz h)
  · exact .kList h hc
/-- the name of its type -/
def tyn : PyData → String
  | .none => "NoneType"
  | .bool _ => "bool"
  | .int _ => "int"
  | .str _ => "str"
  | .list _ => "list"
  | .tuple _ => "tuple"
  | .dict _ => "dict"
theorem An.ty {K : PySem.W.Frag} {H : Hp} {v : V} {d : PyData} (h : An K H v d) : TyX K H v (.type (tyn d)) := by
  cases h with
  | dct h => exact .base (.dK h)
  | non => exact .base .non
  | bl b => exact .base (.bl b)
  | int i => exact .base (.int i)
  | str x => exact .base (.str x)
  | lst a _ _ => exact .base (.lst a)
  | tup a _ => exact .base (.tup a)
def isIntB (d : PyData) : Bool := match d with | .int _ => true | .bool _ => true | _ => false
def isBoolB (d : PyData) : Bool := match d with | .bool _ => true | _ => false
def isTupB (d : PyData) : Bool := match d with | .tuple _ => true | _ => false
theorem kit_int {d : PyData} : kitB (tyn d) "int" = some (isIntB d) := by cases d <;> (simp only [tyn, isIntB]; decide +kernel)
theorem kit_bool {d : PyData} : kitB (tyn d) "bool" = some (isBoolB d) := by cases d <;> (simp only [tyn, isBoolB]; decide +kernel)
theorem kit_tup {d : PyData} : kitB (tyn d) "tuple" = some (isTupB d) := by cases d <;> (simp only [tyn, isTupB]; decide +kernel)
/-- an integer, as the program asks it -/
def isInt (d : PyData) : Bool := match d with | .int _ => true | _ => false
def isFr (d : PyData) : Bool := match d with | .tuple [.int t, .int b] => decide (1 ≤ b) && decide (Int.gcd t b = 1) | _ => false
def isSt (d : PyData) : Bool := match d with | .tuple [.int t, .int b] => isFr d && (decide (0 ≤ t) && decide (t < b)) | _ => false
def isPt (d : PyData) : Bool := match d with | .tuple [.int t, .int b] => isFr d && (decide (0 ≤ t) && decide (t ≤ b)) | _ => false
def isNum (d : PyData) (a b : Int) : Bool := match d with | .int i => decide (a ≤ i ∧ i ≤ b) | _ => false
theorem An.isI {K : PySem.W.Frag} {H : Hp} {v : V} {d : PyData} (h : An K H v d) (e : isInt d = true) : ∃ i, v = .int i ∧ d = .int i := by
  cases h with
  | int i => exact ⟨i, rfl, rfl⟩
  | _ => cases e
theorem An.isT {K : PySem.W.Frag} {H : Hp} {v : V} {d : PyData} (h : An K H v d) (e : isTupB d = true) : ∃ a xs ds, v = .ref a ∧ d = .tuple ds ∧ H a = some (.tup xs) ∧ AnAll K H xs ds := by
  cases h with
  | tup a b => exact ⟨_, _, _, rfl, rfl, a, b⟩
  | _ => cases e
theorem dpAll_len {K : PySem.W.Frag} {H : Hp} : ∀ {xs : List V} {ds : List PyData}, AnAll K H xs ds → xs.length = ds.length
  | _, _, .nil => rfl
  | _, _, .cons _ t => congrArg (· + 1) (dpAll_len t)
theorem dpAll_two {K : PySem.W.Frag} {H : Hp} {xs : List V} {ds : List PyData} (h : AnAll K H xs ds) (e : xs.length = 2) : ∃ x y p q, xs = [x, y] ∧ ds = [p, q] ∧ An K H x p ∧ An K H y q := by
  match xs, ds, h, e with
  | [x, y], [p, q], .cons a (.cons b .nil), _ => exact ⟨x, y, p, q, rfl, rfl, a, b⟩
theorem isFr_no {p q : PyData} (h : isInt p = false ∨ isInt q = false) : isFr (.tuple [p, q]) = false := by
  rcases h with h | h
  · cases p with
    | int i => cases h
    | _ => rfl
  · cases q with
    | int i => cases h
    | _ => cases p <;> rfl
theorem isFr_len {ds : List PyData} (h : ds.length ≠ 2) : isFr (.tuple ds) = false := by
  unfold isFr
  split
  · rename_i e
    cases e
    exact absurd rfl h
  · rfl
theorem isFr_ty {d : PyData} (h : isTupB d = false) : isFr d = false := by cases d <;> first | rfl | cases h
theorem isSt_fr {d : PyData} (h : isFr d = false) : isSt d = false := by
  unfold isSt
  split
  · rw [h]; rfl
  · rfl
theorem isPt_fr {d : PyData} (h : isFr d = false) : isPt d = false := by
  unfold isPt
  split
  · rw [h]; rfl
  · rfl
theorem isFr_of {d : PyData} (h : isFr d = true) : ∃ t b, d = .tuple [.int t, .int b] ∧ 1 ≤ b ∧ Int.gcd t b = 1 := by
  unfold isFr at h
  split at h
  · rename_i t b
    simp only [Bool.and_eq_true, decide_eq_true_eq] at h
    exact ⟨t, b, rfl, h.1, h.2⟩
  · cases h
mutual
theorem An.same {K : PySem.W.Frag} {H H' : Hp} (e : Same H H') : ∀ {v : V} {d : PyData}, An K H v d → An K H' v d
  | _, _, .non => .non
  | _, _, .bl b => .bl b
  | _, _, .int i => .int i
  | _, _, .str x => .str x
  | _, _, .lst h n t => .lst (e _ _ h) n (AnAll.same e t)
  | _, _, .tup h t => .tup (e _ _ h) (AnAll.same e t)
  | _, _, .dct h => .dct (e _ _ h)
theorem AnAll.same {K : PySem.W.Frag} {H H' : Hp} (e : Same H H') : ∀ {vs : List V} {ds : List PyData}, AnAll K H vs ds → AnAll K H' vs ds
  | _, _, .nil => .nil
  | _, _, .cons h t => .cons (An.same e h) (AnAll.same e t)
end
/-- no dict in it -/
def flat : PyData → Bool
  | .dict _ => false
  | .list ds => flats ds
  | .tuple ds => flats ds
  | _ => true
where flats : List PyData → Bool
  | [] => true
  | d :: ds => flat d && flats ds
mutual
theorem An.dp {K : PySem.W.Frag} {H : Hp} : ∀ {v : V} {d : PyData}, An K H v d → flat d = true → Dp K H v d
  | _, _, .non, _ => .non
  | _, _, .bl b, _ => .bl b
  | _, _, .int i, _ => .int i
  | _, _, .str x, _ => .str x
  | _, _, .lst h _ t, f => .lst (.inl (.inl h)) (AnAll.dp t (by simpa only [flat] using f))
  | _, _, .tup h t, f => .tup (.inl (.inl h)) (AnAll.dp t (by simpa only [flat] using f))
  | _, _, .dct h, f => by simp only [flat] at f; cases f
theorem AnAll.dp {K : PySem.W.Frag} {H : Hp} : ∀ {vs : List V} {ds : List PyData}, AnAll K H vs ds → flat.flats ds = true → DpAll K H vs ds
  | _, _, .nil, _ => .nil
  | _, _, .cons h t, f => by
    simp only [flat.flats, Bool.and_eq_true] at f
    exact .cons (An.dp h f.1) (AnAll.dp t f.2)
end
end Gn
set_option Elab.async false
set_option linter.all false
set_option maxRecDepth 100000
set_option maxHeartbeats 8000000
namespace My
open PySem PySem.Spec PyProof.Rows L2 Gn
/-! the program's questions, of arguments of any kind -/
abbrev sIsPart : Stmt := top 22
theorem scIsPart : FnScope ["given"] ["given"] (defScope sIsPart) := ⟨rfl, rfl, rfl, by decide +kernel, rfl, by decide +kernel, by decide +kernel⟩
def spAsk (K : PySem.W.Frag) (r : PyData → Bool) : Sp := fun vs H Q _ => ∃ v d, vs = [v] ∧ An K H v d ∧ Q (.bl (r d)) H
def spNumA (K : PySem.W.Frag) : Sp := fun vs H Q _ => ∃ (v : V) (d : PyData) (a b : Int), vs = [v, .int a, .int b] ∧ An K H v d ∧ Q (.bl (isNum d a b)) H
section
variable {P : Program} {w : World} {K : PySem.W.Frag} {mg : Str → Option Value} {base : Heap}
theorem ok_isIntA {f : Addr} {fd : FuncData} (F : Fun K "is_integer" "is_integer" sIsInt f fd) (B : Bc mg) : FnOk P w K mg base CX0 1 f fd ["given"] (spAsk K isInt) := by
  refine F.ok scIsInt (fun vs H Q E h => ?_) (fun cdv A outer s H vs Q E hr h => ?_)
  · obtain ⟨v, d, rfl, _⟩ := h
    rfl
  · obtain ⟨v, d, rfl, an, q⟩ := h
    refine ⟨_, pss_one (ps_ret (pe_and (pe_callB call_isi (by rfl) B.isi (by decide +kernel) (pa_cons (pv 0) (pa_cons (pe_bltn (v := .ty "int") (by rfl) B.int (by decide +kernel) rfl) pa_nil)))
      (pe_one (pe_not (pe_callB call_isi (by rfl) B.isi (by decide +kernel) (pa_cons (pv 0) (pa_cons (pe_bltn (v := .ty "bool") (by rfl) B.bool (by decide +kernel) rfl) pa_nil))))))), ?_⟩
    refine ⟨_, rfl, v, .ty "int", _, _, _, rfl, .ty "int", an.ty, kit_ty kit_int, _, rfl, ?_⟩
    cases ei : isIntB d with
    | false =>
      refine iteF ?_
      have e : isInt d = false := by cases d <;> first | rfl | cases ei
      rw [e] at q
      exact q
    | true =>
      refine iteT ⟨_, rfl, v, .ty "bool", _, _, _, rfl, .ty "bool", an.ty, kit_ty kit_bool, _, rfl, ?_⟩
      have e : isInt d = !(isBoolB d) := by cases d <;> first | rfl | cases ei
      rw [e] at q
      exact q
theorem ok_isFrA {f fI : Addr} {fd fdI : FuncData} (F : Fun K "is_fraction" "is_fraction" sIsFr f fd) (B : Bc mg) (D : Df K mg "is_integer" sIsInt ["given"] fI fdI) : FnOk P w K mg base CX0 2 f fd ["given"] (spAsk K isFr) := by
  have GI : FnOk P w K mg base CX0 1 fI fdI ["given"] (spAsk K isInt) := ok_isIntA D.F B
  refine F.ok scIsFr (fun vs H Q E h => ?_) (fun cdv A outer s H vs Q E hr h => ?_)
  · obtain ⟨v, d, rfl, _⟩ := h
    rfl
  · obtain ⟨v, d, rfl, an, q⟩ := h
    refine ⟨_, pss_cons (ps_if (PW.pt (pw_or (pt_not (pt_val (pe_callB call_isi (by rfl) B.isi (by decide +kernel) (pa_cons (pv 0) (pa_cons (pe_bltn (v := .ty "tuple") (by rfl) B.tuple (by decide +kernel) rfl) pa_nil)))))
        (pw_or1 (pt_cmpR op_ne (pe_callB call_len_seq (by rfl) B.len PySem.boot_len (pa_cons (pv 0) pa_nil)) pe_int (nomark _))))) (pss_one (ps_ret pe_bl)) pss_nil)
      (pss_cons (ps_asg (pv 0) (pg_tup (by rfl) (pgs_cons (pg_name (i := 1) scIsFr.nd rfl (.inl rfl)) (pgs_cons (pg_name (i := 2) scIsFr.nd rfl (.inl rfl)) pgs_nil))))
      (pss_cons (ps_if (PW.pt (pw_or (pt_not (pt_val (pe_call GI hr (by rfl) D.g D.F.kp D.b .nil pass0 (pa_cons (pv 1) pa_nil)))) (pw_or1 (pt_not (pt_val (pe_call GI hr (by rfl) D.g D.F.kp D.b .nil pass0 (pa_cons (pv 2) pa_nil))))))) (pss_one (ps_ret pe_bl)) pss_nil)
      (pss_one (ps_ret (pe_and (pe_cmpR op_ge (pv 2) pe_int (nomark _)) (pe_one (pe_cmpR op_eq (pe_callBfun cr_gcd (by rfl) B.gcd (pa_cons (pv 1) (pa_cons (pv 2) pa_nil))) pe_int (nomark _)))))))), ?_⟩
    refine ⟨_, rfl, v, .ty "tuple", _, _, _, rfl, .ty "tuple", an.ty, kit_ty kit_tup, _, rfl, ?_⟩
    cases et : isTupB d with
    | false =>
      rw [isFr_ty et] at q
      exact iteT q
    | true =>
      refine iteF ?_
      obtain ⟨a, xs, ds, rfl, rfl, hT, all⟩ := an.isT et
      have sq : SqT K H a xs := SqT.of hT
      refine ⟨_, rfl, a, xs, rfl, .inr sq, rfl, _, rfl, ?_⟩
      by_cases hl : xs.length = 2
      · obtain ⟨x, y, p, p', rfl, rfl, dx, dy⟩ := dpAll_two all hl
        refine iteF ⟨_, rfl, a, _, rfl, sq, rfl, _, _, rfl, _, _, rfl, rfl, ?_⟩
        refine ⟨_, rfl, x, p, rfl, dx, _, rfl, ?_⟩
        cases e1 : isInt p with
        | false =>
          rw [isFr_no (.inl e1)] at q
          exact iteT q
        | true =>
          refine iteF ⟨_, rfl, y, p', rfl, dy, _, rfl, ?_⟩
          cases e2 : isInt p' with
          | false =>
            rw [isFr_no (.inr e2)] at q
            exact iteT q
          | true =>
            refine iteF ?_
            obtain ⟨i, rfl, rfl⟩ := dx.isI e1
            obtain ⟨j, rfl, rfl⟩ := dy.isI e2
            refine ⟨_, rfl, _, _, rfl, rfl, _, rfl, ?_⟩
            by_cases c : (1 : Int) ≤ j
            · rw [decide_eq_true c]
              refine iteT ⟨_, rfl, _, rfl, i, j, rfl, ?_⟩
              simp only [isFr, decide_eq_true c, Bool.true_and] at q
              have e : decide (V.int ((Nat.gcd i.natAbs j.natAbs : Nat) : Int) = V.int 1) = decide (Int.gcd i j = 1) := by
                rw [decide_eq_decide, V.int.injEq]
                show ((Int.gcd i j : Nat) : Int) = 1 ↔ _
                omega
              rw [← e] at q
              exact ⟨rfl, q⟩
            · rw [decide_eq_false c]
              refine iteF ?_
              simp only [isFr, decide_eq_false c, Bool.false_and] at q
              exact q
      · rw [isFr_len (fun z => hl ((dpAll_len all).trans z))] at q
        have e : (!(decide (V.int (xs.length : Int) = V.int 2))) = true := by
          rw [decide_eq_false, Bool.not_false]
          intro z
          rw [V.int.injEq] at z
          exact hl (by omega)
        show if (!(decide (V.int (xs.length : Int) = V.int 2))) = true then _ else _
        rw [e]
        exact iteT q
theorem ok_isStepA {f fI fR : Addr} {fd fdI fdR : FuncData} (F : Fun K "is_step" "is_step" sIsStep f fd) (B : Bc mg) (D : Df K mg "is_integer" sIsInt ["given"] fI fdI) (R : Df K mg "is_fraction" sIsFr ["given"] fR fdR) : FnOk P w K mg base CX0 3 f fd ["given"] (spAsk K isSt) := by
  have GR : FnOk P w K mg base CX0 2 fR fdR ["given"] (spAsk K isFr) := ok_isFrA R.F B D
  refine F.ok scIsStep (fun vs H Q E h => ?_) (fun cdv A outer s H vs Q E hr h => ?_)
  · obtain ⟨v, d, rfl, _⟩ := h
    rfl
  · obtain ⟨v, d, rfl, an, q⟩ := h
    refine ⟨_, pss_one (ps_ret (pe_and (pe_call GR hr (by rfl) R.g R.F.kp R.b .nil pass0 (pa_cons (pv 0) pa_nil)) (pe_one (pe_chain op_le op_lt pe_int (pe_ix ix_tup (pv 0) pe_int (fun _ _ => rfl)) (pe_ix ix_tup (pv 0) pe_int (fun _ _ => rfl)))))), ?_⟩
    refine ⟨_, rfl, v, d, rfl, an, _, rfl, ?_⟩
    cases ef : isFr d with
    | false =>
      rw [isSt_fr ef] at q
      exact iteF q
    | true =>
      obtain ⟨t, b, rfl, b1, co⟩ := isFr_of ef
      obtain ⟨a, xs, ds, rfl, z, hT, all⟩ := an.isT rfl
      cases z
      obtain ⟨x, y, p, p', rfl, z, dx, dy⟩ := dpAll_two all ((dpAll_len all).trans rfl)
      cases z
      cases dx
      cases dy
      have sq : SqT K H a [.int t, .int b] := SqT.of hT
      simp only [isSt, ef, Bool.true_and] at q
      refine iteT ⟨_, rfl, a, _, 0, .int t, rfl, rfl, sq, at_of (j := 0) rfl rfl, _, _, rfl, rfl, _, rfl, ?_⟩
      refine ite2 (fun hc => ?_) (fun hc => ?_)
      · refine ⟨_, rfl, a, _, 1, .int b, rfl, rfl, sq, at_of (j := 1) rfl rfl, _, _, rfl, rfl, ?_⟩
        rw [hc, Bool.true_and] at q
        exact q
      · rw [Bool.eq_false_iff.mpr hc, Bool.false_and] at q
        exact q
theorem ok_isPartA {f fI fR : Addr} {fd fdI fdR : FuncData} (F : Fun K "is_part" "is_part" sIsPart f fd) (B : Bc mg) (D : Df K mg "is_integer" sIsInt ["given"] fI fdI) (R : Df K mg "is_fraction" sIsFr ["given"] fR fdR) : FnOk P w K mg base CX0 3 f fd ["given"] (spAsk K isPt) := by
  have GR : FnOk P w K mg base CX0 2 fR fdR ["given"] (spAsk K isFr) := ok_isFrA R.F B D
  refine F.ok scIsPart (fun vs H Q E h => ?_) (fun cdv A outer s H vs Q E hr h => ?_)
  · obtain ⟨v, d, rfl, _⟩ := h
    rfl
  · obtain ⟨v, d, rfl, an, q⟩ := h
    refine ⟨_, pss_one (ps_ret (pe_and (pe_call GR hr (by rfl) R.g R.F.kp R.b .nil pass0 (pa_cons (pv 0) pa_nil)) (pe_one (pe_chain op_le op_le pe_int (pe_ix ix_tup (pv 0) pe_int (fun _ _ => rfl)) (pe_ix ix_tup (pv 0) pe_int (fun _ _ => rfl)))))), ?_⟩
    refine ⟨_, rfl, v, d, rfl, an, _, rfl, ?_⟩
    cases ef : isFr d with
    | false =>
      rw [isPt_fr ef] at q
      exact iteF q
    | true =>
      obtain ⟨t, b, rfl, b1, co⟩ := isFr_of ef
      obtain ⟨a, xs, ds, rfl, z, hT, all⟩ := an.isT rfl
      cases z
      obtain ⟨x, y, p, p', rfl, z, dx, dy⟩ := dpAll_two all ((dpAll_len all).trans rfl)
      cases z
      cases dx
      cases dy
      have sq : SqT K H a [.int t, .int b] := SqT.of hT
      simp only [isPt, ef, Bool.true_and] at q
      refine iteT ⟨_, rfl, a, _, 0, .int t, rfl, rfl, sq, at_of (j := 0) rfl rfl, _, _, rfl, rfl, _, rfl, ?_⟩
      refine ite2 (fun hc => ?_) (fun hc => ?_)
      · refine ⟨_, rfl, a, _, 1, .int b, rfl, rfl, sq, at_of (j := 1) rfl rfl, _, _, rfl, rfl, ?_⟩
        rw [hc, Bool.true_and] at q
        exact q
      · rw [Bool.eq_false_iff.mpr hc, Bool.false_and] at q
        exact q
theorem ok_isNumA {f fI : Addr} {fd fdI : FuncData} (F : Fun K "is_number" "is_number" sIsNum f fd) (B : Bc mg) (D : Df K mg "is_integer" sIsInt ["given"] fI fdI) : FnOk P w K mg base CX0 2 f fd ["given", "least", "most"] (spNumA K) := by
  have GI : FnOk P w K mg base CX0 1 fI fdI ["given"] (spAsk K isInt) := ok_isIntA D.F B
  refine F.ok scIsNum (fun vs H Q E h => ?_) (fun cdv A outer s H vs Q E hr h => ?_)
  · obtain ⟨v, d, a, b, rfl, _⟩ := h
    rfl
  · obtain ⟨v, d, a, b, rfl, an, q⟩ := h
    refine ⟨_, pss_one (ps_ret (pe_and (pe_call GI hr (by rfl) D.g D.F.kp D.b .nil pass0 (pa_cons (pv 0) pa_nil)) (pe_one (pe_chain op_le op_le (pv 1) (pv 0) (pv 2))))), ?_⟩
    refine ⟨_, rfl, v, d, rfl, an, _, rfl, ?_⟩
    cases ei : isInt d with
    | false =>
      have e : isNum d a b = false := by cases d <;> first | rfl | cases ei
      rw [e] at q
      exact iteF q
    | true =>
      obtain ⟨i, rfl, rfl⟩ := an.isI ei
      refine iteT ⟨_, rfl, _, rfl, _, _, rfl, rfl, _, rfl, ?_⟩
      refine ite2 (fun hc => ?_) (fun hc => ?_)
      · have h1 : a ≤ i := of_decide_eq_true hc
        refine ⟨_, rfl, _, _, rfl, rfl, ?_⟩
        have e : isNum (.int i) a b = decide (i ≤ b) := by
          show decide (a ≤ i ∧ i ≤ b) = _
          rw [decide_eq_decide]; exact ⟨fun z => z.2, fun z => ⟨h1, z⟩⟩
        rw [e] at q
        exact q
      · have h1 : ¬ a ≤ i := fun z => hc (decide_eq_true z)
        have e : isNum (.int i) a b = false := decide_eq_false fun z => h1 z.1
        have e2 : decide (a ≤ i) = false := decide_eq_false h1
        rw [e] at q
        exact q
end
end My
set_option Elab.async false
set_option linter.all false
set_option maxRecDepth 100000
set_option maxHeartbeats 4000000
/-! a handler for three classes, whose exception has a name -/
namespace L2
open PySem PySem.Spec PyProof.Rows
/-- what such a handler wants where its body raises -/
def wTri (K : PySem.W.Frag) (cs : List Value) (j : Nat) (su : Addr → Value → Option Addr → TS) (Wo : WX) (D : Ends) : WX := fun C d τ G =>
  ∃ hit, PySem.W.exmAny K C cs = some hit ∧
    (hit = true → ∀ x, G x = none → su x C d { rt := D.rt, nx := fun τ' G' => D.nx (τ'.set j none) G', ct := fun τ' G' => D.ct (τ'.set j none) G', bk := fun τ' G' => D.bk (τ'.set j none) G' } (τ.set j (some (.ref x))) G) ∧
    (hit = false → Wo C d τ G)
def triO (u v z : Value) : Obj := { cls := .type "tuple", data := .seq [u, v, z].toArray }
section
variable {X : Cx} {pins : List (Addr × Obj)} {τ : St} {G : Hp} {t0 t1 : Shared}
theorem ev_named {Q E : Value → Shared → Prop} {x : Str} {c : Value} {ps : Pos} (J : Inv X pins τ G t1) (nm : Names X x c) (z : Q c t1) : wpAny (model X.prog X.w) X.A (eval (.Name x ps) X.env) Q E t1 := by
  obtain ⟨g, nd, m⟩ := nm
  rcases m with e | ⟨e, b, o⟩
  · exact ld_glob J g e z nd
  · exact ld_blt J g e b z o nd
theorem ev_tri {Q E : Value → Shared → Prop} {x y z : Str} {u v r : Value} {p1 p2 p3 pt : Pos} {kk : Nat} (J : Inv X pins τ G t1) (n1 : Names X x u) (n2 : Names X y v) (n3 : Names X z r)
    (q : Q (.ref t1.heap.objs.size) { t1 with heap := t1.heap.push (triO u v r) }) : wpAny (model X.prog X.w) X.A (eval (.Tuple [.Name x p1, .Name y p2, .Name z p3] kk pt) X.env) Q E t1 :=
  wpAny_Tuple (wpAny_items_cons (ev_named J n1 (wpAny_items_cons (ev_named J n2 (wpAny_items_cons (ev_named J n3 (wpAny_items_nil ⟨by size_fits, q⟩)))))))
/-- the handler's side: x flies, as it was told, and all else stands -/
structure Down (X : Cx) (pins : List (Addr × Obj)) (τ : St) (G : Hp) (t0 t1 : Shared) (B : Heap) (x : Addr) (C : Value) (d : Option Addr) : Prop where
  was : Inv X pins τ G t0
  nb : ∀ b o, t0.heap.get? b = some o → b ∉ frs X.stack → B.get? b = some o
  up : t0.heap.UpToSlots t1.heap
  fly : HandSPX.FlyingZ B (X.env :: X.outer) x (Zc C d) t1.heap
  new : G x = none
  os : t1.os = t0.os
  ag : AllBare t1.gens
variable {B : Heap} {x : Addr} {C : Value} {d : Option Addr}
theorem Down.inv (S : Down X pins τ G t0 t1 B x C d) : Inv X pins τ G t1 := S.was.landed S.nb S.fly.1 S.up S.os S.ag
theorem Down.on (S : Down X pins τ G t0 t1 B x C d) {h : Heap} (f : HandSPX.FlyingZ B (X.env :: X.outer) x (Zc C d) h) (u : t1.heap.UpToSlots h) : Down X pins τ G t0 { t1 with heap := h } B x C d :=
  ⟨S.was, S.nb, S.up.trans u, f, S.new, S.os, S.ag⟩
theorem Down.more (S : Down X pins τ G t0 t1 B x C d) (o : Obj) : Down X pins τ G t0 { t1 with heap := t1.heap.push o } B x C d := by
  have k : ∀ b u, t1.heap.get? b = some u → (t1.heap.push o).get? b = some u := fun _ _ z => Heap.get?_push_of_some _ z
  refine S.on ?_ (Heap.UpToSlots.of_keeps k)
  obtain ⟨a1, a2, a3, oe, w, T, oT, r, g1, g2, g3, g4, g5, g6, g7, g8⟩ := S.fly
  exact ⟨fun b u z => k b u (a1 b u z), a2, a3.of_keeps fun b u z _ => ⟨u, k b u z, rfl⟩, oe, w, T, oT, r, k _ _ g1, g2, g3, g4, g5, g6, k _ _ g7, g8⟩
theorem Down.suite (S : Down X pins τ G t0 t1 B x C d) (es : X.stack = X.env :: X.outer) (ef : X.env.frame = some X.env.locals) :
    ∃ oe, t1.heap.get? x = some oe ∧ Zc C d oe ∧ (∃ w, oe.data = .fields w) ∧ Inv (X.suite x ((x, oe) :: (X.pn ++ pins))) [] τ G t1 := by
  obtain ⟨oe, w, g, z, dt⟩ := S.fly.there
  have off : x ∉ frs (X.env :: X.outer) := fun m => by
    obtain ⟨_, o', e, nf⟩ := S.fly.2.2.1.mem m
    cases g.symm.trans e
    exact nf _ dt
  refine ⟨oe, g, z, ⟨w, dt⟩, S.inv.suite g dt S.new (fun e => off ?_) fun m => off ?_⟩
  · exact List.mem_filterMap.mpr ⟨X.env, by simp, by rw [ef, e]⟩
  · obtain ⟨v, m1, m2⟩ := List.mem_filterMap.mp m
    exact List.mem_filterMap.mpr ⟨v, List.mem_cons.mpr (.inr m1), m2⟩
end
section
variable {X : Cx} {y1 y2 y3 n : Str} {u1 u2 u3 : Value} {j : Nat} {bd su : List Stmt} {s₀ : Stmt} {q1 q2 q3 qt qh qq : Pos} {kk : Nat} {tb : WX → TS} {ts : Addr → Value → Option Addr → TS} {Wo : WX}
theorem ps_try_tri (es : X.stack = X.env :: X.outer) (ef : X.env.frame = some X.env.locals) (nd : X.N.Nodup) (at_ : X.N[j]? = some n) (lo : X.env.kindOf n = some .local) (m1 : Names X y1 u1) (m2 : Names X y2 u2) (m3 : Names X y3 u3) (tk : Takes X Wo)
    (B : ∀ (W : WX) (pn : List (Addr × Obj)) (xe : Value → Shared → Prop), Takes (X.tr pn xe) W → PassesOwn (model X.prog X.w) X.A X.env xe → PSs (X.tr pn xe) bd (tb W))
    (S : ∀ (x : Addr) (oe : Obj) (C : Value) (d : Option Addr) (pn : List (Addr × Obj)), Zc C d oe → (∃ w, oe.data = .fields w) → PSs (X.suite x ((x, oe) :: pn)) (s₀ :: su) (ts x C d)) :
    PS X (.Try bd [.ExceptHandler (some (.Tuple [.Name y1 q1, .Name y2 q2, .Name y3 q3] kk qt)) (some n) (s₀ :: su) qh] [] [] qq) (fun D τ G => tb (wTri X.K [u1, u2, u3] j ts Wo D) D τ G) := by
  constructor
  intro pins t τ G D J want
  have ok := J.ok
  have frames : X.A.frames = some (X.env :: X.outer) := ok.frames.trans (by rw [es])
  let hs := [ExceptHandler.ExceptHandler (some (.Tuple [.Name y1 q1, .Name y2 q2, .Name y3 q3] kk qt)) (some n) (s₀ :: su) qh]
  let after : Value → Shared → Prop := fun e t1 => wpAny (model X.prog X.w) X.A (noteFrame e X.env) (fun _ t2 => wpAny (model X.prog X.w) X.A (setFlight e none) (fun _ t3 => wpAny (model X.prog X.w) X.A (handleBy e X.env hs) (SP X pins D) X.xe t3) X.xe t2) X.xe t1
  have look : Takes (X.tr (X.pn ++ pins) after) (wTri X.K [u1, u2, u3] j ts Wo D) := by
    rintro e t1 ⟨x, H0, sI, pi, τ1, G1, C, d, rfl, J1, nb, up, sky, new, os, ag, hit, hm, yes, no⟩
    show wpAny (model X.prog X.w) X.A (noteFrame (.ref x) X.env) _ _ _
    rw [show X.stack = X.env :: X.outer from es] at sky
    refine Sky.land Zc.steady frames ef sky fun h fl u => ?_
    have D1 : Down X pins τ1 G1 sI { t1 with heap := h } H0 x C d := ⟨J1.ofTry ok, nb, up.trans u, fl, new, os, ag⟩
    obtain ⟨oe, ge, gz, gd, I1⟩ := D1.suite es ef
    refine wpAny_handleBy_cons (codeAny_handlers_test (ev_tri I1 m1 m2 m3 ?_)) (by intro z; cases z)
    have D2 := D1.more (triO u1 u2 u3)
    have there : (h.push (triO u1 u2 u3)).get? x = some oe := Heap.get?_push_of_some _ ge
    have LT : PySem.W.Looks (model X.prog X.w) (h.push (triO u1 u2 u3)) (typeOf (.ref x)) C := fun A Q E s k z => wpAny_typeOf_ref (k _ _ there) (by rw [gz.1]; exact z)
    refine (PySem.W.exm_tup3 D2.inv.kIn LT (Heap.get?_push_size h rfl) hm).here ?_
    cases hit
    · show wpAny _ X.A (handleBy (.ref x) X.env []) _ _ _
      refine wpAny_handleBy_nil ?_
      obtain ⟨_, _, _, o2, w, T, _, _, g1, _, g3, g4, _⟩ := id D2.fly
      have away : wpAny (model X.prog X.w) X.A (setFlight (.ref x) X.env.frame) (fun _ t5 => wpAny (model X.prog X.w) X.A (throw (.ref x) : Sem Flow) (SP X pins D) X.xe t5) X.xe { t1 with heap := h.push (triO u1 u2 u3) } := by
        rw [ef]
        exact HandSPX.setFlight_upZ D2.fly fun h' held u' => wpAny_throw (tk _ _ ⟨x, H0, sI, pins, τ1, G1, C, d, rfl, D2.was, nb, D2.up.trans u', .inr (.inr (by rw [es]; exact held)), new, os, ag, no rfl⟩)
      unfold PySem.passOn
      refine wpAny_bind (wpAny_field g1 g3 g4 ?_)
      rw [if_neg (by simp : ¬ ((Value.ref T == Value.none) = true))]
      first
        | exact wpAny_bind (wpAny_pure (wpAny_bind away))
        | exact wpAny_bind away
    · refine codeAny_handlers_suite_as (HandSPX.lands_againZ D2.fly fun h' fl' u' => ?_)
      obtain ⟨o3, _, z3, d3, I3⟩ := (D2.on fl' u').suite es ef
      refine store_ok (X := X.suite x ((x, o3) :: (X.pn ++ pins))) (v := .ref x) I3 nd at_ (.inl lo) rfl (fun t5 I5 => ?_) (.inr lo)
      have off : ∀ {τ6 : St} {G6 : Hp} {t6 : Shared} {Q : Shared → Prop}, Inv (X.suite x ((x, o3) :: (X.pn ++ pins))) [] τ6 G6 t6 → (∀ t7, Inv X pins (τ6.set j none) G6 t7 → Q t7) →
          wpAny (model X.prog X.w) X.A (do bindName X.env n .none; unbindBehindTheSuite X.env n qh) (fun _ t7 => Q t7) X.xe t6 := fun I6 go => gone_ok (I6.unsuite ok) nd at_ lo go
      refine wpAny_mono ((S x o3 C d (X.pn ++ pins) z3 d3).run [] t5 _ G1 _ I5 (yes rfl x new)) (fun fl t6 out => ?_) fun _ _ z => z.elim
      cases fl <;> first
        | (obtain ⟨τ6, G6, I6, w6⟩ := out; exact off I6 fun t7 I7 => ⟨_, _, I7, w6⟩)
        | (obtain ⟨v6, τ6, G6, I6, e6, w6⟩ := out; exact off I6 fun t7 I7 => ⟨_, _, _, I7, e6, w6⟩)
  refine wpAny_Try_except (wpAny_mono ((B _ _ after look PassesOwn.looking).run [] t τ G D (J.toTry _) want) (fun fl t1 out => ?_) fun _ _ z => z)
  cases fl <;> first
    | (obtain ⟨τ1, G1, I1, w1⟩ := out; exact wpAny_execs_nil ⟨τ1, G1, I1.ofTry ok, w1⟩)
    | (obtain ⟨τ1, G1, I1, w1⟩ := out; exact ⟨τ1, G1, I1.ofTry ok, w1⟩)
    | (obtain ⟨v1, τ1, G1, I1, e1, w1⟩ := out; exact ⟨v1, τ1, G1, I1.ofTry ok, e1, w1⟩)
end
end L2
set_option Elab.async false
set_option linter.all false
set_option maxRecDepth 100000
set_option maxHeartbeats 4000000
/-! within a handler: a walk over a list comes to its end; a comprehension over a list -/
namespace HotX
open PySem PySem.Spec PyProof.Rows
section
variable {prog : Program} {w : World} {A : Around} {E : Value → Shared → Prop} {s : Shared}
theorem list_ends {j l y : Addr} {i : Nat} {vs : Array Value} {Q : Option Value → Shared → Prop} (hot : HotAt A y s.heap) (ne : y ≠ j) (J : s.heap.IsListIter j l i) (L : s.heap.IsList l vs) (out : vs[i]? = none)
    (q : ∀ h, (∀ b o, b ≠ j → s.heap.get? b = some o → h.get? b = some o) → Q none { s with heap := h }) : wpAny (model prog w) A (pyNext (.ref j)) Q E s := by
  obtain ⟨o, ho, hc, hd⟩ := id J
  obtain ⟨ol, hol, _, nl, hdl⟩ := L
  obtain ⟨hh, oy, ys, h1, d1, c1⟩ := hot
  unfold pyNext
  refine wpAny_bind (wpAny_attempt (wpAny_callSpecial?_slot (name := Str.ofString "__next__") J.typeIs slot_listiter_next (wpAny_call_entry slot_listiter_next J.typeIs entry_listiter_next ?_ (args_listiter_next _))))
  change wpAny _ _ (field (.ref j) 0 >>= _) _ _ s
  refine wpAny_bind (wpAny_field ho hd (x := .ref l) rfl ?_)
  show wpAny _ _ (ite ((Value.ref l == Value.none) = true) _ _) _ _ _
  rw [if_neg (fun z => nomatch z : ¬ ((Value.ref l == Value.none) = true))]
  change wpAny _ _ (field (.ref j) 1 >>= _) _ _ s
  refine wpAny_bind (wpAny_field ho hd (x := .int i 0) rfl ?_)
  change wpAny _ _ (seqItems? (.ref l) >>= _) _ _ s
  refine wpAny_bind (wpAny_seqItems hol hdl ?_)
  simp only [Int.toNat_natCast, out]
  refine wpAny_bind (wpAny_rule (wpAny_bind (wpAny_setField ho hd (by simp) ?_)))
  change wpAny _ _ (newExc (.type "StopIteration") [] >>= _) _ _ _
  refine wpAny_bind ?_
  simp only [newExc, newTuple]
  have k1 : ∀ b u, b ≠ j → s.heap.get? b = some u → (s.heap.update j (Obj.mapFields (·.setIfInBounds 0 Value.none))).get? b = some u := fun b u n e => (Heap.get?_update_other _ _ n.symm).trans e
  refine wpAny_bind (wpAny_newObj_type ?_ (by size_fits))
  refine wpAny_bind (m := firstArgMember _ _) (wpAny_of_eq (a := Value.none) (by first | rfl | (simp only [firstArgMember]; rfl)) ?_)
  refine wpAny_newObj_type ?_ (by size_fits)
  have top := Heap.get?_push_of_some { cls := .type "tuple", data := .seq ([] : List Value).toArray } (k1 y oy ne h1)
  refine raiseNew_hot ⟨hh, oy, ys, Heap.get?_push_of_some _ top, d1, c1⟩ (Nat.ne_of_lt (Heap.lt_size top)) (Heap.get?_push_size _ rfl) rfl (by first | (simp; done) | (simp; omega)) ?_
  refine wpAny_bind (wpAny_isInstance (T := "StopIteration") (b := true) ⟨_, Heap.get?_update_self _ (Heap.get?_push_size _ rfl) rfl, rfl⟩ isSubtype_stop (wpAny_pure (q _ fun b u n e => ?_)))
  have z := Heap.get?_push_of_some { cls := .type "tuple", data := .seq ([] : List Value).toArray } (k1 b u n e)
  rw [Heap.get?_update_other _ _ (Nat.ne_of_gt (Heap.lt_size z))]
  exact Heap.get?_push_of_some _ z
/-- all items of a list, taken one by one -/
theorem list_items {l y : Addr} {vs : Array Value} {Q : List Value → Shared → Prop} (hot : HotAt A y s.heap) (L : s.heap.IsList l vs) (q : ∀ h, Heap.ExtBut s.heap.objs.size s.heap h → Q vs.toList { s with heap := h }) :
    wpAny (model prog w) A (unpackItems (.ref l) vs.size none) Q E s := by
  have lj : l ≠ s.heap.objs.size := by
    obtain ⟨o, e, _⟩ := L
    exact Nat.ne_of_lt (Heap.lt_size e)
  obtain ⟨hh, oy, ys, h1, d1, c1⟩ := hot
  have yj : y ≠ s.heap.objs.size := Nat.ne_of_lt (Heap.lt_size h1)
  unfold unpackItems
  refine wpAny_bind ?_
  unfold notIterableAtAll
  refine wpAny_bind (wpAny_specialOf L.typeIs slot_list_iter.lookup (wpAny_pure ?_))
  simp only [Bool.false_eq_true, if_false]
  refine wpAny_bind (wpAny_holding (wpAny_pyIter_list L (wpAny_bind (wpAny_holding (PySem.W.kun_draw lj vs.size 0 _ _ ⟨_, Heap.get?_push_size _ rfl, rfl, rfl⟩ (L.push _) (by omega) fun h2 i2 s2 => ?_)))))
  have all : List.take vs.size (List.drop 0 vs.toList) = vs.toList := by
    rw [List.drop_zero]
    exact List.take_of_length_le (by simp)
  rw [all, if_neg (by simp)]
  have k2 : ∀ b o, b ≠ s.heap.objs.size → s.heap.get? b = some o → h2.get? b = some o := fun b o n e => s2.extBut b o n (Heap.get?_push_of_some _ e)
  refine wpAny_bind (wpAny_holding (list_ends ⟨hh, oy, ys, k2 _ _ yj h1, d1, c1⟩ yj i2 ((L.push _).extBut s2.extBut lj) (by simp) fun h3 k3 => ?_))
  simp only [Option.isSome_none, Bool.false_eq_true, if_false]
  exact wpAny_pure (q h3 fun b o n e => k3 b o n (k2 b o n e))
end
end HotX
namespace L2
open PySem PySem.Spec PyProof.Rows HotX L2H
section
variable {X : Cx} {pins : List (Addr × Obj)} {τ : St} {G : Hp} {t : Shared} {Q : VK} {elt tg src : Expr} {ifs : List Expr} {sc : Scope} {own : List (Str × Nat)} {pa pb : Pos} {ti te : TE} {g : TG} {tt : TT} {use : Option (Value → Sem Unit)} {Qf : Value → Shared → Prop}
/-- what is handled stood there when the context was entered -/
structure Seen (Y : Cx) (p : Addr × Obj) : Prop where
  hot : Hot1 Y.A p
  get : Y.s_0.heap.get? p.1 = some p.2
  free : Y.H_0 p.1 = none
  nofs : p.1 ∉ Y.fs
  noex : p.1 ∉ Y.ex
theorem Seen.at {Y : Cx} {p : Addr × Obj} {pins : List (Addr × Obj)} {τ : St} {G : Hp} {t : Shared} (S : Seen Y p) (I : Inv Y pins τ G t) : HotAt Y.A p.1 t.heap := by
  obtain ⟨h, v, d, c⟩ := S.hot
  exact ⟨h, p.2, v, I.base.keep p.1 p.2 S.get S.free S.nofs S.noex, d, c⟩
/-- a, b = a list of two, and so on -/
theorem pg_lstH {Y : Cx} {p : Addr × Obj} {es : List Expr} {k : Nat} {u : TGs} {n : Nat} {pos : Pos} (S : Seen Y p) (h : PGs Y es u) (hn : (assignEach es Y.env).length = n := by rfl) (ns : (assignEach es Y.env).findIdx? (·.1) = none := by rfl) : PG Y (.Tuple es k pos) (gLst Y.K n u) := by
  constructor
  rintro pins t τ G v w0 Q I r ⟨a, xs, rfl, hq, hl, want⟩
  cases r
  obtain ⟨its, rv, pl, hz⟩ := I.list hq
  rw [PyProof.Rows.assign_Tuple]
  refine wpAny_bind (wpAny_standAt ?_)
  unfold unpack
  rw [show (assignEach es Y.env).length = its.toArray.size by simp [hn, ← hl, rv.length], ns]
  refine wpAny_bind (wpAny_holding (list_items (S.at I) pl.isList fun h' hx => ?_))
  exact h.run pins _ τ G xs _ Q (I.kept (t' := t.toks) fun b o e => hx b o (Nat.ne_of_lt (Heap.lt_size e)) e) (by simpa using rv) want
/-- a comprehension over a list, within a handler: what is wished is as tLc has it -/
theorem lc_hot {p : Addr × Obj} (hot : Hot1 X.A p) (pm : p ∈ X.pn) (nd : X.N.Nodup) (I : Inv X pins τ G t) (hi : PE X src ti) (ok : BlkOk X.N X.env.scope sc own)
    (hg : ∀ (s : Shared) (H : Hp) (C : Addr) (cl : List (Str × Addr)) (fp : List Addr), Seen (X.blk s H sc (compEnvC sc cl C X.env) fp) p → PG (X.blk s H sc (compEnvC sc cl C X.env) fp) tg g)
    (ht : ∀ (s : Shared) (H : Hp) (C : Addr) (cl : List (Str × Addr)) (fp : List Addr), Seen (X.blk s H sc (compEnvC sc cl C X.env) fp) p → PTs (X.blk s H sc (compEnvC sc cl C X.env) fp) ifs tt)
    (he : ∀ (s : Shared) (H : Hp) (C : Addr) (cl : List (Str × Addr)) (fp : List Addr), Seen (X.blk s H sc (compEnvC sc cl C X.env) fp) p → PE (X.blk s H sc (compEnvC sc cl C X.env) fp) elt te)
    (fo : ∀ x, foldedSetIterable src X.env x = pure x) (want : tLc (iList X.K ti) g tt te (own.map (·.2)) τ G Q)
    (out : ∀ D C t' m G', Inv X pins τ G' t' → Q (.ref D) G' → t'.heap.Ns C m → FpOk X pins G' C → compPost (model X.prog X.w) X.A X.xe use Qf (.ref D) C (.ok .next) t') :
    wpAny (model X.prog X.w) X.A (comprehension (.ListComp elt [⟨tg, src, ifs, 0⟩] sc pa) sc X.env pb (newList []) false (eval src X.env) use) Qf X.xe t := by
  have cap : ∀ y ∈ sc.names, y.2 = .free → ∃ c, X.env.cells.lookup y.1 = some c := fun y m e => I.ok.has _ (ok.free y m e)
  refine wpAny_comprehension_free (use := use) rfl fo (closure_ok cap) ok.kind (fun y m e => by rw [ok.uniq y m, e]) (thn (hi.run pins t τ G _ I want) fun v t1 q1 => ?_)
  obtain ⟨x, G1, I1, r1, l, rfl, ⟨xs, hl⟩, q1⟩ := q1
  obtain rfl : v = Value.ref l := r1
  obtain ⟨_, _, pl, _⟩ := I1.list hl
  refine wpAny_pyIter_list pl.isList ?_
  -- the walk j, the new list D
  obtain ⟨j, ej⟩ : ∃ j, j = t1.heap.objs.size := ⟨_, rfl⟩
  rw [← ej]
  obtain ⟨t2, e2⟩ : ∃ t2 : Shared, t2 = { t1 with heap := t1.heap.push { cls := .type "list_iterator", data := .fields #[.ref l, .int 0 0] } } := ⟨_, rfl⟩
  rw [← e2]
  have I2 : Inv X pins τ G1 t2 := by rw [e2]; exact I1.kept (t' := t1.toks) fun b o e => Heap.get?_push_of_some _ e
  have at2 : t2.heap.IsListIter j l 0 := by rw [e2, ej]; exact ⟨_, Heap.get?_push_size _ rfl, rfl, rfl⟩
  have ok2 : FpOk X pins G1 j := by rw [ej]; exact I1.fpOk (Nat.le_refl _) (I1.hok.fresh (Nat.le_refl _))
  refine wpAny_newObj_type (newEnv_comp ?_) (by show 0 ≤ sizeLine; decide)
  obtain ⟨D, eD⟩ : ∃ D, D = t2.heap.objs.size := ⟨_, rfl⟩
  rw [← eD]
  have nD : G1 D = none := I2.hok.fresh (by rw [eD]; exact Nat.le_refl _)
  have jD : j < D := by rw [eD]; obtain ⟨o, e, _⟩ := at2; exact Heap.lt_size e
  obtain ⟨W, ⟨m0, w0⟩, turn⟩ := q1 D nD
  obtain ⟨t3, e3⟩ : ∃ t3 : Shared, t3 = { t2 with heap := t2.heap.push { cls := .type "list", data := .seq ([] : List Value).toArray } } := ⟨_, rfl⟩
  obtain ⟨G3, eG⟩ : ∃ G3, G3 = upd G1 D (.lst []) := ⟨_, rfl⟩
  rw [← eG] at w0
  have I3 : Inv X pins τ G3 t3 := by
    rw [e3, eG]
    exact I2.laid (t' := t2.toks) (fun b o e => Heap.get?_push_of_some _ e) (by rw [eD]; exact Nat.le_refl _) ⟨Nat.zero_le _, [], 0, .nil, by rw [eD]; exact Heap.get?_push_size _ rfl⟩
  have at3 : t3.heap.IsListIter j l 0 := by rw [e3]; exact at2.at fun o e => Heap.get?_push_of_some _ e
  have j3 : G3 j = none := by rw [eG, upd_ne (Nat.ne_of_lt jD)]; exact ok2.1
  have ok3 : FpOk X pins G3 j := ⟨j3, ok2.2⟩
  have lt3 : j < t3.heap.objs.size := by obtain ⟨o, e, _⟩ := at3; exact Heap.lt_size e
  -- the thing that is handled, seen from within
  obtain ⟨ph, pv, pd, pc⟩ := id hot
  obtain ⟨pg3, pn3, pL, pF, _⟩ := I3.pin p (List.mem_append_left _ pm)
  have pS : p.1 ∉ frs X.stack := fun m => (List.mem_cons.mp (I3.stkSub p.1 m)).elim pL pF
  have pj : p.1 ≠ j := ok3.2.2.2.2.2 p (List.mem_append_left _ pm)
  have B := block_start I3 ok nd (fp := [j]) fun b m => by
    obtain rfl := List.mem_singleton.mp m
    exact ⟨ok3, lt3⟩
  have seen : Seen (X.blk t3 G3 sc (compEnvC sc (cellsFrom (t3.heap.objs.size + 1) sc.names (cloFrom X.env.cells sc.names [])) t3.heap.objs.size X.env) [j]) p := ⟨hot, pg3, pn3, pS, by simpa using pj⟩
  have g' := hg t3 G3 t3.heap.objs.size (cellsFrom (t3.heap.objs.size + 1) sc.names (cloFrom X.env.cells sc.names [])) [j] seen
  have t' := ht t3 G3 t3.heap.objs.size (cellsFrom (t3.heap.objs.size + 1) sc.names (cloFrom X.env.cells sc.names [])) [j] seen
  have e' := he t3 G3 t3.heap.objs.size (cellsFrom (t3.heap.objs.size + 1) sc.names (cloFrom X.env.cells sc.names [])) [j] seen
  rw [← e3]
  show codeAny _ _ (.compStart (.ListComp elt [⟨tg, src, ifs, 0⟩] sc pa) 0 (.ref j) (.ref D) (compEnvC sc (cellsFrom (t3.heap.objs.size + 1) sc.names (cloFrom X.env.cells sc.names [])) t3.heap.objs.size X.env)) (compPost (model X.prog X.w) X.A X.xe use Qf (.ref D) t3.heap.objs.size) { t3 with heap := pushCells (t3.heap.push { cls := .type "dict", data := .dict #[] }) sc.names }
  obtain ⟨ce, ec⟩ : ∃ ce, ce = compEnvC sc (cellsFrom (t3.heap.objs.size + 1) sc.names (cloFrom X.env.cells sc.names [])) t3.heap.objs.size X.env := ⟨_, rfl⟩
  have cl : ce.locals = t3.heap.objs.size := by rw [ec]; rfl
  rw [← ec] at B g' t' e' ⊢
  obtain ⟨t4, e4⟩ : ∃ t4 : Shared, t4 = { t3 with heap := pushCells (t3.heap.push { cls := .type "dict", data := .dict #[] }) sc.names } := ⟨_, rfl⟩
  rw [← e4] at B ⊢
  have at4 : t4.heap.IsListIter j l 0 := by rw [e4]; exact at3.at fun o e => pushCells_keeps _ _ _ _ (Heap.get?_push_of_some _ e)
  have fpB : ∀ {τ' : St} {G' : Hp} {s' : Shared}, Inv (X.blk t3 G3 sc ce [j]) [] τ' G' s' → G' j = none → FpOk (X.blk t3 G3 sc ce [j]) [] G' j := fun I' n =>
    ⟨n, (I'.ok.exf j (by simp)).1, I'.ok.exfs j (by simp), .inl (by simp), fun x c e => (I'.ok.exf j (by simp)).2 x c e, fun p hp => nomatch (show p ∈ ([] : List (Addr × Obj)) ++ [] from hp)⟩
  refine codeAny_compStart_list ?loop (wpAny_pyIter_listiter at4 ?loop)
  refine compLoop_any (fun n s' => ∃ i G', Inv (X.blk t3 G3 sc ce [j]) [] (wipe τ (own.map (·.2))) G' s' ∧ s'.heap.IsListIter j l i ∧ G' j = none ∧ W i n G') ?_ m0 ⟨0, G3, B, at4, j3, w0⟩
  rintro n s5 ⟨i, G5, I5, at5, n5, w5⟩
  have F5 := fpB I5 n5
  rcases turn i n G5 w5 with ⟨⟨ys, hy, le⟩, qq⟩ | ⟨⟨ys, y, hy, hyi⟩, Nx, again, step⟩
  · obtain ⟨its, rv, py, _⟩ := I5.list hy
    have p5 : s5.heap.get? p.1 = some p.2 := I5.base.keep p.1 p.2 pg3 pn3 pS (by simpa using pj)
    refine list_ends (A := X.A) ⟨ph, p.2, pv, p5, pd, pc⟩ pj at5 py.isList (by have := rv.length; simp; omega) fun h k => ?_
    have I6 : Inv (X.blk t3 G3 sc ce [j]) [] (wipe τ (own.map (·.2))) G5 { s5 with heap := h } := I5.turned (t' := s5.toks) k F5.1 F5.2.1 F5.2.2.2.1 F5.2.2.2.2.1 F5.2.2.2.2.2
    obtain ⟨m, hm, _⟩ := I6.loc
    have hm : ({ s5 with heap := h } : Shared).heap.Ns ce.locals m := hm
    have nC : G5 ce.locals = none := I6.free
    rw [cl] at hm nC
    have I7 : Inv X pins τ G5 { s5 with heap := h } := I3.call' (ch := [j]) I6.os I6.base I6.hok I6.bare fun b hb => by
      obtain rfl := List.mem_singleton.mp hb
      exact ⟨ok3.2.2.2.1, ok3.2.1, ok3.2.2.2.2.1, ok3.2.2.2.2.2⟩
    exact out D _ _ m G5 I7 qq hm (I3.fpOk (Nat.le_refl _) nC)
  · obtain ⟨its, rv, py, _⟩ := I5.list hy
    obtain ⟨u, hu, ru⟩ := rv.get hyi
    refine wpAny_pyNext_list_item at5 py.isList (x := u) (by simpa using hu) fun h at6 sb => ?_
    have I6 : Inv (X.blk t3 G3 sc ce [j]) [] (wipe τ (own.map (·.2))) G5 { s5 with heap := h } := I5.turned (t' := s5.toks) (fun b o n e => (sb.2 b n).trans e) F5.1 F5.2.1 F5.2.2.2.1 F5.2.2.2.2.1 F5.2.2.2.2.2
    obtain ⟨oj, gj, cj, dj⟩ := id at6
    refine go_of (s := { s5 with heap := h }) gj cj dj (by decide) ?_
    have I6' : Inv (X.blk t3 G3 sc ce [j]) ([] ++ [(j, oj)]) (wipe τ (own.map (·.2))) G5 { s5 with heap := h } := I6.pins_of fun q hq => by
      obtain rfl : q = (j, oj) := by simpa using hq
      exact ⟨gj, n5, F5.2.1, F5.2.2.1, fun v z => by rw [dj] at z; cases z⟩
    refine thnF (g'.run _ _ _ G5 y u _ I6' ru (step y G5 ⟨rfl, fun zs hz => by rw [I5.list_inj hz hy]; exact hyi⟩)) fun _ s8 ⟨τ8, G8, I8, w8, q8⟩ => ?_
    refine thnF (t'.run _ s8 τ8 G8 _ I8 q8) fun b s9 ⟨G9, I9, q9⟩ => ?_
    have fin : ∀ {s' : Shared} {G' : Hp}, Inv (X.blk t3 G3 sc ce [j]) ([] ++ [(j, oj)]) τ8 G' s' → Nx G' → ∃ m, m < n ∧ ∃ i G', Inv (X.blk t3 G3 sc ce [j]) [] (wipe τ (own.map (·.2))) G' s' ∧ s'.heap.IsListIter j l i ∧ G' j = none ∧ W i m G' := fun {s' G'} J nx => by
      obtain ⟨m', lm, w'⟩ := again G' nx
      have pj' := J.pin (j, oj) (by simp)
      refine ⟨m', lm, i + 1, G', (J.unpinned (pins := [])).weak (by rw [← w8, wipe_length]) (fun k v e => ?_), ⟨oj, pj'.1, cj, dj⟩, pj'.2.1, w'⟩
      rw [← w8] at e
      exact (wipe_some e).1
    cases b
    · simp only [Bool.false_eq_true, if_false] at q9 ⊢
      exact fin I9 q9
    · simp only [if_true] at q9 ⊢
      exact thnF (e'.run _ s9 τ8 G9 _ I9 q9) fun z s10 ⟨yv, G10, I10, r10, acc, d10, z10, nx⟩ => app_ok (X := X.blk t3 G3 sc ce [j]) I10 d10 z10 r10 fun s11 I11 => fin I11 nx
end
end L2
set_option Elab.async false
set_option linter.all false
set_option maxRecDepth 100000
set_option maxHeartbeats 4000000
/-! own exceptions raised, and caught by one of three classes: their context is known to be None, so that the handler may call -/
namespace Gn
open PySem PySem.Spec PyProof.Rows L2
section
variable {X : Cx} {e : Expr} {es : List Expr} {ta : TA} {p pos : Pos}
/-- the exception without a dict is let go -/
theorem bare_goneN {pins : List (Addr × Obj)} {σ : L2.St} {H1 H2 : Hp} {Q : XK} {hp hp2 h2 : Heap} {g1 g2 : Array GenState} {d1 d2 : Drawn} {t1 t2 : Nat} {os1 os2 : OsState} {a C : Addr} (T : Raises X (.ref C)) (I1 : Inv X pins σ H1 ⟨hp, g1, d1, t1, os1⟩)
    (ha : hp.objs.size ≤ a) (kp : ∀ b o, hp.get? b = some o → hp2.get? b = some o) (un : Un (frs X.stack) [] (upd H1 a (exo a C none)) H2 hp2 h2) (hok : HOk X.prog X.w H2 h2) (ho : os2 = os1) (hb : AllBare g2)
    (ea : H2 a = some (exo a C none)) (q : Q (.ref C) none (del H2 a)) : L2N.MkP X pins σ Q (.ref a) ⟨h2, g2, d2, t2, os2⟩ := by
  obtain ⟨t0, hoe⟩ := exo_at hok ea
  have hn : H1 a = none := I1.hok.fresh ha
  obtain ⟨G, y1, y2⟩ := restrict h2 fun b => decide (b ≠ a)
  have gk : ∀ b, b ≠ a → G.get? b = h2.get? b := fun b z => y1 b (decide_eq_true z)
  have ge : G.get? a = none := y2 a (by simp)
  have old : ∀ {b : Addr} {o : Obj}, hp.get? b = some o → b ≠ a := fun {b o} z => Nat.ne_of_lt (Nat.lt_of_lt_of_le (Heap.lt_size z) ha)
  have fr : ∀ {b : Addr}, b ≠ a → H1 b = none → upd H1 a (exo a C none) b = none := fun {b} z n => (upd_ne z).trans n
  have U : Un (frs X.stack) [] H1 (del H2 a) hp G := {
    keep := fun b o z n hf hx => (gk b (old z)).trans (un.keep b o (kp b o z) (fr (old z) n) hf hx)
    slot := fun b o z n hf hx => by
      rw [gk b (old z)]
      exact un.slot b o (kp b o z) (fr (old z) n) hf hx
    free := fun b o z n hx => (del_ne (old z)).trans (un.free b o (kp b o z) (fr (old z) n) hx)
    there := fun b o z hx => by
      rw [gk b (old z)]
      exact un.there b o (kp b o z) hx
    tups := fun b xs z => (del_ne (ne_of_none z hn)).trans (un.tups b xs ((upd_ne (ne_of_none z hn)).trans z))
    frzs := fun b o v z => (del_ne (ne_of_none z hn)).trans (un.frzs b o v ((upd_ne (ne_of_none z hn)).trans z))
    tbls := fun b ps z => by
      rw [del_ne (ne_of_none z hn)]
      exact un.tbls b ps ((upd_ne (ne_of_none z hn)).trans z) }
  have hok3 : HOk X.prog X.w (del H2 a) G := fun b o z => by
    have ba : b ≠ a := fun e => by
      rw [e, del_same] at z
      cases z
    rw [del_ne ba] at z
    have noa : ∀ {c : Addr}, H2 c = some (.own b) → c ≠ a := fun {c} hc => at_ne ea hc exo_own
    refine (hok b o z).stay (fun c v hc y => ?_) (fun c hc => (del_ne (noa hc)).trans hc) fun c xs hc => (del_ne (at_ne ea hc exo_tup)).trans hc
    have ca : c ≠ a := by
      rcases hc with hc | hc
      · rw [hc]
        exact ba
      · exact noa hc
    exact (gk c ca).trans y
  have J : Inv X pins σ (del H2 a) ⟨G, g2, d2, t2, os2⟩ := I1.call' (ch := []) ho U hok3 hb (fun b z => absurd z (by simp))
  refine ⟨a, _, _, ⟨G, g2, d2, t2, os2⟩, _, .ref C, none, rfl, J, fun b o z => ?_, ge, hoe, ⟨rfl, rfl, fun vs z => by cases z; rfl⟩, rfl, rfl, del_same, rfl, hb, T, q⟩
  by_cases ba : b = a
  · rw [ba, ge] at z
    cases z
  · exact (gk b ba).symm.trans z
theorem own_thrownN {CX : CXT} {C fI : Addr} {k : Nat} {fd : FuncData} {ps : List Str} {sp : Sp} {ds us : List Value} {dvs vs : List V} {pins : List (Addr × Obj)} {σ : L2.St} {H1 : Hp} {s1 : Shared} {Q : XK} (T : OwC X.K C)
    (iC : PySem.W.findIn X.K (.ref C) "__init__" = some (some (.ref fI))) (tI : PySem.W.typeIn X.K (.ref fI) = some (.type "function")) (F1 : FnOk X.prog X.w X.K X.mg X.base CX k fI fd ps sp) (hr : Room (k + 1) X.A) (hb : Binds X.K fd ps ds) (hd : Vals dvs ds)
    (hx : Passes CX X (fun _ _ _ => False)) (I1 : Inv X pins σ H1 s1) (r1 : Vals vs us) (hz : vs.length ≤ 1000)
    (q1 : ∀ a, H1 a = none → sp (.ref a :: (vs ++ dvs)) (upd H1 a (exo a C none)) (fun v H2 => v = .non ∧
      ((∃ (d : Addr) (fs : List (Str × V)), H2 a = some (exo a C (some d)) ∧ H2 d = some (exd d fs) ∧ H1 d = none ∧ Q (.ref C) (some d) (upd (del H2 a) d (.xd fs))) ∨ (H2 a = some (exo a C none) ∧ Q (.ref C) none (del H2 a)))) (fun _ _ _ => False)) :
    wpAny (model X.prog X.w) X.A (call (.ref C) us) (L2N.MkP X pins σ Q) X.xe s1 := by
  obtain ⟨nm, q, N, bs, bm, sn, sub, ab, col, dd, k0, k1, k2, k3, k5, B, nw, it, tl, lk, pt, TB⟩ := T.cls
  obtain ⟨hp, g, dr, tk, os⟩ := s1
  have up : hp.objs.size ≤ hp.objs.size + 1 := Nat.le_succ _
  have hn : H1 (hp.objs.size + 1) = none := I1.hok.fresh up
  have hq := q1 (hp.objs.size + 1) hn
  have kk : ∀ b o, hp.get? b = some o → ((hp.push (PySem.W.kdv_tup us)).push (PySem.HandSPX.excO C hp.objs.size)).get? b = some o := fun b o z =>
    Heap.get?_push_of_some _ (Heap.get?_push_of_some _ z)
  have got : ((hp.push (PySem.W.kdv_tup us)).push (PySem.HandSPX.excO C hp.objs.size)).get? (hp.objs.size + 1) = some (PySem.HandSPX.excO C hp.objs.size) := by heap_get
  have I2 := I1.laid (t' := tk) (a := hp.objs.size + 1) (o := exo (hp.objs.size + 1) C none) kk up (exo_ok got)
  have r2 : Vals (V.ref (hp.objs.size + 1) :: (vs ++ dvs)) (Value.ref (hp.objs.size + 1) :: (us ++ ds)) := .cons rfl (r1.append hd)
  have hl : (Value.ref (hp.objs.size + 1) :: us ++ ds).length = ps.length := by
    have z := r2.length
    rw [F1.len _ _ _ _ hq] at z
    exact z.symm
  have few : us.length ≤ sizeLine := by
    rw [← Paired.length r1, sizeLine_eq]
    omega
  refine wpAny_call (PySem.HandSPX.call_own TB.ex (fun n => pt.has n) (I1.kIn _ _ lk) (PySem.W.looks_findIn I1.kIn iC) (fun me => PySem.W.bind_fn I1.kIn me tI) few (codeAny_mono
    (F1.run _ X.stack _ _ ⟨Value.ref (hp.objs.size + 1) :: us, []⟩ (Value.ref (hp.objs.size + 1) :: (us ++ ds)) _ _ (fun _ _ _ => False) (hr.make C us []) (I2.env0.make C us []) (hb _ (Value.ref (hp.objs.size + 1) :: us) I2.kIn hl) r2 hq) fun r s' z => ?_))
  cases r with
  | error er => exact hx pins σ _ _ er s' I2 z
  | ok fl =>
    cases fl with
    | ret u =>
      obtain ⟨v, H2, os2, bare2, un2, hok2, rv, ev, z2⟩ := z
      subst ev
      obtain ⟨h2, g2, d2, t2, os'⟩ := s'
      rcases z2 with ⟨dq, fs, ea, ed, hd1, q2⟩ | ⟨ea, q2⟩
      · exact ⟨rv, by
          obtain ⟨t0, G, J, kG, ge, hoe, na⟩ := mk_end0 (d2 := d2) (t2 := t2) I1 up kk un2 hok2 os2 bare2 ea ed hd1
          exact ⟨_, _, _, ⟨G, g2, d2, t2, os'⟩, _, .ref C, some dq, rfl, J, kG, ge, hoe, ⟨rfl, rfl, fun vs z => by cases z; rfl⟩, rfl, rfl, na, rfl, bare2, raises_own T.exC T.tyC, q2⟩⟩
      · exact ⟨rv, bare_goneN (raises_own T.exC T.tyC) I1 up kk un2 hok2 os2 bare2 ea q2⟩
    | next => exact False.elim z
    | brk => exact False.elim z
    | cont => exact False.elim z
/-- raise C(e, ..) -/
theorem pmk_exoN {CX : CXT} {x : Str} {C fI : Addr} {k : Nat} {fd : FuncData} {ps : List Str} {sp : Sp} {ds : List Value} {dvs : List V} (T : OwC X.K C) (iC : PySem.W.findIn X.K (.ref C) "__init__" = some (some (.ref fI)))
    (tI : PySem.W.typeIn X.K (.ref fI) = some (.type "function")) (F1 : FnOk X.prog X.w X.K X.mg X.base CX k fI fd ps sp) (hr : Room (k + 1) X.A) (hb : Binds X.K fd ps ds) (hd : Vals dvs ds) (hx : Passes CX X (fun _ _ _ => False)) (hg : Gl X x)
    (hm : X.mg x = some (.ref C)) (ha : PA X (e :: es) ta) (hdb : (x == ("__debug__" : Str)) = false := by decide) (he : starEach (e :: es) X.env = (false, eval e X.env) :: starEach es X.env := by rfl) (hpl : (backTo pos (starEach es X.env)).any (·.1) = false := by rfl) :
    L2N.PMk X (.Call (.Name x p) (e :: es) [] pos) (tThr C sp dvs ta) := fun pins s σ H Q I h =>
  wpAny_Call_Name_kw (ld_glob I hg hm (PySem.W.callWith_K (h₀ := X.base) I.ok.mod.kin T.kC (thn (ha.run pos pins s σ H _ I h) fun us s1 ⟨vs, H1, I1, r1, hz, q1⟩ => ⟨I1.kIn, own_thrownN T iC tI F1 hr hb hd hx I1 r1 hz q1⟩) he hpl) hdb)
/-- raise C() -/
theorem pmk_exoN0 {CX : CXT} {x : Str} {C fI : Addr} {k : Nat} {fd : FuncData} {ps : List Str} {sp : Sp} {ds : List Value} {dvs : List V} (T : OwC X.K C) (iC : PySem.W.findIn X.K (.ref C) "__init__" = some (some (.ref fI)))
    (tI : PySem.W.typeIn X.K (.ref fI) = some (.type "function")) (F1 : FnOk X.prog X.w X.K X.mg X.base CX k fI fd ps sp) (hr : Room (k + 1) X.A) (hb : Binds X.K fd ps ds) (hd : Vals dvs ds) (hx : Passes CX X (fun _ _ _ => False)) (hg : Gl X x)
    (hm : X.mg x = some (.ref C)) (hdb : (x == ("__debug__" : Str)) = false := by decide) : L2N.PMk X (.Call (.Name x p) [] [] pos) (tThr C sp dvs tNil) := fun pins s σ H Q I h =>
  wpAny_Call_Name_kw (ld_glob I hg hm (PySem.W.callWith_K0 I.kIn T.kC (own_thrownN (us := []) (vs := []) T iC tI F1 hr hb hd hx I .nil h.1 h.2)) hdb)
end
end Gn
namespace L2
open PySem PySem.Spec PyProof.Rows
section
variable {X : Cx} {pins : List (Addr × Obj)} {τ : St} {G : Hp} {t0 t1 : Shared}
/-- the handler's side: x flies, as it was told, and all else stands -/
structure DownN (X : Cx) (pins : List (Addr × Obj)) (τ : St) (G : Hp) (t0 t1 : Shared) (B : Heap) (x : Addr) (C : Value) (d : Option Addr) : Prop where
  was : Inv X pins τ G t0
  nb : ∀ b o, t0.heap.get? b = some o → b ∉ frs X.stack → B.get? b = some o
  up : t0.heap.UpToSlots t1.heap
  fly : HandSPX.FlyingZ B (X.env :: X.outer) x (L2N.Zn C d) t1.heap
  new : G x = none
  os : t1.os = t0.os
  ag : AllBare t1.gens
variable {B : Heap} {x : Addr} {C : Value} {d : Option Addr}
theorem DownN.inv (S : DownN X pins τ G t0 t1 B x C d) : Inv X pins τ G t1 := S.was.landed S.nb S.fly.1 S.up S.os S.ag
theorem DownN.on (S : DownN X pins τ G t0 t1 B x C d) {h : Heap} (f : HandSPX.FlyingZ B (X.env :: X.outer) x (L2N.Zn C d) h) (u : t1.heap.UpToSlots h) : DownN X pins τ G t0 { t1 with heap := h } B x C d :=
  ⟨S.was, S.nb, S.up.trans u, f, S.new, S.os, S.ag⟩
theorem DownN.more (S : DownN X pins τ G t0 t1 B x C d) (o : Obj) : DownN X pins τ G t0 { t1 with heap := t1.heap.push o } B x C d := by
  have k : ∀ b u, t1.heap.get? b = some u → (t1.heap.push o).get? b = some u := fun _ _ z => Heap.get?_push_of_some _ z
  refine S.on ?_ (Heap.UpToSlots.of_keeps k)
  obtain ⟨a1, a2, a3, oe, w, T, oT, r, g1, g2, g3, g4, g5, g6, g7, g8⟩ := S.fly
  exact ⟨fun b u z => k b u (a1 b u z), a2, a3.of_keeps fun b u z _ => ⟨u, k b u z, rfl⟩, oe, w, T, oT, r, k _ _ g1, g2, g3, g4, g5, g6, k _ _ g7, g8⟩
theorem DownN.suite (S : DownN X pins τ G t0 t1 B x C d) (es : X.stack = X.env :: X.outer) (ef : X.env.frame = some X.env.locals) :
    ∃ oe, t1.heap.get? x = some oe ∧ L2N.Zn C d oe ∧ (∃ w, oe.data = .fields w) ∧ Inv (X.suite x ((x, oe) :: (X.pn ++ pins))) [] τ G t1 := by
  obtain ⟨oe, w, g, z, dt⟩ := S.fly.there
  have off : x ∉ frs (X.env :: X.outer) := fun m => by
    obtain ⟨_, o', e, nf⟩ := S.fly.2.2.1.mem m
    cases g.symm.trans e
    exact nf _ dt
  refine ⟨oe, g, z, ⟨w, dt⟩, S.inv.suite g dt S.new (fun e => off ?_) fun m => off ?_⟩
  · exact List.mem_filterMap.mpr ⟨X.env, by simp, by rw [ef, e]⟩
  · obtain ⟨v, m1, m2⟩ := List.mem_filterMap.mp m
    exact List.mem_filterMap.mpr ⟨v, List.mem_cons.mpr (.inr m1), m2⟩
end
section
variable {X : Cx} {y1 y2 y3 n : Str} {u1 u2 u3 : Value} {j : Nat} {bd su : List Stmt} {s₀ : Stmt} {q1 q2 q3 qt qh qq : Pos} {kk : Nat} {tb : WX → TS} {ts : Addr → Value → Option Addr → TS} {Wo : WX}
theorem ps_try_triN (es : X.stack = X.env :: X.outer) (ef : X.env.frame = some X.env.locals) (nd : X.N.Nodup) (at_ : X.N[j]? = some n) (lo : X.env.kindOf n = some .local) (m1 : Names X y1 u1) (m2 : Names X y2 u2) (m3 : Names X y3 u3) (tk : L2N.Takes X Wo)
    (B : ∀ (W : WX) (pn : List (Addr × Obj)) (xe : Value → Shared → Prop), L2N.Takes (X.tr pn xe) W → PassesOwn (model X.prog X.w) X.A X.env xe → PSs (X.tr pn xe) bd (tb W))
    (S : ∀ (x : Addr) (oe : Obj) (C : Value) (d : Option Addr) (pn : List (Addr × Obj)), L2N.Zn C d oe → (∃ w, oe.data = .fields w) → PSs (X.suite x ((x, oe) :: pn)) (s₀ :: su) (ts x C d)) :
    PS X (.Try bd [.ExceptHandler (some (.Tuple [.Name y1 q1, .Name y2 q2, .Name y3 q3] kk qt)) (some n) (s₀ :: su) qh] [] [] qq) (fun D τ G => tb (wTri X.K [u1, u2, u3] j ts Wo D) D τ G) := by
  constructor
  intro pins t τ G D J want
  have ok := J.ok
  have frames : X.A.frames = some (X.env :: X.outer) := ok.frames.trans (by rw [es])
  let hs := [ExceptHandler.ExceptHandler (some (.Tuple [.Name y1 q1, .Name y2 q2, .Name y3 q3] kk qt)) (some n) (s₀ :: su) qh]
  let after : Value → Shared → Prop := fun e t1 => wpAny (model X.prog X.w) X.A (noteFrame e X.env) (fun _ t2 => wpAny (model X.prog X.w) X.A (setFlight e none) (fun _ t3 => wpAny (model X.prog X.w) X.A (handleBy e X.env hs) (SP X pins D) X.xe t3) X.xe t2) X.xe t1
  have look : L2N.Takes (X.tr (X.pn ++ pins) after) (wTri X.K [u1, u2, u3] j ts Wo D) := by
    rintro e t1 ⟨x, H0, sI, pi, τ1, G1, C, d, rfl, J1, nb, up, sky, new, os, ag, hit, hm, yes, no⟩
    show wpAny (model X.prog X.w) X.A (noteFrame (.ref x) X.env) _ _ _
    rw [show X.stack = X.env :: X.outer from es] at sky
    refine L2N.Sky.land L2N.Zn.steady frames ef sky fun h fl u => ?_
    have D1 : DownN X pins τ1 G1 sI { t1 with heap := h } H0 x C d := ⟨J1.ofTry ok, nb, up.trans u, fl, new, os, ag⟩
    obtain ⟨oe, ge, gz, gd, I1⟩ := D1.suite es ef
    refine wpAny_handleBy_cons (codeAny_handlers_test (ev_tri I1 m1 m2 m3 ?_)) (by intro z; cases z)
    have D2 := D1.more (triO u1 u2 u3)
    have there : (h.push (triO u1 u2 u3)).get? x = some oe := Heap.get?_push_of_some _ ge
    have LT : PySem.W.Looks (model X.prog X.w) (h.push (triO u1 u2 u3)) (typeOf (.ref x)) C := fun A Q E s k z => wpAny_typeOf_ref (k _ _ there) (by rw [gz.1]; exact z)
    refine (PySem.W.exm_tup3 D2.inv.kIn LT (Heap.get?_push_size h rfl) hm).here ?_
    cases hit
    · show wpAny _ X.A (handleBy (.ref x) X.env []) _ _ _
      refine wpAny_handleBy_nil ?_
      obtain ⟨_, _, _, o2, w, T, _, _, g1, _, g3, g4, _⟩ := id D2.fly
      have away : wpAny (model X.prog X.w) X.A (setFlight (.ref x) X.env.frame) (fun _ t5 => wpAny (model X.prog X.w) X.A (throw (.ref x) : Sem Flow) (SP X pins D) X.xe t5) X.xe { t1 with heap := h.push (triO u1 u2 u3) } := by
        rw [ef]
        exact HandSPX.setFlight_upZ D2.fly fun h' held u' => wpAny_throw (tk _ _ ⟨x, H0, sI, pins, τ1, G1, C, d, rfl, D2.was, nb, D2.up.trans u', .inr (.inr (by rw [es]; exact held)), new, os, ag, no rfl⟩)
      unfold PySem.passOn
      refine wpAny_bind (wpAny_field g1 g3 g4 ?_)
      rw [if_neg (by simp : ¬ ((Value.ref T == Value.none) = true))]
      first
        | exact wpAny_bind (wpAny_pure (wpAny_bind away))
        | exact wpAny_bind away
    · refine codeAny_handlers_suite_as (HandSPX.lands_againZ D2.fly fun h' fl' u' => ?_)
      obtain ⟨o3, _, z3, d3, I3⟩ := (D2.on fl' u').suite es ef
      refine store_ok (X := X.suite x ((x, o3) :: (X.pn ++ pins))) (v := .ref x) I3 nd at_ (.inl lo) rfl (fun t5 I5 => ?_) (.inr lo)
      have off : ∀ {τ6 : St} {G6 : Hp} {t6 : Shared} {Q : Shared → Prop}, Inv (X.suite x ((x, o3) :: (X.pn ++ pins))) [] τ6 G6 t6 → (∀ t7, Inv X pins (τ6.set j none) G6 t7 → Q t7) →
          wpAny (model X.prog X.w) X.A (do bindName X.env n .none; unbindBehindTheSuite X.env n qh) (fun _ t7 => Q t7) X.xe t6 := fun I6 go => gone_ok (I6.unsuite ok) nd at_ lo go
      refine wpAny_mono ((S x o3 C d (X.pn ++ pins) z3 d3).run [] t5 _ G1 _ I5 (yes rfl x new)) (fun fl t6 out => ?_) fun _ _ z => z.elim
      cases fl <;> first
        | (obtain ⟨τ6, G6, I6, w6⟩ := out; exact off I6 fun t7 I7 => ⟨_, _, I7, w6⟩)
        | (obtain ⟨v6, τ6, G6, I6, e6, w6⟩ := out; exact off I6 fun t7 I7 => ⟨_, _, _, I7, e6, w6⟩)
  refine wpAny_Try_except (wpAny_mono ((B _ _ after look PassesOwn.looking).run [] t τ G D (J.toTry _) want) (fun fl t1 out => ?_) fun _ _ z => z)
  cases fl <;> first
    | (obtain ⟨τ1, G1, I1, w1⟩ := out; exact wpAny_execs_nil ⟨τ1, G1, I1.ofTry ok, w1⟩)
    | (obtain ⟨τ1, G1, I1, w1⟩ := out; exact ⟨τ1, G1, I1.ofTry ok, w1⟩)
    | (obtain ⟨v1, τ1, G1, I1, e1, w1⟩ := out; exact ⟨v1, τ1, G1, I1.ofTry ok, e1, w1⟩)
end
/-- such a handler is hot -/
theorem hot_suite {X : Cx} {x : Addr} {oe : Obj} {C : Value} {d : Option Addr} {pn : List (Addr × Obj)} (z : L2N.Zn C d oe) (h : ∃ w, oe.data = .fields w) : L2H.HotC (X.suite x ((x, oe) :: pn)) := by
  obtain ⟨w, hw⟩ := h
  exact ⟨(x, oe), ⟨rfl, w, hw, z.2.2 w hw⟩, by simp⟩
end L2
set_option Elab.async false
set_option linter.all false
set_option maxRecDepth 100000
set_option maxHeartbeats 4000000
/-! what a handler asks of the exception that it holds, by itself or in a def that it calls -/
namespace Gn
open PySem PySem.Spec PyProof.Rows L2 L2H
/-! ### a list of truths: how often one stands in it -/
def isB (b : Bool) : Value → Bool
  | .bool c => c == b
  | _ => false
theorem isB_at {b : Bool} {A : Around} {s : Shared} : ∀ {us : List Value} {bs : List Bool}, Vals (bs.map V.bl) us → ∀ y ∈ us, SeqAt.EqAt A s y (.bool b) (isB b y)
  | [], _, _, y, m => nomatch m
  | u :: us, [], r, y, m => nomatch r
  | u :: us, c :: bs, .cons r1 r2, y, m => by
    obtain rfl : u = Value.bool c := r1
    rcases List.mem_cons.mp m with e | m
    · rw [e]; exact SeqAt.EqAt.bool_bool c b
    · exact isB_at r2 y m
theorem isB_count {b : Bool} : ∀ {us : List Value} {bs : List Bool}, Vals (bs.map V.bl) us → us.countP (isB b) = bs.count b
  | [], [], _ => rfl
  | [], _ :: _, r => nomatch r
  | u :: us, [], r => nomatch r
  | u :: us, c :: bs, .cons r1 r2 => by
    obtain rfl : u = Value.bool c := r1
    rw [List.countP_cons, List.count_cons, isB_count r2]; rfl
def rCntB (K : PySem.W.Frag) : V → List V → Hp → VK → Prop := fun x xs H Q => ∃ (p : Addr) (bs : List Bool) (b : Bool), x = .ref p ∧ xs = [.bl b] ∧ SqL K H p (bs.map V.bl) ∧ Q (.int (bs.count b : Nat)) H
theorem mt_countB {X : Cx} : MtR X "list.count" (rCntB X.K) := by
  intro pins s σ H x xs v us Q I rx rxs h
  obtain ⟨p, bs, b, rfl, rfl, hs, q⟩ := h
  cases rx
  obtain ⟨u, rfl, ru⟩ := rxs.one
  obtain rfl : u = Value.bool b := ru
  obtain ⟨its, rv, ⟨⟨cls, dd, data, sl⟩, n, ho, hc, hdn, hd⟩, _⟩ := I.list hs
  dsimp only at hc hd
  subst hc hd
  refine call_meets PySem.F.slot_list_count ⟨_, ho, rfl⟩ PySem.F.entry_list_count (PySem.F.args_list_count_2 _ _) (SeqAt.list_countAt p its.toArray n dd sl (.bool b) (isB b)) ⟨ho, fun y hy => isB_at rv y (by simpa using hy), ⟨.int (bs.count b : Nat), H, I.tok _, ⟨s.toks, ?_⟩, q⟩⟩
  rw [show its.toArray.toList = its from rfl, isB_count rv]
/-! ### the exception that is held: of which classes it is, what it has -/
section
variable {X : Cx} {a : Addr} {cls : Value} {d : Option Addr} {oe : Obj}
theorem held_inst {pins : List (Addr × Obj)} {σ : L2.St} {H : Hp} {s : Shared} {D : Addr} (m : (a, oe) ∈ X.pn) (hz : Zc (.ref D) d oe) (hf : ∃ vs, oe.data = .fields vs) (I : Inv X pins σ H s) (hd : ∀ y, d = some y → ∃ fs, H y = some (.xd fs)) : ∃ ox od, PySem.W.InstAt s.heap a ox D od := by
  obtain ⟨at0, _⟩ := I.pin (a, oe) (List.mem_append.mpr (.inl m))
  obtain ⟨vs, hv⟩ := hf
  obtain ⟨oc, dd, oda, osl⟩ := oe
  obtain ⟨h1, h2⟩ := hz
  dsimp only at h1 h2 hv
  subst h1 h2 hv
  cases dd with
  | none => exact ⟨_, none, at0, rfl, rfl, trivial⟩
  | some y =>
    obtain ⟨fs, ed⟩ := hd y rfl
    obtain ⟨mA, hns, _⟩ := (show ObjOk X.prog X.w H s.heap y (.xd fs) from I.hok y _ ed)
    obtain ⟨od, ho, _⟩ := lookIn_ns hns
    exact ⟨_, some od, at0, rfl, rfl, ho⟩
/-- isinstance(e, c) -/
def rIsP (K : PySem.W.Frag) (cls : Value) (a : Addr) (d : Option Addr) : List V → Hp → VK → Prop := fun xs H Q => ∃ (D : Addr) (c : V) (cv : Value) (b : Bool), cls = .ref D ∧ ExcC K D ∧ xs = [.ref a, c] ∧ (∀ y, d = some y → ∃ fs, H y = some (.xd fs)) ∧ (∀ u, RelV c u → u = cv) ∧ PySem.W.kitOne K (.ref D) cv = some b ∧ Q (.bl b) H
theorem cr_isP (m : (a, oe) ∈ X.pn) (hz : Zc cls d oe) (hf : ∃ vs, oe.data = .fields vs) : CallR X (.builtin "isinstance") (rIsP X.K cls a d) := by
  intro pins s σ H xs us Q I r h
  obtain ⟨D, c, cv, b, rfl, C, rfl, hd, hcv, e, q⟩ := h
  obtain ⟨u1, u2, rfl, r1, r2⟩ := vals2 r
  obtain rfl := hcv _ r2
  cases r1
  exact PySem.W.kia_one (PySem.W.gn_kit C) I.kIn (held_inst m hz hf I hd) e (fun z => nomatch z) fun tk => ⟨.bl b, H, I.tok tk, rfl, q⟩
/-- isinstance(e, (A, B, ..)) -/
def rIsPT (K : PySem.W.Frag) (cls : Value) (a : Addr) (d : Option Addr) : List V → Hp → VK → Prop := fun xs H Q => ∃ (D tp : Addr) (cs : List V) (us : List Value) (b : Bool), cls = .ref D ∧ ExcC K D ∧ xs = [.ref a, .ref tp] ∧ H tp = some (.tup cs) ∧ Paired ClsV cs us ∧ (∀ y, d = some y → ∃ fs, H y = some (.xd fs)) ∧ PySem.W.kitAny K (.ref D) us = some b ∧ Q (.bl b) H
theorem cr_isPT (m : (a, oe) ∈ X.pn) (hz : Zc cls d oe) (hf : ∃ vs, oe.data = .fields vs) : CallR X (.builtin "isinstance") (rIsPT X.K cls a d) := by
  intro pins s σ H xs us Q I r h
  obtain ⟨D, tp, cs, ws, b, rfl, C, rfl, hT, k, hd, e, q⟩ := h
  obtain ⟨u1, u2, rfl, r1, r2⟩ := vals2 r
  cases r1
  cases r2
  obtain ⟨oc, its, rv, o, h1, h2, n, h3⟩ := (show ObjOk X.prog X.w H s.heap tp (.tup cs) from I.hok tp _ hT)
  obtain rfl := ClsV.all k rv
  obtain ⟨ocl, od, dt, sl⟩ := o
  dsimp only at h2 h3
  subst h2 h3
  exact PySem.W.kia_tup (PySem.W.gn_kit C) I.kIn (held_inst m hz hf I hd) h1 e (fun z => nomatch z) fun tk => ⟨.bl b, H, I.tok tk, rfl, q⟩
/-- e.f -/
def tXfP (K : PySem.W.Frag) (a : Addr) (cls : Value) (d : Option Addr) (f : Str) (te : TE) : TE := fun σ H Q => te σ H fun x H1 => ∃ (D dd : Addr) (fs : List (Str × V)) (v : V), x = .ref a ∧ cls = .ref D ∧ XfC K D ∧ PySem.W.findIn K (.ref D) f = some none ∧ d = some dd ∧ H1 dd = some (.xd fs) ∧ fs.lookup f = some v ∧ Q v H1
theorem pe_xfP {e : Expr} {te : TE} {pos : Pos} {f : Str} (m : (a, oe) ∈ X.pn) (hz : Zc cls d oe) (hf : ∃ vs, oe.data = .fields vs) (he : PE X e te) (hb : attributeBase e f X.env (eval e X.env) = eval e X.env := by rfl) : PE X (.Attribute e f pos) (tXfP X.K a cls d f te) := by
  constructor
  intro pins s σ H Q I h
  refine attr_of hb (thn (he.run pins s σ H _ I h) fun u s1 ⟨x, H1, I1, rx, D, dd, fs, v, ex, ec, T, no, ed, ea, l, q⟩ => ?_)
  subst ex ec ed
  obtain rfl : u = Value.ref a := rx
  obtain ⟨at0, _⟩ := I1.pin (a, oe) (List.mem_append.mpr (.inl m))
  obtain ⟨vs, hv⟩ := hf
  obtain ⟨mA, hns, rel⟩ := (show ObjOk X.prog X.w H1 s1.heap dd (.xd fs) from I1.hok dd _ ea)
  obtain ⟨od, ho, hl⟩ := lookIn_ns hns
  obtain ⟨y, hy, ry⟩ := RelO.some_of (v := v) (o := mA f) (by rw [← l]; exact rel f)
  have J : PySem.W.InstAt s1.heap a oe D (some od) := ⟨at0, hz.1, by unfold PySem.W.notCls; rw [hv] <;> rfl, by rw [hz.2]; exact ho⟩
  exact HandSPX.exc_get I1.kIn J T.ga T.gg T.exC (PySem.W.findObj_own T.hdC no rfl (by rw [hl, hy])) (handed_of ry) ⟨v, H1, I1.tok _, ry, q⟩
end
/-! ### a def that is called with the exception that is held: its promise knows it -/
structure FnP (P : Program) (w : World) (K : PySem.W.Frag) (mg : Str → Option Value) (base : Heap) (CX : CXT) (k : Nat) (f : Addr) (fd : FuncData) (ps : List Str) (sp : Addr × Obj → Sp) : Prop where
  len : ∀ p vs H Q E, sp p vs H Q E → vs.length = ps.length
  run : ∀ (A : Around) (outer : List Env) (s : Shared) (H : Hp) (args : Args) (us : List Value) (vs : List V) (Q : VK) (E : XK) (p : Addr × Obj), RoomH k A → Hot1 A p → PinOk outer H s p → Env0 P w K mg base A outer s H → BindsTo s fd args (ps.zip us) → Vals vs us → sp p vs H Q E →
    codeAny (model P w) A (.call (.ref f) args) (CR CX outer P w H s Q E) s
section
variable {P : Program} {w : World} {K : PySem.W.Frag} {mg : Str → Option Value} {base : Heap}
theorem funP {CX : CXT} {x qual : Str} {st : Stmt} {f : Addr} {fd : FuncData} {N ps : List Str} {k : Nat} {sp : Addr × Obj → Sp} (F : Fun K x qual st f fd) (S : FnScope N ps (defScope st)) (len : ∀ p vs H Q E, sp p vs H Q E → vs.length = ps.length)
    (hbody : ∀ (cdv : Value) (A : Around) (outer : List Env) (s : Shared) (H : Hp) (vs : List V) (Q : VK) (E : XK) (p : Addr × Obj), Hot1 A p → RoomH k (A.deeper (envOfC qual (defScope st) s.heap.objs.size f cdv)) → sp p vs H Q E →
      ∃ t, PSs (cxH CX P w K mg base N qual (defScope st) f cdv A outer s H E p) (defBody st) t ∧ t { nx := fun _ H' => Q .non H', rt := Q } (start N vs) H) : FnP P w K mg base CX (k + 1) f fd ps sp := by
  obtain ⟨oc, od, kV, doc, pm, an, cdv, ct, osl, rfl, lk, hcd⟩ := F.ex
  refine ⟨len, fun A outer s H args us vs Q E p hr hot pin e0 hb r hsp => ?_⟩
  have KX : K.In s.heap := e0.mod.kin.keeps fun b o e => (e0.bs b o e).1
  have hkind : ∀ y ∈ ps.zip us, (defScope st).names.lookup y.1 = some .local ∨ ((defScope st).names.lookup y.1 = some .cell ∧ ((cellsFrom (s.heap.objs.size + 1) (defScope st).names []).lookup y.1).isSome = true) := fun y hy =>
    (S.par y.1 (List.of_mem_zip hy).1).elim .inl fun q => .inr ⟨q, PySem.W.cellsFrom_some _ _ _ (.inl q)⟩
  refine codeAny_call_function hr.depth (KX _ _ lk) rfl S.co S.gen rfl (PySem.W.codeRec_of KX hcd) (hb _ _ _ _ (wpAny_newFunctionEnv_cells S.kind hkind fun env he s1 x => ?_))
  subst he
  refine ⟨(e0.mod.nolimit.keeps fun b o e => (e0.bs b o e).1).keeps x.toInCall.keep, codeAny_func ?_⟩
  obtain ⟨t, ht, hq⟩ := hbody cdv A outer s H vs Q E p hot (hr.deeper _) hsp
  have I : Inv (cxH CX P w K mg base N qual (defScope st) f cdv A outer s H E p) [] (start N vs) H s1 := inv_startH S pin e0 (len _ _ _ _ _ hsp) r x
  refine wpAny_mono (ht.run [] s1 (start N vs) H _ I hq) (fun fl s' hs => ?_) fun _ _ hs => hs
  cases fl with
  | ret u => obtain ⟨v, σ', H', J, rv, q⟩ := hs; exact ⟨v, H', J.os, J.bare, J.base, J.hok, rv, q⟩
  | next => obtain ⟨σ', H', J, q⟩ := hs; exact ⟨V.non, H', J.os, J.bare, J.base, J.hok, rfl, q⟩
  | brk => obtain ⟨_, _, _, q⟩ := hs; exact False.elim q
  | cont => obtain ⟨_, _, _, q⟩ := hs; exact False.elim q
end
section
variable {X : Cx} {CX : CXT} {k : Nat} {f : Addr} {fd : FuncData} {ps : List Str} {sp : Addr × Obj → Sp} {E : XK} {x : Str} {p pos : Pos} {e : Expr} {es : List Expr} {t : TA} {q : Addr × Obj}
theorem pe_callP (F : FnP X.prog X.w X.K X.mg X.base CX k f fd ps sp) (hr : RoomH k X.A) (m : q ∈ X.pn) (hot : Hot1 X.A q) (hg : Gl X x) (hm : X.mg x = some (.ref f)) (hk : PySem.W.keepIn X.K (.ref f) = true) (hb : Binds X.K fd ps []) (hx : Passes CX X E)
    (ha : PA X (e :: es) t) (hdb : (x == ("__debug__" : Str)) = false := by decide) (he : starEach (e :: es) X.env = (false, eval e X.env) :: starEach es X.env := by rfl) (hpl : (backTo pos (starEach es X.env)).any (·.1) = false := by rfl) :
    PE X (.Call (.Name x p) (e :: es) [] pos) (tCall (sp q) [] E t) := by
  constructor
  intro pins s σ H Q I h
  refine wpAny_Call_Name_kw (ld_glob I hg hm (PySem.W.callWith_K (h₀ := X.base) I.ok.mod.kin hk (thn (ha.run pos pins s σ H _ I h) fun us s1 ⟨vs, H1, I1, r, z⟩ => ⟨I1.kIn, ?_⟩) he hpl) hdb)
  have z : sp q (vs ++ []) H1 Q E := z
  rw [List.append_nil] at z
  have b := hb s1 us I1.kIn (by rw [List.append_nil, ← r.length]; exact F.len _ _ _ _ _ z)
  rw [List.append_nil] at b
  obtain ⟨p1, p2, p3, p4, p5⟩ := I1.pin q (List.mem_append.mpr (.inl m))
  refine wpAny_call (codeAny_mono (F.run X.A X.stack s1 H1 ⟨us, []⟩ us vs Q E q hr hot ⟨p1, p2, fun hm => (List.mem_cons.mp (I1.stkSub q.1 hm)).elim p3 p4, p5⟩ I1.env0 b r z) fun r s' hq => ?_)
  have y := back_of hx I1 hq
  cases r with
  | error e => exact y
  | ok fl => cases fl with
    | ret u => exact y
    | next => exact y.elim
    | brk => exact y.elim
    | cont => exact y.elim
end
end Gn
set_option Elab.async false
set_option linter.all false
set_option maxRecDepth 100000
set_option maxHeartbeats 4000000
/-! y = [..] within a handler -/
namespace L2
open PySem PySem.Spec PyProof.Rows HotX L2H
section
variable {X : Cx} {i : Nat} {y : Str} {elt tg src : Expr} {ifs : List Expr} {sc : Scope} {own : List (Str × Nat)} {py pa ps : Pos} {ti te : TE} {g : TG} {tt : TT}
theorem ps_setLcH {p : Addr × Obj} (hot : Hot1 X.A p) (pm : p ∈ X.pn) (nd : X.N.Nodup) (hy : X.N[i]? = some y) (lo : X.env.scope.names.lookup y = some .local) (sw : swapsWith (.ListComp elt [⟨tg, src, ifs, 0⟩] sc pa) (some (.Name y py)) ps.line X.env = pure true) (hi : PE X src ti) (ok : BlkOk X.N X.env.scope sc own)
    (hg : ∀ (s : Shared) (H : Hp) (C : Addr) (cl : List (Str × Addr)) (fp : List Addr), Seen (X.blk s H sc (compEnvC sc cl C X.env) fp) p → PG (X.blk s H sc (compEnvC sc cl C X.env) fp) tg g)
    (ht : ∀ (s : Shared) (H : Hp) (C : Addr) (cl : List (Str × Addr)) (fp : List Addr), Seen (X.blk s H sc (compEnvC sc cl C X.env) fp) p → PTs (X.blk s H sc (compEnvC sc cl C X.env) fp) ifs tt)
    (he : ∀ (s : Shared) (H : Hp) (C : Addr) (cl : List (Str × Addr)) (fp : List Addr), Seen (X.blk s H sc (compEnvC sc cl C X.env) fp) p → PE (X.blk s H sc (compEnvC sc cl C X.env) fp) elt te)
    (fo : ∀ x, foldedSetIterable src X.env x = pure x := by intro _; rfl) : PS X (.Assign [.Name y py] (.ListComp elt [⟨tg, src, ifs, 0⟩] sc pa) ps) (tAsg (tLc (iList X.K ti) g tt te (own.map (·.2))) (gName i)) := by
  constructor
  intro pins t τ G D J want
  have want : tLc (iList X.K ti) g tt te (own.map (·.2)) τ G (fun x G1 => gName i x τ G1 D.nx) := want
  rw [exec_Assign_Name_used _ _ _ _ sw]
  refine wpAny_bind (wpAny_standAt (wpAny_bind ?_))
  change wpAny _ X.A (comprehension (.ListComp elt [⟨tg, src, ifs, 0⟩] sc pa) sc X.env (firstIterPos [⟨tg, src, ifs, 0⟩] pa) (newList []) false (eval src X.env) (some (assign (.Name y py) X.env)) >>= _) _ _ t
  refine wpAny_bind (thn (lc_hot (Qf := fun _ u => SP X pins D .next u) hot pm nd J hi ok hg ht he fo want fun L C u m G' J' q hn fr => ?_) fun _ u z => wpAny_pure (wpAny_pure z))
  change wpAny _ _ (assign (.Name y py) X.env (.ref L)) _ _ _
  refine wpAny_assign_Name (store_ok2 (v := V.ref L) J' nd hy (.inl lo) rfl (fun u2 J2 ⟨b, sb, hb⟩ => ?_) (.inr lo))
  have off : C ≠ b := hb.elim (fun z => z ▸ fr.2.1) fun z e => fr.2.2.2.2.1 y b z e.symm
  exact ⟨m, hn.sameBut sb off, fun h3 sb3 => ⟨_, G', J2.turned (t' := u2.toks) (fun c o n e => (sb3.2 c n).trans e) fr.1 fr.2.1 fr.2.2.2.1 fr.2.2.2.2.1 fr.2.2.2.2.2, q⟩⟩
end
end L2
set_option Elab.async false
set_option linter.all false
set_option maxRecDepth 100000
set_option maxHeartbeats 4000000
/-! a lambda handed to a def that tries it: what it raises has a known context -/
namespace Gn
open PySem PySem.Spec PyProof.Rows L2
section
variable {P : Program} {w : World} {K : PySem.W.Frag} {mg : Str → Option Value} {base : Heap}
/-- a def that may raise -/
theorem okN {x qual : Str} {st : Stmt} {f : Addr} {fd : FuncData} {N ps : List Str} {k : Nat} {sp : Sp} (F : Fun K x qual st f fd) (S : FnScope N ps (defScope st)) (len : ∀ vs H Q E, sp vs H Q E → vs.length = ps.length)
    (body : ∀ (cdv : Value) (A : Around) (outer : List Env) (s : Shared) (H : Hp) (vs : List V) (Q : VK) (E : XK), Room k (A.deeper (envOfC qual (defScope st) s.heap.objs.size f cdv)) → sp vs H Q E →
      ∃ t, PSs (cxOf (L2N.CX P w) P w K mg base N qual (defScope st) f cdv A outer s H E) (defBody st) t ∧ t { nx := fun _ G => Q .non G, rt := Q } (start N vs) H) : FnOk P w K mg base (L2N.CX P w) (k + 1) f fd ps sp := by
  obtain ⟨_, _, _, _, _, _, cdv, _, _, rfl, lk, hcd⟩ := F.ex
  exact fn_of lk hcd S len fun A o s H vs Q E => body cdv A o s H vs Q E
end
/-- the lambda's body, entered at s -/
abbrev lamN (X : Cx) (A : Around) (outer : List Env) (s : Shared) (H : Hp) (E : XK) (sc : Scope) (f c : Addr) : Cx :=
  (LamX.lamCx X A outer s H E sc f c).wish fun e t => wpAny (model X.prog X.w) (A.deeper (LamX.lamEnv X sc s.heap.objs.size f c)) (leaving (LamX.lamEnv X sc s.heap.objs.size f c) e) (fun _ t' => L2N.CX X.prog X.w outer H s E e t') (fun e' t' => L2N.CX X.prog X.w outer H s E e' t') t
section
variable {X : Cx} {pins : List (Addr × Obj)} {σ : L2.St} {H : Hp} {s : Shared}
/-- what leaves the body -/
theorem lamN_takes {A : Around} {outer : List Env} {E : XK} {sc : Scope} {f c : Addr} : L2N.Takes (lamN X A outer s H E sc f c) fun C d _ G => E C d G :=
  L2N.takes_of (E₁ := fun e' t' => L2N.CX X.prog X.w outer H s E e' t') rfl rfl rfl rfl
/-- a(), in the def that got the lambda -/
theorem pe_actN {CXg : CXT} {Eg : XK} {Ng : List Str} {qg : Str} {sg sc : Scope} {g f c : Addr} {cdg pm ctv : Value} {pr : Arguments} {bo : Expr} {k i : Nat} {a : Str} {pn : List (Addr × Obj)} {xe : Value → Shared → Prop} {W : WX} {tb : XK → TE} {p1 p2 : Pos}
    (I : Inv X pins σ H s) (L : LamX.LamS X.env.scope sc) (gf : s.heap.get? f = some (PySem.W.kla_obj "<lambda>" (X.env.qual ++ "<lambda>") pr bo sc (cloFrom X.env.cells sc.names []) pm c ctv)) (nf : H f = none) (off : f ∉ frs X.stack)
    (bi : bindArgs (PySem.W.kla_fn "<lambda>" (X.env.qual ++ "<lambda>") pr bo sc (cloFrom X.env.cells sc.names []) pm (.ref c) ctv) ⟨[], []⟩ = pure [])
    (tk : L2N.Takes ((cxOf CXg X.prog X.w X.K X.mg X.base Ng qg sg g cdg X.A X.stack s H Eg).tr pn xe) W) (hr : Room (k + 1) (X.A.deeper (envOfC qg sg s.heap.objs.size g cdg)))
    (body : ∀ (A : Around) (outer : List Env) (s : Shared) (H : Hp) (E : XK), Room k (A.deeper (LamX.lamEnv X sc s.heap.objs.size f c)) → PE (lamN X A outer s H E sc f c) bo (tb E))
    (at_ : Ng[i]? = some a) (vi : Vis sg a) (nd : (a == ("__debug__" : Str)) = false := by decide) (nc : (a == ("__classdict__" : Str)) = false := by decide) :
    PE ((cxOf CXg X.prog X.w X.K X.mg X.base Ng qg sg g cdg X.A X.stack s H Eg).tr pn xe) (.Call (.Name a p1) [] [] p2)
      (fun τ G Q => τ[i]? = some (some (.ref f)) ∧ G c = some (LamX.CodeO c (X.env.qual ++ "<lambda>")) ∧ tb (fun C d G' => W C d τ G') σ G Q) := by
  constructor
  rintro pi t τ G Q J ⟨slot, co, want⟩
  refine wpAny_Call_Name_kw (thn ((pe_var (pos := p1) (i := i) at_ vi nd nc).run pi t τ G (fun v G1 => v = .ref f ∧ G1 = G) J ⟨.ref f, slot, rfl, rfl⟩) fun u t1 ⟨v, G1, J1, rv, ev, eG⟩ => ?_)
  subst ev eG
  obtain rfl : u = Value.ref f := rv
  have g1 := J1.base.keep f _ gf nf off (fun z => nomatch (show f ∈ ([] : List Addr) from z))
  have un : Un (frs X.stack) [] H G1 s.heap t1.heap := J1.base
  obtain ⟨⟨oc, vs, tn, goc, gd, gv⟩, _, _⟩ := J1.hok c _ co
  have run : codeAny (model X.prog X.w) (X.A.deeper (envOfC qg sg s.heap.objs.size g cdg)) (.call (.ref f) ⟨[], []⟩) (CR (L2N.CX X.prog X.w) (envOfC qg sg s.heap.objs.size g cdg :: X.stack) X.prog X.w G1 t1 Q fun C d G' => W C d τ G') t1 := by
    refine PySem.W.kla_callFunE hr.depth g1 rfl L.co L.gen rfl ⟨c, oc, vs, tn, rfl, goc, gd, gv⟩ ?_
    rw [bi]
    refine wpAny_pure (wpAny_newFunctionEnv (fun y m => (L.own y m).2) (fun y m => absurd m (by simp)) (fun h ns sb => ⟨J1.nolimit.fresh _ sb, ?_⟩) L.kind)
    change codeAny _ _ (.expr bo (LamX.lamEnv X sc t1.heap.objs.size f c)) _ _
    have start := LamX.lam_start2 (A := X.A.deeper (envOfC qg sg s.heap.objs.size g cdg)) (outer := envOfC qg sg s.heap.objs.size g cdg :: X.stack) (E := fun C d G' => W C d τ G') (c' := c) (f := f) (tk := t1.toks + ([] : List (Str × Value)).length) I L J1.env0 hr.hd un ns fun b o e => sb.extBut b o (Nat.ne_of_lt (Heap.lt_size e)) (Heap.get?_push_of_some _ e)
    refine PySem.W.kla_codeExpr (wpAny_mono ((body _ _ t1 G1 _ (hr.deeper _)).run [] _ σ G1 Q (start.wish _) want) (fun v t2 ⟨y, G2, J2, ry, q⟩ => ?_) fun _ _ z => z)
    exact ⟨y, G2, J2.os, J2.bare, J2.base, J2.hok, ry, q⟩
  refine PySem.W.callWith_F0 ⟨_, _, _, _, g1⟩ (wpAny_call (codeAny_mono run fun r t2 z => ?_))
  cases r with
  | error e => exact tk e t2 (L2N.XE.of_call J1 (fun C d G' h => h) z)
  | ok fl => cases fl with
    | ret u => exact J1.after z
    | next => exact z.elim
    | brk => exact z.elim
    | cont => exact z.elim
/-- the def that tries what it got: TT, what it makes of the lambda's reading -/
def GivesN (X : Cx) (Ng : List Str) (x : Str) (sg : Scope) (g : Addr) (cdg : Value) (bg : List Stmt) (a : Str) (q : Str) (k : Nat) (TT : (XK → Hp → VK → Prop) → Hp → VK → Prop) : Prop :=
  ∀ (f c : Addr) (s : Shared) (H : Hp) (Q : VK) (tl : XK → Hp → VK → Prop),
    (∀ (W : WX) (pn : List (Addr × Obj)) (xe : Value → Shared → Prop) (p1 p2 : Pos), L2N.Takes ((cxOf CX0 X.prog X.w X.K X.mg X.base Ng x sg g cdg X.A X.stack s H E0).tr pn xe) W →
      PE ((cxOf CX0 X.prog X.w X.K X.mg X.base Ng x sg g cdg X.A X.stack s H E0).tr pn xe) (.Call (.Name a p1) [] [] p2) (fun τ G Q => τ[0]? = some (some (.ref f)) ∧ G c = some (LamX.CodeO c q) ∧ tl (fun C d G' => W C d τ G') G Q)) →
    H c = some (LamX.CodeO c q) → Room (k + 1) (X.A.deeper (envOfC x sg s.heap.objs.size g cdg)) → TT tl H Q →
    ∃ t, PSs (cxOf CX0 X.prog X.w X.K X.mg X.base Ng x sg g cdg X.A X.stack s H E0).nox bg t ∧ t { nx := fun _ G => Q .non G, rt := Q } (L2.start Ng [.ref f]) H
/-- x(lambda: bo) -/
theorem pe_lamN {T : List (Addr × Str)} {TT : (XK → Hp → VK → Prop) → Hp → VK → Prop} {x a : Str} {g c P : Addr} {k : Nat} {st : Stmt} {fd : FuncData} {Ng : List Str} {pr : Arguments} {bo : Expr} {sc : Scope} {t : XK → TE} {p lp pos : Pos}
    (hg : Gl X x) (hm : X.mg x = some (.ref g)) (F : Fun X.K x x st g fd) (kp : PySem.W.keepIn X.K (.ref g) = true) (hb : Binds X.K fd [a] []) (Sg : FnScope Ng [a] (defScope st)) (at_ : Ng[0]? = some a) (vi : Vis (defScope st) a)
    (hG : ∀ cdv, GivesN X Ng x (defScope st) g cdv (defBody st) a (X.env.qual ++ "<lambda>") k TT)
    (TB : LamX.TabB X.base X.mg c P) (ec : X.env.code = .ref c) (mT : (P, X.env.qual ++ "<lambda>") ∈ T) (one : ∀ q ∈ T, q.1 = P → q.2 = X.env.qual ++ "<lambda>") (hr : Room (k + 2) X.A) (L : LamX.LamS X.env.scope sc) (df : defaultsOf pr X.env = ([], []))
    (bi : ∀ (q : Str) (cl : List (Str × Addr)) (pm cv ctv : Value), bindArgs (PySem.W.kla_fn "<lambda>" q pr bo sc cl pm cv ctv) ⟨[], []⟩ = pure [])
    (body : ∀ (A : Around) (outer : List Env) (s : Shared) (H : Hp) (E : XK) (f c' : Addr), Room k (A.deeper (LamX.lamEnv X sc s.heap.objs.size f c')) → PE (lamN X A outer s H E sc f c') bo (t E))
    (nx : (x == ("__debug__" : Str)) = false := by decide) (nd : (a == ("__debug__" : Str)) = false := by decide) (nc : (a == ("__classdict__" : Str)) = false := by decide) :
    PE X (.Call (.Name x p) [.Lambda pr bo sc lp] [] pos) (LamX.tLam T TT t) := by
  obtain ⟨_, _, _, _, _, _, cdv, _, _, rfl, lk, hcd⟩ := F.ex
  constructor
  rintro pins s σ H Q I ⟨tabs, want⟩
  refine wpAny_Call_Name_kw (ld_glob I hg hm (PySem.W.callWith_K (h₀ := X.base) I.ok.mod.kin kp ?_ (by rfl) (by rfl)) nx)
  change wpAny _ _ (spliced ((false, eval (.Lambda pr bo sc lp) X.env) :: backTo pos (starEach [] X.env))) _ _ s
  refine Calls.spliced_cons (LamX.lam_make2 I TB ec mT one tabs df (L.has I.ok) fun f c' pm ctv H1 s1 I1 eN T1 gf nf off co => Calls.spliced_nil ⟨I1.kIn, ?_⟩)
  have run : codeAny (model X.prog X.w) X.A (.call (.ref g) ⟨[.ref f], []⟩) (CR CX0 X.stack X.prog X.w H1 s1 Q E0) s1 := by
    refine LamX.run_ofS (N := Ng) (ps := [a]) (us := [.ref f]) (vs := [.ref f]) lk hcd Sg hr I1.env0 (hb s1 [.ref f] I1.kIn rfl) (.cons rfl .nil) rfl fun hr' => ?_
    obtain ⟨u, hu, q⟩ := hG cdv f c' s1 H1 Q (fun E G Q' => t E σ G Q') (fun W pn xe p1 p2 tk => pe_actN (i := 0) I1 L gf nf off (bi _ _ _ _ _) tk hr' (fun A o s2 H2 E hr2 => body A o s2 H2 E f c' hr2) at_ vi nd nc) co hr' (want H1 eN T1)
    exact ⟨u, hu.nox, q⟩
  refine wpAny_call (codeAny_mono run fun r s2 z => ?_)
  cases r with
  | error e => exact (show False from z).elim
  | ok fl => cases fl with
    | ret u => exact I1.after z
    | next => exact z.elim
    | brk => exact z.elim
    | cont => exact z.elim
end
end Gn
set_option Elab.async false
set_option linter.all false
set_option maxRecDepth 100000
set_option maxHeartbeats 4000000
/-! the end of a law whose defs make lambdas, no guards known ahead -/
namespace Gn
open PySem PySem.Spec PyProof.Rows L2
section
variable {P : Program} {w : World} {K : PySem.W.Frag} {mg mb : Str → Option Value}
/-- a table of code objects that is empty yet -/
def tabO : Obj := { cls := .none, data := .fields #[] }
theorem lawGT {CX : CXT} {k : Nat} {fa a : Addr} {cs : List (Addr × Addr)} {fd : FuncData} {x : Str} {sp : Sp} {s₁ : Shared} {vs : List Value} {ns : List Int}
    (KX : K.In s₁.heap) (hns : s₁.heap.Ns mainGlobals mg) (hb : s₁.heap.Ns builtinsNs mb) (hbb : ∀ x : Str, x ≠ "__name__" → mb x = bootBuiltins x) (hlim : s₁.heap.NoLimit) (hg : s₁.gens = #[])
    (T0 : ∀ p ∈ cs, s₁.heap.get? p.2 = some tabO) (T1 : ∀ p ∈ cs, K.lookup p.2 = none) (T2 : ∀ p ∈ cs, PySem.W.CodeHd s₁.heap p.1 p.2)
    (bm : ∃ (m : Addr) (o : Obj), mg "__builtins__" = some (.ref m) ∧ m ≠ builtinsNs ∧ s₁.heap.get? m = some o ∧ o.cls = .type "module" ∧ o.dict = some builtinsNs ∧ o.data = .plain)
    (ha : s₁.heap.get? a = some { cls := .type "list", data := .seq vs.toArray }) (hi : IntsAre vs ns) (hl : ns.length ≤ sizeLine) (hr : Room k callerA)
    (F : ∀ base : Heap, K.In base → base.Ns mainGlobals mg → (∀ p ∈ cs, LamX.TabB base mg p.1 p.2) → FnG P w K mg base CX k fa fd [x] sp) (hbind : ∀ (s : Shared) (u : Value), BindsTo s fd ⟨[u], []⟩ [(x, u)])
    (hsp : ∀ H : Hp, (∀ p ∈ cs, H p.2 = some (.tbl #[])) → SqL K H a (ns.map V.int) → sp [.ref a] H (fun v _ => v = .bl true) fun _ _ _ => False) (hCX : ∀ H e s', CX [] H s₁ (fun _ _ _ => False) e s' → False) :
    codeAny (model P w) callerA (.call (.ref fa) ⟨[.ref a], []⟩) (fun r s' => r = .ok (.ret (.bool true)) ∧ OldK s₁.heap s'.heap ∧ s'.os = s₁.os ∧ AllBare s'.gens) s₁ := by
  have rv := vals_ints hi
  have isT : ∀ b, b ∈ cs.map (·.2) → s₁.heap.get? b = some tabO := fun b m => by
    obtain ⟨p, pm, rfl⟩ := List.mem_map.mp m
    exact T0 p pm
  have nA : a ∉ cs.map (·.2) := fun m => by
    have z := (isT a m).symm.trans ha
    have z' := congrArg Obj.data (Option.some.inj z)
    cases z'
  have mT : ∀ p ∈ cs, p.2 ∈ cs.map (·.2) := fun p m => List.mem_map.mpr ⟨p, m, rfl⟩
  -- what is tracked at first: the tables, and the script where the kit's frame doesn't hold it
  let H0 : Hp := fun b => if b ∈ cs.map (·.2) then some (.tbl #[]) else if b = a ∧ K.lookup a = none then some (.frz { cls := .type "list", data := .seq vs.toArray } (.lst (ns.map V.int))) else none
  have HT : ∀ p ∈ cs, H0 p.2 = some (.tbl #[]) := fun p m => if_pos (mT p m)
  have HN : ∀ b, b ∉ cs.map (·.2) → ¬ (b = a ∧ K.lookup a = none) → H0 b = none := fun b m n => by
    show (if b ∈ cs.map (·.2) then _ else _) = _
    rw [if_neg m, if_neg n]
  have HA : K.lookup a = none → H0 a = some (.frz { cls := .type "list", data := .seq vs.toArray } (.lst (ns.map V.int))) := fun n => by
    show (if a ∈ cs.map (·.2) then _ else _) = _
    rw [if_neg nA, if_pos ⟨rfl, n⟩]
  have hS : SqL K H0 a (ns.map V.int) := by
    cases q : K.lookup a with
    | none => exact .inl (.inr ⟨_, HA q⟩)
    | some o =>
      have e := KX a o q
      rw [ha] at e
      cases e
      exact .inr ⟨_, vs.toArray, _, q, rfl, rfl, rfl, by rw [List.size_toArray, hi.length]; exact hl, by simpa using rv⟩
  have hok : HOk P w H0 s₁.heap := fun b u e => by
    by_cases m : b ∈ cs.map (·.2)
    · have e' : (some (HO.tbl #[]) : Option HO) = some u := (if_pos m).symm.trans e
      cases e'
      exact isT b m
    · by_cases n : b = a ∧ K.lookup a = none
      · obtain ⟨rfl, n⟩ := n
        cases (HA n).symm.trans e
        exact ⟨ha, by rw [List.length_map]; exact hl, vs, _, rv, ha⟩
      · cases (HN b m n).symm.trans e
  -- what is not tracked lies in the base
  have low : ∀ {b : Addr} {o : Obj}, s₁.heap.get? b = some o → (∀ vs n, o.data ≠ .seq vs n) → o.data ≠ .fields #[] → (hidT s₁.heap H0).get? b = some o := fun {b o} e h1 h2 => hidT_get e (HN b (fun m => by
      rw [isT b m] at e
      cases e
      exact h2 rfl) fun n => by
      rw [n.1, ha] at e
      cases e
      exact h1 _ _ rfl)
  have lowN : ∀ {b : Addr} {m : Str → Option Value}, s₁.heap.Ns b m → (hidT s₁.heap H0).Ns b m := fun {b m} ⟨o, es, ep, e, d, r⟩ => ⟨o, es, ep, low e (fun vs n z => by rw [d] at z; cases z) (fun z => by rw [d] at z; cases z), d, r⟩
  have kb : K.In (hidT s₁.heap H0) := fun b o e => hidT_get (KX b o e) (HN b (fun m => by
      obtain ⟨p, pm, rfl⟩ := List.mem_map.mp m
      rw [T1 p pm] at e
      cases e) fun n => by
      rw [n.1, n.2] at e
      cases e)
  have md : Mod K mg (hidT s₁.heap H0) := ⟨kb, lowN hns, ⟨mb, lowN hb, hbb⟩, let ⟨mc, h1, h2⟩ := hlim; ⟨mc, lowN h1, h2⟩⟩
  have TB : ∀ p ∈ cs, LamX.TabB (hidT s₁.heap H0) mg p.1 p.2 := fun p m => by
    have tp := T0 p m
    refine ⟨?_, ?_, fun z => ?_⟩
    · obtain ⟨o, us, c1, c2, c3, c4, c5, c6, c7, e, r1, r2, r3, r⟩ := T2 p m
      refine ⟨o, us, c1, c2, c3, c4, c5, c6, c7, low e (fun vs n z => ?_) (fun z => ?_), r1, r2, r3, r⟩
      · rw [r2] at z
        cases z
      · rw [r2] at z
        cases z
        simp at r3
    · obtain ⟨m0, o, b1, b2, b3, b4, b5, b6⟩ := bm
      refine ⟨m0, o, b1, b2, fun q => ?_, fun q => ?_, low b3 (fun vs n z => by rw [b6] at z; cases z) (fun z => by rw [b6] at z; cases z), b4, b5, b6⟩
      · obtain ⟨_, _, _, e, d, _⟩ := hns
        rw [q, e] at b3
        cases b3
        rw [d] at b6
        cases b6
      · rw [q, tp] at b3
        cases b3
        cases b6
    · obtain ⟨_, _, _, e, d, _⟩ := hns
      rw [z, tp] at e
      cases e
      cases d
  have e0 : Env0 P w K mg (hidT s₁.heap H0) callerA [] s₁ H0 := ⟨rfl, md, fun b o e => of_hidT e, Nat.le_of_eq (hidT_size _ _), trivial, fun b m => absurd (show b ∈ ([] : List Addr) from m) (by simp), hok, .of_eq hg⟩
  refine codeAny_mono ((F _ kb (lowN hns) TB).run callerA [] s₁ H0 ⟨[.ref a], []⟩ [.ref a] [.ref a] _ _ rfl hr e0 (hbind s₁ (.ref a)) (.cons rfl .nil) (hsp H0 HT hS)) fun r s' h => ?_
  cases r with
  | error e => exact (hCX H0 e s' h).elim
  | ok fl => cases fl with
    | next => exact False.elim h
    | brk => exact False.elim h
    | cont => exact False.elim h
    | ret u =>
      obtain ⟨v, H', os, bare, un, hok', r', q⟩ := h
      obtain rfl : v = .bl true := q
      obtain rfl : u = Value.bool true := r'
      have same : ∀ b o, b ∉ cs.map (·.2) → s₁.heap.get? b = some o → s'.heap.get? b = some o := fun b o m e => by
        by_cases n : b = a ∧ K.lookup a = none
        · obtain ⟨rfl, n⟩ := n
          obtain ⟨e1, _⟩ := hok b _ (HA n)
          obtain ⟨e2, _⟩ := hok' b _ (un.frzs b _ _ (HA n))
          exact e2.trans (e1.symm.trans e)
        · exact un.keep b o e (HN b m n) (fun z => nomatch z) (fun z => nomatch z)
      have more : ∀ p ∈ cs, ∃ ps : Array Value, s'.heap.get? p.2 = some { cls := .none, data := .fields ps } := fun p m => by
        obtain ⟨ps, z⟩ := un.tbls p.2 #[] (HT p m)
        exact ⟨_, hok' p.2 _ z⟩
      refine ⟨rfl, ⟨fun b o e => ?_, fun b o e => ?_⟩, os, bare⟩
      · by_cases m : b ∈ cs.map (·.2)
        · obtain ⟨p, pm, rfl⟩ := List.mem_map.mp m
          obtain ⟨ps, z⟩ := more p pm
          cases (T0 p pm).symm.trans e
          exact .inr (.inl ⟨((T2 p pm).tab (T0 p pm)).isCodeTable, rfl, #[], ps, rfl, by rw [Array.empty_append]; exact z⟩)
        · exact .inl (same b o m e)
      · by_cases m : b ∈ cs.map (·.2)
        · obtain ⟨p, pm, rfl⟩ := List.mem_map.mp m
          obtain ⟨ps, z⟩ := more p pm
          exact ⟨_, z⟩
        · exact ⟨o, same b o m e⟩
/-- what the head gives of the law -/
def LawAtG (l : PySem.W.OpenLaw) (w : World) (K : PySem.W.Frag) (CX : CXT) (k n : Nat) (x : Str) (mg : Str → Option Value) (fa : Addr) (h : Heap) : Prop :=
  ∃ (fd : FuncData) (cs : List (Addr × Addr)) (sp : Sp), (∀ p ∈ cs, h.get? p.2 = some tabO ∧ K.lookup p.2 = none ∧ PySem.W.CodeHd h p.1 p.2) ∧ (∀ (s : Shared) (u : Value), BindsTo s fd ⟨[u], []⟩ [(x, u)]) ∧
    (∀ (H : Hp) (a : Addr) (ns : List Int), ns.length ≤ n → (∀ p ∈ cs, H p.2 = some (.tbl #[])) → SqL K H a (ns.map V.int) → sp [.ref a] H (fun v _ => v = .bl true) fun _ _ _ => False) ∧
    ∀ base : Heap, K.In base → base.Ns mainGlobals mg → (∀ p ∈ cs, LamX.TabB base mg p.1 p.2) → FnG l.prog w K mg base CX k fa fd [x] sp
theorem walkGT {l : PySem.W.OpenLaw} {n k : Nat} {q : Program} {loose : List Str} {XP : (Str → Option Value) → Heap → Prop} {YP : World → Heap → Prop} {d : DefRec} {K : Params → PySem.W.Frag} {CX : World → CXT} {x : Str}
    (hn : l.most = some n) (hn2 : n ≤ sizeLine) (hdf : d.params.defaults = []) (hr : Room k callerA) (hY : ∀ (w : World) (h : Heap), YP w h → (K w.params).In h)
    (F : ∀ (w : World) (mg : Str → Option Value) (fa : Addr) (h : Heap), (∀ (y : Str) (e : DefRec) (c P : Addr), (recsOf q).find? (fun r => r.name == y) = some e → PySem.W.tabIn (K w.params) y = some (c, P) → PySem.W.CodeHd h c P ∧ h.get? P = some tabO) → (K w.params).In h → h.Ns mainGlobals mg → mg d.name = some (.ref fa) → LawAtG l w (K w.params) (CX w) k n x mg fa h)
    (hCX : ∀ (w : World) (H : Hp) (s : Shared) (e : Value) (s' : Shared), CX w [] H s (fun _ _ _ => False) e s' → False) : PySem.W.WalkO q loose XP YP l.row.toRowW d [] (fun f vs => PySem.call f vs) :=
  Att.attach_call hn hdf fun w s₀ s₁ mg mb fa o pm cd doc a vs ns G Y ho hd hcd hmg hobj hints hlen hg => by
    obtain ⟨fd, cs, sp, T, hb, hsp, hF⟩ := F w mg fa _ (fun y e c P h1 h2 => PySem.W.tab_of G.T (hY w _ Y) h1 h2) (hY w _ Y) G.T.g hmg
    exact lawGT (hY w _ Y) G.T.g G.T.b G.T.builtins G.T.nolimit hg (fun p m => (T p m).1) (fun p m => (T p m).2.1) (fun p m => (T p m).2.2) G.T.bmain hobj hints (Nat.le_trans hlen hn2) hr hF hb (fun H h1 h2 => hsp H a ns hlen h1 h2) fun H e s' => hCX w H s₁ e s'
end
end Gn
namespace Gn
open PySem PySem.Spec PyProof.Rows L2
/-- as funG0, the code object told -/
theorem funGC {P : Program} {w : World} {K : PySem.W.Frag} {mg : Str → Option Value} {base : Heap} {x qual : Str} {st : Stmt} {f : Addr} {fd : FuncData} {N ps : List Str} {k : Nat} {sp : Sp} (F : Fun K x qual st f fd) (S : FnScope N ps (defScope st)) (len : ∀ vs H Q E, sp vs H Q E → vs.length = ps.length)
    (hbody : ∀ (A : Around) (outer : List Env) (s : Shared) (H : Hp) (vs : List V) (Q : VK) (E : XK), (A.deeper (envOfC qual (defScope st) s.heap.objs.size f fd.code)).guards = some [] → Room k (A.deeper (envOfC qual (defScope st) s.heap.objs.size f fd.code)) → sp vs H Q E →
      ∃ t, PSs (cxOf CX0 P w K mg base N qual (defScope st) f fd.code A outer s H E).nox (defBody st) t ∧ t { nx := fun _ H' => Q .non H', rt := Q } (start N vs) H) : FnG P w K mg base CX0 (k + 1) f fd ps sp := by
  obtain ⟨oc, od, kV, doc, pm, an, cdv, ct, osl, rfl, lk, hcd⟩ := F.ex
  refine ⟨len, fun A outer s H args us vs Q E hg hr e0 hb r hsp => ?_⟩
  have KX : K.In s.heap := e0.mod.kin.keeps fun b o e => (e0.bs b o e).1
  have hkind : ∀ y ∈ ps.zip us, (defScope st).names.lookup y.1 = some .local ∨ ((defScope st).names.lookup y.1 = some .cell ∧ ((cellsFrom (s.heap.objs.size + 1) (defScope st).names []).lookup y.1).isSome = true) := fun y hy =>
    (S.par y.1 (List.of_mem_zip hy).1).elim .inl fun q => .inr ⟨q, PySem.W.cellsFrom_some _ _ _ (.inl q)⟩
  refine codeAny_call_function hr.depth (KX _ _ lk) rfl S.co S.gen rfl (PySem.W.codeRec_of KX hcd) (hb _ _ _ _ (wpAny_newFunctionEnv_cells S.kind hkind fun env he s1 x => ?_))
  subst he
  refine ⟨(e0.mod.nolimit.keeps fun b o e => (e0.bs b o e).1).keeps x.toInCall.keep, codeAny_func ?_⟩
  obtain ⟨t, ht, hq⟩ := hbody A outer s H vs Q E hg (hr.deeper _) hsp
  have I : Inv (cxOf CX0 P w K mg base N qual (defScope st) f cdv A outer s H E) [] (start N vs) H s1 := inv_start S hr.hd e0 (len _ _ _ _ hsp) r x
  refine wpAny_mono (ht.nox.run [] s1 (start N vs) H _ I hq) (fun fl s' hs => ?_) fun _ _ hs => hs
  cases fl with
  | ret u => obtain ⟨v, σ', H', J, rv, q⟩ := hs; exact ⟨v, H', J.os, J.bare, J.base, J.hok, rv, q⟩
  | next => obtain ⟨σ', H', J, q⟩ := hs; exact ⟨V.non, H', J.os, J.bare, J.base, J.hok, rfl, q⟩
  | brk => obtain ⟨_, _, _, q⟩ := hs; exact False.elim q
  | cont => obtain ⟨_, _, _, q⟩ := hs; exact False.elim q
end Gn
set_option Elab.async false
set_option linter.all false
set_option maxRecDepth 100000
set_option maxHeartbeats 8000000
set_option exponentiation.threshold 2000
namespace My
open PySem PySem.Spec PyProof.Rows L2 L2H Gn
/-! the program's checks, of arguments of any kind: let in, or refused -/
abbrev sIsLess : Stmt := top 23
abbrev sChCount : Stmt := top 36
abbrev sChMark : Stmt := top 37
abbrev sChArc : Stmt := top 38
theorem scIsLess : FnScope ["one", "other"] ["one", "other"] (defScope sIsLess) := ⟨rfl, rfl, rfl, by decide +kernel, rfl, by decide +kernel, by decide +kernel⟩
theorem scChCount : FnScope ["step", "count"] ["step", "count"] (defScope sChCount) := ⟨rfl, rfl, rfl, by decide +kernel, rfl, by decide +kernel, by decide +kernel⟩
theorem scChMark : FnScope ["step", "count", "mark"] ["step", "count", "mark"] (defScope sChMark) := ⟨rfl, rfl, rfl, by decide +kernel, rfl, by decide +kernel, by decide +kernel⟩
theorem scChArc : FnScope ["low", "high"] ["low", "high"] (defScope sChArc) := ⟨rfl, rfl, rfl, by decide +kernel, rfl, by decide +kernel, by decide +kernel⟩
/-- one of the class C is raised, v in its `given` -/
def Thrown (C : Addr) (v : V) (H : Hp) (E : XK) : Prop := ∀ d H', Same H H' → H d = none → H' d = some (.xd [("given", v)]) → E (.ref C) (some d) H'
/-- a check: nothing where it is right, else thrown -/
def spChk (K : PySem.W.Frag) (C : Addr) (r : PyData → Bool) : Sp := fun vs H Q E => ∃ v d, vs = [v] ∧ An K H v d ∧ (r d = true → Q .non H) ∧ (r d = false → Thrown C v H E)
def spChkN (K : PySem.W.Frag) (C : Addr) : Sp := fun vs H Q E => ∃ (v : V) (d : PyData) (a b : Int), vs = [v, .int a, .int b] ∧ An K H v d ∧ (isNum d a b = true → Q .non H) ∧ (isNum d a b = false → Thrown C v H E)
def spCountX (K : PySem.W.Frag) (CS CN : Addr) : Sp := fun vs H Q E => ∃ (v u : V) (d e : PyData), vs = [v, u] ∧ An K H v d ∧ An K H u e ∧ (isSt d = true → isNum e 1 (10 ^ 30) = true → Q .non H) ∧ (isSt d = false → Thrown CS v H E) ∧ (isSt d = true → isNum e 1 (10 ^ 30) = false → Thrown CN u H E)
def spMarkX (K : PySem.W.Frag) (CS CN : Addr) : Sp := fun vs H Q E => ∃ (v u k : V) (d e m : PyData), vs = [v, u, k] ∧ An K H v d ∧ An K H u e ∧ An K H k m ∧ (isSt d = false → Thrown CS v H E) ∧ (isSt d = true → isNum e 1 (10 ^ 30) = false → Thrown CN u H E) ∧
  (∀ n : Int, isSt d = true → e = .int n → 1 ≤ n → n ≤ 10 ^ 30 → (isNum m 0 (n - 1) = false → Thrown CN k H E) ∧ (isNum m 0 (n - 1) = true → Q .non H))
def Bd (d : PyData) : Prop := match d with | .tuple [.int t, .int b] => t.natAbs < 2 ^ 1000 ∧ b.natAbs < 2 ^ 1000 | _ => True
def lessD (d e : PyData) : Bool := match d, e with | .tuple [.int a, .int b], .tuple [.int c, .int f] => decide (a * f < c * b) | _, _ => false
def spLess (K : PySem.W.Frag) : Sp := fun vs H Q _ => ∃ (v u : V) (d e : PyData), vs = [v, u] ∧ An K H v d ∧ An K H u e ∧ isFr d = true ∧ isFr e = true ∧ Bd d ∧ Bd e ∧ Q (.bl (lessD d e)) H
def spArcX (K : PySem.W.Frag) (CA : Addr) : Sp := fun vs H Q E => ∃ (v u : V) (d e : PyData), vs = [v, u] ∧ An K H v d ∧ An K H u e ∧ Bd d ∧ Bd e ∧ (isPt d = false → Thrown CA v H E) ∧ (isPt d = true → (isPt e && lessD d e) = false → Thrown CA u H E) ∧ (isPt d = true → isPt e = true → lessD d e = true → Q .non H)
theorem fr_of {K : PySem.W.Frag} {H : Hp} {v : V} {d : PyData} (h : An K H v d) (e : isFr d = true) : ∃ a t b, v = .ref a ∧ d = .tuple [.int t, .int b] ∧ H a = some (.tup [.int t, .int b]) ∧ 1 ≤ b ∧ Int.gcd t b = 1 := by
  obtain ⟨t, b, rfl, b1, co⟩ := isFr_of e
  obtain ⟨a, xs, ds, rfl, z, sq, all⟩ := h.isT rfl
  cases z
  obtain ⟨x, y, p, p', rfl, z, dx, dy⟩ := dpAll_two all ((dpAll_len all).trans rfl)
  cases z
  cases dx
  cases dy
  exact ⟨a, t, b, rfl, rfl, sq, b1, co⟩
section
variable {P : Program} {w : World} {K : PySem.W.Frag} {mg : Str → Option Value} {base : Heap}
theorem ok_chStepX {f fS fR fI CS fE : Addr} {fd fdS fdR fdI fdE : FuncData} (F : Fun K "check_step" "check_step" sChStep f fd) (B : Bc mg) (D : Df K mg "is_integer" sIsInt ["given"] fI fdI) (R : Df K mg "is_fraction" sIsFr ["given"] fR fdR) (S : Df K mg "is_step" sIsStep ["given"] fS fdS) (T : OwE P w K mg base "InvalidStep" ["given"] CS fE fdE) :
    FnOk P w K mg base (L2N.CX P w) 4 f fd ["given"] (spChk K CS isSt) := by
  have GS : FnOk P w K mg base CX0 3 fS fdS ["given"] (spAsk K isSt) := ok_isStepA S.F B D R
  refine okN F scChStep (fun vs H Q E h => ?_) (fun cdv A outer s H vs Q E hr h => ?_)
  · obtain ⟨v, d, rfl, _⟩ := h
    rfl
  · obtain ⟨v, d, rfl, an, q, e⟩ := h
    have hr2 : Room 2 _ := hr.mono (by decide)
    have tk : L2N.Takes (cxOf (L2N.CX P w) P w K mg base ["given"] "check_step" (defScope sChStep) f cdv A outer s H E) (fun C d _ G => E C d G) := L2N.takes_of rfl rfl rfl rfl
    refine ⟨_, pss_one (ps_if (pt_not (pt_val (pe_call GS hr (by rfl) S.g S.F.kp S.b .nil pass0 (pa_cons (pv 0) pa_nil))))
      (pss_one (L2N.ps_raise rfl tk (pmk_exoN (dvs := []) T.own T.ini T.ty T.run hr2 T.b .nil pass0 (by rfl) T.g (pa_cons (pv 0) pa_nil)))) pss_nil), ?_⟩
    refine ⟨_, rfl, v, d, rfl, an, _, rfl, ?_⟩
    cases c : isSt d with
    | true => exact iteF (q c)
    | false =>
      refine iteT ?_
      exact thr_of (K := K) (C := CS) (n := "given") (i := 0) (x := v) T.own (T.no "given" (by simp)) rfl fun d H' s1 n1 h1 => e c d H' s1 n1 h1
theorem ok_chNumA {f fN fI CN fE : Addr} {fd fdN fdI fdE : FuncData} (F : Fun K "check_number" "check_number" sChNum f fd) (B : Bc mg) (D : Df K mg "is_integer" sIsInt ["given"] fI fdI) (N : Df K mg "is_number" sIsNum ["given", "least", "most"] fN fdN) (T : OwE P w K mg base "InvalidNumber" ["given"] CN fE fdE) :
    FnOk P w K mg base (L2N.CX P w) 3 f fd ["given", "least", "most"] (spChkN K CN) := by
  have GN : FnOk P w K mg base CX0 2 fN fdN ["given", "least", "most"] (spNumA K) := ok_isNumA N.F B D
  refine okN F scChNum (fun vs H Q E h => ?_) (fun cdv A outer s H vs Q E hr h => ?_)
  · obtain ⟨v, d, a, b, rfl, _⟩ := h
    rfl
  · obtain ⟨v, d, a, b, rfl, an, q, e⟩ := h
    have hr2 : Room 2 _ := hr.mono (by decide)
    have tk : L2N.Takes (cxOf (L2N.CX P w) P w K mg base ["given", "least", "most"] "check_number" (defScope sChNum) f cdv A outer s H E) (fun C d _ G => E C d G) := L2N.takes_of rfl rfl rfl rfl
    refine ⟨_, pss_one (ps_if (pt_not (pt_val (pe_call GN hr (by rfl) N.g N.F.kp N.b .nil pass0 (pa_cons (pv 0) (pa_cons (pv 1) (pa_cons (pv 2) pa_nil))))))
      (pss_one (L2N.ps_raise rfl tk (pmk_exoN (dvs := []) T.own T.ini T.ty T.run hr2 T.b .nil pass0 (by rfl) T.g (pa_cons (pv 0) pa_nil)))) pss_nil), ?_⟩
    refine ⟨_, rfl, _, rfl, _, rfl, v, d, a, b, rfl, an, _, rfl, ?_⟩
    cases c : isNum d a b with
    | true => exact iteF (q c)
    | false =>
      refine iteT ?_
      exact thr_of (K := K) (C := CN) (n := "given") (i := 0) (x := v) T.own (T.no "given" (by simp)) rfl fun d H' s1 n1 h1 => e c d H' s1 n1 h1
theorem ok_less {f : Addr} {fd : FuncData} (F : Fun K "is_less" "is_less" sIsLess f fd) : FnOk P w K mg base CX0 1 f fd ["one", "other"] (spLess K) := by
  refine F.ok scIsLess (fun vs H Q E h => ?_) (fun cdv A outer s H vs Q E hr h => ?_)
  · obtain ⟨v, u, d, e, rfl, _⟩ := h
    rfl
  · obtain ⟨v, u, d, e, rfl, an, am, f1, f2, b1, b2, q⟩ := h
    obtain ⟨a, t, b, rfl, rfl, sq, _, _⟩ := fr_of an f1
    obtain ⟨a', t', b', rfl, rfl, sq', _, _⟩ := fr_of am f2
    have c1 : CMulW t b' := wide_mul b1.1 b2.2 (by decide) (by decide) (by decide)
    have c2 : CMulW t' b := wide_mul b2.1 b1.2 (by decide) (by decide) (by decide)
    refine ⟨_, pss_one (ps_ret (pe_cmpR op_lt (pe_op op_mulW (pe_ix ix_tup (pv 0) pe_int (fun _ _ => rfl)) (pe_ix ix_tup (pv 1) pe_int (fun _ _ => rfl))) (pe_op op_mulW (pe_ix ix_tup (pv 1) pe_int (fun _ _ => rfl)) (pe_ix ix_tup (pv 0) pe_int (fun _ _ => rfl))) (nomark _))), ?_⟩
    refine ⟨_, rfl, a, _, 0, .int t, rfl, rfl, SqT.of sq, at_of (j := 0) rfl rfl, ?_⟩
    refine ⟨_, rfl, a', _, 1, .int b', rfl, rfl, SqT.of sq', at_of (j := 1) rfl rfl, _, _, rfl, rfl, c1, ?_⟩
    refine ⟨_, rfl, a', _, 0, .int t', rfl, rfl, SqT.of sq', at_of (j := 0) rfl rfl, ?_⟩
    exact ⟨_, rfl, a, _, 1, .int b, rfl, rfl, SqT.of sq, at_of (j := 1) rfl rfl, _, _, rfl, rfl, c2, _, _, rfl, rfl, q⟩
structure Ck (P : Program) (w : World) (K : PySem.W.Frag) (mg : Str → Option Value) (base : Heap) where
  c : Bc mg
  mc : ∃ tk, mg "MOST_COUNT" = some (.int (10 ^ 30) tk)
  fi : Addr × FuncData
  di : Df K mg "is_integer" sIsInt ["given"] fi.1 fi.2
  fr : Addr × FuncData
  dr : Df K mg "is_fraction" sIsFr ["given"] fr.1 fr.2
  fs : Addr × FuncData
  ds : Df K mg "is_step" sIsStep ["given"] fs.1 fs.2
  fp : Addr × FuncData
  dp : Df K mg "is_part" sIsPart ["given"] fp.1 fp.2
  fl : Addr × FuncData
  dl : Df K mg "is_less" sIsLess ["one", "other"] fl.1 fl.2
  fc : Addr × FuncData
  dc : Df K mg "check_step" sChStep ["given"] fc.1 fc.2
  fm : Addr × FuncData
  dm : Df K mg "is_number" sIsNum ["given", "least", "most"] fm.1 fm.2
  fn : Addr × FuncData
  dn : Df K mg "check_number" sChNum ["given", "least", "most"] fn.1 fn.2
  gc : Addr × FuncData
  ec : Df K mg "_check_count" sChCount ["step", "count"] gc.1 gc.2
  CS : Addr
  eS : Addr × FuncData
  tS : OwE P w K mg base "InvalidStep" ["given"] CS eS.1 eS.2
  CN : Addr
  eN : Addr × FuncData
  tN : OwE P w K mg base "InvalidNumber" ["given"] CN eN.1 eN.2
  CA : Addr
  eA : Addr × FuncData
  tA : OwE P w K mg base "InvalidArc" ["given"] CA eA.1 eA.2
theorem ok_chCountX {f : Addr} {fd : FuncData} (F : Fun K "_check_count" "_check_count" sChCount f fd) (M : Ck P w K mg base) : FnOk P w K mg base (L2N.CX P w) 5 f fd ["step", "count"] (spCountX K M.CS M.CN) := by
  have GC : FnOk P w K mg base (L2N.CX P w) 4 M.fc.1 M.fc.2 ["given"] (spChk K M.CS isSt) := ok_chStepX M.dc.F M.c M.di M.dr M.ds M.tS
  have GN : FnOk P w K mg base (L2N.CX P w) 3 M.fn.1 M.fn.2 ["given", "least", "most"] (spChkN K M.CN) := ok_chNumA M.dn.F M.c M.di M.dm M.tN
  refine okN F scChCount (fun vs H Q E h => ?_) (fun cdv A outer s H vs Q E hr h => ?_)
  · obtain ⟨v, u, d, e, rfl, _⟩ := h
    rfl
  · obtain ⟨v, u, d, e, rfl, an, am, q, xs, xn⟩ := h
    obtain ⟨tk0, hmc⟩ := M.mc
    have hr3 : Room 3 _ := hr.mono (by decide)
    have tk : L2N.Takes (cxOf (L2N.CX P w) P w K mg base ["step", "count"] "_check_count" (defScope sChCount) f cdv A outer s H E) (fun C d _ G => E C d G) := L2N.takes_of rfl rfl rfl rfl
    refine ⟨_, pss_cons (ps_expr (pe_callS GC hr (by rfl) M.dc.g M.dc.F.kp M.dc.b (fun σ => L2N.passAt tk σ) (pa_cons (pv 0) pa_nil)))
      (pss_one (ps_expr (pe_callS GN hr3 (by rfl) M.dn.g M.dn.F.kp M.dn.b (fun σ => L2N.passAt tk σ) (pa_cons (pv 1) (pa_cons pe_int (pa_cons (pe_glob (v := .int (10 ^ 30)) rfl hmc ⟨_, rfl⟩) pa_nil)))))), ?_⟩
    refine ⟨_, rfl, v, d, rfl, an, fun cs => ?_, fun cs => xs cs⟩
    exact ⟨_, rfl, u, e, 1, 10 ^ 30, rfl, am, fun cn => q cs cn, fun cn => xn cs cn⟩
theorem ok_chMarkX {f : Addr} {fd : FuncData} (F : Fun K "_check_mark" "_check_mark" sChMark f fd) (M : Ck P w K mg base) : FnOk P w K mg base (L2N.CX P w) 6 f fd ["step", "count", "mark"] (spMarkX K M.CS M.CN) := by
  have GC : FnOk P w K mg base (L2N.CX P w) 5 M.gc.1 M.gc.2 ["step", "count"] (spCountX K M.CS M.CN) := ok_chCountX M.ec.F M
  have GN : FnOk P w K mg base (L2N.CX P w) 3 M.fn.1 M.fn.2 ["given", "least", "most"] (spChkN K M.CN) := ok_chNumA M.dn.F M.c M.di M.dm M.tN
  refine okN F scChMark (fun vs H Q E h => ?_) (fun cdv A outer s H vs Q E hr h => ?_)
  · obtain ⟨v, u, k, d, e, m, rfl, _⟩ := h
    rfl
  · obtain ⟨v, u, k, d, e, m, rfl, an, am, ak, xs, xn, q⟩ := h
    have hr3 : Room 3 _ := hr.mono (by decide)
    have tk : L2N.Takes (cxOf (L2N.CX P w) P w K mg base ["step", "count", "mark"] "_check_mark" (defScope sChMark) f cdv A outer s H E) (fun C d _ G => E C d G) := L2N.takes_of rfl rfl rfl rfl
    refine ⟨_, pss_cons (ps_expr (pe_callS GC hr (by rfl) M.ec.g M.ec.F.kp M.ec.b (fun σ => L2N.passAt tk σ) (pa_cons (pv 0) (pa_cons (pv 1) pa_nil))))
      (pss_one (ps_expr (pe_callS GN hr3 (by rfl) M.dn.g M.dn.F.kp M.dn.b (fun σ => L2N.passAt tk σ) (pa_cons (pv 2) (pa_cons pe_int (pa_cons (pe_op op_sub (pv 1) pe_int) pa_nil)))))), ?_⟩
    refine ⟨_, rfl, _, rfl, v, u, d, e, rfl, an, am, fun cs cn => ?_, fun cs => xs cs, fun cs cn => xn cs cn⟩
    have ei : isInt e = true := by
      cases e with
      | int i => rfl
      | _ => cases cn
    obtain ⟨n, rfl, rfl⟩ := am.isI ei
    have b := of_decide_eq_true (show decide (1 ≤ n ∧ n ≤ 10 ^ 30) = true from cn)
    obtain ⟨q1, q2⟩ := q n cs rfl b.1 b.2
    exact ⟨_, rfl, _, rfl, _, _, rfl, rfl, k, m, 0, n - 1, rfl, ak, fun c => q2 c, fun c => q1 c⟩
theorem ok_chArcX {f : Addr} {fd : FuncData} (F : Fun K "_check_arc" "_check_arc" sChArc f fd) (M : Ck P w K mg base) : FnOk P w K mg base (L2N.CX P w) 4 f fd ["low", "high"] (spArcX K M.CA) := by
  have GP : FnOk P w K mg base CX0 3 M.fp.1 M.fp.2 ["given"] (spAsk K isPt) := ok_isPartA M.dp.F M.c M.di M.dr
  have GL : FnOk P w K mg base CX0 1 M.fl.1 M.fl.2 ["one", "other"] (spLess K) := ok_less M.dl.F
  refine okN F scChArc (fun vs H Q E h => ?_) (fun cdv A outer s H vs Q E hr h => ?_)
  · obtain ⟨v, u, d, e, rfl, _⟩ := h
    rfl
  · obtain ⟨v, u, d, e, rfl, an, am, bd, be, x1, x2, q⟩ := h
    have hr1 : Room 1 _ := hr.mono (by decide)
    have hr2 : Room 2 _ := hr.mono (by decide)
    have tk : L2N.Takes (cxOf (L2N.CX P w) P w K mg base ["low", "high"] "_check_arc" (defScope sChArc) f cdv A outer s H E) (fun C d _ G => E C d G) := L2N.takes_of rfl rfl rfl rfl
    refine ⟨_, pss_cons (ps_if (pt_not (pt_val (pe_call GP hr (by rfl) M.dp.g M.dp.F.kp M.dp.b .nil pass0 (pa_cons (pv 0) pa_nil))))
        (pss_one (L2N.ps_raise rfl tk (pmk_exoN (dvs := []) M.tA.own M.tA.ini M.tA.ty M.tA.run hr2 M.tA.b .nil pass0 (by rfl) M.tA.g (pa_cons (pv 0) pa_nil)))) pss_nil)
      (pss_one (ps_if (PW.pt (pw_or (pt_not (pt_val (pe_call GP hr (by rfl) M.dp.g M.dp.F.kp M.dp.b .nil pass0 (pa_cons (pv 1) pa_nil))))
          (pw_or1 (pt_not (pt_val (pe_call GL hr1 (by rfl) M.dl.g M.dl.F.kp M.dl.b .nil pass0 (pa_cons (pv 0) (pa_cons (pv 1) pa_nil))))))))
        (pss_one (L2N.ps_raise rfl tk (pmk_exoN (dvs := []) M.tA.own M.tA.ini M.tA.ty M.tA.run hr2 M.tA.b .nil pass0 (by rfl) M.tA.g (pa_cons (pv 1) pa_nil)))) pss_nil)), ?_⟩
    refine ⟨_, rfl, v, d, rfl, an, _, rfl, ?_⟩
    cases c1 : isPt d with
    | false =>
      refine iteT ?_
      exact thr_of (K := K) (C := M.CA) (n := "given") (i := 0) (x := v) M.tA.own (M.tA.no "given" (by simp)) rfl fun d H' s1 n1 h1 => x1 c1 d H' s1 n1 h1
    | true =>
      have f1 : isFr d = true := by
        cases z : isFr d with
        | true => rfl
        | false => rw [isPt_fr z] at c1; cases c1
      refine iteF ⟨_, rfl, u, e, rfl, am, _, rfl, ?_⟩
      cases c2 : isPt e with
      | false =>
        refine iteT ?_
        exact thr_of (K := K) (C := M.CA) (n := "given") (i := 1) (x := u) M.tA.own (M.tA.no "given" (by simp)) rfl fun d H' s1 n1 h1 => x2 c1 (by rw [c2]; rfl) d H' s1 n1 h1
      | true =>
        have f2 : isFr e = true := by
          cases z : isFr e with
          | true => rfl
          | false => rw [isPt_fr z] at c2; cases c2
        refine iteF ⟨_, rfl, _, rfl, v, u, d, e, rfl, an, am, f1, f2, bd, be, _, rfl, ?_⟩
        cases c3 : lessD d e with
        | false =>
          refine iteT ?_
          exact thr_of (K := K) (C := M.CA) (n := "given") (i := 1) (x := u) M.tA.own (M.tA.no "given" (by simp)) rfl fun d H' s1 n1 h1 => x2 c1 (by rw [c2, c3]; rfl) d H' s1 n1 h1
        | true => exact iteF (q c1 c2 c3)
end
end My
set_option Elab.async false
set_option linter.all false
set_option maxRecDepth 100000
set_option maxHeartbeats 4000000
/-! two promises of one def, one that never throws and one that does, put together -/
namespace Gn
open PySem PySem.Spec PyProof.Rows L2
section
variable {P : Program} {w : World} {K : PySem.W.Frag} {mg : Str → Option Value} {base : Heap} {CX : CXT} {k : Nat} {f : Addr} {fd : FuncData} {ps : List Str} {sp sp' : Sp}
theorem cr_up {outer : List Env} {H : Hp} {s s' : Shared} {Q : VK} {E : XK} {r : Result} (h : CR CX0 outer P w H s Q E r s') : CR CX outer P w H s Q E r s' := by
  match r, h with
  | .ok (.ret u), h => exact h
  | .error e, h => exact False.elim h
theorem okUp (F : FnOk P w K mg base CX0 k f fd ps sp) : FnOk P w K mg base CX k f fd ps sp :=
  ⟨F.len, fun A o s H a us vs Q E hr e hb hv h => codeAny_mono (F.run A o s H a us vs Q E hr e hb hv h) fun _ _ z => cr_up z⟩
theorem fgUp (F : FnG P w K mg base CX0 k f fd ps sp) : FnG P w K mg base CX k f fd ps sp :=
  ⟨F.len, fun A o s H a us vs Q E hg hr e hb hv h => codeAny_mono (F.run A o s H a us vs Q E hg hr e hb hv h) fun _ _ z => cr_up z⟩
def spOr (a b : Sp) : Sp := fun vs H Q E => a vs H Q E ∨ b vs H Q E
theorem okOr (F : FnOk P w K mg base CX k f fd ps sp) (G : FnOk P w K mg base CX k f fd ps sp') : FnOk P w K mg base CX k f fd ps (spOr sp sp') :=
  ⟨fun vs H Q E h => h.elim (F.len vs H Q E) (G.len vs H Q E), fun A o s H a us vs Q E hr e hb hv h => h.elim (fun h => F.run A o s H a us vs Q E hr e hb hv h) fun h => G.run A o s H a us vs Q E hr e hb hv h⟩
theorem fgOr (F : FnG P w K mg base CX k f fd ps sp) (G : FnG P w K mg base CX k f fd ps sp') : FnG P w K mg base CX k f fd ps (spOr sp sp') :=
  ⟨fun vs H Q E h => h.elim (F.len vs H Q E) (G.len vs H Q E), fun A o s H a us vs Q E hg hr e hb hv h => h.elim (fun h => F.run A o s H a us vs Q E hg hr e hb hv h) fun h => G.run A o s H a us vs Q E hg hr e hb hv h⟩
/-- what is refused, the rest never gone through -/
theorem okBad {x qual : Str} {st : Stmt} {f : Addr} {fd : FuncData} {N ps : List Str} {k : Nat} {sp : Sp} (F : Fun K x qual st f fd) (S : FnScope N ps (defScope st)) (len : ∀ vs H Q E, sp vs H Q E → vs.length = ps.length)
    (body : ∀ (cdv : Value) (A : Around) (outer : List Env) (s : Shared) (H : Hp) (vs : List V) (Q : VK) (E : XK), Room k (A.deeper (envOfC qual (defScope st) s.heap.objs.size f cdv)) → sp vs H Q E →
      L2N.Takes (cxOf (L2N.CX P w) P w K mg base N qual (defScope st) f cdv A outer s H E) (fun C d _ G => E C d G) →
      ∃ t, PSs (cxOf (L2N.CX P w) P w K mg base N qual (defScope st) f cdv A outer s H E) (defBody st) t ∧ t { nx := fun _ G => Q .non G, rt := Q } (start N vs) H) : FnOk P w K mg base (L2N.CX P w) (k + 1) f fd ps sp :=
  okN F S len fun cdv A outer s H vs Q E hr h => body cdv A outer s H vs Q E hr h (L2N.takes_of rfl rfl rfl rfl)
end
end Gn
set_option Elab.async false
set_option linter.all false
set_option maxRecDepth 100000
set_option maxHeartbeats 8000000
set_option exponentiation.threshold 2000
namespace My
open PySem PySem.Spec PyProof.Rows L2 L2H Gn
/-! the functions of steps, where they refuse -/
abbrev sPlace : Stmt := top 48
abbrev sOrder : Stmt := top 49
abbrev sMirr : Stmt := top 50
abbrev sParting : Stmt := top 51
abbrev sBetween : Stmt := top 52
theorem scPlace : FnScope ["step", "mark", "top", "bottom"] ["step", "mark"] (defScope sPlace) := ⟨rfl, rfl, rfl, by decide +kernel, rfl, by decide +kernel, by decide +kernel⟩
theorem scMirr : FnScope ["step", "top", "bottom"] ["step"] (defScope sMirr) := ⟨rfl, rfl, rfl, by decide +kernel, rfl, by decide +kernel, by decide +kernel⟩
theorem scParting : FnScope ["one", "other"] ["one", "other"] (defScope sParting) := ⟨rfl, rfl, rfl, by decide +kernel, rfl, by decide +kernel, by decide +kernel⟩
theorem scBetween : FnScope ["one", "other"] ["one", "other"] (defScope sBetween) := ⟨rfl, rfl, rfl, by decide +kernel, rfl, by decide +kernel, by decide +kernel⟩
/-- two arguments, the first of them that is wrong refused -/
def spBad2 (K : PySem.W.Frag) (C1 C2 : Addr) (r1 r2 : PyData → Bool) : Sp := fun vs H Q E => ∃ v u d e, vs = [v, u] ∧ An K H v d ∧ An K H u e ∧ ((r1 d = false ∧ Thrown C1 v H E) ∨ (r1 d = true ∧ r2 e = false ∧ Thrown C2 u H E))
def spBad1 (K : PySem.W.Frag) (C : Addr) (r : PyData → Bool) : Sp := fun vs H Q E => ∃ v d, vs = [v] ∧ An K H v d ∧ r d = false ∧ Thrown C v H E
theorem bad2 {C1 C2 : Addr} {v u : V} {b1 b2 : Bool} {H : Hp} {E : XK} (b : (b1 = false ∧ Thrown C1 v H E) ∨ (b1 = true ∧ b2 = false ∧ Thrown C2 u H E)) : (b1 = false → Thrown C1 v H E) ∧ (b1 = true → (b2 = true → False) ∧ (b2 = false → Thrown C2 u H E)) := by
  rcases b with ⟨rfl, t⟩ | ⟨rfl, rfl, t⟩
  · exact ⟨fun _ => t, fun z => nomatch z⟩
  · exact ⟨(fun z => nomatch z), fun _ => ⟨(fun z => nomatch z), fun _ => t⟩⟩
section
variable {P : Program} {w : World} {K : PySem.W.Frag} {mg : Str → Option Value} {base : Heap}
theorem bad_place {f : Addr} {fd : FuncData} (F : Fun K "place" "place" sPlace f fd) (M : Ck P w K mg base) : FnOk P w K mg base (L2N.CX P w) 5 f fd ["step", "mark"] (spBad2 K M.CS M.CN isSt (isNum · 0 (10 ^ 30))) := by
  have GC : FnOk P w K mg base (L2N.CX P w) 4 M.fc.1 M.fc.2 ["given"] (spChk K M.CS isSt) := ok_chStepX M.dc.F M.c M.di M.dr M.ds M.tS
  have GN : FnOk P w K mg base (L2N.CX P w) 3 M.fn.1 M.fn.2 ["given", "least", "most"] (spChkN K M.CN) := ok_chNumA M.dn.F M.c M.di M.dm M.tN
  refine okBad F scPlace (fun vs H Q E h => ?_) (fun cdv A outer s H vs Q E hr h tk => ?_)
  · obtain ⟨v, u, d, e, rfl, _⟩ := h
    rfl
  · obtain ⟨v, u, d, e, rfl, an, am, b⟩ := h
    obtain ⟨tk0, hmc⟩ := M.mc
    obtain ⟨b1, b2⟩ := bad2 b
    have hr3 : Room 3 _ := hr.mono (by decide)
    refine ⟨_, pss_cons (ps_expr (pe_callS GC hr (by rfl) M.dc.g M.dc.F.kp M.dc.b (fun σ => L2N.passAt tk σ) (pa_cons (pv 0) pa_nil)))
      (pss_cons (ps_expr (pe_callS GN hr3 (by rfl) M.dn.g M.dn.F.kp M.dn.b (fun σ => L2N.passAt tk σ) (pa_cons (pv 1) (pa_cons pe_int (pa_cons (pe_glob (v := .int (10 ^ 30)) rfl hmc ⟨_, rfl⟩) pa_nil))))) pss_never), ?_⟩
    refine ⟨_, rfl, v, d, rfl, an, fun cs => ?_, fun cs => b1 cs⟩
    exact ⟨_, rfl, u, e, 0, 10 ^ 30, rfl, am, fun cn => ((b2 cs).1 cn).elim, fun cn => (b2 cs).2 cn⟩
theorem bad_mirrored {f : Addr} {fd : FuncData} (F : Fun K "mirrored" "mirrored" sMirr f fd) (M : Ck P w K mg base) : FnOk P w K mg base (L2N.CX P w) 5 f fd ["step"] (spBad1 K M.CS isSt) := by
  have GC : FnOk P w K mg base (L2N.CX P w) 4 M.fc.1 M.fc.2 ["given"] (spChk K M.CS isSt) := ok_chStepX M.dc.F M.c M.di M.dr M.ds M.tS
  refine okBad F scMirr (fun vs H Q E h => ?_) (fun cdv A outer s H vs Q E hr h tk => ?_)
  · obtain ⟨v, d, rfl, _⟩ := h
    rfl
  · obtain ⟨v, d, rfl, an, b, t⟩ := h
    refine ⟨_, pss_cons (ps_expr (pe_callS GC hr (by rfl) M.dc.g M.dc.F.kp M.dc.b (fun σ => L2N.passAt tk σ) (pa_cons (pv 0) pa_nil))) pss_never, ?_⟩
    exact ⟨_, rfl, v, d, rfl, an, (fun cs => nomatch b.symm.trans cs), fun _ => t⟩
theorem bad_order {f : Addr} {fd : FuncData} (F : Fun K "order" "order" sOrder f fd) (M : Ck P w K mg base) (mo : ∃ tk, mg "_MOST_ORDERED" = some (.int 60 tk)) (S : FnScope ["step", "count", "top", "bottom", "standing", "mark"] ["step", "count"] (defScope sOrder)) : FnOk P w K mg base (L2N.CX P w) 5 f fd ["step", "count"] (spBad2 K M.CS M.CN isSt (isNum · 1 60)) := by
  have GC : FnOk P w K mg base (L2N.CX P w) 4 M.fc.1 M.fc.2 ["given"] (spChk K M.CS isSt) := ok_chStepX M.dc.F M.c M.di M.dr M.ds M.tS
  have GN : FnOk P w K mg base (L2N.CX P w) 3 M.fn.1 M.fn.2 ["given", "least", "most"] (spChkN K M.CN) := ok_chNumA M.dn.F M.c M.di M.dm M.tN
  refine okBad F S (fun vs H Q E h => ?_) (fun cdv A outer s H vs Q E hr h tk => ?_)
  · obtain ⟨v, u, d, e, rfl, _⟩ := h
    rfl
  · obtain ⟨v, u, d, e, rfl, an, am, b⟩ := h
    obtain ⟨tk0, hmc⟩ := mo
    obtain ⟨b1, b2⟩ := bad2 b
    have hr3 : Room 3 _ := hr.mono (by decide)
    refine ⟨_, pss_cons (ps_expr (pe_callS GC hr (by rfl) M.dc.g M.dc.F.kp M.dc.b (fun σ => L2N.passAt tk σ) (pa_cons (pv 0) pa_nil)))
      (pss_cons (ps_expr (pe_callS GN hr3 (by rfl) M.dn.g M.dn.F.kp M.dn.b (fun σ => L2N.passAt tk σ) (pa_cons (pv 1) (pa_cons pe_int (pa_cons (pe_glob (v := .int 60) rfl hmc ⟨_, rfl⟩) pa_nil))))) pss_never), ?_⟩
    refine ⟨_, rfl, v, d, rfl, an, fun cs => ?_, fun cs => b1 cs⟩
    exact ⟨_, rfl, u, e, 1, 60, rfl, am, fun cn => ((b2 cs).1 cn).elim, fun cn => (b2 cs).2 cn⟩
theorem bad_parting {f : Addr} {fd : FuncData} (F : Fun K "parting" "parting" sParting f fd) (M : Ck P w K mg base) : FnOk P w K mg base (L2N.CX P w) 5 f fd ["one", "other"] (spBad2 K M.CS M.CS isSt isSt) := by
  have GC : FnOk P w K mg base (L2N.CX P w) 4 M.fc.1 M.fc.2 ["given"] (spChk K M.CS isSt) := ok_chStepX M.dc.F M.c M.di M.dr M.ds M.tS
  refine okBad F scParting (fun vs H Q E h => ?_) (fun cdv A outer s H vs Q E hr h tk => ?_)
  · obtain ⟨v, u, d, e, rfl, _⟩ := h
    rfl
  · obtain ⟨v, u, d, e, rfl, an, am, b⟩ := h
    obtain ⟨b1, b2⟩ := bad2 b
    refine ⟨_, pss_cons (ps_expr (pe_callS GC hr (by rfl) M.dc.g M.dc.F.kp M.dc.b (fun σ => L2N.passAt tk σ) (pa_cons (pv 0) pa_nil)))
      (pss_cons (ps_expr (pe_callS GC hr (by rfl) M.dc.g M.dc.F.kp M.dc.b (fun σ => L2N.passAt tk σ) (pa_cons (pv 1) pa_nil))) pss_never), ?_⟩
    refine ⟨_, rfl, v, d, rfl, an, fun cs => ?_, fun cs => b1 cs⟩
    exact ⟨_, rfl, u, e, rfl, am, fun cn => ((b2 cs).1 cn).elim, fun cn => (b2 cs).2 cn⟩
theorem bad_between {f : Addr} {fd : FuncData} (F : Fun K "between" "between" sBetween f fd) (M : Ck P w K mg base) : FnOk P w K mg base (L2N.CX P w) 5 f fd ["one", "other"] (spBad2 K M.CS M.CS isSt isSt) := by
  have GC : FnOk P w K mg base (L2N.CX P w) 4 M.fc.1 M.fc.2 ["given"] (spChk K M.CS isSt) := ok_chStepX M.dc.F M.c M.di M.dr M.ds M.tS
  refine okBad F scBetween (fun vs H Q E h => ?_) (fun cdv A outer s H vs Q E hr h tk => ?_)
  · obtain ⟨v, u, d, e, rfl, _⟩ := h
    rfl
  · obtain ⟨v, u, d, e, rfl, an, am, b⟩ := h
    obtain ⟨b1, b2⟩ := bad2 b
    refine ⟨_, pss_cons (ps_expr (pe_callS GC hr (by rfl) M.dc.g M.dc.F.kp M.dc.b (fun σ => L2N.passAt tk σ) (pa_cons (pv 0) pa_nil)))
      (pss_cons (ps_expr (pe_callS GC hr (by rfl) M.dc.g M.dc.F.kp M.dc.b (fun σ => L2N.passAt tk σ) (pa_cons (pv 1) pa_nil))) pss_never), ?_⟩
    refine ⟨_, rfl, v, d, rfl, an, fun cs => ?_, fun cs => b1 cs⟩
    exact ⟨_, rfl, u, e, rfl, am, fun cn => ((b2 cs).1 cn).elim, fun cn => (b2 cs).2 cn⟩
end
end My
set_option Elab.async false
set_option linter.all false
set_option maxRecDepth 100000
set_option maxHeartbeats 8000000
set_option exponentiation.threshold 2000
namespace My
open PySem PySem.Spec PyProof.Rows L2 L2H Gn
/-! the functions of ranks, where they refuse -/
abbrev sNext : Stmt := top 29
abbrev sLast : Stmt := top 30
abbrev sRank : Stmt := top 31
abbrev sMarkOf : Stmt := top 32
abbrev sHowMany : Stmt := top 33
abbrev sFirstW : Stmt := top 34
abbrev sMany : Stmt := top 39
theorem scNext : FnScope ["step", "count", "mark", "many", "first", "last"] ["step", "count", "mark"] (defScope sNext) := ⟨rfl, rfl, rfl, by decide +kernel, rfl, by decide +kernel, by decide +kernel⟩
theorem scLast : FnScope ["step", "count", "mark", "many", "first", "last"] ["step", "count", "mark"] (defScope sLast) := ⟨rfl, rfl, rfl, by decide +kernel, rfl, by decide +kernel, by decide +kernel⟩
theorem scRank : FnScope ["step", "count", "mark"] ["step", "count", "mark"] (defScope sRank) := ⟨rfl, rfl, rfl, by decide +kernel, rfl, by decide +kernel, by decide +kernel⟩
theorem scMarkOf : FnScope ["step", "count", "rank", "many", "least", "most", "middle"] ["step", "count", "rank"] (defScope sMarkOf) := ⟨rfl, rfl, rfl, by decide +kernel, rfl, by decide +kernel, by decide +kernel⟩
theorem scHowMany : FnScope ["step", "count", "low", "high", "below_high"] ["step", "count", "low", "high"] (defScope sHowMany) := ⟨rfl, rfl, rfl, by decide +kernel, rfl, by decide +kernel, by decide +kernel⟩
theorem scFirstW : FnScope ["step", "low", "high", "least", "most"] ["step", "low", "high"] (defScope sFirstW) := ⟨rfl, rfl, rfl, by decide +kernel, rfl, by decide +kernel, by decide +kernel⟩
theorem scMany : FnScope ["step", "count"] ["step", "count"] (defScope sMany) := ⟨rfl, rfl, rfl, by decide +kernel, rfl, by decide +kernel, by decide +kernel⟩
/-- step, number, mark: the first of them that is wrong refused -/
def spBad3 (K : PySem.W.Frag) (CS CN : Addr) : Sp := fun vs H Q E => ∃ (v u k : V) (d e m : PyData), vs = [v, u, k] ∧ An K H v d ∧ An K H u e ∧ An K H k m ∧
  ((isSt d = false ∧ Thrown CS v H E) ∨ (isSt d = true ∧ isNum e 1 (10 ^ 30) = false ∧ Thrown CN u H E) ∨ (∃ n : Int, isSt d = true ∧ e = .int n ∧ 1 ≤ n ∧ n ≤ 10 ^ 30 ∧ isNum m 0 (n - 1) = false ∧ Thrown CN k H E))
theorem num_of {n a b : Int} (h1 : a ≤ n) (h2 : n ≤ b) : isNum (.int n) a b = true := decide_eq_true ⟨h1, h2⟩
theorem bad3 {K : PySem.W.Frag} {CS CN : Addr} {v u k : V} {d e m : PyData} {H : Hp} {Q : Prop} {E : XK}
    (b : (isSt d = false ∧ Thrown CS v H E) ∨ (isSt d = true ∧ isNum e 1 (10 ^ 30) = false ∧ Thrown CN u H E) ∨ (∃ n : Int, isSt d = true ∧ e = .int n ∧ 1 ≤ n ∧ n ≤ 10 ^ 30 ∧ isNum m 0 (n - 1) = false ∧ Thrown CN k H E)) :
    (isSt d = false → Thrown CS v H E) ∧ (isSt d = true → isNum e 1 (10 ^ 30) = false → Thrown CN u H E) ∧ (∀ n : Int, isSt d = true → e = .int n → 1 ≤ n → n ≤ 10 ^ 30 → (isNum m 0 (n - 1) = false → Thrown CN k H E) ∧ (isNum m 0 (n - 1) = true → Q)) := by
  rcases b with ⟨b, t⟩ | ⟨b, c, t⟩ | ⟨n, b, rfl, n1, n2, c, t⟩
  · exact ⟨fun _ => t, (fun z => nomatch b.symm.trans z), fun _ z => nomatch b.symm.trans z⟩
  · refine ⟨(fun z => nomatch b.symm.trans z), fun _ _ => t, fun n _ z h1 h2 => ?_⟩
    subst z
    exact nomatch c.symm.trans (num_of h1 h2)
  · refine ⟨(fun z => nomatch b.symm.trans z), (fun _ z => nomatch z.symm.trans (num_of n1 n2)), fun n' _ z _ _ => ?_⟩
    cases z
    exact ⟨fun _ => t, fun z => nomatch c.symm.trans z⟩
section
variable {P : Program} {w : World} {K : PySem.W.Frag} {mg : Str → Option Value} {base : Heap}
theorem bad_Next {f fM : Addr} {fd fdM : FuncData} (F : Fun K "next_mark" "next_mark" sNext f fd) (M : Ck P w K mg base) (D : Df K mg "_check_mark" sChMark ["step", "count", "mark"] fM fdM) : FnOk P w K mg base (L2N.CX P w) 7 f fd ["step", "count", "mark"] (spBad3 K M.CS M.CN) := by
  have GM : FnOk P w K mg base (L2N.CX P w) 6 fM fdM ["step", "count", "mark"] (spMarkX K M.CS M.CN) := ok_chMarkX D.F M
  refine okBad F scNext (fun vs H Q E h => ?_) (fun cdv A outer s H vs Q E hr h tk => ?_)
  · obtain ⟨v, u, k, d, e, m, rfl, _⟩ := h
    rfl
  · obtain ⟨v, u, k, d, e, m, rfl, an, am, ak, b⟩ := h
    obtain ⟨b1, b2, b3⟩ := bad3 (K := K) (Q := False) b
    refine ⟨_, pss_cons (ps_expr (pe_callS GM hr (by rfl) D.g D.F.kp D.b (fun σ => L2N.passAt tk σ) (pa_cons (pv 0) (pa_cons (pv 1) (pa_cons (pv 2) pa_nil))))) pss_never, ?_⟩
    exact ⟨_, rfl, _, rfl, _, rfl, v, u, k, d, e, m, rfl, an, am, ak, b1, b2, fun n h1 h2 h3 h4 => ⟨(b3 n h1 h2 h3 h4).1, fun z => ((b3 n h1 h2 h3 h4).2 z).elim⟩⟩
theorem bad_Last {f fM : Addr} {fd fdM : FuncData} (F : Fun K "last_mark" "last_mark" sLast f fd) (M : Ck P w K mg base) (D : Df K mg "_check_mark" sChMark ["step", "count", "mark"] fM fdM) : FnOk P w K mg base (L2N.CX P w) 7 f fd ["step", "count", "mark"] (spBad3 K M.CS M.CN) := by
  have GM : FnOk P w K mg base (L2N.CX P w) 6 fM fdM ["step", "count", "mark"] (spMarkX K M.CS M.CN) := ok_chMarkX D.F M
  refine okBad F scLast (fun vs H Q E h => ?_) (fun cdv A outer s H vs Q E hr h tk => ?_)
  · obtain ⟨v, u, k, d, e, m, rfl, _⟩ := h
    rfl
  · obtain ⟨v, u, k, d, e, m, rfl, an, am, ak, b⟩ := h
    obtain ⟨b1, b2, b3⟩ := bad3 (K := K) (Q := False) b
    refine ⟨_, pss_cons (ps_expr (pe_callS GM hr (by rfl) D.g D.F.kp D.b (fun σ => L2N.passAt tk σ) (pa_cons (pv 0) (pa_cons (pv 1) (pa_cons (pv 2) pa_nil))))) pss_never, ?_⟩
    exact ⟨_, rfl, _, rfl, _, rfl, v, u, k, d, e, m, rfl, an, am, ak, b1, b2, fun n h1 h2 h3 h4 => ⟨(b3 n h1 h2 h3 h4).1, fun z => ((b3 n h1 h2 h3 h4).2 z).elim⟩⟩
theorem bad_Rank {f fM : Addr} {fd fdM : FuncData} (F : Fun K "rank" "rank" sRank f fd) (M : Ck P w K mg base) (D : Df K mg "_check_mark" sChMark ["step", "count", "mark"] fM fdM) : FnOk P w K mg base (L2N.CX P w) 7 f fd ["step", "count", "mark"] (spBad3 K M.CS M.CN) := by
  have GM : FnOk P w K mg base (L2N.CX P w) 6 fM fdM ["step", "count", "mark"] (spMarkX K M.CS M.CN) := ok_chMarkX D.F M
  refine okBad F scRank (fun vs H Q E h => ?_) (fun cdv A outer s H vs Q E hr h tk => ?_)
  · obtain ⟨v, u, k, d, e, m, rfl, _⟩ := h
    rfl
  · obtain ⟨v, u, k, d, e, m, rfl, an, am, ak, b⟩ := h
    obtain ⟨b1, b2, b3⟩ := bad3 (K := K) (Q := False) b
    refine ⟨_, pss_cons (ps_expr (pe_callS GM hr (by rfl) D.g D.F.kp D.b (fun σ => L2N.passAt tk σ) (pa_cons (pv 0) (pa_cons (pv 1) (pa_cons (pv 2) pa_nil))))) pss_never, ?_⟩
    exact ⟨_, rfl, _, rfl, _, rfl, v, u, k, d, e, m, rfl, an, am, ak, b1, b2, fun n h1 h2 h3 h4 => ⟨(b3 n h1 h2 h3 h4).1, fun z => ((b3 n h1 h2 h3 h4).2 z).elim⟩⟩
def spBadArc (K : PySem.W.Frag) (C1 C2 CA : Addr) : Sp := fun vs H Q E => ∃ (v u l h : V) (d e p q : PyData), vs = [v, u, l, h] ∧ An K H v d ∧ An K H u e ∧ An K H l p ∧ An K H h q ∧ Bd p ∧ Bd q ∧
  ((isSt d = false ∧ Thrown C1 v H E) ∨ (isSt d = true ∧ isNum e 1 (10 ^ 30) = false ∧ Thrown C2 u H E) ∨ (isSt d = true ∧ isNum e 1 (10 ^ 30) = true ∧ isPt p = false ∧ Thrown CA l H E) ∨ (isSt d = true ∧ isNum e 1 (10 ^ 30) = true ∧ isPt p = true ∧ (isPt q && lessD p q) = false ∧ Thrown CA h H E))
theorem bad_HowMany {f fA : Addr} {fd fdA : FuncData} (F : Fun K "how_many" "how_many" sHowMany f fd) (M : Ck P w K mg base) (D : Df K mg "_check_arc" sChArc ["low", "high"] fA fdA) : FnOk P w K mg base (L2N.CX P w) 6 f fd ["step", "count", "low", "high"] (spBadArc K M.CS M.CN M.CA) := by
  have GC : FnOk P w K mg base (L2N.CX P w) 5 M.gc.1 M.gc.2 ["step", "count"] (spCountX K M.CS M.CN) := ok_chCountX M.ec.F M
  have GA : FnOk P w K mg base (L2N.CX P w) 4 fA fdA ["low", "high"] (spArcX K M.CA) := ok_chArcX D.F M
  refine okBad F scHowMany (fun vs H Q E h => ?_) (fun cdv A outer s H vs Q E hr h tk => ?_)
  · obtain ⟨v, u, l, h, d, e, p, q, rfl, _⟩ := h
    rfl
  · obtain ⟨v, u, l, h, d, e, p, q, rfl, an, am, al, ah, bp, bq, b⟩ := h
    have hr4 : Room 4 _ := hr.mono (by decide)
    refine ⟨_, pss_cons (ps_expr (pe_callS GC hr (by rfl) M.ec.g M.ec.F.kp M.ec.b (fun σ => L2N.passAt tk σ) (pa_cons (pv 0) (pa_cons (pv 1) pa_nil))))
      (pss_cons (ps_expr (pe_callS GA hr4 (by rfl) D.g D.F.kp D.b (fun σ => L2N.passAt tk σ) (pa_cons (pv 2) (pa_cons (pv 3) pa_nil)))) pss_never), ?_⟩
    refine ⟨_, rfl, _, rfl, v, u, d, e, rfl, an, am, fun cs cn => ?_, fun cs => ?_, fun cs cn => ?_⟩
    · refine ⟨_, rfl, _, rfl, l, h, p, q, rfl, al, ah, bp, bq, fun c => ?_, fun c c2 => ?_, fun c c2 c3 => ?_⟩
      · rcases b with ⟨z, t⟩ | ⟨_, z, t⟩ | ⟨_, _, _, t⟩ | ⟨_, _, z, _, t⟩
        · exact nomatch cs.symm.trans z
        · exact nomatch cn.symm.trans z
        · exact t
        · exact nomatch c.symm.trans z
      · rcases b with ⟨z, t⟩ | ⟨_, z, t⟩ | ⟨_, _, z, t⟩ | ⟨_, _, z, _, t⟩
        · exact nomatch cs.symm.trans z
        · exact nomatch cn.symm.trans z
        · exact nomatch c.symm.trans z
        · exact t
      · rcases b with ⟨z, t⟩ | ⟨_, z, t⟩ | ⟨_, _, z, t⟩ | ⟨_, _, z, y, t⟩
        · exact nomatch cs.symm.trans z
        · exact nomatch cn.symm.trans z
        · exact nomatch c.symm.trans z
        · rw [c2, c3] at y
          cases y
    · rcases b with ⟨z, t⟩ | ⟨z, _, t⟩ | ⟨z, _, _, t⟩ | ⟨z, _, _, _, t⟩
      · exact t
      all_goals exact nomatch cs.symm.trans z
    · rcases b with ⟨z, t⟩ | ⟨_, z, t⟩ | ⟨_, z, _, t⟩ | ⟨_, z, _, _, t⟩
      · exact nomatch cs.symm.trans z
      · exact t
      all_goals exact nomatch cn.symm.trans z
def spBadWithin (K : PySem.W.Frag) (C1 CA : Addr) : Sp := fun vs H Q E => ∃ (v l h : V) (d p q : PyData), vs = [v, l, h] ∧ An K H v d ∧ An K H l p ∧ An K H h q ∧ Bd p ∧ Bd q ∧
  ((isSt d = false ∧ Thrown C1 v H E) ∨ (isSt d = true ∧ isPt p = false ∧ Thrown CA l H E) ∨ (isSt d = true ∧ isPt p = true ∧ (isPt q && lessD p q) = false ∧ Thrown CA h H E))
theorem bad_FirstW {f fA : Addr} {fd fdA : FuncData} (F : Fun K "first_within" "first_within" sFirstW f fd) (M : Ck P w K mg base) (D : Df K mg "_check_arc" sChArc ["low", "high"] fA fdA) : FnOk P w K mg base (L2N.CX P w) 5 f fd ["step", "low", "high"] (spBadWithin K M.CS M.CA) := by
  have GC : FnOk P w K mg base (L2N.CX P w) 4 M.fc.1 M.fc.2 ["given"] (spChk K M.CS isSt) := ok_chStepX M.dc.F M.c M.di M.dr M.ds M.tS
  have GA : FnOk P w K mg base (L2N.CX P w) 4 fA fdA ["low", "high"] (spArcX K M.CA) := ok_chArcX D.F M
  refine okBad F scFirstW (fun vs H Q E h => ?_) (fun cdv A outer s H vs Q E hr h tk => ?_)
  · obtain ⟨v, l, h, d, p, q, rfl, _⟩ := h
    rfl
  · obtain ⟨v, l, h, d, p, q, rfl, an, al, ah, bp, bq, b⟩ := h
    refine ⟨_, pss_cons (ps_expr (pe_callS GC hr (by rfl) M.dc.g M.dc.F.kp M.dc.b (fun σ => L2N.passAt tk σ) (pa_cons (pv 0) pa_nil)))
      (pss_cons (ps_expr (pe_callS GA hr (by rfl) D.g D.F.kp D.b (fun σ => L2N.passAt tk σ) (pa_cons (pv 1) (pa_cons (pv 2) pa_nil)))) pss_never), ?_⟩
    refine ⟨_, rfl, v, d, rfl, an, fun cs => ?_, fun cs => ?_⟩
    · refine ⟨_, rfl, _, rfl, l, h, p, q, rfl, al, ah, bp, bq, fun c => ?_, fun c c2 => ?_, fun c c2 c3 => ?_⟩
      · rcases b with ⟨z, t⟩ | ⟨_, z, t⟩ | ⟨_, z, _, t⟩
        · exact nomatch cs.symm.trans z
        · exact t
        · exact nomatch c.symm.trans z
      · rcases b with ⟨z, t⟩ | ⟨_, z, t⟩ | ⟨_, z, _, t⟩
        · exact nomatch cs.symm.trans z
        · exact nomatch c.symm.trans z
        · exact t
      · rcases b with ⟨z, t⟩ | ⟨_, z, t⟩ | ⟨_, z, y, t⟩
        · exact nomatch cs.symm.trans z
        · exact nomatch c.symm.trans z
        · rw [c2, c3] at y
          cases y
    · rcases b with ⟨z, t⟩ | ⟨z, _, t⟩ | ⟨z, _, _, t⟩
      · exact t
      all_goals exact nomatch cs.symm.trans z
end
end My
set_option Elab.async false
set_option linter.all false
set_option maxRecDepth 100000
set_option maxHeartbeats 8000000
set_option exponentiation.threshold 2000
namespace My
open PySem PySem.Spec PyProof.Rows L2 L2H Gn
/-! the law's own questions -/
abbrev sLUnder : Stmt := top 66
abbrev sLNum : Stmt := top 68
abbrev sLPart : Stmt := top 69
abbrev sLIsSt : Stmt := top 70
theorem scLNum : FnScope ["_law_thing", "_law_low_here", "_law_high"] ["_law_thing", "_law_low_here", "_law_high"] (defScope sLNum) := ⟨rfl, rfl, rfl, by decide +kernel, rfl, by decide +kernel, by decide +kernel⟩
theorem scLPart : FnScope ["_law_thing"] ["_law_thing"] (defScope sLPart) := ⟨rfl, rfl, rfl, by decide +kernel, rfl, by decide +kernel, by decide +kernel⟩
theorem scLIsSt : FnScope ["_law_thing"] ["_law_thing"] (defScope sLIsSt) := ⟨rfl, rfl, rfl, by decide +kernel, rfl, by decide +kernel, by decide +kernel⟩
theorem scLUnder : FnScope ["_law_one", "_law_two"] ["_law_one", "_law_two"] (defScope sLUnder) := ⟨rfl, rfl, rfl, by decide +kernel, rfl, by decide +kernel, by decide +kernel⟩
/-- a pair of integers has its second one in bounds -/
def Lt60 (d : PyData) : Prop := ∀ p b, d = .tuple [p, .int b] → b ≤ 10 ^ 60
def spAsk60 (K : PySem.W.Frag) (r : PyData → Bool) : Sp := fun vs H Q _ => ∃ v d, vs = [v] ∧ An K H v d ∧ Lt60 d ∧ Q (.bl (r d)) H
section
variable {P : Program} {w : World} {K : PySem.W.Frag} {mg : Str → Option Value} {base : Heap}
theorem ok_lNum {f : Addr} {fd : FuncData} (F : Fun K "_law_is_number" "_law_is_number" sLNum f fd) (B : Bc mg) : FnOk P w K mg base CX0 1 f fd ["_law_thing", "_law_low_here", "_law_high"] (spNumA K) := by
  refine F.ok scLNum (fun vs H Q E h => ?_) (fun cdv A outer s H vs Q E hr h => ?_)
  · obtain ⟨v, d, a, b, rfl, _⟩ := h
    rfl
  · obtain ⟨v, d, a, b, rfl, an, q⟩ := h
    refine ⟨_, pss_one (ps_ret (pe_and (pe_callB call_isi (by rfl) B.isi (by decide +kernel) (pa_cons (pv 0) (pa_cons (pe_bltn (v := .ty "int") (by rfl) B.int (by decide +kernel) rfl) pa_nil)))
      (pe_and (pe_not (pe_callB call_isi (by rfl) B.isi (by decide +kernel) (pa_cons (pv 0) (pa_cons (pe_bltn (v := .ty "bool") (by rfl) B.bool (by decide +kernel) rfl) pa_nil)))) (pe_one (pe_chain op_le op_le (pv 1) (pv 0) (pv 2)))))), ?_⟩
    refine ⟨_, rfl, v, .ty "int", _, _, _, rfl, .ty "int", an.ty, kit_ty kit_int, _, rfl, ?_⟩
    cases ei : isIntB d with
    | false =>
      have e : isNum d a b = false := by cases d <;> first | rfl | cases ei
      rw [e] at q
      exact iteF q
    | true =>
      refine iteT ⟨_, rfl, v, .ty "bool", _, _, _, rfl, .ty "bool", an.ty, kit_ty kit_bool, ?_⟩
      cases eb : isBoolB d with
      | true =>
        have e : isNum d a b = false := by cases d <;> first | rfl | cases eb
        rw [e] at q
        exact ⟨_, rfl, _, rfl, iteF q⟩
      | false =>
        have e3 : isInt d = true := by cases d <;> first | rfl | (cases ei; done) | (cases eb; done)
        obtain ⟨i, rfl, rfl⟩ := an.isI e3
        refine ⟨_, rfl, _, rfl, iteT ⟨_, rfl, _, rfl, _, _, rfl, rfl, _, rfl, ?_⟩⟩
        refine ite2 (fun hc => ?_) (fun hc => ?_)
        · have h1 : a ≤ i := of_decide_eq_true hc
          refine ⟨_, rfl, _, _, rfl, rfl, ?_⟩
          have e : isNum (.int i) a b = decide (i ≤ b) := by
            show decide (a ≤ i ∧ i ≤ b) = _
            rw [decide_eq_decide]; exact ⟨fun z => z.2, fun z => ⟨h1, z⟩⟩
          rw [e] at q
          exact q
        · have h1 : ¬ a ≤ i := fun z => hc (decide_eq_true z)
          have e : isNum (.int i) a b = false := decide_eq_false fun z => h1 z.1
          rw [e] at q
          exact q
theorem ok_lPart {f fN fG : Addr} {fd fdN fdG : FuncData} (F : Fun K "_law_is_part" "_law_is_part" sLPart f fd) (B : Bc mg) (Bl' : Bl mg) (N : Df K mg "_law_is_number" sLNum ["_law_thing", "_law_low_here", "_law_high"] fN fdN) (G : Df K mg "_law_gcd" sGcd ["_law_one", "_law_two"] fG fdG) : FnOk P w K mg base CX0 2 f fd ["_law_thing"] (spAsk60 K isPt) := by
  have GN : FnOk P w K mg base CX0 1 fN fdN ["_law_thing", "_law_low_here", "_law_high"] (spNumA K) := ok_lNum N.F B
  have GG : FnOk P w K mg base CX0 1 fG fdG ["_law_one", "_law_two"] spGcd := ok_gcd G.F Bl'
  refine F.ok scLPart (fun vs H Q E h => ?_) (fun cdv A outer s H vs Q E hr h => ?_)
  · obtain ⟨v, d, rfl, _⟩ := h
    rfl
  · obtain ⟨v, d, rfl, an, h60, q⟩ := h
    refine ⟨_, pss_cons (ps_if (PW.pt (pw_or (pt_not (pt_val (pe_callB call_isi (by rfl) B.isi (by decide +kernel) (pa_cons (pv 0) (pa_cons (pe_bltn (v := .ty "tuple") (by rfl) B.tuple (by decide +kernel) rfl) pa_nil)))))
        (pw_or (pt_cmpR op_ne (pe_callB call_len_seq (by rfl) B.len PySem.boot_len (pa_cons (pv 0) pa_nil)) pe_int (nomark _))
        (pw_or1 (pt_not (pt_val (pe_call GN hr (by rfl) N.g N.F.kp N.b .nil pass0 (pa_cons (pe_ix ix_tup (pv 0) pe_int (fun _ _ => rfl)) (pa_cons pe_int (pa_cons (pe_op op_pow pe_int pe_int) pa_nil)))))))))) (pss_one (ps_ret pe_bl)) pss_nil)
      (pss_one (ps_ret (pe_and (pe_call GN hr (by rfl) N.g N.F.kp N.b .nil pass0 (pa_cons (pe_ix ix_tup (pv 0) pe_int (fun _ _ => rfl)) (pa_cons pe_int (pa_cons (pe_ix ix_tup (pv 0) pe_int (fun _ _ => rfl)) pa_nil))))
        (pe_one (pe_cmpR op_eq (pe_call GG hr (by rfl) G.g G.F.kp G.b .nil pass0 (pa_cons (pe_ix ix_tup (pv 0) pe_int (fun _ _ => rfl)) (pa_cons (pe_ix ix_tup (pv 0) pe_int (fun _ _ => rfl)) pa_nil))) pe_int (nomark _)))))), ?_⟩
    refine ⟨_, rfl, v, .ty "tuple", _, _, _, rfl, .ty "tuple", an.ty, kit_ty kit_tup, _, rfl, ?_⟩
    cases et : isTupB d with
    | false =>
      rw [isPt_fr (isFr_ty et)] at q
      exact iteT q
    | true =>
      refine iteF ?_
      obtain ⟨a, xs, ds, rfl, rfl, hT, all⟩ := an.isT et
      refine ⟨_, rfl, a, xs, rfl, .inr (SqT.of hT), rfl, _, rfl, ?_⟩
      by_cases hl : xs.length = 2
      · obtain ⟨x, y, p, p', rfl, rfl, dx, dy⟩ := dpAll_two all hl
        refine iteF ⟨_, rfl, a, _, 1, y, rfl, rfl, SqT.of hT, at_of (j := 1) rfl rfl, ?_⟩
        refine ⟨_, _, rfl, rfl, ⟨by decide, by decide, by decide⟩, y, p', 1, 10 ^ 60, rfl, dy, _, rfl, ?_⟩
        cases c : isNum p' 1 (10 ^ 60) with
        | false =>
          have e : isPt (.tuple [p, p']) = false := by
            refine isPt_fr ?_
            cases ei : isInt p' with
            | false => exact isFr_no (.inr ei)
            | true =>
              obtain ⟨j, rfl, rfl⟩ := dy.isI ei
              have j2 : j ≤ 10 ^ 60 := h60 p j rfl
              have j1 : ¬ 1 ≤ j := fun z => nomatch c.symm.trans (num_of z j2)
              cases p with
              | int i => simp only [isFr, decide_eq_false j1, Bool.false_and]
              | _ => rfl
          rw [e] at q
          exact iteT q
        | true =>
          have ei : isInt p' = true := by
            cases p' with
            | int i => rfl
            | _ => cases c
          obtain ⟨j, rfl, rfl⟩ := dy.isI ei
          have j1 := (of_decide_eq_true (show decide (1 ≤ j ∧ j ≤ 10 ^ 60) = true from c)).1
          refine iteF ⟨_, rfl, a, _, 0, x, rfl, rfl, SqT.of hT, at_of (j := 0) rfl rfl, ?_⟩
          refine ⟨_, rfl, a, _, 1, .int j, rfl, rfl, SqT.of hT, at_of (j := 1) rfl rfl, x, p, 0, j, rfl, dx, _, rfl, ?_⟩
          cases c0 : isNum p 0 j with
          | false =>
            have e : isPt (.tuple [p, .int j]) = false := by
              cases p with
              | int i =>
                have z : ¬ (0 ≤ i ∧ i ≤ j) := of_decide_eq_false c0
                have y1 : (decide (0 ≤ i) && decide (i ≤ j)) = false := by
                  rw [← Bool.decide_and]; exact decide_eq_false z
                simp only [isPt, y1, Bool.and_false]
              | _ => rfl
            rw [e] at q
            exact iteF q
          | true =>
            have e0 : isInt p = true := by
              cases p with
              | int i => rfl
              | _ => cases c0
            obtain ⟨i, rfl, rfl⟩ := dx.isI e0
            have i0 := of_decide_eq_true (show decide (0 ≤ i ∧ i ≤ j) = true from c0)
            refine iteT ⟨_, rfl, a, _, 0, .int i, rfl, rfl, SqT.of hT, at_of (j := 0) rfl rfl, ?_⟩
            refine ⟨_, rfl, a, _, 1, .int j, rfl, rfl, SqT.of hT, at_of (j := 1) rfl rfl, i, j, rfl, i0.1, by omega, rfl, ?_⟩
            have e : decide (V.int ((Nat.gcd i.natAbs j.natAbs : Nat) : Int) = V.int 1) = isPt (.tuple [.int i, .int j]) := by
              simp only [isPt, isFr, decide_eq_true j1, decide_eq_true i0.1, decide_eq_true i0.2, Bool.true_and, Bool.and_true]
              rw [decide_eq_decide, V.int.injEq]
              show ((Int.gcd i j : Nat) : Int) = 1 ↔ _
              omega
            show Q (.bl (decide (V.int ((Nat.gcd i.natAbs j.natAbs : Nat) : Int) = V.int 1))) H
            rw [e]
            exact q
      · rw [isPt_fr (isFr_len (fun z => hl ((dpAll_len all).trans z)))] at q
        have e : (!(decide (V.int (xs.length : Int) = V.int 2))) = true := by
          rw [decide_eq_false, Bool.not_false]
          intro z
          rw [V.int.injEq] at z
          exact hl (by omega)
        show if (!(decide (V.int (xs.length : Int) = V.int 2))) = true then _ else _
        rw [e]
        exact iteT q
end
end My
set_option Elab.async false
set_option linter.all false
set_option maxRecDepth 100000
set_option maxHeartbeats 4000000
/-! repr of such values, empty dicts too -/
namespace Gn
open PySem PySem.Spec PyProof.Rows L2
section
variable {X : Cx} {pins : List (Addr × Obj)} {σ : L2.St} {H : Hp} {s : Shared}
mutual
theorem An.reads (I : Inv X pins σ H s) : ∀ {v : V} {d : PyData} (u : Value), An X.K H v d → RelV v u → ∃ as, Reads s.heap u d as ∧ ∀ b ∈ as, b ≠ sysModules
  | _, _, _, .non, r => by
    cases r
    exact ⟨_, Reads.none, fun _ h => nomatch h⟩
  | _, _, _, .bl b, r => by
    cases r
    exact ⟨_, Reads.bool b, fun _ h => nomatch h⟩
  | _, _, _, .int i, r => by
    obtain ⟨t, rfl⟩ := r
    exact ⟨_, Reads.int i t, fun _ h => nomatch h⟩
  | _, _, _, .str x, r => by
    obtain ⟨t, rfl⟩ := r
    exact ⟨_, Reads.str x t, fun _ h => nomatch h⟩
  | _, _, _, .lst (a := a) h ne ha, r => by
    cases r
    obtain ⟨_, its, n, rv, ho⟩ := (show ObjOk X.prog X.w H s.heap a (.lst _) from I.hok a _ h)
    obtain ⟨as, hr, hn⟩ := AnAll.reads I its ha rv
    refine ⟨_, Reads.list ho rfl rfl hr, fun b hb => ?_⟩
    rcases List.mem_cons.mp hb with rfl | hb
    · exact ne
    · exact hn b hb
  | _, _, _, .tup (a := a) h ha, r => by
    cases r
    obtain ⟨_, its, rv, o, ho, hc, n, hd⟩ := (show ObjOk X.prog X.w H s.heap a (.tup _) from I.hok a _ h)
    obtain ⟨as, hr, hn⟩ := AnAll.reads I its ha rv
    exact ⟨_, Reads.tuple ho hc hd hr, hn⟩
  | _, _, _, .dct (a := a) h, r => by
    cases r
    obtain ⟨_, nm, vs, kv, o, es, ep, ho, ex, hd, _, pr, _⟩ := (show ObjOk X.prog X.w H s.heap a (.dK []) from I.hok a _ h)
    cases kv
    have e0 : es.toList = [] := by cases hq : es.toList with
      | nil => rfl
      | cons z zs => rw [hq] at pr; cases pr
    refine ⟨_, Reads.dict (as := []) (bs := []) (kvs := []) ho ex.1 hd (by rw [e0]; exact .nil) (by rw [e0]; exact .nil), fun b hb => ?_⟩
    rcases List.mem_cons.mp hb with rfl | hb
    · exact fun z => by rw [z] at nm; cases nm
    · cases hb
theorem AnAll.reads (I : Inv X pins σ H s) : ∀ {vs : List V} {ds : List PyData} (us : List Value), AnAll X.K H vs ds → Vals vs us → ∃ as, ReadsAll s.heap us ds as ∧ ∀ b ∈ as, b ≠ sysModules
  | _, _, _, .nil, r => by
    cases r
    exact ⟨_, ReadsAll.nil, fun _ h => nomatch h⟩
  | _, _, _, .cons h1 h2, r => by
    cases r with
    | cons r1 r2 =>
      obtain ⟨as, q1, n1⟩ := An.reads I _ h1 r1
      obtain ⟨bs, q2, n2⟩ := AnAll.reads I _ h2 r2
      exact ⟨_, ReadsAll.cons q1 q2, fun b hb => (List.mem_append.mp hb).elim (n1 b) (n2 b)⟩
end
end
section
variable {X : Cx}
/-- repr(x), x a list or a tuple of such data -/
def rReprA (K : PySem.W.Frag) : List V → Hp → VK → Prop := fun xs H Q => ∃ a d, xs = [V.ref a] ∧ An K H (.ref a) d ∧ d.showable = true ∧ d.depth < 60 ∧ d.shown.length ≤ sizeLine ∧ Q (.str d.shown) H
theorem cr_reprA (hg : X.A.guards = some []) (hu : X.A.units + 64 < cLine) : CallR X (.builtin "repr") (rReprA X.K) := by
  intro pins s σ H xs us Q I r h
  obtain ⟨a, d, rfl, hd, hs, hdp, hz, q⟩ := h
  rw [Vals.ref1 r]
  obtain ⟨as, rd, hn⟩ := An.reads I _ hd rfl
  exact repr_of_reads' rd hs (fun _ hm => hn _ hm rfl) hg (by omega) (fun _ _ e => e) (fun h' u tk k => ⟨.str d.shown, H, I.kept (t' := tk) k, ⟨u, rfl⟩, q⟩) hz
/-- a list display, its place told not to be that of the modules' dict -/
def tLstZ (t : TA) : TE := fun σ H Q => t σ H fun xs H1 => xs.length ≤ sizeLine ∧ ∀ p, H1 p = none → p ≠ sysModules → Q (.ref p) (upd H1 p (.lst xs))
theorem pe_lstZ {es : List Expr} {pos : Pos} {t : TA} (h : PA X es t) : PE X (.List es pos) (tLstZ t) := by
  refine ⟨fun pins s σ H Q I hq => ?_⟩
  refine wpAny_List_spliced (thn (h.run pos pins s σ H _ I hq) fun us s1 ⟨xs, H1, I1, r, z, q⟩ => ⟨by rw [← r.length]; exact z, ?_⟩)
  have hf : H1 s1.heap.objs.size = none := I1.hok.fresh (Nat.le_refl _)
  refine ⟨.ref s1.heap.objs.size, upd H1 s1.heap.objs.size (.lst xs), I1.laid (t' := s1.toks) (fun b u e => Heap.get?_push_of_some _ e) (Nat.le_refl _) ?_, rfl, q _ hf (Nat.ne_of_gt I1.big)⟩
  exact ⟨z, us, 0, r, Heap.get?_push_size _ rfl⟩
/-- x != y, two lists, y empty: whatever x has -/
def rNeNil (K : PySem.W.Frag) : R2 := fun x y H Q => ∃ a b xs, x = .ref a ∧ y = .ref b ∧ SqL K H a xs ∧ SqL K H b [] ∧ Q (.bl (!xs.isEmpty)) H
theorem op_neNil (hu : X.A.units < cLine) : OpR X (compareOp .NotEq) (rNeNil X.K) := by
  intro pins s σ H x y v u Q I rx ry h
  obtain ⟨a, b, xs, rfl, rfl, ha, hb, q⟩ := h
  cases (show v = Value.ref a from rx)
  cases (show u = Value.ref b from ry)
  obtain ⟨us, r1, p1, _⟩ := I.list ha
  obtain ⟨ws, r2, p2, _⟩ := I.list hb
  cases r2
  cases r1 with
  | nil => exact SeqAt.RcNeAt.lists (e := fun _ => true) p1.isList p2.isList rfl hu (fun j h1 h2 => absurd h2 (Nat.not_lt_zero j)) _ _ _ _ ⟨.bl _, H, I, rfl, q⟩
  | cons r1 r2 => exact SeqAt.RcNeAt.lists_lengths p1.isList p2.isList (by simp) hu _ _ _ _ ⟨.bl _, H, I, rfl, q⟩
end
end Gn
set_option Elab.async false
set_option linter.all false
set_option maxRecDepth 100000
set_option maxHeartbeats 8000000
set_option exponentiation.threshold 2000
namespace My
open PySem PySem.Spec PyProof.Rows L2 L2H Gn
/-! the law's own questions, what is due, whether it came -/
abbrev sLEnds : Stmt := top 75
abbrev sLDue : Stmt := top 76
theorem scLEnds : FnScope ["_law_found", "_law_dues"] ["_law_found", "_law_dues"] (defScope sLEnds) := ⟨rfl, rfl, rfl, by decide +kernel, rfl, by decide +kernel, by decide +kernel⟩
theorem scLDue : FnScope ["_law_word", "_law_thing", "_law_is_good"] ["_law_word", "_law_thing", "_law_is_good"] (defScope sLDue) := ⟨rfl, rfl, rfl, by decide +kernel, rfl, by decide +kernel, by decide +kernel⟩
/-- a list of such values, wherever it lies -/
def DuesAt (K : PySem.W.Frag) (H : Hp) (r : V) (ds : List PyData) : Prop := ∃ p xs, r = .ref p ∧ H p = some (.lst xs) ∧ AnAll K H xs ds
theorem DuesAt.same {K : PySem.W.Frag} {H H' : Hp} {r : V} {ds : List PyData} (e : Same H H') (h : DuesAt K H r ds) : DuesAt K H' r ds := by
  obtain ⟨p, xs, rfl, h, a⟩ := h
  exact ⟨p, xs, rfl, e _ _ h, a.same e⟩
/-- what is due where g says that it is right -/
def dueD (wd : Str) (d : PyData) (g : Bool) : List PyData := if g = true then [] else [.list [.str wd, d]]
def spDue (K : PySem.W.Frag) : Sp := fun vs H Q _ => ∃ (wd : Str) (v : V) (d : PyData) (g : Bool), vs = [.str wd, v, .bl g] ∧ An K H v d ∧ ∀ r H', Same H H' → DuesAt K H' r (dueD wd d g) → Q r H'
/-- small enough to be shown -/
structure Shw (d : PyData) : Prop where
  sh : d.showable = true
  dp : d.depth < 60
  ln : d.shown.length ≤ sizeLine
def spEnds (K : PySem.W.Frag) : Sp := fun vs H Q _ => ∃ (f : Addr) (u : V), vs = [.ref f, u] ∧ ((∃ (wd : Str) (r : V), DuesAt K H u [] ∧ H f = some (.lst [.str wd, r]) ∧ ∀ H', Same H H' → Q (.bl (decide (wd = "told"))) H') ∨
  ∃ (e d : PyData) (es : List PyData), DuesAt K H u (e :: es) ∧ (∃ ls, e = .list ls) ∧ An K H (.ref f) d ∧ Shw d ∧ Shw e ∧ ∀ H', Same H H' → Q (.bl (decide (d.shown = e.shown))) H')
section
variable {P : Program} {w : World} {K : PySem.W.Frag} {mg : Str → Option Value} {base : Heap}
theorem ok_lIsSt {f fN fG fP : Addr} {fd fdN fdG fdP : FuncData} (F : Fun K "_law_is_step" "_law_is_step" sLIsSt f fd) (B : Bc mg) (Bl' : Bl mg) (N : Df K mg "_law_is_number" sLNum ["_law_thing", "_law_low_here", "_law_high"] fN fdN) (G : Df K mg "_law_gcd" sGcd ["_law_one", "_law_two"] fG fdG) (Pt : Df K mg "_law_is_part" sLPart ["_law_thing"] fP fdP) : FnOk P w K mg base CX0 3 f fd ["_law_thing"] (spAsk60 K isSt) := by
  have GP : FnOk P w K mg base CX0 2 fP fdP ["_law_thing"] (spAsk60 K isPt) := ok_lPart Pt.F B Bl' N G
  refine F.ok scLIsSt (fun vs H Q E h => ?_) (fun cdv A outer s H vs Q E hr h => ?_)
  · obtain ⟨v, d, rfl, _⟩ := h
    rfl
  · obtain ⟨v, d, rfl, an, h60, q⟩ := h
    refine ⟨_, pss_one (ps_ret (pe_and (pe_call GP hr (by rfl) Pt.g Pt.F.kp Pt.b .nil pass0 (pa_cons (pv 0) pa_nil)) (pe_one (pe_cmpR op_lt (pe_ix ix_tup (pv 0) pe_int (fun _ _ => rfl)) (pe_ix ix_tup (pv 0) pe_int (fun _ _ => rfl)) (nomark _))))), ?_⟩
    refine ⟨_, rfl, v, d, rfl, an, h60, _, rfl, ?_⟩
    cases ep : isPt d with
    | false =>
      have e : isSt d = false := by
        unfold isPt at ep
        unfold isSt
        split
        · rename_i t b
          simp only at ep
          cases ef : isFr (.tuple [.int t, .int b]) with
          | false => rfl
          | true =>
            rw [ef, Bool.true_and, ← Bool.decide_and] at ep
            have z : ¬ (0 ≤ t ∧ t ≤ b) := of_decide_eq_false ep
            rw [Bool.true_and, ← Bool.decide_and]
            exact decide_eq_false fun y => z ⟨y.1, by omega⟩
        · rfl
      rw [e] at q
      exact iteF q
    | true =>
      have ef : isFr d = true := by
        cases z : isFr d with
        | true => rfl
        | false => rw [isPt_fr z] at ep; cases ep
      obtain ⟨a, t, b, rfl, rfl, hT, b1, co⟩ := fr_of an ef
      refine iteT ⟨_, rfl, a, _, 0, .int t, rfl, rfl, SqT.of hT, at_of (j := 0) rfl rfl, ?_⟩
      refine ⟨_, rfl, a, _, 1, .int b, rfl, rfl, SqT.of hT, at_of (j := 1) rfl rfl, _, _, rfl, rfl, ?_⟩
      have e : isSt (.tuple [.int t, .int b]) = decide (t < b) := by
        have z : (decide (0 ≤ t) && decide (t ≤ b)) = true := by
          simp only [isPt, ef, Bool.true_and] at ep; exact ep
        have t0 := of_decide_eq_true (Bool.and_eq_true_iff.mp z).1
        simp only [isSt, ef, Bool.true_and, decide_eq_true t0]
      rw [e] at q
      exact q
theorem ok_due {f : Addr} {fd : FuncData} (F : Fun K "_law_due" "_law_due" sLDue f fd) : FnOk P w K mg base CX0 1 f fd ["_law_word", "_law_thing", "_law_is_good"] (spDue K) := by
  refine F.ok scLDue (fun vs H Q E h => ?_) (fun cdv A outer s H vs Q E hr h => ?_)
  · obtain ⟨wd, v, d, g, rfl, _⟩ := h
    rfl
  · obtain ⟨wd, v, d, g, rfl, an, q⟩ := h
    refine ⟨_, pss_one (ps_ret (pe_ifExp (pt_val (pv 2)) (pe_lstZ pa_nil) (pe_lst (pa_cons (pe_lstZ (pa_cons (pv 0) (pa_cons (pv 1) pa_nil))) pa_nil)))), ?_⟩
    refine ⟨_, rfl, g, rfl, ?_⟩
    cases g with
    | true =>
      refine iteT ⟨by decide, fun p hp np => ?_⟩
      exact q _ _ (same_put hp) ⟨p, [], rfl, upd_same, .nil⟩
    | false =>
      refine iteF ⟨_, rfl, _, rfl, (by show 2 ≤ sizeLine; decide), fun p hp np => ⟨(by show 1 ≤ sizeLine; decide), fun r hr' => ?_⟩⟩
      have s1 := same_put (o := .lst [.str wd, v]) hp
      have s2 := same_put (o := .lst [.ref p]) hr'
      exact q _ _ (s1.trans s2) ⟨r, [.ref p], rfl, upd_same, .cons (.lst (s2 _ _ upd_same) np (.cons (.str wd) (.cons (an.same (s1.trans s2)) .nil))) .nil⟩
theorem ok_ends {f : Addr} {fd : FuncData} (F : Fun K "_law_ends_right" "_law_ends_right" sLEnds f fd) (rp : mg "repr" = none) : FnG P w K mg base CX0 1 f fd ["_law_found", "_law_dues"] (spEnds K) := by
  refine funG0 F scLEnds (fun vs H Q E h => ?_) (fun cdv A outer s H vs Q E hg hr h => ?_)
  · obtain ⟨f, u, rfl, _⟩ := h
    rfl
  · obtain ⟨f, u, rfl, b⟩ := h
    have hu : (A.deeper (envOfC "_law_ends_right" (defScope sLEnds) s.heap.objs.size _ cdv)).units + 64 < cLine := hr.units
    refine ⟨_, pss_one (ps_ret (pe_ifExp (pt_cmpR (op_neNil (Nat.lt_of_le_of_lt (Nat.le_add_right _ 64) hu)) (pv 1) (pe_lst pa_nil) (nomark _))
      (pe_cmpR op_eq (pe_callB (cr_reprA hg hu) (by rfl) rp (by decide +kernel) (pa_cons (pv 0) pa_nil)) (pe_callB (cr_reprA hg hu) (by rfl) rp (by decide +kernel) (pa_cons (pe_ix ix_list (pv 1) pe_int (fun _ _ => rfl)) pa_nil)) (nomark _))
      (pe_cmpR op_eq (pe_ix ix_list (pv 0) pe_int (fun _ _ => rfl)) pe_str (nomark _)))), ?_⟩
    rcases b with ⟨wd, r, ⟨p, xs, rfl, hp, all⟩, hf, q⟩ | ⟨e, d, es, ⟨p, xs, rfl, hp, all⟩, ⟨ls, rfl⟩, an, sd, se, q⟩
    · cases all
      refine ⟨_, rfl, (by show 0 ≤ sizeLine; decide), fun z hz => ?_⟩
      have s1 := same_put (o := .lst []) hz
      refine ⟨p, z, [], rfl, rfl, .inl (.inl (s1 _ _ hp)), .inl (.inl upd_same), _, rfl, iteF ?_⟩
      refine ⟨_, rfl, _, _, 0, .str wd, rfl, rfl, .inl (.inl (s1 _ _ hf)), at_of (j := 0) rfl rfl, ?_⟩
      have e : decide (V.str wd = V.str "told") = decide (wd = "told") := by rw [decide_eq_decide, V.str.injEq]
      refine ⟨rfl, ?_⟩
      rw [e]
      exact q _ s1
    · cases all with
      | cons h1 h2 =>
        refine ⟨_, rfl, (by show 0 ≤ sizeLine; decide), fun z hz => ?_⟩
        have s1 := same_put (o := .lst []) hz
        refine ⟨p, z, _, rfl, rfl, .inl (.inl (s1 _ _ hp)), .inl (.inl upd_same), _, rfl, iteT ?_⟩
        refine ⟨_, rfl, f, d, rfl, an.same s1, sd.sh, sd.dp, sd.ln, ?_⟩
        cases h1 with
        | lst h0 ne t =>
          refine ⟨_, rfl, p, _, 0, _, rfl, rfl, .inl (.inl (s1 _ _ hp)), at_of (j := 0) rfl rfl, _, _, rfl, .lst (s1 _ _ h0) ne (t.same s1), se.sh, se.dp, se.ln, ?_⟩
          have e : decide (V.str d.shown = V.str (PyData.list ls).shown) = decide (d.shown = (PyData.list ls).shown) := by rw [decide_eq_decide, V.str.injEq]
          refine ⟨rfl, ?_⟩
          rw [e]
          exact q _ s1
end
end My
set_option Elab.async false
set_option linter.all false
set_option maxRecDepth 100000
set_option maxHeartbeats 8000000
set_option exponentiation.threshold 2000
namespace My
open PySem PySem.Spec PyProof.Rows L2 L2H Gn
/-! values of any kind, drawn -/
abbrev sLOdd : Stmt := top 71
theorem scLOdd : FnScope ["_law_tin_here", "_law_some"] ["_law_tin_here"] (defScope sLOdd) := ⟨rfl, rfl, rfl, by decide +kernel, rfl, by decide +kernel, by decide +kernel⟩
def isA (K : PySem.W.Frag) (d : PyData) : Fact := fun H v => An K H v d
theorem lasts_A {K : PySem.W.Frag} {d : PyData} : Lasts (isA K d) := fun _ _ _ e h => An.same e h
theorem lastsAll_A {K : PySem.W.Frag} {ds : List PyData} : LastsAll (ds.map (isA K)) := fun q h => by
  obtain ⟨d, _, rfl⟩ := List.mem_map.mp h
  exact lasts_A
theorem allF_A {K : PySem.W.Frag} {H : Hp} : ∀ {ds : List PyData} {vs : List V}, AllF (ds.map (isA K)) H vs → AnAll K H vs ds
  | [], vs, h => by
    have e : vs = [] := h
    subst e
    exact .nil
  | d :: ds, v :: vs, h => .cons h.1 (allF_A h.2)
section
variable {K : PySem.W.Frag} {σ : L2.St} {H : Hp} {d : PyData} {ds : List PyData} {te : TE} {ta : TA}
/-- ints, texts and the like as they are -/
def plain : V → Option PyData
  | .non => some .none
  | .bl b => some (.bool b)
  | .int i => some (.int i)
  | .str x => some (.str x)
  | _ => none
theorem fa_c (v : V) (h : plain v = some d := by rfl) : Fm (tC v) σ H (isA K d) := fun H1 _ Q q => q v H1 (Same.refl _) (by
  cases v with
  | non => cases h; exact .non
  | bl b => cases h; exact .bl b
  | int i => cases h; exact .int i
  | str x => cases h; exact .str x
  | _ => cases h)
theorem fa_neg {i : Int} : Fm (tUn (rU fun i => .int (-i)) (tC (.int i))) σ H (isA K (.int (-i))) := fun H1 _ Q q => ⟨i, rfl, q _ H1 (Same.refl _) (.int _)⟩
theorem fa_big : Fm (tOp (rI0 fun i j => .int (i + j)) (tOp (rI CPow fun i j => .int (i ^ j.toNat)) (tC (.int 10)) (tC (.int 30))) (tC (.int 1))) σ H (isA K (.int (10 ^ 30 + 1))) := fun H1 _ Q q =>
  ⟨10, 30, rfl, rfl, ⟨by decide, by decide, by decide⟩, _, _, rfl, rfl, q _ H1 (Same.refl _) (.int _)⟩
structure FmD (K : PySem.W.Frag) (ta : TA) (σ : L2.St) (H : Hp) (ds : List PyData) : Prop where
  fm : FmA ta σ H (ds.map (isA K))
theorem faA_nil : FmD K tNil σ H [] := ⟨fmA_nil⟩
theorem faA_cons (h : Fm te σ H (isA K d)) (hs : FmD K ta σ H ds) : FmD K (tCons te ta) σ H (d :: ds) := ⟨fmA_cons lasts_A h hs.fm⟩
theorem fa_tup (hl : ds.length ≤ 1000) (hs : FmD K ta σ H ds) : Fm (tTup ta) σ H (isA K (.tuple ds)) := fun H1 e Q q => hs.fm H1 e _ fun vs H2 e2 rs =>
  ⟨by rw [rs.len, List.length_map, sizeLine_eq]; omega, fun p hp => q _ _ (e2.trans (same_put hp)) (.tup upd_same ((allF_A rs).same (same_put hp)))⟩
theorem fa_lst (hl : ds.length ≤ 1000) (hs : FmD K ta σ H ds) : Fm (tLstZ ta) σ H (isA K (.list ds)) := fun H1 e Q q => hs.fm H1 e _ fun vs H2 e2 rs =>
  ⟨by rw [rs.len, List.length_map, sizeLine_eq]; omega, fun p hp np => q _ _ (e2.trans (same_put hp)) (.lst upd_same np ((allF_A rs).same (same_put hp)))⟩
theorem fa_dct : Fm tDNewK σ H (isA K (.dict [])) := fun H1 e Q q => fun p hp => q _ _ (same_put hp) (.dct upd_same)
end
def odd1 : List PyData := [.none, .bool true, .bool false, .int 0, .int 1, .int (-1), .int 41, .int (10 ^ 30 + 1), .str "", .str "none", .str "1/3", .tuple [], .tuple [.int 1, .int 3], .tuple [.int 0, .int 1], .tuple [.int 1, .int 1], .tuple [.int 2, .int 4], .tuple [.int 3, .int 2]]
def odd2 : List PyData := [.tuple [.int (-1), .int 2], .tuple [.int 1, .int 0], .tuple [.bool true, .int 2], .list [.int 1, .int 3], .dict [], .tuple [.int 1, .int 3, .int 5], .tuple [.str "on", .int 1, .int 2], .tuple [.str "turn", .int 0, .int 1, .int 1], .tuple [.str "next", .int 1, .int 0, .int 1], .tuple [.tuple [.int 1, .int 3]]]
def odds : List PyData := odd1 ++ odd2
/-- lists in it are not three long: no tin -/
def no3 : PyData → Bool
  | .list ds => ds.length != 3 && no3s ds
  | .tuple ds => no3s ds
  | _ => true
where no3s : List PyData → Bool
  | [] => true
  | d :: ds => no3 d && no3s ds
mutual
theorem an_sip {K : PySem.W.Frag} {H H' : Hp} {t : Addr} (T : Tin H t) (e : Sipped H H' t) : ∀ {v : V} {d : PyData}, An K H v d → no3 d = true → An K H' v d
  | _, _, .non, _ => .non
  | _, _, .bl b, _ => .bl b
  | _, _, .int i, _ => .int i
  | _, _, .str x, _ => .str x
  | _, _, .lst (a := a) (xs := xs) h n s, f => by
    simp only [no3, Bool.and_eq_true] at f
    refine .lst (e.2 _ _ h fun z => ?_) n (anAll_sip T e s f.2)
    obtain ⟨_, _, _, ht, _⟩ := T
    rw [z, ht] at h
    cases h
    have l := dpAll_len s
    have l3 := f.1
    rw [← l] at l3
    exact absurd l3 (by simp)
  | _, _, .tup (a := a) h s, f => by
    simp only [no3] at f
    refine .tup (e.2 _ _ h fun z => ?_) (anAll_sip T e s f)
    obtain ⟨_, _, _, ht, _⟩ := T
    rw [z, ht] at h
    cases h
  | _, _, .dct (a := a) h, _ => by
    refine .dct (e.2 _ _ h fun z => ?_)
    obtain ⟨_, _, _, ht, _⟩ := T
    rw [z, ht] at h
    cases h
theorem anAll_sip {K : PySem.W.Frag} {H H' : Hp} {t : Addr} (T : Tin H t) (e : Sipped H H' t) : ∀ {vs : List V} {ds : List PyData}, AnAll K H vs ds → no3.no3s ds = true → AnAll K H' vs ds
  | _, _, .nil, _ => .nil
  | _, _, .cons h s, f => by
    simp only [no3.no3s, Bool.and_eq_true] at f
    exact .cons (an_sip T e h f.1) (anAll_sip T e s f.2)
end
theorem odds_no3 : no3.no3s odds = true := by decide +kernel
theorem anAll_at {K : PySem.W.Frag} {H : Hp} : ∀ {vs : List V} {ds : List PyData} (i : Nat), AnAll K H vs ds → i < vs.length → ∃ v d, vs[i]? = some v ∧ d ∈ ds ∧ An K H v d
  | _, _, 0, .cons h _, _ => ⟨_, _, rfl, List.mem_cons_self, h⟩
  | _, _, i + 1, .cons _ s, l => by
    obtain ⟨v, d, e, m, a⟩ := anAll_at i s (Nat.lt_of_succ_lt_succ l)
    exact ⟨v, d, by simpa using e, List.mem_cons_of_mem _ m, a⟩
def tOdd1 : TA := (tCons (tC .non) (tCons (tC (.bl true)) (tCons (tC (.bl false)) (tCons (tC (.int 0)) (tCons (tC (.int 1)) (tCons (tUn (rU fun i => .int (-i)) (tC (.int 1))) (tCons (tC (.int 41)) (tCons (tOp (rI0 fun i j => .int (i + j)) (tOp (rI CPow fun i j => .int (i ^ j.toNat)) (tC (.int 10)) (tC (.int 30))) (tC (.int 1))) (tCons (tC (.str "")) (tCons (tC (.str "none")) (tCons (tC (.str "1/3")) (tCons (tTup tNil) (tCons (tTup (tCons (tC (.int 1)) (tCons (tC (.int 3)) tNil))) (tCons (tTup (tCons (tC (.int 0)) (tCons (tC (.int 1)) tNil))) (tCons (tTup (tCons (tC (.int 1)) (tCons (tC (.int 1)) tNil))) (tCons (tTup (tCons (tC (.int 2)) (tCons (tC (.int 4)) tNil))) (tCons (tTup (tCons (tC (.int 3)) (tCons (tC (.int 2)) tNil))) tNil)))))))))))))))))
def tOdd2 : TA := (tCons (tTup (tCons (tUn (rU fun i => .int (-i)) (tC (.int 1))) (tCons (tC (.int 2)) tNil))) (tCons (tTup (tCons (tC (.int 1)) (tCons (tC (.int 0)) tNil))) (tCons (tTup (tCons (tC (.bl true)) (tCons (tC (.int 2)) tNil))) (tCons (tLstZ (tCons (tC (.int 1)) (tCons (tC (.int 3)) tNil))) (tCons (tDNewK) (tCons (tTup (tCons (tC (.int 1)) (tCons (tC (.int 3)) (tCons (tC (.int 5)) tNil)))) (tCons (tTup (tCons (tC (.str "on")) (tCons (tC (.int 1)) (tCons (tC (.int 2)) tNil)))) (tCons (tTup (tCons (tC (.str "turn")) (tCons (tC (.int 0)) (tCons (tC (.int 1)) (tCons (tC (.int 1)) tNil))))) (tCons (tTup (tCons (tC (.str "next")) (tCons (tC (.int 1)) (tCons (tC (.int 0)) (tCons (tC (.int 1)) tNil))))) (tCons (tTup (tCons (tTup (tCons (tC (.int 1)) (tCons (tC (.int 3)) tNil))) tNil)) tNil))))))))))
theorem fm_odd1 {K : PySem.W.Frag} {σ : L2.St} {H : Hp} : FmD K tOdd1 σ H odd1 := by unfold tOdd1; exact (faA_cons (fa_c .non) (faA_cons (fa_c (.bl true)) (faA_cons (fa_c (.bl false)) (faA_cons (fa_c (.int 0)) (faA_cons (fa_c (.int 1)) (faA_cons (fa_neg) (faA_cons (fa_c (.int 41)) (faA_cons (fa_big) (faA_cons (fa_c (.str "")) (faA_cons (fa_c (.str "none")) (faA_cons (fa_c (.str "1/3")) (faA_cons (fa_tup (by decide) faA_nil) (faA_cons (fa_tup (by decide) (faA_cons (fa_c (.int 1)) (faA_cons (fa_c (.int 3)) faA_nil))) (faA_cons (fa_tup (by decide) (faA_cons (fa_c (.int 0)) (faA_cons (fa_c (.int 1)) faA_nil))) (faA_cons (fa_tup (by decide) (faA_cons (fa_c (.int 1)) (faA_cons (fa_c (.int 1)) faA_nil))) (faA_cons (fa_tup (by decide) (faA_cons (fa_c (.int 2)) (faA_cons (fa_c (.int 4)) faA_nil))) (faA_cons (fa_tup (by decide) (faA_cons (fa_c (.int 3)) (faA_cons (fa_c (.int 2)) faA_nil))) faA_nil)))))))))))))))))
theorem fm_odd2 {K : PySem.W.Frag} {σ : L2.St} {H : Hp} : FmD K tOdd2 σ H odd2 := by unfold tOdd2; exact (faA_cons (fa_tup (by decide) (faA_cons (fa_neg) (faA_cons (fa_c (.int 2)) faA_nil))) (faA_cons (fa_tup (by decide) (faA_cons (fa_c (.int 1)) (faA_cons (fa_c (.int 0)) faA_nil))) (faA_cons (fa_tup (by decide) (faA_cons (fa_c (.bl true)) (faA_cons (fa_c (.int 2)) faA_nil))) (faA_cons (fa_lst (by decide) (faA_cons (fa_c (.int 1)) (faA_cons (fa_c (.int 3)) faA_nil))) (faA_cons (fa_dct) (faA_cons (fa_tup (by decide) (faA_cons (fa_c (.int 1)) (faA_cons (fa_c (.int 3)) (faA_cons (fa_c (.int 5)) faA_nil)))) (faA_cons (fa_tup (by decide) (faA_cons (fa_c (.str "on")) (faA_cons (fa_c (.int 1)) (faA_cons (fa_c (.int 2)) faA_nil)))) (faA_cons (fa_tup (by decide) (faA_cons (fa_c (.str "turn")) (faA_cons (fa_c (.int 0)) (faA_cons (fa_c (.int 1)) (faA_cons (fa_c (.int 1)) faA_nil))))) (faA_cons (fa_tup (by decide) (faA_cons (fa_c (.str "next")) (faA_cons (fa_c (.int 1)) (faA_cons (fa_c (.int 0)) (faA_cons (fa_c (.int 1)) faA_nil))))) (faA_cons (fa_tup (by decide) (faA_cons (fa_tup (by decide) (faA_cons (fa_c (.int 1)) (faA_cons (fa_c (.int 3)) faA_nil))) faA_nil)) faA_nil))))))))))
theorem no3_mem : ∀ {ds : List PyData} {d : PyData}, no3.no3s ds = true → d ∈ ds → no3 d = true
  | e :: ds, d, h, m => by
    simp only [no3.no3s, Bool.and_eq_true] at h
    rcases List.mem_cons.mp m with rfl | m
    · exact h.1
    · exact no3_mem h.2 m
def spOdd (K : PySem.W.Frag) : Sp := fun vs H Q _ => ∃ t, vs = [.ref t] ∧ Tin H t ∧ ∀ v d H', d ∈ odds → An K H' v d → Sipped H H' t → Q v H'
section
variable {P : Program} {w : World} {K : PySem.W.Frag} {mg : Str → Option Value} {base : Heap}
theorem ok_odd {f fS : Addr} {fd fdS : FuncData} (F : Fun K "_law_odd" "_law_odd" sLOdd f fd) (B : Bl mg) (S : Df K mg "_law_sip" sSip ["_law_tin_here", "_law_top"] fS fdS) : FnOk P w K mg base CX0 2 f fd ["_law_tin_here"] (spOdd K) := by
  have GS : FnOk P w K mg base CX0 1 fS fdS ["_law_tin_here", "_law_top"] spSip := ok_sip S.F B
  refine F.ok scLOdd (fun vs H Q E h => ?_) (fun cdv A outer s H vs Q E hr h => ?_)
  · obtain ⟨t, rfl, _⟩ := h
    rfl
  · obtain ⟨t, rfl, T, q⟩ := h
    refine ⟨_, pss_cons (ps_set (i := 1) scLOdd.nd rfl (.inl rfl) (pe_lst (t := tOdd1) (by unfold tOdd1; exact (pa_cons pe_non (pa_cons pe_bl (pa_cons pe_bl (pa_cons pe_int (pa_cons pe_int (pa_cons (pe_un un_neg pe_int) (pa_cons pe_int (pa_cons (pe_op op_add (pe_op op_pow pe_int pe_int) pe_int) (pa_cons pe_str (pa_cons pe_str (pa_cons pe_str (pa_cons (pe_tup pa_nil) (pa_cons (pe_tup (pa_cons pe_int (pa_cons pe_int pa_nil))) (pa_cons (pe_tup (pa_cons pe_int (pa_cons pe_int pa_nil))) (pa_cons (pe_tup (pa_cons pe_int (pa_cons pe_int pa_nil))) (pa_cons (pe_tup (pa_cons pe_int (pa_cons pe_int pa_nil))) (pa_cons (pe_tup (pa_cons pe_int (pa_cons pe_int pa_nil))) pa_nil))))))))))))))))))))
      (pss_cons (ps_set (i := 1) scLOdd.nd rfl (.inl rfl) (pe_op op_cat (pv 1) (pe_lst (t := tOdd2) (by unfold tOdd2; exact (pa_cons (pe_tup (pa_cons (pe_un un_neg pe_int) (pa_cons pe_int pa_nil))) (pa_cons (pe_tup (pa_cons pe_int (pa_cons pe_int pa_nil))) (pa_cons (pe_tup (pa_cons pe_bl (pa_cons pe_int pa_nil))) (pa_cons (pe_lstZ (pa_cons pe_int (pa_cons pe_int pa_nil))) (pa_cons pe_dnewK (pa_cons (pe_tup (pa_cons pe_int (pa_cons pe_int (pa_cons pe_int pa_nil)))) (pa_cons (pe_tup (pa_cons pe_str (pa_cons pe_int (pa_cons pe_int pa_nil)))) (pa_cons (pe_tup (pa_cons pe_str (pa_cons pe_int (pa_cons pe_int (pa_cons pe_int pa_nil))))) (pa_cons (pe_tup (pa_cons pe_str (pa_cons pe_int (pa_cons pe_int (pa_cons pe_int pa_nil))))) (pa_cons (pe_tup (pa_cons (pe_tup (pa_cons pe_int (pa_cons pe_int pa_nil))) pa_nil)) pa_nil))))))))))))))
      (pss_one (ps_ret (pe_ix ix_list (pv 1) (pe_call GS hr (by rfl) S.g S.F.kp S.b .nil pass0 (pa_cons (pv 0) (pa_cons (pe_callB call_len_seq (by rfl) B.len PySem.boot_len (pa_cons (pv 1) pa_nil)) pa_nil))) (fun _ _ => rfl))))), ?_⟩
    unfold tSeq tAsg
    have fm := fm_lst (lastsAll_A) (by rw [List.length_map]; decide) (FmD.fm (fm_odd1 (K := K) (σ := start ["_law_tin_here", "_law_some"] [V.ref t]) (H := H)))
    refine fm H (Same.refl _) _ fun v1 H1 e1 l1 => ?_
    unfold gName
    have fm2 := fm_cat (Rs := odd1.map (isA K)) (Ss := odd2.map (isA K)) (te := tVar 1) (σ := (start ["_law_tin_here", "_law_some"] [V.ref t]).set 1 (some v1)) (H := H1) (lastsAll_A) (lastsAll_A) (by rw [List.length_map, List.length_map]; decide) (fun Hx ex R r => ⟨v1, rfl, r v1 Hx (Same.refl _) (lasts_L lastsAll_A _ _ _ ex l1)⟩) (fm_lst (lastsAll_A) (by rw [List.length_map]; decide) (FmD.fm fm_odd2))
    refine fm2 H1 (Same.refl _) _ fun v2 H2 e2 l2 => ?_
    rw [← List.map_append] at l2
    obtain ⟨p, vs, rfl, hp, af⟩ := l2
    have al : AnAll K H2 vs odds := allF_A af
    have ln : vs.length = 27 := (dpAll_len al).trans rfl
    have T2 : Tin H2 t := (Sipped.ofSame T (e1.trans e2)).1
    refine ⟨_, rfl, _, rfl, _, rfl, p, vs, rfl, .inl (.inl (.inl hp)), t, 27, by rw [ln]; rfl, T2, by decide, by decide, fun i H3 i0 i1 s3 => ?_⟩
    obtain ⟨v, d, hv, hd, an⟩ := anAll_at i.toNat al (by rw [ln]; omega)
    refine ⟨p, vs, i, v, rfl, rfl, .inl (.inl (s3.2 _ _ hp fun z => ?_)), at_of (j := i.toNat) (by omega) hv, q v d H3 hd (an_sip T2 s3 an (no3_mem odds_no3 hd)) ((Sipped.ofSame T (e1.trans e2)).trans s3)⟩
    obtain ⟨_, _, _, ht, _⟩ := T2
    rw [z, ht] at hp
    cases hp
    cases ln
end
end My
set_option Elab.async false
set_option linter.all false
set_option maxRecDepth 100000
set_option maxHeartbeats 8000000
set_option exponentiation.threshold 2000
namespace My
open PySem PySem.Spec PyProof.Rows L2 L2H Gn
/-! mark_of, where it refuses -/
def spManyD (K : PySem.W.Frag) : Sp := fun vs H Q _ => ∃ (v : V) (d : PyData) (n : Int), vs = [v, .int n] ∧ An K H v d ∧ isFr d = true ∧ ∀ t b : Int, d = .tuple [.int t, .int b] → Q (.int (min n b)) H
/-- step, number, rank: the first of them that is wrong refused -/
def spBadRank (K : PySem.W.Frag) (CS CN : Addr) : Sp := fun vs H Q E => ∃ (v u k : V) (d e m : PyData), vs = [v, u, k] ∧ An K H v d ∧ An K H u e ∧ An K H k m ∧
  ((isSt d = false ∧ Thrown CS v H E) ∨ (isSt d = true ∧ isNum e 1 (10 ^ 30) = false ∧ Thrown CN u H E) ∨ (∃ n t b : Int, isSt d = true ∧ d = .tuple [.int t, .int b] ∧ e = .int n ∧ 1 ≤ n ∧ n ≤ 10 ^ 30 ∧ isNum m 0 ((min n b) - 1) = false ∧ Thrown CN k H E))
theorem st_fr {d : PyData} (h : isSt d = true) : isFr d = true := by
  cases z : isFr d with
  | true => rfl
  | false => rw [isSt_fr z] at h; cases h
section
variable {P : Program} {w : World} {K : PySem.W.Frag} {mg : Str → Option Value} {base : Heap}
theorem ok_manyD {f : Addr} {fd : FuncData} (F : Fun K "_how_many_places" "_how_many_places" sMany f fd) (mn : mg "min" = none) : FnOk P w K mg base CX0 1 f fd ["step", "count"] (spManyD K) := by
  refine F.ok scMany (fun vs H Q E h => ?_) (fun cdv A outer s H vs Q E hr h => ?_)
  · obtain ⟨v, d, n, rfl, _⟩ := h
    rfl
  · obtain ⟨v, d, n, rfl, an, f1, q⟩ := h
    obtain ⟨a, t, b, rfl, rfl, hT, b1, _⟩ := fr_of an f1
    refine ⟨_, pss_one (ps_ret (pe_callB (call_min2 rfl) (by rfl) mn (by decide +kernel) (pa_cons (pv 1) (pa_cons (pe_ix ix_tup (pv 0) pe_int (fun _ _ => rfl)) pa_nil)))), ?_⟩
    refine ⟨_, rfl, _, rfl, a, _, 1, .int b, rfl, rfl, SqT.of hT, at_of (j := 1) rfl rfl, _, _, rfl, ?_⟩
    have e : (if b < n then b else n) = min n b := by rw [Int.min_def]; split <;> split <;> omega
    rw [e]
    exact q t b rfl
theorem bad_MarkOf {f fM : Addr} {fd fdM : FuncData} (F : Fun K "mark_of" "mark_of" sMarkOf f fd) (M : Ck P w K mg base) (D : Df K mg "_how_many_places" sMany ["step", "count"] fM fdM) (mn : mg "min" = none) : FnOk P w K mg base (L2N.CX P w) 6 f fd ["step", "count", "rank"] (spBadRank K M.CS M.CN) := by
  have GC : FnOk P w K mg base (L2N.CX P w) 5 M.gc.1 M.gc.2 ["step", "count"] (spCountX K M.CS M.CN) := ok_chCountX M.ec.F M
  have GN : FnOk P w K mg base (L2N.CX P w) 3 M.fn.1 M.fn.2 ["given", "least", "most"] (spChkN K M.CN) := ok_chNumA M.dn.F M.c M.di M.dm M.tN
  have GM : FnOk P w K mg base CX0 1 fM fdM ["step", "count"] (spManyD K) := ok_manyD D.F mn
  refine okBad F scMarkOf (fun vs H Q E h => ?_) (fun cdv A outer s H vs Q E hr h tk => ?_)
  · obtain ⟨v, u, k, d, e, m, rfl, _⟩ := h
    rfl
  · obtain ⟨v, u, k, d, e, m, rfl, an, am, ak, b⟩ := h
    have hr1 : Room 1 _ := hr.mono (by decide)
    have hr3 : Room 3 _ := hr.mono (by decide)
    refine ⟨_, pss_cons (ps_expr (pe_callS GC hr (by rfl) M.ec.g M.ec.F.kp M.ec.b (fun σ => L2N.passAt tk σ) (pa_cons (pv 0) (pa_cons (pv 1) pa_nil))))
      (pss_cons (ps_set (i := 3) scMarkOf.nd rfl (.inl rfl) (pe_call GM hr1 (by rfl) D.g D.F.kp D.b .nil pass0 (pa_cons (pv 0) (pa_cons (pv 1) pa_nil))))
      (pss_cons (ps_expr (pe_callS GN hr3 (by rfl) M.dn.g M.dn.F.kp M.dn.b (fun σ => L2N.passAt tk σ) (pa_cons (pv 2) (pa_cons pe_int (pa_cons (pe_op op_sub (pv 3) pe_int) pa_nil))))) pss_never)), ?_⟩
    refine ⟨_, rfl, _, rfl, v, u, d, e, rfl, an, am, fun cs cn => ?_, fun cs => ?_, fun cs cn => ?_⟩
    · rcases b with ⟨z, t⟩ | ⟨_, z, t⟩ | ⟨n, x, y, _, rfl, rfl, n1, n2, z, t⟩
      · exact nomatch cs.symm.trans z
      · exact nomatch cn.symm.trans z
      · obtain ⟨i, rfl, ei⟩ := am.isI rfl
        cases ei
        refine ⟨_, rfl, _, rfl, v, _, n, rfl, an, st_fr cs, fun x' y' e' => ?_⟩
        cases e'
        exact ⟨_, rfl, _, rfl, _, _, rfl, rfl, k, m, 0, min n y - 1, rfl, ak, (fun c => absurd (z.symm.trans c) Bool.false_ne_true), fun _ => t⟩
    · rcases b with ⟨z, t⟩ | ⟨z, _, t⟩ | ⟨n, x, y, z, _, _, _, _, _, t⟩
      · exact t
      all_goals exact nomatch cs.symm.trans z
    · rcases b with ⟨z, t⟩ | ⟨_, z, t⟩ | ⟨n, x, y, _, _, rfl, n1, n2, _, t⟩
      · exact nomatch cs.symm.trans z
      · exact t
      · exact nomatch cn.symm.trans (num_of n1 n2)
end
end My
set_option Elab.async false
set_option maxRecDepth 100000
/-! orders as lists: places sorted, marks at one place together. Plain lists of ints -/
namespace Mt
def insU (v : Int) : List Int → List Int
  | [] => [v]
  | a :: l => if v < a then v :: a :: l else if v = a then a :: l else a :: insU v l
/-- sorted, each once -/
def sortU (l : List Int) : List Int := l.foldr insU []
theorem insU_mem {v u : Int} : ∀ {l : List Int}, u ∈ insU v l ↔ u = v ∨ u ∈ l
  | [] => by simp [insU]
  | a :: l => by
    unfold insU
    split
    · simp
    · split
      · rename_i h1 h2
        subst h2
        simp
      · simp only [List.mem_cons, insU_mem (l := l)]
        constructor
        · rintro (h | h | h)
          · exact .inr (.inl h)
          · exact .inl h
          · exact .inr (.inr h)
        · rintro (h | h | h)
          · exact .inr (.inl h)
          · exact .inl h
          · exact .inr (.inr h)
theorem insU_pw {v : Int} : ∀ {l : List Int}, l.Pairwise (· < ·) → (insU v l).Pairwise (· < ·)
  | [], _ => by simp [insU]
  | a :: l, h => by
    obtain ⟨h1, h2⟩ := List.pairwise_cons.mp h
    unfold insU
    split
    · rename_i c
      refine List.pairwise_cons.mpr ⟨fun b hb => ?_, h⟩
      rcases List.mem_cons.mp hb with rfl | hb
      · exact c
      · exact Int.lt_trans c (h1 b hb)
    · split
      · exact h
      · rename_i c d
        refine List.pairwise_cons.mpr ⟨fun b hb => ?_, insU_pw h2⟩
        rcases insU_mem.mp hb with rfl | hb
        · omega
        · exact h1 b hb
theorem sortU_mem {v : Int} : ∀ {l : List Int}, v ∈ sortU l ↔ v ∈ l
  | [] => by simp [sortU]
  | a :: l => by
    show v ∈ insU a (sortU l) ↔ _
    rw [insU_mem, sortU_mem, List.mem_cons]
theorem sortU_pw : ∀ l : List Int, (sortU l).Pairwise (· < ·)
  | [] => List.Pairwise.nil
  | a :: l => insU_pw (sortU_pw l)
/-- a strictly rising list is told by its members -/
theorem strict_one : ∀ {l m : List Int}, l.Pairwise (· < ·) → m.Pairwise (· < ·) → (∀ v, v ∈ l ↔ v ∈ m) → l = m
  | [], [], _, _, _ => rfl
  | [], b :: m, _, _, h => by have := (h b).mpr List.mem_cons_self; simp at this
  | a :: l, [], _, _, h => by have := (h a).mp List.mem_cons_self; simp at this
  | a :: l, b :: m, h1, h2, h => by
    obtain ⟨p1, q1⟩ := List.pairwise_cons.mp h1
    obtain ⟨p2, q2⟩ := List.pairwise_cons.mp h2
    have e : a = b := by
      rcases List.mem_cons.mp ((h a).mp List.mem_cons_self) with x | x
      · exact x
      · rcases List.mem_cons.mp ((h b).mpr List.mem_cons_self) with y | y
        · exact y.symm
        · have := p2 a x; have := p1 b y; omega
    subst e
    have : l = m := strict_one q1 q2 fun v => by
      constructor
      · intro hv
        rcases List.mem_cons.mp ((h v).mp (List.mem_cons_of_mem _ hv)) with x | x
        · subst x; have := p1 v hv; omega
        · exact x
      · intro hv
        rcases List.mem_cons.mp ((h v).mpr (List.mem_cons_of_mem _ hv)) with x | x
        · subst x; have := p2 v hv; omega
        · exact x
    rw [this]
theorem le_nodup_lt {l : List Int} (h : l.Pairwise (· ≤ ·)) (n : l.Nodup) : l.Pairwise (· < ·) := by
  induction l with
  | nil => exact .nil
  | cons a l ih =>
    obtain ⟨p, q⟩ := List.pairwise_cons.mp h
    obtain ⟨r, s⟩ := List.nodup_cons.mp n
    refine List.pairwise_cons.mpr ⟨fun b hb => ?_, ih q s⟩
    have h1 := p b hb
    have h2 : a ≠ b := fun e => r (by rw [e]; exact hb)
    omega
/-- a rising list is told by what it is a permutation of -/
theorem le_one : ∀ {l m : List Int}, l.Pairwise (· ≤ ·) → m.Pairwise (· ≤ ·) → l.Perm m → l = m
  | [], m, _, _, h => by rw [List.nil_perm] at h; exact h.symm
  | a :: l, [], _, _, h => by have := h.length_eq; simp at this
  | a :: l, b :: m, h1, h2, h => by
    obtain ⟨p1, q1⟩ := List.pairwise_cons.mp h1
    obtain ⟨p2, q2⟩ := List.pairwise_cons.mp h2
    have e : a = b := by
      rcases List.mem_cons.mp (h.mem_iff.mp (List.mem_cons_self (a := a) (l := l))) with x | x
      · exact x
      · rcases List.mem_cons.mp (h.mem_iff.mpr (List.mem_cons_self (a := b) (l := m))) with y | y
        · exact y.symm
        · have := p2 a x; have := p1 b y; omega
    subst e
    rw [le_one q1 q2 ((List.perm_cons a).mp h)]
def iota (n : Nat) : List Int := (List.range n).map Int.ofNat
theorem iota_len (n : Nat) : (iota n).length = n := by simp [iota]
theorem iota_succ (n : Nat) : iota (n + 1) = iota n ++ [(n : Int)] := by simp [iota, List.range_succ]
theorem iota_mem {n : Nat} {k : Int} : k ∈ iota n ↔ 0 ≤ k ∧ k < n := by
  unfold iota
  rw [List.mem_map]
  constructor
  · rintro ⟨m, hm, rfl⟩
    have := List.mem_range.mp hm
    exact ⟨Int.natCast_nonneg _, by show (m : Int) < n; omega⟩
  · rintro ⟨h1, h2⟩
    exact ⟨k.toNat, List.mem_range.mpr (by omega), by show ((k.toNat : Nat) : Int) = k; omega⟩
theorem iota_pw (n : Nat) : (iota n).Pairwise (· < ·) := by
  unfold iota
  rw [List.pairwise_map]
  exact List.pairwise_lt_range.imp fun h => by show ((_ : Nat) : Int) < ((_ : Nat) : Int); omega
/-- the marks at the place v -/
def grp (f : Int → Int) (ms : List Int) (v : Int) : List Int := ms.filter fun k => f k == v
/-- the order: places rising, the marks at each -/
def ord (f : Int → Int) (ms : List Int) : List (List Int) := (sortU (ms.map f)).map (grp f ms)
theorem grp_snoc {f : Int → Int} {ms : List Int} {k v : Int} : grp f (ms ++ [k]) v = if f k = v then grp f ms v ++ [k] else grp f ms v := by
  unfold grp
  rw [List.filter_append]
  by_cases h : f k = v
  · rw [if_pos h]; simp [h]
  · rw [if_neg h]; simp [h]
theorem grp_none {f : Int → Int} {ms : List Int} {v : Int} (h : v ∉ ms.map f) : grp f ms v = [] := by
  unfold grp
  rw [List.filter_eq_nil_iff]
  intro k hk e
  exact h (List.mem_map.mpr ⟨k, hk, by simpa using e⟩)
theorem ord_congr {f g : Int → Int} {ms : List Int} (h : ∀ k ∈ ms, f k = g k) : ord f ms = ord g ms := by
  unfold ord
  have e : ms.map f = ms.map g := List.map_congr_left h
  rw [e]
  refine List.map_congr_left fun v _ => ?_
  unfold grp
  exact List.filter_congr fun k hk => by rw [h k hk]
theorem pw_rev_map {y : Int} {W : List Int} (h : W.Pairwise (· < ·)) : ((W.map (y - ·)).reverse).Pairwise (· < ·) := by
  rw [List.pairwise_reverse, List.pairwise_map]
  exact h.imp fun h => by omega
/-- the other way round -/
theorem ord_mirror {f g : Int → Int} {ms : List Int} {y : Int} (hf : ∀ k ∈ ms, 0 ≤ f k ∧ f k < y) (hg : ∀ k ∈ ms, g k = if f k = 0 then 0 else y - f k) {k0 : Int} (h0 : k0 ∈ ms) (z0 : f k0 = 0) :
    ord g ms = (ord f ms).take 1 ++ ((ord f ms).drop 1).reverse := by
  have hm : ∀ v, v ∈ sortU (ms.map f) → 0 ≤ v ∧ v < y := fun v hv => by
    obtain ⟨k, hk, rfl⟩ := List.mem_map.mp (sortU_mem.mp hv)
    exact hf k hk
  have m0 : (0 : Int) ∈ sortU (ms.map f) := sortU_mem.mpr (List.mem_map.mpr ⟨k0, h0, z0⟩)
  obtain ⟨W, hW⟩ : ∃ W, sortU (ms.map f) = 0 :: W := by
    cases e : sortU (ms.map f) with
    | nil => rw [e] at m0; simp at m0
    | cons a W =>
      have p := sortU_pw (ms.map f)
      rw [e] at p m0 hm
      obtain ⟨p1, _⟩ := List.pairwise_cons.mp p
      rcases List.mem_cons.mp m0 with q | q
      · exact ⟨W, by rw [← q]⟩
      · have := p1 0 q
        have := (hm a List.mem_cons_self).1
        omega
  have pw : (0 :: W).Pairwise (· < ·) := by rw [← hW]; exact sortU_pw _
  obtain ⟨pW, qW⟩ := List.pairwise_cons.mp pw
  have mW : ∀ v ∈ W, 0 < v ∧ v < y := fun v hv => ⟨pW v hv, (hm v (by rw [hW]; exact List.mem_cons_of_mem _ hv)).2⟩
  have eV : sortU (ms.map g) = 0 :: (W.map (y - ·)).reverse := by
    refine strict_one (sortU_pw _) (List.pairwise_cons.mpr ⟨fun b hb => ?_, pw_rev_map qW⟩) fun v => ?_
    · obtain ⟨u, hu, rfl⟩ := List.mem_map.mp (List.mem_reverse.mp hb)
      have := (mW u hu).2
      show 0 < y - u
      omega
    · rw [sortU_mem, List.mem_map, List.mem_cons, List.mem_reverse, List.mem_map]
      constructor
      · rintro ⟨k, hk, rfl⟩
        rw [hg k hk]
        by_cases e : f k = 0
        · rw [if_pos e]; exact .inl rfl
        · rw [if_neg e]
          refine .inr ⟨f k, ?_, rfl⟩
          have : f k ∈ sortU (ms.map f) := sortU_mem.mpr (List.mem_map.mpr ⟨k, hk, rfl⟩)
          rw [hW] at this
          exact (List.mem_cons.mp this).resolve_left e
      · rintro (rfl | ⟨u, hu, rfl⟩)
        · exact ⟨k0, h0, by rw [hg k0 h0, if_pos z0]⟩
        · have : u ∈ sortU (ms.map f) := by rw [hW]; exact List.mem_cons_of_mem _ hu
          obtain ⟨k, hk, e⟩ := List.mem_map.mp (sortU_mem.mp this)
          refine ⟨k, hk, ?_⟩
          have := (mW u hu).1
          rw [hg k hk, e, if_neg (by omega)]
  have g0 : grp g ms 0 = grp f ms 0 := List.filter_congr fun k hk => by
    rw [hg k hk]
    have := hf k hk
    by_cases e : f k = 0
    · rw [if_pos e, e]
    · rw [if_neg e]
      rw [beq_eq_false_iff_ne.mpr e, beq_eq_false_iff_ne.mpr (by omega)]
  have gW : ∀ u ∈ W, grp g ms (y - u) = grp f ms u := fun u hu => List.filter_congr fun k hk => by
    rw [hg k hk]
    have h1 := hf k hk
    have h2 := mW u hu
    by_cases e : f k = 0
    · rw [if_pos e, beq_eq_false_iff_ne.mpr (by omega), beq_eq_false_iff_ne.mpr (by omega)]
    · rw [if_neg e]
      by_cases e2 : f k = u
      · rw [e2]; simp
      · rw [beq_eq_false_iff_ne.mpr e2, beq_eq_false_iff_ne.mpr (by omega)]
  unfold ord
  rw [eV, hW, List.map_cons, List.map_cons, g0, List.map_reverse, List.map_map]
  show _ = [grp f ms 0] ++ (List.map (grp f ms) W).reverse
  rw [List.singleton_append]
  congr 2
  exact List.map_congr_left fun u hu => gW u hu
end Mt
namespace Mt
theorem map_inj {α β : Type} {g : α → β} : ∀ {l : List α}, (l.map g).Nodup → ∀ {a b : α}, a ∈ l → b ∈ l → g a = g b → a = b
  | [], _, _, _, h, _, _ => by simp at h
  | c :: l, n, a, b, ha, hb, e => by
    obtain ⟨n1, n2⟩ := List.nodup_cons.mp (show (g c :: l.map g).Nodup from n)
    rcases List.mem_cons.mp ha with x | x
    · rcases List.mem_cons.mp hb with y | y
      · rw [x, y]
      · subst x
        exact absurd (List.mem_map.mpr ⟨b, y, e.symm⟩) n1
    · rcases List.mem_cons.mp hb with y | y
      · subst y
        exact absurd (List.mem_map.mpr ⟨a, x, e⟩) n1
      · exact map_inj n2 x y e
end Mt
namespace Mt
theorem insU_len (v : Int) : ∀ m : List Int, (insU v m).length ≤ m.length + 1
  | [] => Nat.le_refl 1
  | b :: m => by
    unfold insU
    split
    · exact Nat.le_refl _
    · split
      · exact Nat.le_succ _
      · exact Nat.succ_le_succ (insU_len v m)
theorem sortU_len : ∀ l : List Int, (sortU l).length ≤ l.length
  | [] => Nat.le_refl 0
  | a :: l => Nat.le_trans (insU_len a (sortU l)) (Nat.succ_le_succ (sortU_len l))
end Mt
set_option Elab.async false
set_option linter.all false
set_option maxRecDepth 100000
set_option maxHeartbeats 4000000
namespace My.O
open PySem PySem.Spec PyProof.Rows L2 Gn Mt
abbrev sOrder : Stmt := top 49
theorem scOrder : FnScope ["step", "count", "top", "bottom", "standing", "mark", "at"] ["step", "count"] (defScope sOrder) := ⟨rfl, rfl, rfl, by decide +kernel, rfl, by decide +kernel, by decide +kernel⟩
/-- data lasts while nothing tracked changes -/
theorem sqT_same {H H' : Hp} {a : Addr} {xs : List V} {K : PySem.W.Frag} (e : Same H H') (h : SqT K H a xs) : SqT K H' a xs := by
  rcases h with (h | ⟨o, h⟩) | h
  · exact .inl (.inl (e _ _ h))
  · exact .inl (.inr ⟨o, e _ _ h⟩)
  · exact .inr h
mutual
theorem dp_same {K : PySem.W.Frag} {H H' : Hp} (e : Same H H') : ∀ (d : PyData) (v : V), Dp K H v d → Dp K H' v d
  | .none, _, h => by cases h; exact .non
  | .bool b, _, h => by cases h; exact .bl b
  | .int i, _, h => by cases h; exact .int i
  | .str x, _, h => by cases h; exact .str x
  | .list ds, _, h => by cases h with | lst a b => exact .lst (e.seq a) (dps_same e ds _ b)
  | .tuple ds, _, h => by cases h with | tup a b => exact .tup (sqT_same e a) (dps_same e ds _ b)
  | .dict _, _, h => by cases h
theorem dps_same {K : PySem.W.Frag} {H H' : Hp} (e : Same H H') : ∀ (ds : List PyData) (vs : List V), DpAll K H vs ds → DpAll K H' vs ds
  | [], _, h => by cases h; exact .nil
  | d :: ds, _, h => by cases h with | cons a b => exact .cons (dp_same e d _ a) (dps_same e ds _ b)
end
theorem dp_ints {K : PySem.W.Frag} {H : Hp} : ∀ ns : List Int, DpAll K H (ns.map V.int) (ns.map PyData.int)
  | [] => .nil
  | n :: ns => .cons (.int n) (dp_ints ns)
/-- tuples of ints stand at these addresses, as these lists tell -/
def Tups (H : Hp) : List Addr → List (List Int) → Prop
  | [], [] => True
  | r :: rs, g :: gs => H r = some (.tup (g.map V.int)) ∧ Tups H rs gs
  | _, _ => False
theorem Tups.mono {H H' : Hp} : ∀ {rs : List Addr} {gs : List (List Int)}, Tups H rs gs → (∀ r g, H r = some (.tup g) → H' r = some (.tup g)) → Tups H' rs gs
  | [], [], _, _ => trivial
  | _ :: _, _ :: _, h, k => ⟨k _ _ h.1, h.2.mono k⟩
  | [], _ :: _, h, _ => h.elim
  | _ :: _, [], h, _ => h.elim
theorem Tups.snoc {H : Hp} {r : Addr} {g : List Int} (hr : H r = some (.tup (g.map V.int))) : ∀ {rs : List Addr} {gs : List (List Int)}, Tups H rs gs → Tups H (rs ++ [r]) (gs ++ [g])
  | [], [], _ => ⟨hr, trivial⟩
  | _ :: _, _ :: _, h => ⟨h.1, Tups.snoc hr h.2⟩
  | [], _ :: _, h => h.elim
  | _ :: _, [], h => h.elim
theorem Tups.len {H : Hp} : ∀ {rs : List Addr} {gs : List (List Int)}, Tups H rs gs → rs.length = gs.length
  | [], [], _ => rfl
  | _ :: _, _ :: _, h => congrArg Nat.succ h.2.len
  | [], _ :: _, h => h.elim
  | _ :: _, [], h => h.elim
theorem Tups.dps {K : PySem.W.Frag} {H : Hp} : ∀ {rs : List Addr} {gs : List (List Int)}, Tups H rs gs → DpAll K H (rs.map V.ref) (gs.map fun g => PyData.tuple (g.map PyData.int))
  | [], [], _ => .nil
  | _ :: _, _ :: _, h => .cons (.tup (SqT.of h.1) (dp_ints _)) h.2.dps
  | [], _ :: _, h => h.elim
  | _ :: _, [], h => h.elim
/-- an order as data -/
def ordD (gs : List (List Int)) : PyData := .tuple (gs.map fun g => PyData.tuple (g.map PyData.int))
/-- an order stands at r: a tuple of tuples of ints -/
def OrdAt (H : Hp) (r : Addr) (gs : List (List Int)) : Prop := ∃ rs : List Addr, H r = some (.tup (rs.map V.ref)) ∧ Tups H rs gs
theorem OrdAt.dp {K : PySem.W.Frag} {H : Hp} {r : Addr} {gs : List (List Int)} (h : OrdAt H r gs) : Dp K H (.ref r) (ordD gs) := by
  obtain ⟨rs, h1, h2⟩ := h
  exact .tup (SqT.of h1) h2.dps
theorem OrdAt.same {H H' : Hp} {r : Addr} {gs : List (List Int)} (h : OrdAt H r gs) (e : Same H H') : OrdAt H' r gs := by
  obtain ⟨rs, h1, h2⟩ := h
  exact ⟨rs, e _ _ h1, h2.mono fun r g z => e _ _ z⟩
def spOrder : Sp := fun vs H Q _ => ∃ (t : Addr) (x y n : Int), vs = [.ref t, .int n] ∧ StepAt H t x y ∧ 1 ≤ n ∧ n ≤ 60 ∧
  ∀ r H', Same H H' → H r = none → OrdAt H' r (ord (fun k => (x * k).fmod y) (iota n.toNat)) → Q (.ref r) H'
/-- what stands in the dict after some marks: places, lists of marks -/
structure Stand (f : Int → Int) (ms : List Int) (H : Hp) (d : Addr) (ps : List (Int × Addr)) : Prop where
  dc : H d = some (.dK (ps.map fun p => ((Sum.inl p.1 : Key), V.ref p.2)))
  n1 : (ps.map (·.1)).Nodup
  n2 : (ps.map (·.2)).Nodup
  ls : ∀ p ∈ ps, H p.2 = some (.lst ((grp f ms p.1).map V.int))
  me : ∀ v, v ∈ ps.map (·.1) ↔ v ∈ ms.map f
theorem val_of {ps : List (Int × Addr)} {k : Int} : valV (ps.map fun p => ((Sum.inl p.1 : Key), V.ref p.2)) (Sum.inl k) = (ps.find? fun p => p.1 == k).map fun p => V.ref p.2 := by
  induction ps with
  | nil => rfl
  | cons p ps ih =>
    rw [List.map_cons, List.find?_cons]
    unfold valV at ih ⊢
    by_cases h : p.1 = k
    · simp [h, List.find?_cons]
    · simp only [beq_eq_false_iff_ne.mpr h]
      rw [← ih]
      simp [List.find?_cons, h]
end My.O
set_option Elab.async false
set_option linter.all false
set_option maxRecDepth 100000
set_option maxHeartbeats 4000000
namespace My.O
open PySem PySem.Spec PyProof.Rows L2 Gn Mt
structure Bo (mg : Str → Option Value) : Prop where
  c : Bc mg
  range : mg "range" = none
  sorted : mg "sorted" = none
  mo : ∃ tk, mg "_MOST_ORDERED" = some (.int 60 tk)
theorem inl_dK {H : Hp} {d l : Addr} {kvs : List (Key × V)} {xs : List V} (h : H d = some (.dK kvs)) (h' : H l = some (.lst xs)) : l ≠ d := by
  rintro rfl
  rw [h] at h'; cases h'
/-- one mark more -/
theorem Stand.put {f : Int → Int} {ms : List Int} {H H' : Hp} {d : Addr} {ps : List (Int × Addr)} {k : Int} {p : Int × Addr} (S : Stand f ms H d ps) (hp : p ∈ ps) (e : p.1 = f k)
    (h1 : H' p.2 = some (.lst ((grp f ms p.1).map V.int ++ [V.int k]))) (h2 : ∀ b o, H b = some o → b ≠ p.2 → H' b = some o) : Stand f (ms ++ [k]) H' d ps := by
  refine ⟨h2 d _ S.dc fun z => ?_, S.n1, S.n2, fun q hq => ?_, fun v => ?_⟩
  · have := S.ls p hp
    rw [← z, S.dc] at this; cases this
  · by_cases c : q = p
    · subst c
      rw [h1, grp_snoc, if_pos e.symm, List.map_append]; rfl
    · have n1 : q.2 ≠ p.2 := fun z => c ((Mt.map_inj S.n2 hq hp z))
      have n2 : ¬ f k = q.1 := fun z => c ((Mt.map_inj S.n1 hq hp (e ▸ z.symm)))
      rw [h2 _ _ (S.ls q hq) n1, grp_snoc, if_neg n2]
  · rw [S.me v, List.map_append, List.mem_append]
    constructor
    · exact .inl
    · rintro (z | z)
      · exact z
      · rw [List.map_singleton, List.mem_singleton] at z
        rw [z, ← e]
        exact (S.me _).mp (List.mem_map.mpr ⟨p, hp, rfl⟩)
theorem Stand.new {f : Int → Int} {ms : List Int} {H H' : Hp} {d l : Addr} {ps : List (Int × Addr)} {k : Int} (S : Stand f ms H d ps) (hn : f k ∉ ps.map (·.1)) (hl : H l = none)
    (h0 : H' d = some (.dK (ps.map (fun p => ((Sum.inl p.1 : Key), V.ref p.2)) ++ [(Sum.inl (f k), V.ref l)]))) (h1 : H' l = some (.lst [V.int k])) (h2 : ∀ b o, H b = some o → b ≠ d → H' b = some o) : Stand f (ms ++ [k]) H' d (ps ++ [(f k, l)]) := by
  have ne : ∀ q ∈ ps, q.2 ≠ l := fun q hq z => by have := S.ls q hq; rw [z, hl] at this; cases this
  refine ⟨by rw [List.map_append]; exact h0, ?_, ?_, fun q hq => ?_, fun v => ?_⟩
  · rw [List.map_append]
    exact nd_snoc S.n1 hn
  · rw [List.map_append]
    refine nd_snoc S.n2 fun z => ?_
    obtain ⟨q, hq, e⟩ := List.mem_map.mp z
    exact ne q hq e
  · rcases List.mem_append.mp hq with z | z
    · have n2 : ¬ f k = q.1 := fun e => hn (List.mem_map.mpr ⟨q, z, e.symm⟩)
      have nd : q.2 ≠ d := fun e => by have := S.ls q z; rw [e, S.dc] at this; cases this
      rw [h2 _ _ (S.ls q z) nd, grp_snoc, if_neg n2]
    · obtain rfl := List.mem_singleton.mp z
      show H' l = _
      rw [h1, grp_snoc, if_pos rfl, grp_none fun z => hn ((S.me _).mpr z)]; rfl
  · rw [List.map_append, List.mem_append, S.me v, List.map_append, List.mem_append]
    exact Iff.rfl
section
variable {P : Program} {w : World} {K : PySem.W.Frag} {mg : Str → Option Value} {base : Heap}
theorem ok_order {f fI fR fS fC fN : Addr} {fd fdI fdR fdS fdC fdN : FuncData} (F : Fun K "order" "order" sOrder f fd) (B : Bo mg) (D : Df K mg "is_integer" sIsInt ["given"] fI fdI) (R : Df K mg "is_fraction" sIsFr ["given"] fR fdR) (S : Df K mg "is_step" sIsStep ["given"] fS fdS)
    (C : Df K mg "check_step" sChStep ["given"] fC fdC) (N : Df K mg "check_number" sChNum ["given", "least", "most"] fN fdN) {fM : Addr} {fdM : FuncData} (Nn : Df K mg "is_number" sIsNum ["given", "least", "most"] fM fdM) : FnOk P w K mg base CX0 5 f fd ["step", "count"] spOrder := by
  have GC : FnOk P w K mg base CX0 4 fC fdC ["given"] (spIsSt .non) := ok_chStep C.F B.c D R S
  have GN : FnOk P w K mg base CX0 3 fN fdN ["given", "least", "most"] spChNum := ok_chNum N.F B.c D Nn
  refine F.ok scOrder (fun vs H Q E h => ?_) (fun cdv A outer s H vs Q E hr h => ?_)
  · obtain ⟨t, x, y, n, rfl, _⟩ := h
    rfl
  · obtain ⟨t, x, y, n, rfl, ⟨hT, st⟩, n1, n2, q⟩ := h
    obtain ⟨tk, hmo⟩ := B.mo
    have hr3 : Room 3 _ := hr.mono (by decide)
    have hu := hu_of hr
    refine ⟨_, pss_cons (ps_expr (pe_call GC hr (by rfl) C.g C.F.kp C.b .nil pass0 (pa_cons (pv 0) pa_nil)))
      (pss_cons (ps_expr (pe_call GN hr3 (by rfl) N.g N.F.kp N.b .nil pass0 (pa_cons (pv 1) (pa_cons pe_int (pa_cons (pe_glob (v := .int 60) rfl hmo ⟨_, rfl⟩) pa_nil)))))
      (pss_cons (ps_asg (pv 0) (pg_tup (by rfl) (pgs_cons (pg_name (i := 2) scOrder.nd rfl (.inl rfl)) (pgs_cons (pg_name (i := 3) scOrder.nd rfl (.inl rfl)) pgs_nil))))
      (pss_cons (ps_set (i := 4) scOrder.nd rfl (.inr rfl) pe_dnewK)
      (pss_cons (ps_for PassesOwn.never rfl (pi_range1 rfl B.range (pa_cons (pv 1) pa_nil)) (pg_name (i := 5) scOrder.nd rfl (.inl rfl))
        (pss_one (ps_expr (pe_bm PySem.F.plainAttrs_list PySem.F.slot_list_append PySem.F.type_list_append mt_append
          (pe_dsetd (pv 4) (pe_op op_modN (pe_op op_mul (pv 2) (pv 5)) (pv 3)) (pe_lst pa_nil) ⟨rfl, rfl, rfl, rfl⟩) (pa_cons (pv 5) pa_nil)))))
      (pss_one (ps_ret (pe_callTy cr_tupL (by rfl) B.c.tuple (by decide +kernel) (pa_cons
        (pe_lc (te := tCB (rTupL K) (tCons (tDGet (tVar 4) (tVar 6)) tNil)) (own := [("at", 6)]) (g := gName 6) (tt := tYes) rfl scOrder.nd (pi_list (pe_callB (call_sortedDI rfl) (by rfl) B.sorted (by decide +kernel) (pa_cons (pv 4) pa_nil)))
          (blkOk_by (N := ["step", "count", "top", "bottom", "standing", "mark", "at"]) (sc := defScope sOrder) (by decide +kernel)) (fun _ _ _ _ _ => pg_name (i := 6) scOrder.nd rfl (.inl rfl)) (fun _ _ _ _ _ => pts_nil)
          (fun _ _ _ _ _ => pe_callTy cr_tupL (by rfl) B.c.tuple (by decide +kernel) (pa_cons (pe_dget hu (pv 4) (pv 6) (fun _ _ => rfl)) pa_nil))) pa_nil)))))))), ?_⟩
    have y1 : 0 < y := by have := st.x0; have := st.xy; omega
    -- check_step(step); check_number(count, 1, 60); top, bottom = step
    refine ⟨_, rfl, t, x, y, rfl, ⟨hT, st⟩, ?_⟩
    refine ⟨_, rfl, n, 1, 60, rfl, n1, n2, ?_⟩
    refine ⟨_, rfl, t, _, rfl, SqT.of hT, rfl, _, _, rfl, _, _, rfl, rfl, ?_⟩
    -- standing = {}
    intro d hd
    have s0 : Same H (upd H d (.dK [])) := same_put hd
    -- for mark in range(count)
    refine ⟨_, rfl, n, rfl, by omega, by omega, ?_⟩
    refine for_range (lo := 0) (n := n.toNat) (fun i σ H1 => ∃ (ps : List (Int × Addr)) (m : Option V), σ = [some (.ref t), some (.int n), some (.int x), some (.int y), some (.ref d), m, none] ∧ Same H H1 ∧ Stand (fun k => (x * k).fmod y) (iota i) H1 d ps ∧ (∀ p ∈ ps, H p.2 = none) ∧ ps.length ≤ i)
      ⟨[], none, rfl, s0, ⟨upd_same, List.nodup_nil, List.nodup_nil, (fun p hp => by simp at hp), (fun v => by simp [iota])⟩, (fun p hp => by simp at hp), Nat.le_refl _⟩ ?_ ?_
    · rintro i σ H1 hi ⟨ps, m, rfl, s1, T, hf, hl⟩
      rw [Int.zero_add]
      have hi' : (i : Int) < 60 := by omega
      refine ⟨_, rfl, d, rfl, .inl ⟨_, .inl T.dc⟩, _, rfl, _, rfl, _, _, rfl, rfl, .inr ⟨by omega, by omega⟩, _, rfl, _, _, rfl, rfl, (show y ≠ 0 by omega), Nat.zero_le _, fun l hl' => ?_⟩
      have hdl : d ≠ l := ne_of_none T.dc hl'
      have s2 : Same H1 (upd H1 l (.lst [])) := same_put hl'
      refine ⟨_, Sum.inl ((x * (i : Int)).fmod y), s2 _ _ T.dc, rfl, (by rw [List.length_map]; exact small1000 (by omega)), fun v hv => ?_, fun hn => ?_⟩
      · rw [val_of] at hv
        obtain ⟨p, hp, rfl⟩ := Option.map_eq_some_iff.mp hv
        have hm : p ∈ ps := List.mem_of_find?_eq_some hp
        have he : p.1 = (x * (i : Int)).fmod y := by simpa using List.find?_some hp
        have hL := s2 _ _ (T.ls p hm)
        refine ⟨.inl ⟨rfl, _, .inl (.inl hL)⟩, _, rfl, p.2, _, _, rfl, rfl, hL, ?_, ?_⟩
        · rw [List.length_map]
          exact small1000 (Nat.le_trans (List.length_filter_le _ _) (by rw [iota_len]; omega))
        · refine ⟨ps, _, rfl, fun b o e => ?_, ?_, hf, by omega⟩
          · rw [upd_ne (ne_of_none e (hf p hm))]
            exact s2 _ _ (s1 _ _ e)
          · rw [iota_succ]
            refine T.put hm he upd_same fun b o e hb => ?_
            rw [upd_ne hb]
            exact s2 _ _ e
      · have hk : (x * (i : Int)).fmod y ∉ ps.map (·.1) := fun z => by
          rw [val_of, Option.map_eq_none_iff, List.find?_eq_none] at hn
          obtain ⟨p, hp, e⟩ := List.mem_map.mp z
          exact hn p hp (by simpa using e)
        have hL : upd (upd H1 l (.lst [])) d (.dK (putK (ps.map fun p => ((Sum.inl p.1 : Key), V.ref p.2)) (Sum.inl ((x * (i : Int)).fmod y)) (.ref l))) l = some (.lst []) := by rw [upd_ne hdl.symm, upd_same]
        refine ⟨.inl ⟨rfl, _, .inl (.inl hL)⟩, _, rfl, l, _, _, rfl, rfl, hL, (by decide), ?_⟩
        have hln : H l = none := s1.free hl'
        refine ⟨ps ++ [((x * (i : Int)).fmod y, l)], _, rfl, fun b o e => ?_, ?_, fun p hp => ?_, by rw [List.length_append]; show ps.length + 1 ≤ i + 1; omega⟩
        · rw [upd_ne (ne_of_none e hln), upd_ne (ne_of_none e hd)]
          exact s2 _ _ (s1 _ _ e)
        · rw [iota_succ]
          refine T.new hk hl' ?_ upd_same fun b o e hb => ?_
          · rw [upd_ne hdl, upd_same, putK_new _ hn]
          · rw [upd_ne (ne_of_none e hl'), upd_ne hb]
            exact s2 _ _ e
        · rcases List.mem_append.mp hp with z | z
          · exact hf p z
          · obtain rfl := List.mem_singleton.mp z
            exact hln
    · rintro σ H1 ⟨ps, m, rfl, s1, T, hf, hl⟩
      refine ⟨_, rfl, d, _, ps.map (·.1), rfl, .inl T.dc, (by rw [List.map_map, List.map_map]; rfl), (by rw [List.length_map]; omega), fun ys p0 perm pw hp0 => ?_⟩
      have s2 : Same H1 (upd H1 p0 (.lst (ys.map V.int))) := same_put hp0
      have ey : ys = sortU ((iota n.toNat).map fun k => (x * k).fmod y) := strict_one (le_nodup_lt pw (perm.nodup_iff.mpr T.n1)) (sortU_pw _) fun v => by rw [perm.mem_iff, T.me v, sortU_mem]
      refine ⟨p0, rfl, ⟨_, .inl (.inl upd_same)⟩, fun D hD => ?_⟩
      have s3 : Same (upd H1 p0 (.lst (ys.map V.int))) (upd (upd H1 p0 (.lst (ys.map V.int))) D (.lst [])) := same_put hD
      refine lc_list (K := K) (a := p0) (xs := ys.map V.int) (fun j H2 => ∃ rs : List Addr, H2 D = some (.lst (rs.map V.ref)) ∧ Tups H2 rs ((ys.take j).map (grp (fun k => (x * k).fmod y) (iota n.toNat))) ∧ Same (upd H1 p0 (.lst (ys.map V.int))) H2)
        ⟨[], upd_same, trivial, s3⟩ (fun j H2 _ ⟨rs, _, _, e⟩ => .inl (.inl (e _ _ upd_same))) ?_ ?_
      · rintro j v H2 hj ⟨rs, h1, h2, h3⟩
        rw [List.getElem?_map] at hj
        obtain ⟨u, hu, rfl⟩ := Option.map_eq_some_iff.mp hj
        have hm : u ∈ ps.map (·.1) := perm.mem_iff.mp (List.mem_of_getElem? hu)
        obtain ⟨p, hp⟩ : ∃ p, ps.find? (fun p => p.1 == u) = some p := by
          cases e : ps.find? (fun p => p.1 == u) with
          | some p => exact ⟨p, rfl⟩
          | none =>
            rw [List.find?_eq_none] at e
            obtain ⟨p, hp, z⟩ := List.mem_map.mp hm
            exact absurd (by simpa using z) (e p hp)
        have hpm : p ∈ ps := List.mem_of_find?_eq_some hp
        have hpe : p.1 = u := by simpa using List.find?_some hp
        have hd2 := h3 _ _ (s2 _ _ T.dc)
        have hL := h3 _ _ (s2 _ _ (T.ls p hpm))
        refine ⟨rfl, _, rfl, _, rfl, d, .ref p.2, rfl, ?_, p.2, _, rfl, SqL.of hL, fun r hr => ?_⟩
        · have z := DGet.k (k := Sum.inl u) hd2
          rw [val_of, hp] at z
          exact z
        · have hrD : D ≠ r := ne_of_none h1 hr
          refine ⟨rs.map V.ref, (by rw [upd_ne hrD]; exact h1), ?_, rs ++ [r], (by rw [upd_same, List.map_append]; rfl), ?_, fun b o e => ?_⟩
          · rw [List.length_map, h2.len, List.length_map, List.length_take]
            exact small1000 (by have := perm.length_eq; rw [List.length_map] at this; omega)
          · rw [List.take_add_one, hu, List.map_append]
            refine Tups.snoc ?_ (h2.mono fun r' g e => ?_)
            · rw [upd_ne hrD.symm, upd_same, hpe]
            · have n1 : r' ≠ D := ne_of e h1 (by intro z; cases z)
              rw [upd_ne n1, upd_ne (ne_of_none e hr)]
              exact e
          · have e2 := h3 _ _ e
            rw [upd_ne (ne_of_none e hD), upd_ne (ne_of_none e2 hr)]
            exact e2
      · rintro H2 ⟨rs, h1, h2, h3⟩
        refine ⟨D, _, rfl, SqL.of h1, fun r hr => ?_⟩
        have s4 : Same H2 (upd H2 r (.tup (rs.map V.ref))) := same_put hr
        refine q r _ (((s1.trans s2).trans h3).trans s4) (((s1.trans s2).trans h3).free hr) ⟨rs, upd_same, ?_⟩
        rw [List.length_map, List.take_length, ey] at h2
        exact h2.mono fun r' g e => s4 _ _ e
end
end My.O
set_option Elab.async false
set_option linter.all false
set_option maxRecDepth 100000
set_option maxHeartbeats 4000000
namespace My.O
open PySem PySem.Spec PyProof.Rows L2 Gn Mt
abbrev sPlace : Stmt := top 48
abbrev sMirr : Stmt := top 50
abbrev sLowest : Stmt := top 53
theorem scPlace : FnScope ["step", "mark", "top", "bottom"] ["step", "mark"] (defScope sPlace) := ⟨rfl, rfl, rfl, by decide +kernel, rfl, by decide +kernel, by decide +kernel⟩
theorem scMirr : FnScope ["step", "top", "bottom"] ["step"] (defScope sMirr) := ⟨rfl, rfl, rfl, by decide +kernel, rfl, by decide +kernel, by decide +kernel⟩
theorem scLowest : FnScope ["top", "bottom", "shared"] ["top", "bottom"] (defScope sLowest) := ⟨rfl, rfl, rfl, by decide +kernel, rfl, by decide +kernel, by decide +kernel⟩
def spPlace : Sp := fun vs H Q _ => ∃ (t : Addr) (x y k : Int), vs = [.ref t, .int k] ∧ StepAt H t x y ∧ y.natAbs < 2 ^ 100 ∧ 0 ≤ k ∧ k ≤ 10 ^ 30 ∧
  ∀ r, H r = none → Q (.ref r) (upd H r (.tup [.int (((x * k).fmod y) / ((Nat.gcd ((x * k).fmod y).natAbs y.natAbs : Nat) : Int)), .int (y / ((Nat.gcd ((x * k).fmod y).natAbs y.natAbs : Nat) : Int))]))
def mirI (x y : Int) : Int := if x = 0 then 0 else y - x
theorem mir_step {x y : Int} (h : IsStep x y) : IsStep (mirI x y) y := by
  unfold mirI
  have x0 := h.x0
  have xy := h.xy
  by_cases e : x = 0
  · rw [if_pos e]; subst e; exact h
  · rw [if_neg e]
    refine ⟨by omega, by omega, ?_⟩
    have d1 : ((Nat.gcd (y - x).natAbs y.natAbs : Nat) : Int) ∣ (y - x) := Int.ofNat_dvd_left.mpr (Nat.gcd_dvd_left _ _)
    have d2 : ((Nat.gcd (y - x).natAbs y.natAbs : Nat) : Int) ∣ y := Int.ofNat_dvd_left.mpr (Nat.gcd_dvd_right _ _)
    have d3 : ((Nat.gcd (y - x).natAbs y.natAbs : Nat) : Int) ∣ x := by
      have := Int.dvd_sub d2 d1
      rwa [show y - (y - x) = x by omega] at this
    have d4 := Nat.dvd_gcd (Int.ofNat_dvd_left.mp d3) (Int.ofNat_dvd_left.mp d2)
    rw [h.co] at d4
    exact Nat.dvd_one.mp d4
theorem mir_mir {x y : Int} (h : IsStep x y) : mirI (mirI x y) y = x := by
  unfold mirI
  have x0 := h.x0
  have xy := h.xy
  by_cases e : x = 0
  · rw [if_pos e, if_pos rfl, e]
  · rw [if_neg e, if_neg (by omega)]; omega
def spMirr : Sp := fun vs H Q _ => ∃ (t : Addr) (x y : Int), vs = [.ref t] ∧ StepAt H t x y ∧ ∀ b H', Same H H' → StepAt H' b (mirI x y) y → Q (.ref b) H'
section
variable {P : Program} {w : World} {K : PySem.W.Frag} {mg : Str → Option Value} {base : Heap}
theorem ok_lowest {f : Addr} {fd : FuncData} (F : Fun K "lowest" "lowest" sLowest f fd) (B : Bc mg) : FnOk P w K mg base CX0 1 f fd ["top", "bottom"] spLow := by
  refine F.ok scLowest (fun vs H Q E h => ?_) (fun cdv A outer s H vs Q E hr h => ?_)
  · obtain ⟨a, b, rfl, _⟩ := h
    rfl
  · obtain ⟨a, b, rfl, a0, b0, b1, q⟩ := h
    refine ⟨_, pss_cons (ps_set (i := 2) scLowest.nd rfl (.inl rfl) (pe_callBfun cr_gcd (by rfl) B.gcd (pa_cons (pv 0) (pa_cons (pv 1) pa_nil))))
      (pss_one (ps_ret (pe_tup (pa_cons (pe_op op_fdivW (pv 0) (pv 2)) (pa_cons (pe_op op_fdivW (pv 1) (pv 2)) pa_nil))))), ?_⟩
    have g0 : (0 : Int) < ((Nat.gcd a.natAbs b.natAbs : Nat) : Int) := by
      have := Nat.gcd_pos_of_pos_right a.natAbs (show 0 < b.natAbs by omega); omega
    have g1 : (((Nat.gcd a.natAbs b.natAbs : Nat) : Int)).natAbs < 2 ^ 100 := by
      rw [Int.natAbs_natCast]
      exact Nat.lt_of_le_of_lt (Nat.le_of_dvd (by omega) (Nat.gcd_dvd_right _ _)) b1
    exact ⟨_, rfl, _, rfl, a, b, rfl, _, rfl, _, rfl, _, _, rfl, rfl, wide_div g0 g1 (by decide) (by decide), _, rfl, _, rfl, _, _, rfl, rfl, wide_div g0 g1 (by decide) (by decide), (by show 2 ≤ sizeLine; decide), fun p hp => q p hp⟩
theorem ok_place {f fI fR fS fC fN fL : Addr} {fd fdI fdR fdS fdC fdN fdL : FuncData} (F : Fun K "place" "place" sPlace f fd) (B : Bc mg) (mc : ∃ tk, mg "MOST_COUNT" = some (.int (10 ^ 30) tk)) (D : Df K mg "is_integer" sIsInt ["given"] fI fdI) (R : Df K mg "is_fraction" sIsFr ["given"] fR fdR) (S : Df K mg "is_step" sIsStep ["given"] fS fdS)
    (C : Df K mg "check_step" sChStep ["given"] fC fdC) (N : Df K mg "check_number" sChNum ["given", "least", "most"] fN fdN) (L : Df K mg "lowest" sLowest ["top", "bottom"] fL fdL) {fM : Addr} {fdM : FuncData} (Nn : Df K mg "is_number" sIsNum ["given", "least", "most"] fM fdM) : FnOk P w K mg base CX0 5 f fd ["step", "mark"] spPlace := by
  have GC : FnOk P w K mg base CX0 4 fC fdC ["given"] (spIsSt .non) := ok_chStep C.F B D R S
  have GN : FnOk P w K mg base CX0 3 fN fdN ["given", "least", "most"] spChNum := ok_chNum N.F B D Nn
  have GL : FnOk P w K mg base CX0 1 fL fdL ["top", "bottom"] spLow := ok_lowest L.F B
  refine F.ok scPlace (fun vs H Q E h => ?_) (fun cdv A outer s H vs Q E hr h => ?_)
  · obtain ⟨t, x, y, k, rfl, _⟩ := h
    rfl
  · obtain ⟨t, x, y, k, rfl, ⟨hT, st⟩, yb, k0, k1, q⟩ := h
    obtain ⟨tk, hmc⟩ := mc
    have hr2 : Room 2 _ := hr.mono (by decide)
    have hr3 : Room 3 _ := hr.mono (by decide)
    have hr1 : Room 1 _ := hr.mono (by decide)
    refine ⟨_, pss_cons (ps_expr (pe_call GC hr (by rfl) C.g C.F.kp C.b .nil pass0 (pa_cons (pv 0) pa_nil)))
      (pss_cons (ps_expr (pe_call GN hr3 (by rfl) N.g N.F.kp N.b .nil pass0 (pa_cons (pv 1) (pa_cons pe_int (pa_cons (pe_glob (v := .int (10 ^ 30)) rfl hmc ⟨_, rfl⟩) pa_nil)))))
      (pss_cons (ps_asg (pv 0) (pg_tup (by rfl) (pgs_cons (pg_name (i := 2) scPlace.nd rfl (.inl rfl)) (pgs_cons (pg_name (i := 3) scPlace.nd rfl (.inl rfl)) pgs_nil))))
      (pss_one (ps_ret (pe_call GL hr1 (by rfl) L.g L.F.kp L.b .nil pass0 (pa_cons (pe_op op_modN (pe_op op_mulW (pv 2) (pv 1)) (pv 3)) (pa_cons (pv 3) pa_nil))))))), ?_⟩
    have y1 : 0 < y := by have := st.x0; have := st.xy; omega
    have x0 := st.x0
    have xy := st.xy
    refine ⟨_, rfl, t, x, y, rfl, ⟨hT, st⟩, _, rfl, k, 0, 10 ^ 30, rfl, k0, k1, ?_⟩
    refine ⟨_, rfl, t, _, rfl, SqT.of hT, rfl, _, _, rfl, _, _, rfl, rfl, ?_⟩
    refine ⟨_, rfl, _, rfl, _, _, rfl, rfl, wide_mul (a := 100) (b := 100) (Nat.lt_of_le_of_lt (by omega) yb) (Nat.lt_of_le_of_lt (show k.natAbs ≤ 10 ^ 30 by omega) (by decide)) (by decide) (by decide) (by decide), _, rfl, _, _, rfl, rfl, (show y ≠ 0 by omega), _, rfl, _, _, rfl, fmod_ge y1, y1, yb, fun r hr => q r hr⟩
theorem ok_mirr {f fI fR fS fC : Addr} {fd fdI fdR fdS fdC : FuncData} (F : Fun K "mirrored" "mirrored" sMirr f fd) (B : Bc mg) (D : Df K mg "is_integer" sIsInt ["given"] fI fdI) (R : Df K mg "is_fraction" sIsFr ["given"] fR fdR) (S : Df K mg "is_step" sIsStep ["given"] fS fdS)
    (C : Df K mg "check_step" sChStep ["given"] fC fdC) : FnOk P w K mg base CX0 5 f fd ["step"] spMirr := by
  have GC : FnOk P w K mg base CX0 4 fC fdC ["given"] (spIsSt .non) := ok_chStep C.F B D R S
  refine F.ok scMirr (fun vs H Q E h => ?_) (fun cdv A outer s H vs Q E hr h => ?_)
  · obtain ⟨t, x, y, rfl, _⟩ := h
    rfl
  · obtain ⟨t, x, y, rfl, ⟨hT, st⟩, q⟩ := h
    refine ⟨_, pss_cons (ps_expr (pe_call GC hr (by rfl) C.g C.F.kp C.b .nil pass0 (pa_cons (pv 0) pa_nil)))
      (pss_cons (ps_asg (pv 0) (pg_tup (by rfl) (pgs_cons (pg_name (i := 1) scMirr.nd rfl (.inl rfl)) (pgs_cons (pg_name (i := 2) scMirr.nd rfl (.inl rfl)) pgs_nil))))
      (pss_cons (ps_if (pt_cmpR op_eq (pv 1) pe_int (nomark _)) (pss_one (ps_ret (pv 0))) pss_nil)
      (pss_one (ps_ret (pe_tup (pa_cons (pe_op op_sub (pv 2) (pv 1)) (pa_cons (pv 2) pa_nil))))))), ?_⟩
    refine ⟨_, rfl, t, x, y, rfl, ⟨hT, st⟩, ?_⟩
    refine ⟨_, rfl, t, _, rfl, SqT.of hT, rfl, _, _, rfl, _, _, rfl, rfl, ?_⟩
    refine ⟨_, rfl, rfl, _, rfl, ?_⟩
    refine ite2 (fun hc => ?_) (fun hc => ?_)
    · have e : x = 0 := V.int.inj (of_decide_eq_true hc)
      have em : mirI x y = x := by unfold mirI; rw [if_pos e, e]
      exact ⟨_, rfl, q t H (Same.refl H) (by rw [em]; exact ⟨hT, st⟩)⟩
    · have e : x ≠ 0 := fun e => hc (decide_eq_true (congrArg V.int e))
      have em : mirI x y = y - x := by unfold mirI; rw [if_neg e]
      exact ⟨_, rfl, _, rfl, _, _, rfl, rfl, _, rfl, (by show 2 ≤ sizeLine; decide), fun r hr => q r _ (same_put hr) ⟨by rw [em]; exact upd_same, mir_step st⟩⟩
end
end My.O
set_option Elab.async false
set_option maxRecDepth 100000
set_option maxHeartbeats 1000000
set_option linter.all false
/-! where two steps make unlike orders -/
namespace Mt
/-! an order tells how the places lie -/
theorem get_lt {l : List Int} (h : l.Pairwise (· < ·)) {i j : Nat} {u v : Int} (hi : l[i]? = some u) (hj : l[j]? = some v) : i < j ↔ u < v := by
  obtain ⟨h1, e1⟩ := List.getElem?_eq_some_iff.mp hi
  obtain ⟨h2, e2⟩ := List.getElem?_eq_some_iff.mp hj
  subst e1 e2
  have p := List.pairwise_iff_getElem.mp h
  constructor
  · exact p i j h1 h2
  · intro q
    rcases Nat.lt_trichotomy i j with c | c | c
    · exact c
    · subst c; omega
    · have := p j i h2 h1 c; omega
theorem ord_lt {f : Int → Int} {ms : List Int} {i j : Int} (hi : i ∈ ms) (hj : j ∈ ms) : f i < f j ↔ ∃ (a b : Nat) (g h : List Int), a < b ∧ (ord f ms)[a]? = some g ∧ i ∈ g ∧ (ord f ms)[b]? = some h ∧ j ∈ h := by
  have at_ : ∀ k ∈ ms, ∃ a, (sortU (ms.map f))[a]? = some (f k) := fun k hk => List.mem_iff_getElem?.mp (sortU_mem.mpr (List.mem_map.mpr ⟨k, hk, rfl⟩))
  constructor
  · intro c
    obtain ⟨a, ha⟩ := at_ i hi
    obtain ⟨b, hb⟩ := at_ j hj
    refine ⟨a, b, grp f ms (f i), grp f ms (f j), (get_lt (sortU_pw _) ha hb).mpr c, ?_, ?_, ?_, ?_⟩
    · unfold ord; rw [List.getElem?_map, ha]; rfl
    · exact List.mem_filter.mpr ⟨hi, by simp⟩
    · unfold ord; rw [List.getElem?_map, hb]; rfl
    · exact List.mem_filter.mpr ⟨hj, by simp⟩
  · rintro ⟨a, b, g, h, c, hg, ig, hh, jh⟩
    unfold ord at hg hh
    rw [List.getElem?_map] at hg hh
    obtain ⟨u, hu, rfl⟩ := Option.map_eq_some_iff.mp hg
    obtain ⟨v, hv, rfl⟩ := Option.map_eq_some_iff.mp hh
    have e1 : f i = u := by simpa using (List.mem_filter.mp ig).2
    have e2 : f j = v := by simpa using (List.mem_filter.mp jh).2
    rw [e1, e2]
    exact (get_lt (sortU_pw _) hu hv).mp c
/-- orders that are the same: the places lie the same -/
theorem ord_same_lt {f g : Int → Int} {ms : List Int} (h : ord f ms = ord g ms) {i j : Int} (hi : i ∈ ms) (hj : j ∈ ms) : f i < f j ↔ g i < g j := by
  rw [ord_lt hi hj, ord_lt hi hj, h]
/-- places that lie the same: the same orders -/
theorem ord_of_lt {f g : Int → Int} {ms : List Int} (h : ∀ i ∈ ms, ∀ j ∈ ms, f i < f j ↔ g i < g j) : ord f ms = ord g ms := by
  have he : ∀ i ∈ ms, ∀ j ∈ ms, f i = f j ↔ g i = g j := fun i hi j hj => by
    have h1 := h i hi j hj
    have h2 := h j hj i hi
    omega
  -- a mark at each place
  have key : ∀ l : List Int, (∀ v ∈ l, v ∈ ms.map f) → ∃ ks : List Int, ks.map f = l ∧ ∀ k ∈ ks, k ∈ ms := by
    intro l
    induction l with
    | nil => exact fun _ => ⟨[], rfl, fun k hk => by simp at hk⟩
    | cons v l ih =>
      intro hl
      obtain ⟨k, hk, e⟩ := List.mem_map.mp (hl v List.mem_cons_self)
      obtain ⟨ks, e2, hks⟩ := ih fun u hu => hl u (List.mem_cons_of_mem _ hu)
      refine ⟨k :: ks, by rw [List.map_cons, e, e2], fun z hz => ?_⟩
      rcases List.mem_cons.mp hz with rfl | hz
      · exact hk
      · exact hks z hz
  obtain ⟨ks, e1, hks⟩ := key (sortU (ms.map f)) fun v hv => sortU_mem.mp hv
  have pf : (ks.map f).Pairwise (· < ·) := by rw [e1]; exact sortU_pw _
  have pg : (ks.map g).Pairwise (· < ·) := by
    rw [List.pairwise_map] at pf ⊢
    exact pf.imp_of_mem fun {a b} ha hb c => (h a (hks a ha) b (hks b hb)).mp c
  have e2 : sortU (ms.map g) = ks.map g := strict_one (sortU_pw _) pg fun v => by
    rw [sortU_mem]
    constructor
    · intro hv
      obtain ⟨i, hi, rfl⟩ := List.mem_map.mp hv
      have : f i ∈ ks.map f := by rw [e1, sortU_mem]; exact List.mem_map.mpr ⟨i, hi, rfl⟩
      obtain ⟨k, hk, e⟩ := List.mem_map.mp this
      exact List.mem_map.mpr ⟨k, hk, (he k (hks k hk) i hi).mp e⟩
    · intro hv
      obtain ⟨k, hk, rfl⟩ := List.mem_map.mp hv
      exact List.mem_map.mpr ⟨k, hks k hk, rfl⟩
  unfold ord
  rw [← e1, e2, List.map_map, List.map_map]
  refine List.map_congr_left fun k hk => ?_
  refine List.filter_congr fun i hi => ?_
  have := he i hi k (hks k hk)
  by_cases c : f i = f k
  · rw [beq_iff_eq.mpr c, beq_iff_eq.mpr (this.mp c)]
  · rw [beq_eq_false_iff_ne.mpr c, beq_eq_false_iff_ne.mpr fun z => c (this.mpr z)]
/-! the arithmetic -/
/-- x1 / x2 below y1 / y2, both from 0 on below 1 -/
structure Pair (x1 x2 y1 y2 : Int) : Prop where
  a0 : 0 ≤ x1
  a1 : x1 < x2
  b0 : 0 ≤ y1
  b1 : y1 < y2
  lt : x1 * y2 < y1 * x2
/-- p / q lies between, nothing with a lesser bottom does -/
structure Least (x1 x2 y1 y2 p q : Int) : Prop where
  q0 : 0 < q
  lo : x1 * q ≤ p * x2
  hi : p * y2 ≤ y1 * q
  no : ∀ r s, 0 < s → s < q → x1 * s ≤ r * x2 → r * y2 ≤ y1 * s → False
theorem Pair.mul {x1 x2 y1 y2 : Int} (P : Pair x1 x2 y1 y2) {r s : Int} (s0 : 0 < s) (h : r * x2 < x1 * s) : r * y2 < y1 * s := by
  have a0 := P.a0
  have a1 := P.a1
  have b0 := P.b0
  have b1 := P.b1
  have h1 : r * x2 * y2 < x1 * s * y2 := Int.mul_lt_mul_of_pos_right h (by omega)
  have h2 : x1 * y2 * s < y1 * x2 * s := Int.mul_lt_mul_of_pos_right P.lt s0
  have e1 : x1 * s * y2 = x1 * y2 * s := Int.mul_right_comm _ _ _
  have e2 : y1 * x2 * s = y1 * s * x2 := Int.mul_right_comm _ _ _
  have e3 : r * x2 * y2 = r * y2 * x2 := Int.mul_right_comm _ _ _
  have h3 : r * y2 * x2 < y1 * s * x2 := by omega
  exact Int.lt_of_mul_lt_mul_right h3 (by omega)
theorem Pair.mul' {x1 x2 y1 y2 : Int} (P : Pair x1 x2 y1 y2) {r s : Int} (s0 : 0 < s) (h : y1 * s < r * y2) : x1 * s < r * x2 := by
  have a0 := P.a0
  have a1 := P.a1
  have b0 := P.b0
  have b1 := P.b1
  have h1 : y1 * s * x2 < r * y2 * x2 := Int.mul_lt_mul_of_pos_right h (by omega)
  have h2 : x1 * y2 * s < y1 * x2 * s := Int.mul_lt_mul_of_pos_right P.lt s0
  have e1 : x1 * s * y2 = x1 * y2 * s := Int.mul_right_comm _ _ _
  have e2 : y1 * x2 * s = y1 * s * x2 := Int.mul_right_comm _ _ _
  have e3 : r * x2 * y2 = r * y2 * x2 := Int.mul_right_comm _ _ _
  have h3 : x1 * s * y2 < r * x2 * y2 := by omega
  exact Int.lt_of_mul_lt_mul_right h3 (by omega)
/-- at a lesser bottom both have the same whole part, and a rest -/
theorem Least.floor {x1 x2 y1 y2 p q : Int} (P : Pair x1 x2 y1 y2) (L : Least x1 x2 y1 y2 p q) {s : Int} (s0 : 0 < s) (sq : s < q) :
    ∃ r, r * x2 < x1 * s ∧ x1 * s < (r + 1) * x2 ∧ r * y2 < y1 * s ∧ y1 * s < (r + 1) * y2 := by
  have b0 := P.b0
  have b1 := P.b1
  have y0 : 0 < y2 := by omega
  have m0 := Int.emod_nonneg (y1 * s) (show y2 ≠ 0 by omega)
  have m1 := Int.emod_lt_of_pos (y1 * s) y0
  have md := Int.mul_ediv_add_emod (y1 * s) y2
  have cm := Int.mul_comm y2 (y1 * s / y2)
  have l1 : (y1 * s / y2) * y2 ≤ y1 * s := by omega
  have l2 : y1 * s < (y1 * s / y2 + 1) * y2 := by rw [Int.add_mul]; omega
  have l3 : (y1 * s / y2) * x2 < x1 * s := by
    rcases Int.lt_or_le ((y1 * s / y2) * x2) (x1 * s) with c | c
    · exact c
    · exact (L.no _ s s0 sq c l1).elim
  exact ⟨y1 * s / y2, l3, P.mul' s0 l2, P.mul s0 l3, l2⟩
/-- the place of a mark, by its whole part -/
theorem place_of {x1 x2 k r : Int} (h0 : r * x2 ≤ x1 * k) (h1 : x1 * k < (r + 1) * x2) : (x1 * k).fmod x2 = x1 * k - r * x2 := by
  rw [Int.add_mul] at h1
  have x0 : 0 < x2 := by omega
  rw [Int.fmod_eq_emod_of_nonneg _ (by omega)]
  have e : x1 * k = (x1 * k - r * x2) + x2 * r := by have := Int.mul_comm x2 r; omega
  rw [e, Int.add_mul_emod_self_left, ← e]
  exact Int.emod_eq_of_lt (by omega) (by omega)
theorem cancel_lt {a b c : Int} (hc : 0 < c) (h : a * c < b * c) : a < b := Int.lt_of_mul_lt_mul_right h (by omega)
/-- fewer marks than the least bottom and one more: the same order -/
theorem Least.alike {x1 x2 y1 y2 p q : Int} (P : Pair x1 x2 y1 y2) (L : Least x1 x2 y1 y2 p q) : ord (fun k => (x1 * k).fmod x2) (iota q.toNat) = ord (fun k => (y1 * k).fmod y2) (iota q.toNat) := by
  have a0 := P.a0
  have a1 := P.a1
  have b0 := P.b0
  have b1 := P.b1
  -- each mark's whole part
  have fl : ∀ k : Int, 0 ≤ k → k < q → ∃ r, r * x2 ≤ x1 * k ∧ x1 * k < (r + 1) * x2 ∧ r * y2 ≤ y1 * k ∧ y1 * k < (r + 1) * y2 := fun k k0 kq => by
    by_cases c : k = 0
    · subst c
      exact ⟨0, by simp, by simp; omega, by simp, by simp; omega⟩
    · obtain ⟨r, h1, h2, h3, h4⟩ := L.floor P (s := k) (by omega) kq
      exact ⟨r, Int.le_of_lt h1, h2, Int.le_of_lt h3, h4⟩
  -- i < j
  have up : ∀ i j : Int, 0 ≤ i → i < j → j < q → (((x1 * i).fmod x2 < (x1 * j).fmod x2 ↔ (y1 * i).fmod y2 < (y1 * j).fmod y2) ∧ ((x1 * j).fmod x2 < (x1 * i).fmod x2 ↔ (y1 * j).fmod y2 < (y1 * i).fmod y2)) := fun i j i0 ij jq => by
    obtain ⟨u, u1, u2, u3, u4⟩ := fl i i0 (by omega)
    obtain ⟨v, v1, v2, v3, v4⟩ := fl j (by omega) jq
    obtain ⟨r, r1, r2, r3, r4⟩ := L.floor P (s := j - i) (by omega) (by omega)
    rw [place_of u1 u2, place_of v1 v2, place_of u3 u4, place_of v3 v4]
    rw [Int.mul_sub] at r1 r2 r3 r4
    rw [Int.add_mul] at r2 r4
    rcases Int.lt_or_le r (v - u) with c | c
    · have e1 := Int.mul_le_mul_of_nonneg_right (show r + 1 ≤ v - u by omega) (show 0 ≤ x2 by omega)
      have e2 := Int.mul_le_mul_of_nonneg_right (show r + 1 ≤ v - u by omega) (show 0 ≤ y2 by omega)
      rw [Int.add_mul, Int.sub_mul] at e1 e2
      constructor <;> constructor <;> intro <;> omega
    · have e1 := Int.mul_le_mul_of_nonneg_right c (show 0 ≤ x2 by omega)
      have e2 := Int.mul_le_mul_of_nonneg_right c (show 0 ≤ y2 by omega)
      rw [Int.sub_mul] at e1 e2
      constructor <;> constructor <;> intro <;> omega
  have q0 := L.q0
  refine ord_of_lt fun i hi j hj => ?_
  have ii := iota_mem.mp hi
  have jj := iota_mem.mp hj
  rcases Int.lt_trichotomy i j with c | c | c
  · exact (up i j ii.1 c (by omega)).1
  · subst c; simp
  · exact (up j i jj.1 c (by omega)).2
theorem cancel_le {a b c : Int} (hc : 0 < c) (h : a * c ≤ b * c) : a ≤ b := Int.le_of_mul_le_mul_right h hc
/-- one mark more: unlike orders -/
theorem Least.unlike {x1 x2 y1 y2 p q : Int} (P : Pair x1 x2 y1 y2) (L : Least x1 x2 y1 y2 p q) : ord (fun k => (x1 * k).fmod x2) (iota (q + 1).toNat) ≠ ord (fun k => (y1 * k).fmod y2) (iota (q + 1).toNat) := by
  intro h
  have a0 := P.a0
  have a1 := P.a1
  have b0 := P.b0
  have b1 := P.b1
  have q0 := L.q0
  have mem : ∀ k : Int, 0 ≤ k → k ≤ q → k ∈ iota (q + 1).toNat := fun k k0 kq => iota_mem.mpr ⟨k0, by omega⟩
  have z0 : ∀ a b : Int, (a * 0).fmod b = 0 := fun a b => by rw [Int.mul_zero, Int.zero_fmod]
  have n0 : ∀ a b k : Int, 0 < b → 0 ≤ (a * k).fmod b := fun a b k hb => by rw [Int.fmod_eq_emod_of_nonneg _ (by omega)]; exact Int.emod_nonneg _ (by omega)
  have mz : ∀ a b k : Int, 0 < b → (a * k).fmod b = 0 → ∃ m, a * k = m * b := fun a b k hb e => by
    rw [Int.fmod_eq_emod_of_nonneg _ (by omega)] at e
    have := Int.mul_ediv_add_emod (a * k) b
    exact ⟨a * k / b, by have := Int.mul_comm b (a * k / b); omega⟩
  have s1 := ord_same_lt h (mem 0 (by omega) (by omega)) (mem q (by omega) (by omega))
  simp only [z0] at s1
  have nx := n0 x1 x2 q (by omega)
  have ny := n0 y1 y2 q (by omega)
  rcases Int.lt_or_eq_of_le L.lo with lo | lo
  · rcases Int.lt_or_eq_of_le L.hi with hi | hi
    · -- strictly between
      have q2 : 2 ≤ q := by
        rcases Int.lt_or_le q 2 with c | c
        · have e : q = 1 := by omega
          rw [e, Int.mul_one] at lo hi
          have h1 : 0 < p := by
            rcases Int.lt_or_le 0 p with d | d
            · exact d
            · have := Int.mul_le_mul_of_nonneg_right d (show 0 ≤ x2 by omega)
              rw [Int.zero_mul] at this; omega
          have := Int.mul_le_mul_of_nonneg_right (show 1 ≤ p by omega) (show 0 ≤ y2 by omega)
          rw [Int.one_mul] at this; omega
        · exact c
      obtain ⟨r, r1, r2, r3, r4⟩ := L.floor P (s := q - 1) (by omega) (by omega)
      rw [Int.mul_sub, Int.mul_one] at r1 r2 r3 r4
      have hr : r = p - 1 := by
        have h1 : r < p := cancel_lt (c := x2) (by omega) (by omega)
        have h2 : p < r + 2 := cancel_lt (c := y2) (by omega) (by rw [Int.add_mul] at r4 ⊢; omega)
        omega
      subst hr
      have s2 := ord_same_lt h (mem 1 (by omega) (by omega)) (mem q (by omega) (by omega))
      rw [Int.sub_mul] at r1 r3
      rw [show p - 1 + 1 = p by omega] at r2 r4
      have f1 : (x1 * 1).fmod x2 = x1 * 1 - 0 * x2 := place_of (by rw [Int.zero_mul]; omega) (by rw [Int.add_mul]; omega)
      have g1 : (y1 * 1).fmod y2 = y1 * 1 - 0 * y2 := place_of (by rw [Int.zero_mul]; omega) (by rw [Int.add_mul]; omega)
      have fq : (x1 * q).fmod x2 = x1 * q - (p - 1) * x2 := place_of (by rw [Int.sub_mul]; omega) (by rw [show p - 1 + 1 = p by omega]; omega)
      have gq : (y1 * q).fmod y2 = y1 * q - p * y2 := place_of (by omega) (by rw [Int.add_mul]; omega)
      rw [f1, g1, fq, gq, Int.sub_mul] at s2
      omega
    · -- y is p / q
      have gz : (y1 * q).fmod y2 = 0 := by
        rw [← hi, Int.fmod_eq_emod_of_nonneg _ (by omega), Int.mul_emod_left]
      have fz : (x1 * q).fmod x2 = 0 := by rw [gz] at s1; omega
      obtain ⟨m, hm⟩ := mz x1 x2 q (by omega) fz
      have mp : m < p := cancel_lt (c := x2) (by omega) (by omega)
      rcases Int.lt_or_le q 2 with c | c
      · have e : q = 1 := by omega
        rw [e, Int.mul_one] at hi
        have hp : p < 1 := cancel_lt (c := y2) (by omega) (by omega)
        have := Int.mul_le_mul_of_nonneg_right (show p ≤ 0 by omega) (show 0 ≤ y2 by omega)
        have y1z : y1 = 0 := by rw [Int.zero_mul] at this; omega
        have := P.lt
        rw [y1z, Int.zero_mul] at this
        have := Int.mul_nonneg a0 (show 0 ≤ y2 by omega)
        omega
      · refine L.no (p - 1) (q - 1) (by omega) (by omega) ?_ ?_
        · rw [Int.mul_sub, Int.mul_one, Int.sub_mul, Int.one_mul]
          have := Int.mul_le_mul_of_nonneg_right (show m + 1 ≤ p by omega) (show 0 ≤ x2 by omega)
          rw [Int.add_mul] at this
          omega
        · rw [Int.mul_sub, Int.mul_one, Int.sub_mul, Int.one_mul]
          omega
  · -- x is p / q
    have fz : (x1 * q).fmod x2 = 0 := by
      rw [lo, Int.fmod_eq_emod_of_nonneg _ (by omega), Int.mul_emod_left]
    have gz : (y1 * q).fmod y2 = 0 := by rw [fz] at s1; omega
    obtain ⟨m, hm⟩ := mz y1 y2 q (by omega) gz
    have pm : p < m := by
      have h1 : p * x2 * y2 < m * y2 * x2 := by
        have := Int.mul_lt_mul_of_pos_right P.lt q0
        have e1 : x1 * y2 * q = x1 * q * y2 := Int.mul_right_comm _ _ _
        have e2 : y1 * x2 * q = y1 * q * x2 := Int.mul_right_comm _ _ _
        rw [e1, e2, lo, hm] at this
        exact this
      rw [Int.mul_right_comm p] at h1
      exact cancel_lt (c := y2) (by omega) (cancel_lt (c := x2) (by omega) h1)
    have hpm := Int.mul_le_mul_of_nonneg_right (show p + 1 ≤ m by omega) (show 0 ≤ y2 by omega)
    rw [Int.add_mul, Int.one_mul] at hpm
    rcases Int.lt_or_le q 2 with c | c
    · have e : q = 1 := by omega
      rw [e, Int.mul_one] at lo hm
      have hm1 : m < 1 := cancel_lt (c := y2) (by omega) (by omega)
      have hp : p < 0 := by omega
      have := Int.mul_le_mul_of_nonneg_right (show p + 1 ≤ 0 by omega) (show 0 ≤ x2 by omega)
      rw [Int.add_mul] at this
      omega
    · refine L.no p (q - 1) (by omega) (by omega) ?_ ?_
      · rw [Int.mul_sub, Int.mul_one]; omega
      · rw [Int.mul_sub, Int.mul_one]; omega
end Mt
set_option Elab.async false
set_option maxRecDepth 100000
set_option maxHeartbeats 1000000
set_option linter.all false
/-! the simplest fraction from a / b to c / d -/
namespace Mt
structure Best (a b c d p q : Int) : Prop where
  q0 : 0 < q
  lo : a * q ≤ p * b
  hi : p * d ≤ c * q
  mi : ∀ r s, 0 < s → a * s ≤ r * b → r * d ≤ c * s → q ≤ s ∧ p ≤ r
theorem Best.step {a b c d w p q : Int} (w0 : 0 ≤ w) (b0 : 0 < b) (d0 : 0 < d) (e0 : 0 < a - w * b) (f0 : 0 < c - w * d) (B : Best d (c - w * d) b (a - w * b) p q) : Best a b c d (w * p + q) p := by
  have q0 := B.q0
  have l := B.lo
  have h := B.hi
  have p0 : 0 < p := by
    have h1 : 0 < d * q := Int.mul_pos d0 q0
    have h2 : 0 * (c - w * d) < p * (c - w * d) := by rw [Int.zero_mul]; omega
    exact Int.lt_of_mul_lt_mul_right h2 (by omega)
  have m1 : p * (c - w * d) = c * p - w * p * d := by rw [Int.mul_sub, Int.mul_comm p c, ← Int.mul_assoc, Int.mul_comm p w]
  have m2 : p * (a - w * b) = a * p - w * p * b := by rw [Int.mul_sub, Int.mul_comm p a, ← Int.mul_assoc, Int.mul_comm p w]
  have m3 := Int.mul_comm d q
  have m4 := Int.mul_comm b q
  refine ⟨p0, ?_, ?_, fun r s s0 h1 h2 => ?_⟩
  · rw [Int.add_mul]; omega
  · rw [Int.add_mul]; omega
  · have k1 : (r - w * s) * b = r * b - w * b * s := by rw [Int.sub_mul, Int.mul_right_comm]
    have k2 : (r - w * s) * d = r * d - w * d * s := by rw [Int.sub_mul, Int.mul_right_comm]
    have k3 : (a - w * b) * s = a * s - w * b * s := Int.sub_mul ..
    have k4 : (c - w * d) * s = c * s - w * d * s := Int.sub_mul ..
    have t0 : 0 < r - w * s := by
      have h3 : 0 < (a - w * b) * s := Int.mul_pos e0 s0
      have h4 : 0 * b < (r - w * s) * b := by rw [Int.zero_mul]; omega
      exact Int.lt_of_mul_lt_mul_right h4 (by omega)
    have z := B.mi s (r - w * s) t0 (by rw [Int.mul_comm d, Int.mul_comm s]; omega) (by rw [Int.mul_comm s, Int.mul_comm b]; omega)
    have z2 := Int.mul_le_mul_of_nonneg_left z.2 w0
    exact ⟨z.2, by omega⟩
theorem div_le {a b : Int} (b0 : 0 < b) : (a / b) * b ≤ a ∧ a < (a / b) * b + b := by
  have h := Int.mul_ediv_add_emod a b
  have h1 := Int.emod_nonneg a (show b ≠ 0 by omega)
  have h2 := Int.emod_lt_of_pos a b0
  have := Int.mul_comm b (a / b)
  omega
/-- an integer lies in the stretch: the least one from the low end on -/
theorem Best.whole {a b c d : Int} (a0 : 0 ≤ a) (b0 : 0 < b) (d0 : 0 < d) (le : a * d ≤ c * b) (h : ¬ (a % b ≠ 0 ∧ a / b = c / d)) : Best a b c d (-(-a / b)) 1 := by
  obtain ⟨n1, n2⟩ := div_le (a := -a) b0
  have e : -(-a / b) * b = -((-a / b) * b) := Int.neg_mul ..
  have lo : a * 1 ≤ -(-a / b) * b := by rw [Int.mul_one, e]; omega
  refine ⟨by decide, lo, ?_, fun r s s0 h1 h2 => ⟨by omega, ?_⟩⟩
  · rw [Int.mul_one]
    by_cases z : a % b = 0
    · -- a / b is an integer
      have hd := Int.mul_ediv_add_emod a b
      rw [z, Int.add_zero] at hd
      have en : -(-a / b) = a / b := by
        have : -a = b * (-(a / b)) := by rw [Int.mul_neg, hd]
        rw [this, Int.mul_ediv_cancel_left _ (by omega)]; omega
      rw [en]
      have h3 : a / b * d * b ≤ c * b := by
        have : a / b * d * b = a * d := by rw [Int.mul_right_comm, Int.mul_comm (a / b) b, hd]
        omega
      exact cancel_le b0 h3
    · have ne : a / b ≠ c / d := fun y => h ⟨z, y⟩
      obtain ⟨m1, m2⟩ := div_le (a := a) b0
      obtain ⟨k1, k2⟩ := div_le (a := c) d0
      -- a / b ≤ c / d as whole parts
      have h4 : a / b ≤ c / d := by
        refine Int.le_ediv_of_mul_le d0 ?_
        refine cancel_le b0 ?_
        have h5 : a / b * b * d ≤ a * d := Int.mul_le_mul_of_nonneg_right m1 (by omega)
        have : a / b * d * b = a / b * b * d := Int.mul_right_comm ..
        omega
      have h6 : -(-a / b) ≤ a / b + 1 := by
        have h7 : -(-a / b) * b < (a / b + 2) * b := by rw [Int.add_mul, e]; omega
        have := cancel_lt b0 h7
        omega
      have h8 := Int.mul_le_mul_of_nonneg_right (show -(-a / b) ≤ c / d by omega) (show 0 ≤ d by omega)
      omega
  · -- least
    have h3 : a * 1 ≤ a * s := Int.mul_le_mul_of_nonneg_left (by omega) a0
    have h4 : -(-a / b) * b < (r + 1) * b := by rw [Int.add_mul, e]; omega
    have := cancel_lt b0 h4
    omega
/-- the numbers of a stretch, with bounds -/
structure Ok (a b c d : Int) : Prop where
  a0 : 0 ≤ a
  b0 : 0 < b
  c0 : 0 ≤ c
  d0 : 0 < d
  le : a * d ≤ c * b
  a1 : a < 2 ^ 100
  b1 : b < 2 ^ 100
  c1 : c < 2 ^ 100
  d1 : d < 2 ^ 100
/-- one turn: what is left, turned over -/
structure Turn (a b c d w : Int) : Prop where
  w0 : 0 ≤ w
  w1 : w < 2 ^ 100
  e0 : 0 < a - w * b
  e1 : a - w * b < b
  f0 : 0 < c - w * d
  f1 : c - w * d < d
theorem Ok.turn {a b c d : Int} (K : Ok a b c d) (h1 : a % b ≠ 0) (h2 : a / b = c / d) : Turn a b c d (a / b) ∧ Ok d (c - a / b * d) b (a - a / b * b) := by
  have b0 := K.b0
  have d0 := K.d0
  obtain ⟨m1, m2⟩ := div_le (a := a) b0
  obtain ⟨k1, k2⟩ := div_le (a := c) d0
  rw [← h2] at k1 k2
  have hd := Int.mul_ediv_add_emod a b
  have := Int.mul_comm b (a / b)
  have en := Int.emod_nonneg a (show b ≠ 0 by omega)
  have e0 : 0 < a - a / b * b := by omega
  have w0 : 0 ≤ a / b := Int.ediv_nonneg K.a0 (by omega)
  have w1 : a / b ≤ a := Int.ediv_le_self b K.a0
  have f0 : 0 < c - a / b * d := by
    have h3 : a / b * b * d < a * d := Int.mul_lt_mul_of_pos_right (by omega) d0
    have h4 : a / b * d * b = a / b * b * d := Int.mul_right_comm ..
    have h5 : a / b * d * b < c * b := by have := K.le; omega
    have := cancel_lt b0 h5
    omega
  have wd := Int.mul_nonneg w0 (show 0 ≤ d by omega)
  have a1 := K.a1
  have c1 := K.c1
  refine ⟨⟨w0, by omega, e0, by omega, f0, by omega⟩, ⟨by omega, f0, by omega, e0, ?_, K.d1, by omega, K.b1, by have := Int.mul_nonneg w0 (show 0 ≤ b by omega); omega⟩⟩
  have g1 : d * (a - a / b * b) = a * d - a / b * d * b := by rw [Int.mul_sub, Int.mul_comm d a, Int.mul_comm d, Int.mul_right_comm]
  have g2 : b * (c - a / b * d) = c * b - a / b * d * b := by rw [Int.mul_sub, Int.mul_comm b c, Int.mul_comm b]
  have := K.le
  omega
/-- the stretches gone through, the last whole part first -/
def Ch (a0 b0 c0 d0 : Int) : List Int → Int → Int → Int → Int → Prop
  | [], a, b, c, d => a = a0 ∧ b = b0 ∧ c = c0 ∧ d = d0 ∧ Ok a b c d
  | w :: rs, a', b', c', d' => ∃ a b c d, Ch a0 b0 c0 d0 rs a b c d ∧ Turn a b c d w ∧ a' = d ∧ b' = c - w * d ∧ c' = b ∧ d' = a - w * b ∧ Ok a' b' c' d'
theorem Ch.ok {a0 b0 c0 d0 : Int} : ∀ {rs : List Int} {a b c d : Int}, Ch a0 b0 c0 d0 rs a b c d → Ok a b c d
  | [], _, _, _, _, h => h.2.2.2.2
  | _ :: _, _, _, _, _, ⟨_, _, _, _, _, _, _, _, _, _, h⟩ => h
/-- the simplest one has a top and a bottom up to those of the low end -/
theorem Best.small {a b c d p q : Int} (K : Ok a b c d) (B : Best a b c d p q) : p ≤ a ∧ q ≤ b ∧ 0 ≤ p := by
  have z := B.mi a b K.b0 (Int.le_refl _) K.le
  refine ⟨z.2, z.1, ?_⟩
  have h := B.lo
  have h1 := Int.mul_nonneg K.a0 (Int.le_of_lt B.q0)
  have h2 : 0 * b ≤ p * b := by rw [Int.zero_mul]; omega
  exact cancel_le K.b0 h2
theorem Best.one {a b c d p q p' q' : Int} (B : Best a b c d p q) (B' : Best a b c d p' q') : p = p' ∧ q = q' := by
  have h1 := B.mi p' q' B'.q0 B'.lo B'.hi
  have h2 := B'.mi p q B.q0 B.lo B.hi
  omega
/-- it is in lowest terms -/
theorem Best.co {a b c d p q : Int} (K : Ok a b c d) (B : Best a b c d p q) : Nat.gcd p.natAbs q.natAbs = 1 := by
  have q0 := B.q0
  have p0 := (B.small K).2.2
  obtain ⟨m, rfl⟩ := Int.eq_ofNat_of_zero_le p0
  obtain ⟨n, rfl⟩ := Int.eq_ofNat_of_zero_le (show 0 ≤ q by omega)
  simp only [Int.natAbs_natCast]
  have n0 : 0 < n := by omega
  have g0 : 0 < Nat.gcd m n := Nat.gcd_pos_of_pos_right _ n0
  obtain ⟨u, hu⟩ := Nat.gcd_dvd_left m n
  obtain ⟨v, hv⟩ := Nat.gcd_dvd_right m n
  generalize Nat.gcd m n = g at g0 hu hv ⊢
  have v0 : 0 < v := by
    rcases Nat.eq_zero_or_pos v with z | z
    · rw [z, Nat.mul_zero] at hv; omega
    · exact z
  have g0' : (0 : Int) < (g : Int) := by omega
  have eu : ((m : Nat) : Int) = (g : Int) * (u : Int) := by rw [hu]; exact Int.natCast_mul ..
  have ev : ((n : Nat) : Int) = (g : Int) * (v : Int) := by rw [hv]; exact Int.natCast_mul ..
  have h1 : a * (v : Int) ≤ (u : Int) * b := by
    refine cancel_le g0' ?_
    have := B.lo
    rw [eu, ev] at this
    have e1 : a * (v : Int) * (g : Int) = a * ((g : Int) * (v : Int)) := by rw [Int.mul_assoc, Int.mul_comm (v : Int)]
    have e2 : (u : Int) * b * (g : Int) = (g : Int) * (u : Int) * b := by rw [Int.mul_right_comm, Int.mul_comm (u : Int)]
    omega
  have h2 : (u : Int) * d ≤ c * (v : Int) := by
    refine cancel_le g0' ?_
    have := B.hi
    rw [eu, ev] at this
    have e1 : c * (v : Int) * (g : Int) = c * ((g : Int) * (v : Int)) := by rw [Int.mul_assoc, Int.mul_comm (v : Int)]
    have e2 : (u : Int) * d * (g : Int) = (g : Int) * (u : Int) * d := by rw [Int.mul_right_comm, Int.mul_comm (u : Int)]
    omega
  have h3 := (B.mi u v (by omega) h1 h2).1
  rw [hv] at h3
  have h4 : g * v ≤ v := by omega
  rcases Nat.lt_or_ge g 2 with z | z
  · omega
  · have := Nat.mul_le_mul_right v z
    omega
/-- what the search over bottoms finds -/
theorem Best.least {a b c d p q : Int} (B : Best a b c d p q) (b0 : 0 < b) {s : Int} (s0 : 0 < s) (h : (a * s + b - 1) / b * d ≤ c * s) : q ≤ s ∧ p ≤ (a * s + b - 1) / b := by
  obtain ⟨m1, m2⟩ := div_le (a := a * s + b - 1) b0
  exact B.mi _ _ s0 (by omega) h
theorem Best.found {a b c d p q : Int} (B : Best a b c d p q) (b0 : 0 < b) (d0 : 0 < d) : (a * q + b - 1) / b = p := by
  obtain ⟨m1, m2⟩ := div_le (a := a * q + b - 1) b0
  have lo := B.lo
  have hi := B.hi
  have h1 : (a * q + b - 1) / b < p + 1 := cancel_lt b0 (by rw [Int.add_mul]; omega)
  have h2 : p * d ≤ c * q := hi
  have h3 := Int.mul_le_mul_of_nonneg_right (show (a * q + b - 1) / b ≤ p by omega) (show 0 ≤ d by omega)
  have := (B.least b0 B.q0 (by omega)).2
  omega
theorem Best.Least {x1 x2 y1 y2 p q : Int} (B : Best x1 x2 y1 y2 p q) : Least x1 x2 y1 y2 p q := ⟨B.q0, B.lo, B.hi, fun r s s0 sq h1 h2 => by have := (B.mi r s s0 h1 h2).1; omega⟩
end Mt
namespace Mt
theorem Turn.half {a b c d w w2 : Int} (T : Turn a b c d w) (T2 : Turn d (c - w * d) b (a - w * b) w2) : 2 * (b - w2 * (a - w * b)) < b := by
  have e0 := T.e0
  have e1 := T.e1
  have f1 := T2.f1
  have w0 := T2.w0
  have : 1 ≤ w2 := by
    rcases Int.lt_or_le w2 1 with z | z
    · have e : w2 = 0 := by omega
      rw [e, Int.zero_mul] at f1
      omega
    · exact z
  have := Int.mul_le_mul_of_nonneg_right this (show 0 ≤ a - w * b by omega)
  omega
theorem Ch.len {a0 b0 c0 d0 : Int} : ∀ {rs : List Int} {a b c d : Int}, Ch a0 b0 c0 d0 rs a b c d → b.toNat * 2 ^ (rs.length / 2) ≤ 2 ^ 100
  | [], _, b, _, _, h => by
    have := h.2.2.2.2.b1
    show b.toNat * 2 ^ 0 ≤ _
    rw [Nat.pow_zero, Nat.mul_one]
    omega
  | [w], _, b, _, _, h => by
    have := h.ok.b1
    rw [show ([w] : List Int).length / 2 = 0 by simp]
    rw [Nat.pow_zero, Nat.mul_one]
    omega
  | w2 :: w :: rs, a2, b2, c2, d2, ⟨a1, b1, c1, d1, ⟨a, b, c, d, h, T, ea, eb, ec, ed, k1⟩, T2, ea2, eb2, ec2, ed2, k2⟩ => by
    have ih := Ch.len h
    rw [ea, eb, ec, ed] at T2
    have hf := T.half T2
    have e2 : b2 = b - w2 * (a - w * b) := by rw [eb2, ec, ed]
    have h2 : 2 * b2.toNat ≤ b.toNat := by rw [← e2] at hf; omega
    have e : (w2 :: w :: rs).length / 2 = rs.length / 2 + 1 := by
      rw [List.length_cons, List.length_cons]; omega
    rw [e, Nat.pow_succ, Nat.mul_comm (2 ^ (rs.length / 2)) 2, ← Nat.mul_assoc, Nat.mul_comm _ 2]
    exact Nat.le_trans (Nat.mul_le_mul_right _ h2) ih
theorem Ch.few {a0 b0 c0 d0 : Int} {rs : List Int} {a b c d : Int} (h : Ch a0 b0 c0 d0 rs a b c d) : rs.length ≤ 201 := by
  have z := h.len
  have b0 := h.ok.b0
  have h1 : 1 * 2 ^ (rs.length / 2) ≤ 2 ^ 100 := Nat.le_trans (Nat.mul_le_mul_right _ (by omega)) z
  rw [Nat.one_mul] at h1
  have := (Nat.pow_le_pow_iff_right (by decide : 1 < 2)).mp h1
  omega
end Mt
set_option Elab.async false
set_option maxRecDepth 100000
set_option maxHeartbeats 1000000
set_option linter.all false
/-! sums of whole parts; how many places lie below; the first mark between two tops -/
namespace Mt
/-- the sum of (a * k + b) / m for k below n -/
def fsum (m a b : Int) : Nat → Int
  | 0 => 0
  | n + 1 => fsum m a b n + (a * (n : Int) + b) / m
theorem div_at {a m q r : Int} (e : a = m * q + r) (h0 : 0 ≤ r) (h1 : r < m) : a / m = q := by
  rw [e, Int.add_comm, Int.add_mul_ediv_left _ _ (by omega), Int.ediv_eq_zero_of_lt h0 h1, Int.zero_add]
theorem fsum_congr {m a b a' b' : Int} {n : Nat} (h : ∀ k : Int, 0 ≤ k → k < n → (a * k + b) / m = (a' * k + b') / m) : fsum m a b n = fsum m a' b' n := by
  induction n with
  | zero => rfl
  | succ n ih =>
    show fsum m a b n + _ = fsum m a' b' n + _
    rw [ih fun k h0 h1 => h k h0 (by omega), h n (by omega) (by omega)]
/-- whole slopes and shifts come out -/
theorem tri (n : Nat) : ((n : Int) + 1) * n / 2 = (n : Int) * (n - 1) / 2 + n := by
  have h : ((n : Int) + 1) * n = n * (n - 1) + n * 2 := by grind
  rw [h, Int.add_mul_ediv_right _ _ (by decide)]
theorem fsum_whole {m a b : Int} (m0 : 0 < m) (n : Nat) : fsum m a b n = (n : Int) * (n - 1) / 2 * (a / m) + n * (b / m) + fsum m (a % m) (b % m) n := by
  induction n with
  | zero => simp [fsum]
  | succ n ih =>
    show fsum m a b n + (a * (n : Int) + b) / m = _ + (fsum m (a % m) (b % m) n + (a % m * (n : Int) + b % m) / m)
    rw [ih]
    have h : (a * (n : Int) + b) / m = (a % m * (n : Int) + b % m) / m + (a / m * n + b / m) := by
      have e1 := Int.emod_add_mul_ediv a m
      have e2 := Int.emod_add_mul_ediv b m
      rw [← Int.add_mul_ediv_right _ _ (show m ≠ 0 by omega)]
      congr 1
      grind
    rw [h]
    have t := tri n
    rw [show (((n + 1 : Nat) : Int)) * (((n + 1 : Nat) : Int) - 1) / 2 = ((n : Int) + 1) * n / 2 by congr 1; push_cast; grind, t]
    push_cast
    grind
theorem fsum_up {a m b : Int} (a0 : 0 < a) (n : Nat) : fsum a m (b + a) n = fsum a m b n + n := by
  induction n with
  | zero => rfl
  | succ n ih =>
    show fsum a m (b + a) n + (m * (n : Int) + (b + a)) / a = fsum a m b n + (m * (n : Int) + b) / a + ((n + 1 : Nat) : Int)
    rw [ih, show m * (n : Int) + (b + a) = m * (n : Int) + b + 1 * a by omega, Int.add_mul_ediv_right _ _ (by omega)]
    push_cast
    omega
theorem fsum_head {a m b : Int} (n : Nat) : fsum a m b (n + 1) = b / a + fsum a m (b + m) n := by
  induction n with
  | zero => show 0 + (m * ((0 : Nat) : Int) + b) / a = b / a + 0; simp
  | succ n ih =>
    show fsum a m b (n + 1) + (m * ((n + 1 : Nat) : Int) + b) / a = b / a + (fsum a m (b + m) n + (m * (n : Int) + (b + m)) / a)
    rw [ih, show m * ((n + 1 : Nat) : Int) + b = m * (n : Int) + (b + m) by push_cast; grind]
    omega
/-- counted by rows in the place of columns -/
theorem fsum_turn {m a b : Int} (a0 : 0 < a) (am : a < m) (b0 : 0 ≤ b) (bm : b < m) (n : Nat) : fsum m a b n = fsum a m ((a * n + b) % m) ((a * n + b) / m).toNat := by
  have m0 : 0 < m := by omega
  induction n with
  | zero =>
    have e : a * ((0 : Nat) : Int) + b = b := by simp
    rw [e, Int.ediv_eq_zero_of_lt b0 bm]
    rfl
  | succ n ih =>
    show fsum m a b n + (a * (n : Int) + b) / m = _
    rw [ih]
    have y0 : 0 ≤ a * (n : Int) + b := by
      have := Int.mul_nonneg (show 0 ≤ a by omega) (show (0 : Int) ≤ n by omega); omega
    have e := Int.emod_add_mul_ediv (a * (n : Int) + b) m
    have r0 := Int.emod_nonneg (a * (n : Int) + b) (show m ≠ 0 by omega)
    have r1 := Int.emod_lt_of_pos (a * (n : Int) + b) m0
    have q0 : 0 ≤ (a * (n : Int) + b) / m := Int.ediv_nonneg y0 (by omega)
    have e3 : a * ((n + 1 : Nat) : Int) + b = a * (n : Int) + b + a := by push_cast; grind
    rw [e3]
    generalize a * (n : Int) + b = y at *
    generalize hq : y / m = q at *
    generalize hr : y % m = r at *
    obtain ⟨k, rfl⟩ := Int.eq_ofNat_of_zero_le q0
    rcases Int.lt_or_le (r + a) m with c | c
    · have d1 : (y + a) / m = (k : Int) := div_at (r := r + a) (by omega) (by omega) c
      have d2 : (y + a) % m = r + a := by
        have := Int.emod_add_mul_ediv (y + a) m
        rw [d1] at this; omega
      rw [d1, d2, Int.toNat_natCast, fsum_up a0]
    · have d1 : (y + a) / m = (k : Int) + 1 := div_at (r := r + a - m) (by rw [Int.mul_add]; omega) (by omega) (by omega)
      have d2 : (y + a) % m = r + a - m := by
        have := Int.emod_add_mul_ediv (y + a) m
        rw [d1, Int.mul_add] at this; omega
      rw [d1, d2, Int.toNat_natCast, show ((k : Int) + 1).toNat = k + 1 by omega, fsum_head, Int.ediv_eq_zero_of_lt (by omega) (by omega), show r + a - m + m = r + a by omega, fsum_up a0]
      omega
theorem fsum_zero {m b : Int} (b0 : 0 ≤ b) (bm : b < m) (n : Nat) : fsum m 0 b n = 0 := by
  induction n with
  | zero => rfl
  | succ n ih =>
    show fsum m 0 b n + (0 * (n : Int) + b) / m = 0
    rw [ih, Int.zero_mul, Int.zero_add, Int.zero_add, Int.ediv_eq_zero_of_lt b0 bm]
/-- one turn of the program's loop -/
theorem fsum_step {m a b : Int} (m0 : 0 < m) (a0 : 0 ≤ a) (b0 : 0 ≤ b) (n : Nat) : fsum m a b n = (n : Int) * (n - 1) / 2 * (a / m) + n * (b / m) + (if a % m = 0 then 0 else fsum (a % m) m ((a % m * n + b % m) % m) ((a % m * n + b % m) / m).toNat) := by
  rw [fsum_whole m0 n]
  have r0 := Int.emod_nonneg a (show m ≠ 0 by omega)
  have r1 := Int.emod_lt_of_pos a m0
  have s0 := Int.emod_nonneg b (show m ≠ 0 by omega)
  have s1 := Int.emod_lt_of_pos b m0
  split
  · rename_i c
    rw [c, fsum_zero s0 s1]
  · rename_i c
    rw [fsum_turn (by omega) r1 s0 s1]
/-- how many of the first n marks have a top below t -/
def below (x y t : Int) : Nat → Int
  | 0 => 0
  | n + 1 => below x y t n + if x * (n : Int) % y < t then 1 else 0
theorem below_fsum {x y t : Int} (y0 : 0 < y) (t0 : 0 ≤ t) (t1 : t ≤ y) (n : Nat) : below x y t n = n + fsum y x 0 n - fsum y x (y - t) n := by
  induction n with
  | zero => rfl
  | succ n ih =>
    show below x y t n + _ = ((n + 1 : Nat) : Int) + (fsum y x 0 n + (x * (n : Int) + 0) / y) - (fsum y x (y - t) n + (x * (n : Int) + (y - t)) / y)
    rw [ih]
    have e := Int.emod_add_mul_ediv (x * (n : Int)) y
    have r0 := Int.emod_nonneg (x * (n : Int)) (show y ≠ 0 by omega)
    have r1 := Int.emod_lt_of_pos (x * (n : Int)) y0
    rw [Int.add_zero]
    generalize x * (n : Int) = z at *
    generalize hq : z / y = q at *
    generalize z % y = r at *
    split
    · rename_i c
      rw [div_at (a := z + (y - t)) (q := q) (r := r + (y - t)) (by omega) (by omega) (by omega)]
      push_cast; omega
    · rename_i c
      rw [div_at (a := z + (y - t)) (q := q + 1) (r := r - t) (by rw [Int.mul_add]; omega) (by omega) (by omega)]
      push_cast; omega
/-! the first mark whose top lies from a to b -/
def Hit (s w a b m : Int) : Prop := 0 ≤ m ∧ a ≤ s * m % w ∧ s * m % w ≤ b
def Fst (s w a b m : Int) : Prop := Hit s w a b m ∧ ∀ m', Hit s w a b m' → m ≤ m'
/-- no less than so many slopes -/
theorem ceil_le {a s k : Int} (s0 : 0 < s) : -(-a / s) ≤ k ↔ a ≤ s * k := by
  have h := Int.le_ediv_iff_mul_le (a := -k) (b := -a) s0
  rw [Int.neg_mul, Int.mul_comm k s] at h
  constructor
  · intro z
    have := h.mp (by omega)
    omega
  · intro z
    have := h.mpr (by omega)
    omega
theorem ceil_at {a s : Int} (s0 : 0 < s) : a ≤ s * -(-a / s) ∧ s * (-(-a / s) - 1) < a := by
  refine ⟨(ceil_le s0).mp (Int.le_refl _), ?_⟩
  rcases Int.lt_or_le (s * (-(-a / s) - 1)) a with c | c
  · exact c
  · have := (ceil_le s0).mpr c
    omega
theorem ceil_is {a s c : Int} (s0 : 0 < s) (h1 : a ≤ s * c) (h2 : s * (c - 1) < a) : -(-a / s) = c := by
  have k1 := (ceil_le s0).mpr h1
  rcases Int.lt_or_le (-(-a / s)) c with d | d
  · have := (ceil_le (a := a) (k := c - 1) s0).mp (by omega)
    omega
  · omega
theorem neg_mod {a s c d : Int} (e : a = s * c - d) (d0 : 0 ≤ d) (ds : d < s) : -a % s = d := by
  have h : -a = d + s * (-c) := by rw [e]; grind
  rw [h, Int.add_mul_emod_self_left]
  exact Int.emod_eq_of_lt d0 ds
theorem fst_zero {s w a b : Int} (w0 : 0 < w) (ha : a ≤ 0) (hb : 0 ≤ b) : Fst s w a b 0 := by
  refine ⟨⟨Int.le_refl 0, ?_, ?_⟩, fun m' h => h.1⟩
  · rw [Int.mul_zero, Int.zero_emod]; exact ha
  · rw [Int.mul_zero, Int.zero_emod]; exact hb
theorem fst_turn {s w a b : Int} (s0 : 0 < s) (sw : s < w) (a0 : 0 < a) (bw : b < w) (h : -(-a / s) * s ≤ b) : Fst s w a b (-(-a / s)) := by
  obtain ⟨h1, h2⟩ := ceil_at (a := a) s0
  have c0 : 0 < -(-a / s) := by
    rcases Int.lt_or_le 0 (-(-a / s)) with c | c
    · exact c
    · have := Int.mul_nonpos_of_nonneg_of_nonpos (show 0 ≤ s by omega) c
      omega
  generalize -(-a / s) = c at *
  have hc : s * c ≤ b := by rw [Int.mul_comm]; exact h
  refine ⟨⟨by omega, ?_, ?_⟩, fun m' ⟨m0, k1, k2⟩ => ?_⟩
  · rw [Int.emod_eq_of_lt (by omega) (by omega)]; exact h1
  · rw [Int.emod_eq_of_lt (by omega) (by omega)]; exact hc
  · rcases Int.lt_or_le m' c with d | d
    · have e1 : s * m' ≤ s * (c - 1) := Int.mul_le_mul_of_nonneg_left (by omega) (by omega)
      have e2 : 0 ≤ s * m' := Int.mul_nonneg (by omega) m0
      rw [Int.emod_eq_of_lt e2 (by omega)] at k1
      omega
    · exact d
/-- turned: the turn is looked for as a mark is -/
theorem fst_back {s w a b t : Int} (s0 : 0 < s) (sw : s < w) (a0 : 0 < a) (ab : a ≤ b) (bw : b < w) (h : b < -(-a / s) * s) (T : Fst (w % s) s (-b % s) (-a % s) t) : Fst s w a b (-(-(a + w * t) / s)) := by
  obtain ⟨h1, h2⟩ := ceil_at (a := a) s0
  generalize -(-a / s) = c at *
  have w0 : 0 < w := by omega
  have hc : b < s * c := by rw [Int.mul_comm]; exact h
  have ec : s * (c - 1) = s * c - s := by rw [Int.mul_sub, Int.mul_one]
  rw [neg_mod (a := a) (c := c) (d := s * c - a) (by omega) (by omega) (by omega), neg_mod (a := b) (c := c) (d := s * c - b) (by omega) (by omega) (by omega)] at T
  obtain ⟨⟨t0, k1, k2⟩, least⟩ := T
  have red : ∀ t, w % s * t % s = w * t % s := fun t => by rw [Int.mul_emod, Int.emod_emod, ← Int.mul_emod]
  rw [red] at k1 k2
  have e := Int.emod_add_mul_ediv (w * t) s
  generalize hv : w * t % s = v at *
  generalize w * t / s = q at *
  have em : -(-(a + w * t) / s) = c + q := ceil_is s0 (by rw [Int.mul_add]; omega) (by rw [Int.mul_sub, Int.mul_add, Int.mul_one]; omega)
  have wt0 : 0 ≤ w * t := Int.mul_nonneg (by omega) t0
  rw [em]
  have es : s * (c + q) % w = s * (c + q) - w * t := by
    have z : s * (c + q) = (s * (c + q) - w * t) + w * t := by omega
    rw [z, Int.add_mul_emod_self_left]
    rw [show s * (c + q) - w * t + w * t - w * t = s * (c + q) - w * t by omega]
    exact Int.emod_eq_of_lt (by rw [Int.mul_add]; omega) (by rw [Int.mul_add]; omega)
  refine ⟨⟨?_, ?_, ?_⟩, fun m' ⟨m0, g1, g2⟩ => ?_⟩
  · rcases Int.lt_or_le (c + q) 0 with d | d
    · have := Int.mul_nonpos_of_nonneg_of_nonpos (show 0 ≤ s by omega) (show c + q ≤ 0 by omega)
      rw [Int.mul_add] at this
      omega
    · exact d
  · rw [es, Int.mul_add]; omega
  · rw [es, Int.mul_add]; omega
  · have f := Int.emod_add_mul_ediv (s * m') w
    have sm0 : 0 ≤ s * m' := Int.mul_nonneg (by omega) m0
    have t'0 : 0 ≤ s * m' / w := Int.ediv_nonneg sm0 (by omega)
    generalize s * m' % w = r at *
    generalize s * m' / w = t' at *
    have er : w * t' % s = s * c - r := by
      have z : w * t' = (s * c - r) + s * (m' - c) := by rw [Int.mul_sub]; omega
      rw [z, Int.add_mul_emod_self_left]
      exact Int.emod_eq_of_lt (by omega) (by omega)
    have lt := least t' ⟨t'0, by rw [red, er]; omega, by rw [red, er]; omega⟩
    have wtt : w * t ≤ w * t' := Int.mul_le_mul_of_nonneg_left lt (by omega)
    rw [← em]
    refine (ceil_le s0).mpr ?_
    omega
end Mt
set_option Elab.async false
set_option linter.all false
set_option maxRecDepth 100000
set_option maxHeartbeats 4000000
namespace My.B
open My.O PySem PySem.Spec PyProof.Rows L2 Gn Mt
abbrev sIsLess : Stmt := top 23
abbrev sParting : Stmt := top 51
abbrev sBetween : Stmt := top 52
abbrev sSimplest : Stmt := top 54
abbrev sSb : Stmt := top 55
abbrev sLW : Stmt := top 56
abbrev sIW : Stmt := top 57
abbrev sTurned : Stmt := top 58
theorem scIsLess : FnScope ["one", "other"] ["one", "other"] (defScope sIsLess) := ⟨rfl, rfl, rfl, by decide +kernel, rfl, by decide +kernel, by decide +kernel⟩
theorem scParting : FnScope ["one", "other"] ["one", "other"] (defScope sParting) := ⟨rfl, rfl, rfl, by decide +kernel, rfl, by decide +kernel, by decide +kernel⟩
theorem scBetween : FnScope ["one", "other"] ["one", "other"] (defScope sBetween) := ⟨rfl, rfl, rfl, by decide +kernel, rfl, by decide +kernel, by decide +kernel⟩
theorem scSb : FnScope ["one", "other"] ["one", "other"] (defScope sSb) := ⟨rfl, rfl, rfl, by decide +kernel, rfl, by decide +kernel, by decide +kernel⟩
theorem scSimplest : FnScope ["low", "high", "first", "last", "wholes", "top", "whole", "bottom"] ["low", "high", "first", "last"] (defScope sSimplest) := ⟨rfl, rfl, rfl, by decide +kernel, rfl, by decide +kernel, by decide +kernel⟩
theorem scLW : FnScope ["low", "first", "top", "bottom"] ["low", "first"] (defScope sLW) := ⟨rfl, rfl, rfl, by decide +kernel, rfl, by decide +kernel, by decide +kernel⟩
theorem scIW : FnScope ["whole", "high", "last", "top", "bottom"] ["whole", "high", "last"] (defScope sIW) := ⟨rfl, rfl, rfl, by decide +kernel, rfl, by decide +kernel, by decide +kernel⟩
theorem scTurned : FnScope ["fraction", "whole", "top", "bottom"] ["fraction", "whole"] (defScope sTurned) := ⟨rfl, rfl, rfl, by decide +kernel, rfl, by decide +kernel, by decide +kernel⟩
/-- both ends belong -/
def spSimplest : Sp := fun vs H Q _ => ∃ (t u : Addr) (a b c d : Int), vs = [.ref t, .ref u, .bl true, .bl true] ∧ H t = some (.tup [.int a, .int b]) ∧ H u = some (.tup [.int c, .int d]) ∧ Ok a b c d ∧
  ∀ p q r H', Best a b c d p q → Same H H' → H r = none → H' r = some (.tup [.int p, .int q]) → Q (.ref r) H'
def spLW : Sp := fun vs H Q _ => ∃ (t : Addr) (a b : Int), vs = [.ref t, .bl true] ∧ H t = some (.tup [.int a, .int b]) ∧ 0 < b ∧ b.natAbs < 2 ^ 100 ∧ Q (.int (-(-a / b))) H
def spIW : Sp := fun vs H Q _ => ∃ (u : Addr) (n c d : Int), vs = [.int n, .ref u, .bl true] ∧ H u = some (.tup [.int c, .int d]) ∧ n.natAbs < 2 ^ 200 ∧ d.natAbs < 2 ^ 200 ∧ Q (.bl (decide (n * d ≤ c))) H
def spTurned : Sp := fun vs H Q _ => ∃ (t : Addr) (a b w : Int), vs = [.ref t, .int w] ∧ H t = some (.tup [.int a, .int b]) ∧ w.natAbs < 2 ^ 200 ∧ b.natAbs < 2 ^ 200 ∧ ∀ r, H r = none → Q (.ref r) (upd H r (.tup [.int b, .int (a - w * b)]))
def spLess : Sp := fun vs H Q _ => ∃ (s t : Addr) (a b c d : Int), vs = [.ref s, .ref t] ∧ H s = some (.tup [.int a, .int b]) ∧ H t = some (.tup [.int c, .int d]) ∧ a.natAbs < 2 ^ 200 ∧ b.natAbs < 2 ^ 200 ∧ c.natAbs < 2 ^ 200 ∧ d.natAbs < 2 ^ 200 ∧ Q (.bl (decide (a * d < c * b))) H
theorem lt100 {z : Int} (h0 : 0 ≤ z) (h : z < 2 ^ 100) : z.natAbs < 2 ^ 100 := by omega
theorem lt200 {z : Int} (h0 : 0 ≤ z) (h : z < 2 ^ 100) : z.natAbs < 2 ^ 200 := by omega
theorem neg_div {a b : Int} (n : Nat) (h : b.natAbs < 2 ^ n) (h0 : 0 < b) (hn : 0 < n) (h9 : n ≤ 9000) : CDivW (-a) b := wide_div h0 h hn h9
/-- where an integer lies within -/
theorem within_iff {a b c d : Int} (k : Ok a b c d) : -(-a / b) * d ≤ c ↔ ¬ (a % b ≠ 0 ∧ a / b = c / d) := by
  constructor
  · rintro h ⟨z, e⟩
    have b0 := k.b0
    have d0 := k.d0
    have e1 := Int.emod_add_mul_ediv a b
    have m0 := Int.emod_nonneg a (show b ≠ 0 by omega)
    have m1 := Int.emod_lt_of_pos a b0
    have ce : -(-a / b) = a / b + 1 := ceil_is b0 (by rw [Int.mul_add]; omega) (by rw [show a / b + 1 - 1 = a / b by omega]; omega)
    rw [ce, e] at h
    have e2 := Int.emod_add_mul_ediv c d
    have n1 := Int.emod_lt_of_pos c d0
    rw [Int.add_mul, Int.mul_comm] at h
    omega
  · intro h
    have := (Best.whole k.a0 k.b0 k.d0 k.le h).hi
    omega
section
variable {P : Program} {w : World} {K : PySem.W.Frag} {mg : Str → Option Value} {base : Heap}
theorem ok_less {f : Addr} {fd : FuncData} (F : Fun K "is_less" "is_less" sIsLess f fd) : FnOk P w K mg base CX0 1 f fd ["one", "other"] spLess := by
  refine F.ok scIsLess (fun vs H Q E h => ?_) (fun cdv A outer s H vs Q E hr h => ?_)
  · obtain ⟨s, t, a, b, c, d, rfl, _⟩ := h
    rfl
  · obtain ⟨s, t, a, b, c, d, rfl, hS, hT, ba, bb, bc, bd, q⟩ := h
    refine ⟨_, pss_one (ps_ret (pe_cmpR op_lt (pe_op op_mulW (pe_ix ix_tup (pv 0) pe_int (fun _ _ => rfl)) (pe_ix ix_tup (pv 1) pe_int (fun _ _ => rfl))) (pe_op op_mulW (pe_ix ix_tup (pv 1) pe_int (fun _ _ => rfl)) (pe_ix ix_tup (pv 0) pe_int (fun _ _ => rfl))) (nomark _))), ?_⟩
    exact ⟨_, rfl, s, _, 0, .int a, rfl, rfl, SqT.of hS, at_of (j := 0) rfl rfl, _, rfl, t, _, 1, .int d, rfl, rfl, SqT.of hT, at_of (j := 1) rfl rfl, _, _, rfl, rfl, wide_mul ba bd (by decide) (by decide) (by decide),
      _, rfl, t, _, 0, .int c, rfl, rfl, SqT.of hT, at_of (j := 0) rfl rfl, _, rfl, s, _, 1, .int b, rfl, rfl, SqT.of hS, at_of (j := 1) rfl rfl, _, _, rfl, rfl, wide_mul bc bb (by decide) (by decide) (by decide), _, _, rfl, rfl, q⟩
theorem ok_lw {f : Addr} {fd : FuncData} (F : Fun K "_least_whole" "_least_whole" sLW f fd) : FnOk P w K mg base CX0 1 f fd ["low", "first"] spLW := by
  refine F.ok scLW (fun vs H Q E h => ?_) (fun cdv A outer s H vs Q E hr h => ?_)
  · obtain ⟨t, a, b, rfl, _⟩ := h
    rfl
  · obtain ⟨t, a, b, rfl, hT, b0, bb, q⟩ := h
    refine ⟨_, pss_cons (ps_asg (pv 0) (pg_tup (by rfl) (pgs_cons (pg_name (i := 2) scLW.nd rfl (.inl rfl)) (pgs_cons (pg_name (i := 3) scLW.nd rfl (.inl rfl)) pgs_nil))))
      (pss_cons (ps_if (pt_val (pv 1)) (pss_one (ps_ret (pe_un un_neg (pe_op op_fdivW (pe_un un_neg (pv 2)) (pv 3))))) pss_nil)
      (pss_one ps_never)), ?_⟩
    refine ⟨_, rfl, t, _, rfl, SqT.of hT, rfl, _, _, rfl, _, _, rfl, rfl, ?_⟩
    refine ⟨_, rfl, true, rfl, iteT ?_⟩
    exact ⟨_, rfl, _, rfl, _, rfl, _, _, rfl, rfl, neg_div 100 bb b0 (by decide) (by decide), _, rfl, q⟩
theorem ok_iw {f : Addr} {fd : FuncData} (F : Fun K "_is_within" "_is_within" sIW f fd) : FnOk P w K mg base CX0 1 f fd ["whole", "high", "last"] spIW := by
  refine F.ok scIW (fun vs H Q E h => ?_) (fun cdv A outer s H vs Q E hr h => ?_)
  · obtain ⟨u, n, c, d, rfl, _⟩ := h
    rfl
  · obtain ⟨u, n, c, d, rfl, hU, bn, bd, q⟩ := h
    refine ⟨_, pss_cons (ps_asg (pv 1) (pg_tup (by rfl) (pgs_cons (pg_name (i := 3) scIW.nd rfl (.inl rfl)) (pgs_cons (pg_name (i := 4) scIW.nd rfl (.inl rfl)) pgs_nil))))
      (pss_one (ps_ret (pe_or (pe_cmpR op_lt (pe_op op_mulW (pv 0) (pv 4)) (pv 3) (nomark _)) (pe_one (pe_and (pv 2) (pe_one (pe_cmpR op_eq (pe_op op_mulW (pv 0) (pv 4)) (pv 3) (nomark _)))))))), ?_⟩
    have cm := wide_mul bn bd (by decide) (by decide) (by decide)
    refine ⟨_, rfl, u, _, rfl, SqT.of hU, rfl, _, _, rfl, _, _, rfl, rfl, ?_⟩
    refine ⟨_, rfl, _, rfl, _, _, rfl, rfl, cm, _, rfl, _, _, rfl, rfl, _, rfl, ?_⟩
    refine ite2 (fun hc => ?_) (fun hc => ?_)
    · have h1 : n * d < c := of_decide_eq_true hc
      rw [decide_eq_true (show n * d ≤ c by omega)] at q
      exact q
    · have h1 : ¬ n * d < c := fun z => hc (decide_eq_true z)
      refine ⟨_, rfl, true, rfl, iteT ⟨_, rfl, _, rfl, _, _, rfl, rfl, cm, _, rfl, rfl, ?_⟩⟩
      have e : decide (V.int (n * d) = V.int c) = decide (n * d ≤ c) := by
        rw [decide_eq_decide]
        exact ⟨fun y => by have := V.int.inj y; omega, fun y => congrArg V.int (by omega)⟩
      rw [← e] at q
      exact q
theorem ok_turned {f : Addr} {fd : FuncData} (F : Fun K "_turned" "_turned" sTurned f fd) : FnOk P w K mg base CX0 1 f fd ["fraction", "whole"] spTurned := by
  refine F.ok scTurned (fun vs H Q E h => ?_) (fun cdv A outer s H vs Q E hr h => ?_)
  · obtain ⟨t, a, b, n, rfl, _⟩ := h
    rfl
  · obtain ⟨t, a, b, n, rfl, hT, bn, bb, q⟩ := h
    refine ⟨_, pss_cons (ps_asg (pv 0) (pg_tup (by rfl) (pgs_cons (pg_name (i := 2) scTurned.nd rfl (.inl rfl)) (pgs_cons (pg_name (i := 3) scTurned.nd rfl (.inl rfl)) pgs_nil))))
      (pss_one (ps_ret (pe_tup (pa_cons (pv 3) (pa_cons (pe_op op_sub (pv 2) (pe_op op_mulW (pv 1) (pv 3))) pa_nil))))), ?_⟩
    refine ⟨_, rfl, t, _, rfl, SqT.of hT, rfl, _, _, rfl, _, _, rfl, rfl, ?_⟩
    exact ⟨_, rfl, _, rfl, _, rfl, _, rfl, _, _, rfl, rfl, wide_mul bn bb (by decide) (by decide) (by decide), _, _, rfl, rfl, (by show 2 ≤ sizeLine; decide), fun r hr => q r hr⟩
/-- what the simplest one asks of the module -/
structure Si (K : PySem.W.Frag) (mg : Str → Option Value) where
  rv : mg "reversed" = none
  fm : Addr × FuncData
  fa : Addr × FuncData
  fb : Addr × FuncData
  ft : Addr × FuncData
  fl : Addr × FuncData
  m : Df K mg "simplest_in" sSimplest ["low", "high", "first", "last"] fm.1 fm.2
  lw : Df K mg "_least_whole" sLW ["low", "first"] fa.1 fa.2
  iw : Df K mg "_is_within" sIW ["whole", "high", "last"] fb.1 fb.2
  tu : Df K mg "_turned" sTurned ["fraction", "whole"] ft.1 ft.2
  il : Df K mg "is_less" sIsLess ["one", "other"] fl.1 fl.2
theorem ok_simplest {f fA fB fC : Addr} {fd fdA fdB fdC : FuncData} (F : Fun K "simplest_in" "simplest_in" sSimplest f fd) (mr : mg "reversed" = none) (LW : Df K mg "_least_whole" sLW ["low", "first"] fA fdA) (IW : Df K mg "_is_within" sIW ["whole", "high", "last"] fB fdB)
    (TU : Df K mg "_turned" sTurned ["fraction", "whole"] fC fdC) : FnOk P w K mg base CX0 2 f fd ["low", "high", "first", "last"] spSimplest := by
  have GL : FnOk P w K mg base CX0 1 fA fdA ["low", "first"] spLW := ok_lw LW.F
  have GW : FnOk P w K mg base CX0 1 fB fdB ["whole", "high", "last"] spIW := ok_iw IW.F
  have GT : FnOk P w K mg base CX0 1 fC fdC ["fraction", "whole"] spTurned := ok_turned TU.F
  refine F.ok scSimplest (fun vs H Q E h => ?_) (fun cdv A outer s H vs Q E hr h => ?_)
  · obtain ⟨t, u, a, b, c, d, rfl, _⟩ := h
    rfl
  · obtain ⟨t, u, a, b, c, d, rfl, hT, hU, ok, q⟩ := h
    refine ⟨_, pss_cons (ps_set (i := 4) scSimplest.nd rfl (.inl rfl) (pe_lst pa_nil))
      (pss_cons (ps_set (i := 5) scSimplest.nd rfl (.inl rfl) (pe_call GL hr (by rfl) LW.g LW.F.kp LW.b .nil pass0 (pa_cons (pv 0) (pa_cons (pv 2) pa_nil))))
      (pss_cons (ps_while PassesOwn.never (pt_not (pt_val (pe_call GW hr (by rfl) IW.g IW.F.kp IW.b .nil pass0 (pa_cons (pv 5) (pa_cons (pv 1) (pa_cons (pv 3) pa_nil))))))
        (pss_cons (ps_set (i := 6) scSimplest.nd rfl (.inl rfl) (pe_op op_fdivW (pe_ix ix_tup (pv 0) pe_int (fun _ _ => rfl)) (pe_ix ix_tup (pv 0) pe_int (fun _ _ => rfl))))
        (pss_cons (ps_expr (pe_bm PySem.F.plainAttrs_list PySem.F.slot_list_append PySem.F.type_list_append mt_append (pv 4) (pa_cons (pv 6) pa_nil)))
        (pss_cons (ps_par (i := 0) (j := 1) (by rfl) scSimplest.nd rfl rfl (by decide) rfl rfl (pa_cons (pe_call GT hr (by rfl) TU.g TU.F.kp TU.b .nil pass0 (pa_cons (pv 1) (pa_cons (pv 6) pa_nil))) (pa_cons (pe_call GT hr (by rfl) TU.g TU.F.kp TU.b .nil pass0 (pa_cons (pv 0) (pa_cons (pv 6) pa_nil))) pa_nil)) (by rfl))
        (pss_cons (ps_par (i := 2) (j := 3) (by rfl) scSimplest.nd rfl rfl (by decide) rfl rfl (pa_cons (pv 3) (pa_cons (pv 2) pa_nil)) (by rfl))
        (pss_one (ps_set (i := 5) scSimplest.nd rfl (.inl rfl) (pe_call GL hr (by rfl) LW.g LW.F.kp LW.b .nil pass0 (pa_cons (pv 0) (pa_cons (pv 2) pa_nil))))))))))
      (pss_cons (ps_set (i := 7) scSimplest.nd rfl (.inl rfl) pe_int)
      (pss_cons (ps_for PassesOwn.never rfl (pi_reversed (by rfl) mr (pa_cons (pv 4) pa_nil)) (pg_name (i := 6) scSimplest.nd rfl (.inl rfl))
        (pss_one (ps_par (i := 5) (j := 7) (by rfl) scSimplest.nd rfl rfl (by decide) rfl rfl (pa_cons (pe_op op_add (pe_op op_mulW (pv 6) (pv 5)) (pv 7)) (pa_cons (pv 5) pa_nil)) (by rfl))))
      (pss_one (ps_ret (pe_tup (pa_cons (pv 5) (pa_cons (pv 7) pa_nil))))))))), ?_⟩
    refine ⟨Nat.zero_le _, fun o ho => ?_⟩
    have s1 := same_put (o := HO.lst []) ho
    refine ⟨_, rfl, _, rfl, t, a, b, rfl, s1 _ _ hT, ok.b0, lt100 (by have := ok.b0; omega) ok.b1, ?_⟩
    dsimp only [tSeq, tAsg, gName]
    refine while_by (fun σ H' => ∃ (t' u' : Addr) (rs : List Int) (a' b' c' d' : Int) (y : Option V), σ = [some (.ref t'), some (.ref u'), some (.bl true), some (.bl true), some (.ref o), some (.int (-(-a' / b'))), y, none] ∧ Same H H' ∧ H' o = some (.lst (rs.reverse.map V.int)) ∧ H' t' = some (.tup [.int a', .int b']) ∧ H' u' = some (.tup [.int c', .int d']) ∧ Ch a b c d rs a' b' c' d')
      (fun _ H' => match H' o with | some (.lst xs) => 300 - xs.length | _ => 0) ⟨t, u, [], a, b, c, d, none, rfl, s1, upd_same, s1 _ _ hT, s1 _ _ hU, rfl, rfl, rfl, rfl, ok⟩ ?_ ?_
    · rintro σ H1 ⟨t', u', rs, a', b', c', d', y, rfl, s2, hO, hT', hU', ch⟩
      have k := ch.ok
      have b0 := k.b0
      have d0 := k.d0
      have a0 := k.a0
      have few := ch.few
      have cb : (-(-a' / b')).natAbs < 2 ^ 200 := by
        have h1 : -(-a' / b') ≤ a' := (ceil_le b0).mpr (by
          have := Int.mul_le_mul_of_nonneg_right (show 1 ≤ b' by omega) a0; omega)
        have h2 : 0 ≤ -(-a' / b') := by
          rcases Int.lt_or_le (-(-a' / b')) 0 with z | z
          · have := (ceil_le (a := a') (k := -1) b0).mp (by omega); omega
          · exact z
        exact lt200 h2 (by have := k.a1; omega)
      refine ⟨_, rfl, _, rfl, _, rfl, u', _, c', d', rfl, hU', cb, lt200 (by omega) k.d1, _, rfl, ?_⟩
      refine ite2 (fun hc => ?_) (fun hc => ?_)
      · have hn : ¬ -(-a' / b') * d' ≤ c' := fun z => by rw [decide_eq_true z] at hc; cases hc
        obtain ⟨hz, he⟩ : a' % b' ≠ 0 ∧ a' / b' = c' / d' := Decidable.byContradiction fun z => hn ((within_iff k).mpr z)
        obtain ⟨T, k2⟩ := k.turn hz he
        have w0 := T.w0
        have w1 := T.w1
        have db := wide_div (i := a') b0 (lt100 (by omega) k.b1) (by decide) (by decide)
        refine ⟨_, rfl, t', _, 0, .int a', rfl, rfl, SqT.of hT', at_of (j := 0) rfl rfl, _, rfl, t', _, 1, .int b', rfl, rfl, SqT.of hT', at_of (j := 1) rfl rfl, _, _, rfl, rfl, db, ?_⟩
        refine ⟨_, rfl, .inl ⟨rfl, _, .inl (.inl hO)⟩, _, rfl, o, _, _, rfl, rfl, hO, (by rw [List.length_map, List.length_reverse]; exact small1000 (by omega)), ?_⟩
        have hOo : upd H1 o (.lst (rs.reverse.map V.int ++ [.int (a' / b')])) o = some (.lst (((a' / b') :: rs).reverse.map V.int)) := by rw [upd_same, List.reverse_cons, List.map_append]; rfl
        have nto : t' ≠ o := ne_of hT' hO (by intro z; cases z)
        have nuo : u' ≠ o := ne_of hU' hO (by intro z; cases z)
        have hT2 : upd H1 o (.lst (rs.reverse.map V.int ++ [.int (a' / b')])) t' = some (.tup [.int a', .int b']) := by rw [upd_ne nto]; exact hT'
        have hU2 : upd H1 o (.lst (rs.reverse.map V.int ++ [.int (a' / b')])) u' = some (.tup [.int c', .int d']) := by rw [upd_ne nuo]; exact hU'
        have sH : Same H (upd H1 o (.lst (rs.reverse.map V.int ++ [.int (a' / b')]))) := fun q1 z1 e1 => by
          rw [upd_ne (ne_of_none e1 ho)]
          exact s2 _ _ e1
        generalize hH2 : upd H1 o (.lst (rs.reverse.map V.int ++ [.int (a' / b')])) = H2 at hOo hT2 hU2 sH ⊢
        refine ⟨_, rfl, _, rfl, u', c', d', a' / b', rfl, hU2, lt200 w0 w1, lt200 (by omega) k.d1, fun r1 hr1 => ?_⟩
        have p1 := same_put (o := HO.tup [.int d', .int (c' - a' / b' * d')]) hr1
        refine ⟨_, rfl, _, rfl, t', a', b', a' / b', rfl, p1 _ _ hT2, lt200 w0 w1, lt200 (by omega) k.b1, fun r2 hr2 => ?_⟩
        have p2 := same_put (o := HO.tup [.int b', .int (a' - a' / b' * b')]) hr2
        refine ⟨_, _, rfl, ?_⟩
        refine ⟨_, rfl, _, rfl, _, _, rfl, ?_⟩
        have k2b := k2.b0
        refine ⟨_, rfl, _, rfl, r1, d', c' - a' / b' * d', rfl, p2 _ _ upd_same, k2b, lt100 (by omega) k2.b1, ?_⟩
        have ch2 : Ch a b c d ((a' / b') :: rs) d' (c' - a' / b' * d') b' (a' - a' / b' * b') := ⟨a', b', c', d', ch, T, rfl, rfl, rfl, rfl, k2⟩
        have few2 := ch2.few
        have hO3 := p2 _ _ (p1 _ _ hOo)
        refine ⟨⟨r1, r2, (a' / b') :: rs, d', c' - a' / b' * d', b', a' - a' / b' * b', _, rfl, (sH.trans p1).trans p2, hO3, p2 _ _ upd_same, upd_same, ch2⟩, ?_⟩
        rw [hO3, hO]
        show 300 - (((a' / b') :: rs).reverse.map V.int).length < 300 - (rs.reverse.map V.int).length
        rw [List.length_map, List.length_map, List.length_reverse, List.length_reverse, List.length_cons]
        rw [List.length_cons] at few2
        omega
      · have hn : -(-a' / b') * d' ≤ c' := Decidable.byContradiction fun z => hc (by rw [decide_eq_false z]; rfl)
        have B0 := Best.whole k.a0 b0 d0 k.le ((within_iff k).mp hn)
        dsimp only [tSeq, tAsg, gName, tC]
        refine ⟨_, rfl, o, _, rfl, SqL.of hO, for_rv (K := K) (a := o) (xs := rs.reverse.map V.int) (fun i σ H2 => ∃ (p q' : Int) (a1 b1 c1 d1 : Int) (y7 : Option V), σ = [some (.ref t'), some (.ref u'), some (.bl true), some (.bl true), some (.ref o), some (.int p), y7, some (.int q')] ∧ H2 = H1 ∧ Ch a b c d (rs.drop i) a1 b1 c1 d1 ∧ Best a1 b1 c1 d1 p q')
          ⟨_, _, a', b', c', d', _, rfl, rfl, ch, B0⟩ (fun i σ H2 _ ⟨_, _, _, _, _, _, _, _, e, _⟩ => by rw [e]; exact SqL.of hO) ?_ ?_⟩
        · rintro i v σ H2 hi hv ⟨p, q', a1, b1, c1, d1, y7, rfl, rfl, ch1, B1⟩
          rw [List.length_map, List.length_reverse] at hi hv
          obtain ⟨w2, hw, rfl⟩ : ∃ w2, rs[i]? = some w2 ∧ v = V.int w2 := by
            rw [List.getElem?_map, List.getElem?_reverse (by omega)] at hv
            rw [show rs.length - 1 - (rs.length - 1 - i) = i by omega] at hv
            obtain ⟨w2, h1, h2⟩ := Option.map_eq_some_iff.mp hv
            exact ⟨w2, h1, h2.symm⟩
          have hd : rs.drop i = w2 :: rs.drop (i + 1) := by
            obtain ⟨h1, h2⟩ := List.getElem?_eq_some_iff.mp hw
            rw [List.drop_eq_getElem_cons h1, h2]
          rw [hd] at ch1
          obtain ⟨a2, b2, c2, d2, ch2, T2, e1, e2, e3, e4, k1⟩ := ch1
          obtain ⟨pl, ql, p0⟩ := B1.small k1
          have k2 := ch2.ok
          refine ⟨_, rfl, _, rfl, _, _, rfl, rfl, wide_mul (a := 100) (b := 100) (lt100 T2.w0 T2.w1) (lt100 p0 (by have := k1.a1; omega)) (by decide) (by decide) (by decide), _, rfl, _, _, rfl, rfl, _, rfl, _, _, rfl, ?_⟩
          rw [e1, e2, e3, e4] at B1
          exact ⟨_, _, a2, b2, c2, d2, _, rfl, rfl, ch2, B1.step T2.w0 k2.b0 k2.d0 T2.e0 T2.f0⟩
        · rintro σ H2 ⟨p, q', a1, b1, c1, d1, y7, rfl, rfl, ch1, B1⟩
          rw [List.length_map, List.length_reverse, List.drop_length] at ch1
          obtain ⟨rfl, rfl, rfl, rfl, _⟩ := ch1
          refine ⟨_, rfl, _, rfl, (by show 2 ≤ sizeLine; decide), fun r hr => ?_⟩
          exact q p q' r _ B1 (s2.trans (same_put hr)) (s2.free hr) upd_same
    · rintro σ H1 Q1 Q2 mo ⟨v1, e1, v2, e2, v3, e3, u1, n1, c1, d1, e4, h1, h2, h3, kk, e5, h6⟩
      exact ⟨v1, e1, v2, e2, v3, e3, u1, n1, c1, d1, e4, h1, h2, h3, kk, e5, mo _ _ h6⟩
end
end My.B
set_option Elab.async false
set_option linter.all false
set_option maxRecDepth 100000
set_option maxHeartbeats 4000000
set_option exponentiation.threshold 400
namespace My.B
open My.O PySem PySem.Spec PyProof.Rows L2 Gn Mt
/-- the simplest one between, whichever is less -/
def Mid (a b c d p q : Int) : Prop := (a * d ≤ c * b → Best a b c d p q) ∧ (¬ a * d ≤ c * b → Best c d a b p q)
theorem _root_.My.IsStep.okm {a b c d : Int} (h : IsStep a b) (k : IsStep c d) (hb : b < 2 ^ 100) (hd : d < 2 ^ 100) (le : a * d ≤ c * b) : Ok a b c d := by
  have := h.x0
  have := h.xy
  have := k.x0
  have := k.xy
  exact ⟨by omega, by omega, by omega, by omega, le, by omega, hb, by omega, hd⟩
theorem eqv_pair (a b c d : Int) : PyData.eqv (.tuple ([a, b].map PyData.int)) (.tuple ([c, d].map PyData.int)) = decide (a = c ∧ b = d) := by
  by_cases h : a = c ∧ b = d
  · obtain ⟨rfl, rfl⟩ := h
    rw [SeqAt.eqv_refl _ rfl]
    simp
  · rw [decide_eq_false h]
    simp only [List.map_cons, List.map_nil, PyData.eqv, PyData.eqvAll]
    simp only [Bool.and_true, Bool.and_eq_false_iff, beq_eq_false_iff_ne, decide_eq_false_iff_not]
    omega
/-- the arguments: two steps with bounds -/
structure Two (H : Hp) (t u : Addr) (a b c d : Int) : Prop where
  s1 : StepAt H t a b
  s2 : StepAt H u c d
  b1 : b < 2 ^ 100
  d1 : d < 2 ^ 100
theorem Two.same {H H' : Hp} {t u : Addr} {a b c d : Int} (h : Two H t u a b c d) (e : Same H H') : Two H' t u a b c d := ⟨⟨e _ _ h.s1.1, h.s1.2⟩, ⟨e _ _ h.s2.1, h.s2.2⟩, h.b1, h.d1⟩
def spSb : Sp := fun vs H Q _ => ∃ (t u : Addr) (a b c d : Int), vs = [.ref t, .ref u] ∧ Two H t u a b c d ∧ ∀ p q r H', Mid a b c d p q → Same H H' → H r = none → H' r = some (.tup [.int p, .int q]) → Q (.ref r) H'
def spParting : Sp := fun vs H Q _ => ∃ (t u : Addr) (a b c d : Int), vs = [.ref t, .ref u] ∧ Two H t u a b c d ∧ (a = c ∧ b = d → Q .non H) ∧ (¬ (a = c ∧ b = d) → ∀ p q H', Mid a b c d p q → Same H H' → Q (.int (q + 1)) H')
section
variable {P : Program} {w : World} {K : PySem.W.Frag} {mg : Str → Option Value} {base : Heap}
theorem ok_sb {f : Addr} {fd : FuncData} (F : Fun K "_simplest_between" "_simplest_between" sSb f fd) (M : Si K mg) : FnOk P w K mg base CX0 3 f fd ["one", "other"] spSb := by
  have GM : FnOk P w K mg base CX0 2 M.fm.1 M.fm.2 ["low", "high", "first", "last"] spSimplest := ok_simplest M.m.F M.rv M.lw M.iw M.tu
  have GL : FnOk P w K mg base CX0 1 M.fl.1 M.fl.2 ["one", "other"] spLess := ok_less M.il.F
  refine F.ok scSb (fun vs H Q E h => ?_) (fun cdv A outer s H vs Q E hr h => ?_)
  · obtain ⟨t, u, a, b, c, d, rfl, _⟩ := h
    rfl
  · obtain ⟨t, u, a, b, c, d, rfl, T, q⟩ := h
    have hr1 : Room 1 _ := hr.mono (by decide)
    refine ⟨_, pss_cons (ps_if (pt_val (pe_call GL hr1 (by rfl) M.il.g M.il.F.kp M.il.b .nil pass0 (pa_cons (pv 1) (pa_cons (pv 0) pa_nil))))
        (pss_one (ps_ret (pe_call GM hr (by rfl) M.m.g M.m.F.kp M.m.b .nil pass0 (pa_cons (pv 1) (pa_cons (pv 0) (pa_cons pe_bl (pa_cons pe_bl pa_nil))))))) pss_nil)
      (pss_one (ps_ret (pe_call GM hr (by rfl) M.m.g M.m.F.kp M.m.b .nil pass0 (pa_cons (pv 0) (pa_cons (pv 1) (pa_cons pe_bl (pa_cons pe_bl pa_nil))))))), ?_⟩
    have hT := T.s1.1
    have hU := T.s2.1
    have a0 := T.s1.2.x0
    have a1 := T.s1.2.xy
    have c0 := T.s2.2.x0
    have c1 := T.s2.2.xy
    have b1 := T.b1
    have d1 := T.d1
    refine ⟨_, rfl, _, rfl, u, t, c, d, a, b, rfl, hU, hT, lt200 c0 (by omega), lt200 (by omega) d1, lt200 a0 (by omega), lt200 (by omega) b1, _, rfl, ?_⟩
    refine ite2 (fun hc => ?_) (fun hc => ?_)
    · have le : ¬ a * d ≤ c * b := by have := of_decide_eq_true hc; omega
      exact ⟨_, rfl, _, rfl, u, t, c, d, a, b, rfl, hU, hT, T.s2.2.okm T.s1.2 d1 b1 (by omega), fun p q' r H' B s e1 e2 => q p q' r H' ⟨fun y => absurd y le, fun _ => B⟩ s e1 e2⟩
    · have le : a * d ≤ c * b := by
        have : ¬ c * b < a * d := fun y => hc (decide_eq_true y)
        omega
      exact ⟨_, rfl, _, rfl, t, u, a, b, c, d, rfl, hT, hU, T.s1.2.okm T.s2.2 b1 d1 le, fun p q' r H' B s e1 e2 => q p q' r H' ⟨fun _ => B, fun n => absurd le n⟩ s e1 e2⟩
theorem ok_between {f fS fI fR fT fC : Addr} {fd fdS fdI fdR fdT fdC : FuncData} (F : Fun K "between" "between" sBetween f fd) (B : Bc mg) (M : Si K mg) (S : Df K mg "_simplest_between" sSb ["one", "other"] fS fdS)
    (D : Df K mg "is_integer" sIsInt ["given"] fI fdI) (R : Df K mg "is_fraction" sIsFr ["given"] fR fdR) (T : Df K mg "is_step" sIsStep ["given"] fT fdT) (C : Df K mg "check_step" sChStep ["given"] fC fdC) : FnOk P w K mg base CX0 5 f fd ["one", "other"] spSb := by
  have GC : FnOk P w K mg base CX0 4 fC fdC ["given"] (spIsSt .non) := ok_chStep C.F B D R T
  have GS : FnOk P w K mg base CX0 3 fS fdS ["one", "other"] spSb := ok_sb S.F M
  refine F.ok scBetween (fun vs H Q E h => ?_) (fun cdv A outer s H vs Q E hr h => ?_)
  · obtain ⟨t, u, a, b, c, d, rfl, _⟩ := h
    rfl
  · obtain ⟨t, u, a, b, c, d, rfl, W, q⟩ := h
    have hr2 : Room 3 _ := hr.mono (by decide)
    refine ⟨_, pss_cons (ps_expr (pe_call GC hr (by rfl) C.g C.F.kp C.b .nil pass0 (pa_cons (pv 0) pa_nil))) (pss_cons (ps_expr (pe_call GC hr (by rfl) C.g C.F.kp C.b .nil pass0 (pa_cons (pv 1) pa_nil)))
      (pss_one (ps_ret (pe_call GS hr2 (by rfl) S.g S.F.kp S.b .nil pass0 (pa_cons (pv 0) (pa_cons (pv 1) pa_nil)))))), ?_⟩
    exact ⟨_, rfl, t, a, b, rfl, W.s1, _, rfl, u, c, d, rfl, W.s2, _, rfl, _, rfl, t, u, a, b, c, d, rfl, W, q⟩
theorem ok_parting {f fS fI fR fT fC : Addr} {fd fdS fdI fdR fdT fdC : FuncData} (F : Fun K "parting" "parting" sParting f fd) (B : Bc mg) (M : Si K mg) (S : Df K mg "_simplest_between" sSb ["one", "other"] fS fdS)
    (D : Df K mg "is_integer" sIsInt ["given"] fI fdI) (R : Df K mg "is_fraction" sIsFr ["given"] fR fdR) (T : Df K mg "is_step" sIsStep ["given"] fT fdT) (C : Df K mg "check_step" sChStep ["given"] fC fdC) : FnOk P w K mg base CX0 5 f fd ["one", "other"] spParting := by
  have GC : FnOk P w K mg base CX0 4 fC fdC ["given"] (spIsSt .non) := ok_chStep C.F B D R T
  have GS : FnOk P w K mg base CX0 3 fS fdS ["one", "other"] spSb := ok_sb S.F M
  refine F.ok scParting (fun vs H Q E h => ?_) (fun cdv A outer s H vs Q E hr h => ?_)
  · obtain ⟨t, u, a, b, c, d, rfl, _⟩ := h
    rfl
  · obtain ⟨t, u, a, b, c, d, rfl, W, q1, q2⟩ := h
    have hr2 : Room 3 _ := hr.mono (by decide)
    refine ⟨_, pss_cons (ps_expr (pe_call GC hr (by rfl) C.g C.F.kp C.b .nil pass0 (pa_cons (pv 0) pa_nil))) (pss_cons (ps_expr (pe_call GC hr (by rfl) C.g C.F.kp C.b .nil pass0 (pa_cons (pv 1) pa_nil)))
      (pss_cons (ps_if (pt_cmpR (op_eqD hr.units) (pv 0) (pv 1) (nomark _)) (pss_one (ps_ret pe_non)) pss_nil)
      (pss_one (ps_ret (pe_op op_add (pe_ix ix_tup (pe_call GS hr2 (by rfl) S.g S.F.kp S.b .nil pass0 (pa_cons (pv 0) (pa_cons (pv 1) pa_nil))) pe_int (fun _ _ => rfl)) pe_int))))), ?_⟩
    refine ⟨_, rfl, t, a, b, rfl, W.s1, _, rfl, u, c, d, rfl, W.s2, ?_⟩
    have sm : ∀ x y : Int, SeqAt.shaped (.tuple ([x, y].map PyData.int)) = true := fun x y => rfl
    refine ⟨_, rfl, _, rfl, .tuple ([a, b].map PyData.int), .tuple ([c, d].map PyData.int), .tup (SqT.of W.s1.1) (dp_ints [a, b]), .tup (SqT.of W.s2.1) (dp_ints [c, d]), sm a b, sm c d, _, rfl, ?_⟩
    rw [eqv_pair]
    refine ite2 (fun hc => q1 (of_decide_eq_true hc)) (fun hc => ?_)
    exact ⟨_, rfl, _, rfl, t, u, a, b, c, d, rfl, W, fun p q r H' B s e1 e2 => ⟨r, _, 1, .int q, rfl, rfl, SqT.of e2, at_of (j := 1) rfl rfl, _, _, rfl, rfl, q2 (fun y => hc (decide_eq_true y)) p q H' B s⟩⟩
end
end My.B
set_option Elab.async false
set_option maxRecDepth 100000
set_option maxHeartbeats 1000000
set_option linter.all false
/-! which mark comes behind another one: places that are told by f, of the marks below n -/
namespace Mt
/-- places on a rim of length y: unlike ones for the first n marks -/
structure Rim (f : Int → Int) (y n : Int) : Prop where
  r : ∀ k, 0 ≤ f k ∧ f k < y
  s : ∀ i j, f (i - j) = f i - f j ∨ f (i - j) = f i - f j + y
  z : ∀ k, 0 < k → k < n → f k ≠ 0
/-- m is met first behind k -/
def Nx (f : Int → Int) (n k m : Int) : Prop := 0 ≤ m ∧ m < n ∧ m ≠ k ∧ ∀ j, 0 ≤ j → j < n → j ≠ k → f (m - k) ≤ f (j - k)
/-- m is met last behind k -/
def Pv (f : Int → Int) (n k m : Int) : Prop := 0 ≤ m ∧ m < n ∧ m ≠ k ∧ ∀ j, 0 ≤ j → j < n → j ≠ k → f (k - m) ≤ f (k - j)
def behind (n A B k : Int) : Int := if k < n - A then k + A else if B ≤ k then k - B else k + A - B
section
variable {f : Int → Int} {y n : Int}
theorem Rim.y0 (R : Rim f y n) : 0 < y := by
  have := R.r 0; omega
theorem Rim.f0 (R : Rim f y n) : f 0 = 0 := by
  have h := R.s 0 0
  have := R.r 0
  rw [Int.sub_self] at h
  omega
theorem Rim.neg (R : Rim f y n) {k : Int} (h : f k ≠ 0) : f (-k) = y - f k := by
  have h1 := R.s 0 k
  have h2 := R.r (-k)
  have h3 := R.r k
  have h4 := R.f0
  rw [Int.zero_sub] at h1
  omega
theorem Rim.nz (R : Rim f y n) {k : Int} (h : k ≠ 0) (h1 : -n < k) (h2 : k < n) : f k ≠ 0 := by
  rcases Int.lt_or_lt_of_ne h with c | c
  · intro e
    have h3 := R.z (-k) (by omega) (by omega)
    have h4 := R.neg h3
    rw [Int.neg_neg] at h4
    have := R.r (-k)
    omega
  · exact R.z k c h2
theorem Rim.one (R : Rim f y n) {i j : Int} (hi : 0 ≤ i) (hi' : i < n) (hj : 0 ≤ j) (hj' : j < n) (e : f i = f j) : i = j := by
  rcases Int.decEq i j with c | c
  · have h1 := R.nz (k := i - j) (by omega) (by omega) (by omega)
    have h2 := R.s i j
    have := R.r (i - j)
    omega
  · exact c
theorem Nx.one (R : Rim f y n) {k m m' : Int} (h : Nx f n k m) (h' : Nx f n k m') : m = m' := by
  obtain ⟨a, b, c, d⟩ := h
  obtain ⟨a', b', c', d'⟩ := h'
  have e1 := d m' a' b' c'
  have e2 := d' m a b c
  rcases Int.decEq m m' with q | q
  · have h1 := R.nz (k := m - m') (by omega) (by omega) (by omega)
    have h2 := R.s (m - k) (m' - k)
    rw [show m - k - (m' - k) = m - m' by omega] at h2
    have := R.r (m - m')
    omega
  · exact q
theorem Pv.one (R : Rim f y n) {k m m' : Int} (h : Pv f n k m) (h' : Pv f n k m') : m = m' := by
  obtain ⟨a, b, c, d⟩ := h
  obtain ⟨a', b', c', d'⟩ := h'
  have e1 := d m' a' b' c'
  have e2 := d' m a b c
  rcases Int.decEq m m' with q | q
  · have h1 := R.nz (k := m' - m) (by omega) (by omega) (by omega)
    have h2 := R.s (k - m) (k - m')
    rw [show k - m - (k - m') = m' - m by omega] at h2
    have := R.r (m' - m)
    omega
  · exact q
theorem Nx.back (R : Rim f y n) {k m : Int} (hk : 0 ≤ k) (hk' : k < n) (h : Nx f n k m) : Pv f n m k := by
  obtain ⟨a, b, c, d⟩ := h
  refine ⟨hk, hk', Ne.symm c, fun j j0 j1 j2 => ?_⟩
  rcases Int.decEq j k with q | q
  · have h1 := d j j0 j1 q
    have h2 := R.s (m - k) (m - j)
    rw [show m - k - (m - j) = j - k by omega] at h2
    have h3 := R.r (j - k)
    have h4 := R.r (m - j)
    have h5 := R.r (m - k)
    have h6 := R.nz (k := m - j) (by omega) (by omega) (by omega)
    omega
  · subst q; exact Int.le_refl _
/-- the three cases -/
theorem gap (R : Rim f y n) {A B k : Int} (A0 : 0 < A) (A1 : A < n) (B0 : 0 < B) (B1 : B < n) (hA : ∀ k, 0 < k → k < n → f A ≤ f k) (hB : ∀ k, 0 < k → k < n → f k ≤ f B) (k0 : 0 ≤ k) (k1 : k < n) : Nx f n k (behind n A B k) := by
  have a0 := R.z A A0 A1
  have b0 := R.z B B0 B1
  have ra := R.r A
  have rb := R.r B
  have nb := R.neg b0
  unfold behind
  split
  · rename_i c1
    refine ⟨by omega, by omega, by omega, fun j j0 j1 j2 => ?_⟩
    rw [show k + A - k = A by omega]
    rcases Int.lt_or_lt_of_ne j2 with c | c
    · have h1 := hA (A - (j - k)) (by omega) (by omega)
      have h2 := R.s A (j - k)
      have h3 := R.nz (k := j - k) (by omega) (by omega) (by omega)
      have h4 := R.r (j - k)
      have h5 := R.r (A - (j - k))
      omega
    · exact hA _ (by omega) (by omega)
  · rename_i c1
    split
    · rename_i c2
      refine ⟨by omega, by omega, by omega, fun j j0 j1 j2 => ?_⟩
      rw [show k - B - k = -B by omega, nb]
      rcases Int.lt_or_lt_of_ne j2 with c | c
      · have h1 := hB (k - j) (by omega) (by omega)
        have h2 := R.z (k - j) (by omega) (by omega)
        have h3 := R.neg h2
        rw [show -(k - j) = j - k by omega] at h3
        omega
      · have h1 := hB (B + (j - k)) (by omega) (by omega)
        have h2 := R.s (B + (j - k)) (j - k)
        rw [show B + (j - k) - (j - k) = B by omega] at h2
        have h3 := R.nz (k := j - k) (by omega) (by omega) (by omega)
        have h4 := R.r (j - k)
        have h5 := R.r (B + (j - k))
        omega
    · rename_i c2
      have ne : A ≠ B := fun e => by
        subst e
        have e1 : ∀ k, 0 < k → k < n → f k = f A := fun k h h' => by
          have := hA k h h'; have := hB k h h'; omega
        by_cases h : A = 1
        · omega
        · have h1 := e1 (A - 1) (by omega) (by omega)
          have := R.one (i := A - 1) (j := A) (by omega) (by omega) (by omega) (by omega) h1
          omega
      have lt : f A < f B := by
        have h1 := hA B B0 B1
        rcases Int.lt_or_eq_of_le h1 with h | h
        · exact h
        · exact absurd (R.one (by omega) A1 (by omega) B1 h) ne
      have hab := R.s A B
      have rab := R.r (A - B)
      refine ⟨by omega, by omega, by omega, fun j j0 j1 j2 => ?_⟩
      rw [show k + A - B - k = A - B by omega]
      rcases Int.lt_or_lt_of_ne j2 with c | c
      · have h1 := hB (k - j) (by omega) (by omega)
        have h2 := R.z (k - j) (by omega) (by omega)
        have h3 := R.neg h2
        rw [show -(k - j) = j - k by omega] at h3
        have h4 := hA (B - (k - j)) (by omega) (by omega)
        have h5 := R.s B (k - j)
        have h6 := R.r (k - j)
        have h7 := R.r (B - (k - j))
        omega
      · have h1 := hA (j - k) (by omega) (by omega)
        have h2 := hB (A - (j - k)) (by omega) (by omega)
        have h3 := R.s A (j - k)
        have h4 := R.z (A - (j - k)) (by omega) (by omega)
        have h5 := R.r (A - (j - k))
        omega
/-- and so the other way round -/
theorem gapB (R : Rim f y n) {A B k : Int} (A0 : 0 < A) (A1 : A < n) (B0 : 0 < B) (B1 : B < n) (hA : ∀ k, 0 < k → k < n → f A ≤ f k) (hB : ∀ k, 0 < k → k < n → f k ≤ f B) (k0 : 0 ≤ k) (k1 : k < n) : Pv f n k (behind n B A k) := by
  have R' : Rim (fun k => f (-k)) y n := ⟨fun k => R.r (-k), fun i j => by
    show f (-(i - j)) = f (-i) - f (-j) ∨ f (-(i - j)) = f (-i) - f (-j) + y
    rw [show -(i - j) = -i - -j by omega]
    exact R.s (-i) (-j), fun k h h' => R.nz (by omega) (by omega) (by omega)⟩
  have h := gap R' (A := B) (B := A) (k := k) B0 B1 A0 A1 (fun k h h' => by
    show f (-B) ≤ f (-k)
    rw [R.neg (R.z B B0 B1), R.neg (R.z k h h')]
    have := hB k h h'; omega) (fun k h h' => by
    show f (-k) ≤ f (-A)
    rw [R.neg (R.z A A0 A1), R.neg (R.z k h h')]
    have := hA k h h'; omega) k0 k1
  obtain ⟨a, b, c, d⟩ := h
  refine ⟨a, b, c, fun j j0 j1 j2 => ?_⟩
  have := d j j0 j1 j2
  rw [show k - behind n B A k = -(behind n B A k - k) by omega, show k - j = -(j - k) by omega]
  exact this
theorem min_sum (R : Rim f y n) {A B : Int} (A0 : 0 < A) (A1 : A < n) (B0 : 0 < B) (B1 : B < n) (hA : ∀ k, 0 < k → k < n → f A ≤ f k) (hB : ∀ k, 0 < k → k < n → f k ≤ f B) : n ≤ A + B := by
  rcases Int.lt_or_le (A + B) n with c | c
  · have h1 := hA (A + B) (by omega) c
    have h2 := hB (A + B) (by omega) c
    have h3 := R.s (A + B) B
    rw [show A + B - B = A by omega] at h3
    have h4 := R.z A A0 A1
    have h5 := R.z B B0 B1
    have h6 := R.r A
    have h7 := R.r B
    omega
  · exact c
end
/-! the places of a step -/
theorem rim_step {x y n : Int} (hy : 0 < y) (co : Nat.gcd x.natAbs y.natAbs = 1) (hn : n ≤ y) : Rim (fun k => x * k % y) y n := by
  refine ⟨fun k => ⟨Int.emod_nonneg _ (by omega), Int.emod_lt_of_pos _ hy⟩, fun i j => ?_, fun k h h' e => ?_⟩
  · have h1 : x * (i - j) % y = (x * i % y - x * j % y) % y := by
      rw [Int.mul_sub, Int.sub_emod]
    have a1 := Int.emod_nonneg (x * i) (show y ≠ 0 by omega)
    have a2 := Int.emod_lt_of_pos (x * i) hy
    have b1 := Int.emod_nonneg (x * j) (show y ≠ 0 by omega)
    have b2 := Int.emod_lt_of_pos (x * j) hy
    show x * (i - j) % y = x * i % y - x * j % y ∨ x * (i - j) % y = x * i % y - x * j % y + y
    rw [h1]
    rcases Int.lt_or_le (x * i % y) (x * j % y) with c | c
    · right
      rw [← Int.add_emod_right]
      exact Int.emod_eq_of_lt (by omega) (by omega)
    · left
      exact Int.emod_eq_of_lt (by omega) (by omega)
  · have d : y ∣ x * k := Int.dvd_of_emod_eq_zero e
    have d1 : y.natAbs ∣ x.natAbs * k.natAbs := by
      have := Int.natAbs_dvd_natAbs.mpr d
      rwa [Int.natAbs_mul] at this
    have d2 : y.natAbs ∣ k.natAbs := (Nat.Coprime.symm co).dvd_of_dvd_mul_left d1
    have := Nat.le_of_dvd (by omega) d2
    omega
/-- two marks beside 0 as they are looked for: low and high, how far they are, p and q the tops of the neighbours -/
structure Side (x y n low fl high fh p q : Int) : Prop where
  l0 : 0 < low
  l1 : low < n
  h0 : 0 < high
  h1 : high < n
  e1 : low * x - p * y = fl
  e2 : q * y - high * x = fh
  de : low * q - high * p = 1
  fl0 : 0 < fl
  fh0 : 0 < fh
theorem Side.val {x y n low fl high fh p q : Int} (S : Side x y n low fl high fh p q) : low * fh + high * fl = y := by
  have h1 := S.e1; have h2 := S.e2; have h3 := S.de
  grind
theorem mod_at {a p y r : Int} (e : a - p * y = r) (h0 : 0 ≤ r) (h1 : r < y) : a % y = r := by
  rw [show a = r + y * p by grind, Int.add_mul_emod_self_left]
  exact Int.emod_eq_of_lt h0 h1
theorem Side.fly {x y n low fl high fh p q : Int} (S : Side x y n low fl high fh p q) : fl < y ∧ fh < y := by
  have v := S.val
  have l0 := S.l0; have h0 := S.h0; have a := S.fl0; have b := S.fh0
  have h1 : 1 * fh ≤ low * fh := Int.mul_le_mul_of_nonneg_right (by omega) (by omega)
  have h2 : 1 * fl ≤ high * fl := Int.mul_le_mul_of_nonneg_right (by omega) (by omega)
  omega
theorem Side.atl {x y n low fl high fh p q : Int} (S : Side x y n low fl high fh p q) : x * low % y = fl :=
  mod_at (p := p) (by have := S.e1; grind) (by have := S.fl0; omega) S.fly.1
theorem Side.ath {x y n low fl high fh p q : Int} (S : Side x y n low fl high fh p q) : x * high % y = y - fh :=
  mod_at (p := q - 1) (by have := S.e2; grind) (by have := S.fly; omega) (by have := S.fh0; omega)
/-- nothing lies nearer below low + high -/
theorem Side.near {x y n low fl high fh p q : Int} (S : Side x y n low fl high fh p q) {k : Int} (k0 : 0 < k) (k1 : k < low + high) : fl ≤ x * k % y ∧ x * k % y ≤ y - fh := by
  have y0 : 0 < y := by have := S.fly; have := S.fl0; omega
  have e := Int.emod_add_mul_ediv (x * k) y
  have m0 := Int.emod_nonneg (x * k) (show y ≠ 0 by omega)
  have m1 := Int.emod_lt_of_pos (x * k) y0
  generalize x * k % y = g at *
  generalize x * k / y = r at *
  have l0 := S.l0; have h0 := S.h0; have a0 := S.fl0; have b0 := S.fh0
  constructor
  · obtain ⟨u, hu⟩ : ∃ u, u = k * q - r * high := ⟨_, rfl⟩
    obtain ⟨v, hv⟩ : ∃ v, v = r * low - k * p := ⟨_, rfl⟩
    have e1 := S.e1; have e2 := S.e2; have de := S.de
    have c1 : k = u * low + v * high := by grind
    have c2 : g = u * fl - v * fh := by grind
    have u1 : 0 < u := by
      rcases Int.lt_or_le 0 u with c | c
      · exact c
      · have z1 : u * fl ≤ 0 := Int.mul_nonpos_of_nonpos_of_nonneg c (by omega)
        have z2 : u * low ≤ 0 := Int.mul_nonpos_of_nonpos_of_nonneg c (by omega)
        rcases Int.lt_or_le 0 v with d | d
        · have := Int.mul_pos d b0; omega
        · have := Int.mul_nonpos_of_nonpos_of_nonneg d (show 0 ≤ high by omega); omega
    have v1 : v ≤ 0 := by
      rcases Int.lt_or_le 0 v with d | d
      · have z1 : 1 * low ≤ u * low := Int.mul_le_mul_of_nonneg_right (by omega) (by omega)
        have z2 : 1 * high ≤ v * high := Int.mul_le_mul_of_nonneg_right (by omega) (by omega)
        omega
      · exact d
    have z1 : 1 * fl ≤ u * fl := Int.mul_le_mul_of_nonneg_right (by omega) (by omega)
    have z2 := Int.mul_nonpos_of_nonpos_of_nonneg v1 (show 0 ≤ fh by omega)
    omega
  · obtain ⟨u, hu⟩ : ∃ u, u = k * q - (r + 1) * high := ⟨_, rfl⟩
    obtain ⟨v, hv⟩ : ∃ v, v = (r + 1) * low - k * p := ⟨_, rfl⟩
    have e1 := S.e1; have e2 := S.e2; have de := S.de
    have c1 : k = u * low + v * high := by grind
    have c2 : y - g = v * fh - u * fl := by grind
    have v1 : 0 < v := by
      rcases Int.lt_or_le 0 v with c | c
      · exact c
      · have z1 : v * fh ≤ 0 := Int.mul_nonpos_of_nonpos_of_nonneg c (by omega)
        have z2 : v * high ≤ 0 := Int.mul_nonpos_of_nonpos_of_nonneg c (by omega)
        rcases Int.lt_or_le 0 u with d | d
        · have := Int.mul_pos d a0; omega
        · have := Int.mul_nonpos_of_nonpos_of_nonneg d (show 0 ≤ low by omega); omega
    have u1 : u ≤ 0 := by
      rcases Int.lt_or_le 0 u with d | d
      · have z1 : 1 * low ≤ u * low := Int.mul_le_mul_of_nonneg_right (by omega) (by omega)
        have z2 : 1 * high ≤ v * high := Int.mul_le_mul_of_nonneg_right (by omega) (by omega)
        omega
      · exact d
    have z1 : 1 * fh ≤ v * fh := Int.mul_le_mul_of_nonneg_right (by omega) (by omega)
    have z2 := Int.mul_nonpos_of_nonpos_of_nonneg u1 (show 0 ≤ fl by omega)
    omega
theorem Side.start {x y n : Int} (x0 : 0 < x) (xy : x < y) (hn : 2 ≤ n) : Side x y n 1 x 1 (y - x) 0 1 :=
  ⟨by omega, by omega, by omega, by omega, by omega, by omega, by omega, x0, by omega⟩
/-- low is moved on -/
theorem Side.low {x y n low fl high fh p q t : Int} (S : Side x y n low fl high fh p q) (co : Nat.gcd x.natAbs y.natAbs = 1) (hn : n ≤ y) (t0 : 0 ≤ t) (t1 : t * fh ≤ fl) (t2 : t * high ≤ n - 1 - low) : Side x y n (low + t * high) (fl - t * fh) high fh (p + t * q) q := by
  have e1 := S.e1; have e2 := S.e2; have de := S.de
  have l0 := S.l0; have h0 := S.h0; have h1 := S.h1; have b0 := S.fh0
  have y0 : 0 < y := by have := S.fly; omega
  have z : 0 ≤ t * high := Int.mul_nonneg t0 (by omega)
  refine ⟨by omega, by omega, h0, h1, by grind, e2, by grind, ?_, b0⟩
  rcases Int.lt_or_eq_of_le t1 with c | c
  · omega
  · refine absurd ?_ ((rim_step y0 co hn).z (low + t * high) (by omega) (by omega))
    exact mod_at (p := p + t * q) (by grind) (by omega) y0
theorem Side.high {x y n low fl high fh p q t : Int} (S : Side x y n low fl high fh p q) (co : Nat.gcd x.natAbs y.natAbs = 1) (hn : n ≤ y) (t0 : 0 ≤ t) (t1 : t * fl ≤ fh) (t2 : t * low ≤ n - 1 - high) : Side x y n low fl (high + t * low) (fh - t * fl) p (q + t * p) := by
  have e1 := S.e1; have e2 := S.e2; have de := S.de
  have l0 := S.l0; have l1 := S.l1; have h0 := S.h0; have h1 := S.h1; have a0 := S.fl0
  have y0 : 0 < y := by have := S.fly; omega
  have z : 0 ≤ t * low := Int.mul_nonneg t0 (by omega)
  refine ⟨l0, l1, by omega, by omega, e1, by grind, by grind, a0, ?_⟩
  rcases Int.lt_or_eq_of_le t1 with c | c
  · omega
  · refine absurd ?_ ((rim_step y0 co hn).z (high + t * low) (by omega) (by omega))
    exact mod_at (p := q + t * p) (by grind) (by omega) y0
/-- how often: no more than fits, at least once where it fits -/
theorem times_ok {a b c d : Int} (b0 : 0 < b) (d0 : 0 < d) (a0 : 0 ≤ a) (c0 : 0 ≤ c) : 0 ≤ min (a / b) (c / d) ∧ min (a / b) (c / d) * b ≤ a ∧ min (a / b) (c / d) * d ≤ c ∧ (b ≤ a → d ≤ c → 1 ≤ min (a / b) (c / d)) := by
  have h1 : a / b * b ≤ a := Int.ediv_mul_le a (by omega)
  have h2 : c / d * d ≤ c := Int.ediv_mul_le c (by omega)
  have h3 : 0 ≤ a / b := Int.ediv_nonneg a0 (by omega)
  have h4 : 0 ≤ c / d := Int.ediv_nonneg c0 (by omega)
  have m1 : min (a / b) (c / d) ≤ a / b := Int.min_le_left _ _
  have m2 : min (a / b) (c / d) ≤ c / d := Int.min_le_right _ _
  have z1 := Int.mul_le_mul_of_nonneg_right m1 (show 0 ≤ b by omega)
  have z2 := Int.mul_le_mul_of_nonneg_right m2 (show 0 ≤ d by omega)
  refine ⟨by omega, by omega, by omega, fun u v => ?_⟩
  have w1 : 1 ≤ a / b := (Int.le_ediv_iff_mul_le b0).mpr (by omega)
  have w2 : 1 ≤ c / d := (Int.le_ediv_iff_mul_le d0).mpr (by omega)
  omega
/-- one turn of looking for them -/
theorem Side.turn {x y n low fl high fh p q : Int} (S : Side x y n low fl high fh p q) (co : Nat.gcd x.natAbs y.natAbs = 1) (hn : n ≤ y) (go : low + high < n) {t u : Int} (ht : t = min (fl / fh) ((n - 1 - low) / high))
    (hu : u = min (fh / (fl - t * fh)) ((n - 1 - high) / (low + t * high))) : (∃ p' q', Side x y n (low + t * high) (fl - t * fh) (high + u * (low + t * high)) (fh - u * (fl - t * fh)) p' q') ∧
    low ≤ low + t * high ∧ high ≤ high + u * (low + t * high) ∧ low + high < (low + t * high) + (high + u * (low + t * high)) := by
  have l0 := S.l0; have h0 := S.h0; have a0 := S.fl0; have b0 := S.fh0; have l1 := S.l1; have h1 := S.h1
  obtain ⟨w1, w2, w3, w4⟩ := times_ok (a := fl) (c := n - 1 - low) b0 h0 (by omega) (by omega)
  rw [← ht] at w1 w2 w3 w4
  have S1 := S.low co hn w1 w2 w3
  have a1 := S1.fl0; have l2 := S1.l0
  obtain ⟨v1, v2, v3, v4⟩ := times_ok (a := fh) (c := n - 1 - high) a1 l2 (by omega) (by omega)
  rw [← hu] at v1 v2 v3 v4
  have S2 := S1.high co hn v1 v2 v3
  have z1 : 0 ≤ t * high := Int.mul_nonneg w1 (by omega)
  have z2 : 0 ≤ u * (low + t * high) := Int.mul_nonneg v1 (by omega)
  refine ⟨⟨_, _, S2⟩, by omega, by omega, ?_⟩
  rcases Int.lt_or_le fl fh with c | c
  · rcases Int.lt_or_le 0 t with d | d
    · have := Int.mul_pos d h0; omega
    · have t0 : t = 0 := by omega
      subst t0
      rw [Int.zero_mul, Int.sub_zero] at v4
      rw [Int.zero_mul, Int.add_zero] at *
      have := v4 (by omega) (by omega)
      have := Int.mul_pos (show 0 < u by omega) l0
      omega
  · have := w4 c (by omega)
    have := Int.mul_pos (show 0 < t by omega) h0
    omega
/-- where it ends they are the nearest of all -/
theorem Side.found {x y n low fl high fh p q : Int} (S : Side x y n low fl high fh p q) (e : n ≤ low + high) : (∀ k, 0 < k → k < n → x * low % y ≤ x * k % y) ∧ ∀ k, 0 < k → k < n → x * k % y ≤ x * high % y := by
  rw [S.atl, S.ath]
  exact ⟨fun k k0 k1 => (S.near k0 (by omega)).1, fun k k0 k1 => (S.near k0 (by omega)).2⟩
theorem Side.gcd {x y n low fl high fh p q : Int} (S : Side x y n low fl high fh p q) : Nat.gcd low.natAbs high.natAbs = 1 := by
  have d1 : ((Nat.gcd low.natAbs high.natAbs : Nat) : Int) ∣ low := Int.ofNat_dvd_left.mpr (Nat.gcd_dvd_left _ _)
  have d2 : ((Nat.gcd low.natAbs high.natAbs : Nat) : Int) ∣ high := Int.ofNat_dvd_left.mpr (Nat.gcd_dvd_right _ _)
  have d3 := Int.dvd_sub (Int.dvd_mul_of_dvd_left d1 (b := low) (c := q)) (Int.dvd_mul_of_dvd_left d2 (b := high) (c := p))
  rw [S.de] at d3
  have := Int.natAbs_dvd_natAbs.mpr d3
  rw [Int.natAbs_natCast] at this
  exact Nat.dvd_one.mp this
/-- they exist -/
theorem side_ex {x y n : Int} (x0 : 0 < x) (xy : x < y) (co : Nat.gcd x.natAbs y.natAbs = 1) (hn : n ≤ y) (n2 : 2 ≤ n) : ∃ low fl high fh p q, Side x y n low fl high fh p q ∧ n ≤ low + high := by
  have go : ∀ (k : Nat) (low fl high fh p q : Int), Side x y n low fl high fh p q → (2 * n - low - high).toNat ≤ k → ∃ low fl high fh p q, Side x y n low fl high fh p q ∧ n ≤ low + high := by
    intro k
    induction k with
    | zero =>
      intro low fl high fh p q S h
      have := S.l1; have := S.h1; omega
    | succ k ih =>
      intro low fl high fh p q S h
      rcases Int.lt_or_le (low + high) n with c | c
      · obtain ⟨⟨p', q', S'⟩, a, b, d⟩ := S.turn co hn c rfl rfl
        exact ih _ _ _ _ _ _ S' (by omega)
      · exact ⟨_, _, _, _, _, _, S, c⟩
  exact go _ _ _ _ _ _ _ (Side.start x0 xy n2) (Nat.le_refl _)
end Mt
set_option Elab.async false
set_option maxRecDepth 100000
set_option maxHeartbeats 1000000
set_option linter.all false
/-! the order of unlike places as a row of marks -/
namespace Mt
/-- the marks as they are met -/
structure Row (f : Int → Int) (n : Nat) (l : List Int) : Prop where
  len : l.length = n
  mem : ∀ k, k ∈ l ↔ 0 ≤ k ∧ k < n
  up : (l.map f).Pairwise (· < ·)
  ord : ord f (iota n) = l.map fun k => [k]
theorem insU_lenE {v : Int} : ∀ {l : List Int}, v ∉ l → (insU v l).length = l.length + 1
  | [], _ => rfl
  | a :: l, h => by
    unfold insU
    split
    · rfl
    · split
      · rename_i e; exact absurd (by rw [e]; exact List.mem_cons_self) h
      · rw [List.length_cons, insU_lenE (fun z => h (List.mem_cons_of_mem _ z)), List.length_cons]
theorem sortU_lenE : ∀ {l : List Int}, l.Nodup → (sortU l).length = l.length
  | [], _ => rfl
  | a :: l, h => by
    obtain ⟨h1, h2⟩ := List.nodup_cons.mp h
    show (insU a (sortU l)).length = _
    rw [insU_lenE (fun z => h1 (sortU_mem.mp z)), sortU_lenE h2, List.length_cons]
theorem row_ex {f : Int → Int} {n : Nat} (inj : ∀ i j : Int, 0 ≤ i → i < n → 0 ≤ j → j < n → f i = f j → i = j) : ∃ l, Row f n l := by
  have one : ∀ v ∈ sortU ((iota n).map f), ∃ k, k ∈ iota n ∧ f k = v ∧ grp f (iota n) v = [k] := by
    intro v hv
    obtain ⟨k, hk, e⟩ := List.mem_map.mp (sortU_mem.mp hv)
    refine ⟨k, hk, e, ?_⟩
    obtain ⟨k0, k1⟩ := iota_mem.mp hk
    refine strict_one ((iota_pw n).filter _) (List.pairwise_singleton _ _) fun u => ?_
    unfold grp
    rw [List.mem_filter, List.mem_singleton]
    constructor
    · rintro ⟨a, b⟩
      obtain ⟨u0, u1⟩ := iota_mem.mp a
      exact inj u k u0 u1 k0 k1 (by rw [e]; simpa using b)
    · rintro rfl
      exact ⟨hk, by simpa using e⟩
  have nd : ((iota n).map f).Nodup := by
    unfold List.Nodup
    rw [List.pairwise_map]
    refine List.Pairwise.imp_of_mem ?_ (iota_pw n)
    intro a b ha hb h e
    obtain ⟨a0, a1⟩ := iota_mem.mp ha
    obtain ⟨b0, b1⟩ := iota_mem.mp hb
    have := inj a b a0 a1 b0 b1 e
    omega
  let h := fun v => (grp f (iota n) v).headD 0
  have hh : ∀ v ∈ sortU ((iota n).map f), f (h v) = v ∧ h v ∈ iota n ∧ grp f (iota n) v = [h v] := by
    intro v hv
    obtain ⟨k, a, b, c⟩ := one v hv
    have e : h v = k := by
      show (grp f (iota n) v).headD 0 = k
      rw [c]; rfl
    rw [e]; exact ⟨b, a, c⟩
  refine ⟨(sortU ((iota n).map f)).map h, ?_, fun k => ?_, ?_, ?_⟩
  · rw [List.length_map, sortU_lenE nd, List.length_map, iota_len]
  · rw [List.mem_map]
    constructor
    · rintro ⟨v, hv, rfl⟩
      exact iota_mem.mp (hh v hv).2.1
    · intro hk
      have hm : f k ∈ sortU ((iota n).map f) := sortU_mem.mpr (List.mem_map.mpr ⟨k, iota_mem.mpr hk, rfl⟩)
      refine ⟨f k, hm, ?_⟩
      obtain ⟨a, b, _⟩ := hh _ hm
      obtain ⟨b0, b1⟩ := iota_mem.mp b
      exact inj _ _ b0 b1 hk.1 hk.2 a
  · rw [List.map_map]
    have e : (sortU ((iota n).map f)).map (f ∘ h) = sortU ((iota n).map f) := by
      conv => rhs; rw [← List.map_id (sortU ((iota n).map f))]
      exact List.map_congr_left fun v hv => (hh v hv).1
    rw [e]
    exact sortU_pw _
  · unfold Mt.ord
    rw [List.map_map]
    exact List.map_congr_left fun v hv => (hh v hv).2.2
section
variable {f : Int → Int} {y : Int} {n : Nat} {l : List Int}
theorem Row.get (T : Row f n l) {i : Nat} (hi : i < n) : ∃ k, l[i]? = some k ∧ 0 ≤ k ∧ k < n := by
  have h : i < l.length := by rw [T.len]; exact hi
  refine ⟨l[i], List.getElem?_eq_getElem h, ?_⟩
  exact (T.mem _).mp (List.getElem_mem h)
theorem Row.at (T : Row f n l) {k : Int} (k0 : 0 ≤ k) (k1 : k < n) : ∃ i, i < n ∧ l[i]? = some k := by
  obtain ⟨i, hi, e⟩ := List.mem_iff_getElem.mp ((T.mem k).mpr ⟨k0, k1⟩)
  exact ⟨i, by rw [← T.len]; exact hi, by rw [List.getElem?_eq_getElem hi, e]⟩
theorem Row.lt (T : Row f n l) {i j : Nat} {u v : Int} (hi : l[i]? = some u) (hj : l[j]? = some v) (h : i < j) : f u < f v := by
  obtain ⟨h1, e1⟩ := List.getElem?_eq_some_iff.mp hi
  obtain ⟨h2, e2⟩ := List.getElem?_eq_some_iff.mp hj
  subst e1 e2
  have p := List.pairwise_iff_getElem.mp (List.pairwise_map.mp T.up)
  exact p i j h1 h2 h
theorem Row.le (T : Row f n l) {i j : Nat} {u v : Int} (hi : l[i]? = some u) (hj : l[j]? = some v) (h : i ≤ j) : f u ≤ f v := by
  rcases Nat.lt_or_eq_of_le h with c | c
  · exact Int.le_of_lt (T.lt hi hj c)
  · subst c; rw [hi] at hj; cases hj; exact Int.le_refl _
theorem Row.zero (T : Row f n l) (R : Rim f y n) (n0 : 0 < n) : l[0]? = some 0 := by
  obtain ⟨k, hk, k0, k1⟩ := T.get n0
  obtain ⟨i, hi, e⟩ := T.at (k := 0) (by omega) (by omega)
  have h := T.le hk e (Nat.zero_le i)
  have h0 := R.f0
  have h1 := R.r k
  have := R.one k0 k1 (Int.le_refl 0) (by omega) (by omega)
  rw [hk, this]
/-- the first and the last one -/
theorem Row.ends (T : Row f n l) (R : Rim f y n) (n2 : 2 ≤ n) {A B : Int} (hA : l[1]? = some A) (hB : l[n - 1]? = some B) : 0 < A ∧ A < n ∧ 0 < B ∧ B < n ∧ (∀ k : Int, 0 < k → k < n → f A ≤ f k) ∧ ∀ k : Int, 0 < k → k < n → f k ≤ f B := by
  have h0 := T.zero R (by omega)
  have z := R.f0
  have mA := (T.mem A).mp (List.mem_of_getElem? hA)
  have mB := (T.mem B).mp (List.mem_of_getElem? hB)
  have lA := T.lt h0 hA (by omega)
  have lB := T.lt h0 hB (by omega)
  refine ⟨?_, mA.2, ?_, mB.2, fun k k0 k1 => ?_, fun k k0 k1 => ?_⟩
  · rcases Int.lt_or_le 0 A with c | c
    · exact c
    · have : A = 0 := by omega
      rw [this] at lA; omega
  · rcases Int.lt_or_le 0 B with c | c
    · exact c
    · have : B = 0 := by omega
      rw [this] at lB; omega
  · obtain ⟨i, hi, e⟩ := T.at (k := k) (by omega) k1
    refine T.le hA e ?_
    rcases Nat.eq_zero_or_pos i with c | c
    · subst c; rw [h0] at e; cases e; omega
    · exact c
  · obtain ⟨i, hi, e⟩ := T.at (k := k) (by omega) k1
    exact T.le e hB (by omega)
/-- what follows in the row is met first -/
theorem Row.next (T : Row f n l) (R : Rim f y n) (n2 : 2 ≤ n) {j : Nat} (hj : j < n) {k m : Int} (hk : l[j]? = some k) (hm : l[(j + 1) % n]? = some m) : Nx f n k m := by
  have mk := (T.mem k).mp (List.mem_of_getElem? hk)
  have mm := (T.mem m).mp (List.mem_of_getElem? hm)
  have rk := R.r k
  have rm := R.r m
  rcases Nat.lt_or_ge (j + 1) n with c | c
  · rw [Nat.mod_eq_of_lt c] at hm
    have lt := T.lt hk hm (by omega)
    refine ⟨mm.1, mm.2, fun e => by rw [e] at lt; omega, fun i i0 i1 i2 => ?_⟩
    obtain ⟨a, ha, e⟩ := T.at i0 i1
    have s1 := R.s m k
    have r1 := R.r (m - k)
    have s2 := R.s i k
    have r2 := R.r (i - k)
    have ri := R.r i
    rcases Nat.lt_or_ge j a with d | d
    · have := T.le hm e (by omega)
      omega
    · have := T.le e hk d
      have : f i ≠ f k := fun z => i2 (R.one i0 i1 mk.1 mk.2 z)
      omega
  · have e1 : j + 1 = n := by omega
    rw [e1, Nat.mod_self] at hm
    rw [T.zero R (by omega)] at hm
    cases hm
    have h0 := T.zero R (by omega)
    have lt := T.lt h0 hk (by omega)
    have z := R.f0
    refine ⟨by omega, by omega, fun e => by rw [← e] at lt; omega, fun i i0 i1 i2 => ?_⟩
    obtain ⟨a, ha, e⟩ := T.at i0 i1
    have le := T.le e hk (by omega)
    have : f i ≠ f k := fun z => i2 (R.one i0 i1 mk.1 mk.2 z)
    have s1 := R.s 0 k
    have r1 := R.r (0 - k)
    have s2 := R.s i k
    have r2 := R.r (i - k)
    have ri := R.r i
    omega
end
end Mt
set_option Elab.async false
set_option linter.all false
set_option maxRecDepth 100000
set_option maxHeartbeats 4000000
namespace My.R
open My.O PySem PySem.Spec PyProof.Rows L2 Gn Mt
/-! ranks: the marks beside 0, the next and the last one -/
abbrev sNext : Stmt := top 29
abbrev sLast : Stmt := top 30
abbrev sBehind : Stmt := top 35
abbrev sChCount : Stmt := top 36
abbrev sChMark : Stmt := top 37
abbrev sMany : Stmt := top 39
abbrev sBeside : Stmt := top 40
theorem scNext : FnScope ["step", "count", "mark", "many", "first", "last"] ["step", "count", "mark"] (defScope sNext) := ⟨rfl, rfl, rfl, by decide +kernel, rfl, by decide +kernel, by decide +kernel⟩
theorem scLast : FnScope ["step", "count", "mark", "many", "first", "last"] ["step", "count", "mark"] (defScope sLast) := ⟨rfl, rfl, rfl, by decide +kernel, rfl, by decide +kernel, by decide +kernel⟩
theorem scBehind : FnScope ["mark", "many", "first", "last"] ["mark", "many", "first", "last"] (defScope sBehind) := ⟨rfl, rfl, rfl, by decide +kernel, rfl, by decide +kernel, by decide +kernel⟩
theorem scChCount : FnScope ["step", "count"] ["step", "count"] (defScope sChCount) := ⟨rfl, rfl, rfl, by decide +kernel, rfl, by decide +kernel, by decide +kernel⟩
theorem scChMark : FnScope ["step", "count", "mark"] ["step", "count", "mark"] (defScope sChMark) := ⟨rfl, rfl, rfl, by decide +kernel, rfl, by decide +kernel, by decide +kernel⟩
theorem scMany : FnScope ["step", "count"] ["step", "count"] (defScope sMany) := ⟨rfl, rfl, rfl, by decide +kernel, rfl, by decide +kernel, by decide +kernel⟩
theorem scBeside : FnScope ["step", "many", "top", "bottom", "low", "far_low", "high", "far_high", "times"] ["step", "many"] (defScope sBeside) := ⟨rfl, rfl, rfl, by decide +kernel, rfl, by decide +kernel, by decide +kernel⟩
theorem min_if {i j : Int} : (if j < i then j else i) = min i j := by
  rw [Int.min_def]; split <;> split <;> omega
theorem step_pos {x y : Int} (st : IsStep x y) (h : 2 ≤ y) : 0 < x := by
  have x0 := st.x0
  rcases Int.lt_or_eq_of_le x0 with c | c
  · exact c
  · have co := st.co
    rw [← c] at co
    rw [Int.natAbs_zero, Nat.gcd_zero_left] at co
    omega
def spChCount : Sp := fun vs H Q _ => ∃ (t : Addr) (x y n : Int), vs = [.ref t, .int n] ∧ StepAt H t x y ∧ 1 ≤ n ∧ n ≤ 10 ^ 30 ∧ Q .non H
def spChMark : Sp := fun vs H Q _ => ∃ (t : Addr) (x y n k : Int), vs = [.ref t, .int n, .int k] ∧ StepAt H t x y ∧ 1 ≤ n ∧ n ≤ 10 ^ 30 ∧ 0 ≤ k ∧ k < n ∧ Q .non H
def spMany : Sp := fun vs H Q _ => ∃ (t : Addr) (x y n : Int), vs = [.ref t, .int n] ∧ StepAt H t x y ∧ Q (.int (min n y)) H
def spBehind : Sp := fun vs H Q _ => ∃ (k n a b : Int), vs = [.int k, .int n, .int a, .int b] ∧ Q (.int (behind n a b k)) H
def spBeside : Sp := fun vs H Q _ => ∃ (t : Addr) (x y n : Int), vs = [.ref t, .int n] ∧ StepAt H t x y ∧ y.natAbs < 2 ^ 100 ∧ 2 ≤ n ∧ n ≤ y ∧
  ∀ low fl high fh p q r H', Side x y n low fl high fh p q → n ≤ low + high → Same H H' → H r = none → H' r = some (.tup [.int low, .int high]) → Q (.ref r) H'
def spNext : Sp := fun vs H Q _ => ∃ (t : Addr) (x y n k : Int), vs = [.ref t, .int n, .int k] ∧ StepAt H t x y ∧ y.natAbs < 2 ^ 100 ∧ 1 ≤ n ∧ n ≤ 10 ^ 30 ∧ 0 ≤ k ∧ k < n ∧ (min n y = 1 → Q .non H) ∧
  (2 ≤ min n y → ∀ m H', Same H H' → Nx (fun k => x * k % y) (min n y) (k % y) m → Q (.int m) H')
def spLast : Sp := fun vs H Q _ => ∃ (t : Addr) (x y n k : Int), vs = [.ref t, .int n, .int k] ∧ StepAt H t x y ∧ y.natAbs < 2 ^ 100 ∧ 1 ≤ n ∧ n ≤ 10 ^ 30 ∧ 0 ≤ k ∧ k < n ∧ (min n y = 1 → Q .non H) ∧
  (2 ≤ min n y → ∀ m H', Same H H' → Pv (fun k => x * k % y) (min n y) (k % y) m → Q (.int m) H')
section
variable {P : Program} {w : World} {K : PySem.W.Frag} {mg : Str → Option Value} {base : Heap}
/-- what ranks asks of the module -/
structure Rk (K : PySem.W.Frag) (mg : Str → Option Value) where
  c : Bc mg
  min : mg "min" = none
  mc : ∃ tk, mg "MOST_COUNT" = some (.int (10 ^ 30) tk)
  fi : Addr × FuncData
  fr : Addr × FuncData
  fs : Addr × FuncData
  fc : Addr × FuncData
  fm : Addr × FuncData
  fn : Addr × FuncData
  gb : Addr × FuncData
  gc : Addr × FuncData
  gk : Addr × FuncData
  gm : Addr × FuncData
  gz : Addr × FuncData
  di : Df K mg "is_integer" sIsInt ["given"] fi.1 fi.2
  dr : Df K mg "is_fraction" sIsFr ["given"] fr.1 fr.2
  ds : Df K mg "is_step" sIsStep ["given"] fs.1 fs.2
  dc : Df K mg "check_step" sChStep ["given"] fc.1 fc.2
  dm : Df K mg "is_number" sIsNum ["given", "least", "most"] fm.1 fm.2
  dn : Df K mg "check_number" sChNum ["given", "least", "most"] fn.1 fn.2
  eb : Df K mg "mark_behind" sBehind ["mark", "many", "first", "last"] gb.1 gb.2
  ec : Df K mg "_check_count" sChCount ["step", "count"] gc.1 gc.2
  ek : Df K mg "_check_mark" sChMark ["step", "count", "mark"] gk.1 gk.2
  em : Df K mg "_how_many_places" sMany ["step", "count"] gm.1 gm.2
  ez : Df K mg "_beside_zero" sBeside ["step", "many"] gz.1 gz.2
theorem ok_chCount {f : Addr} {fd : FuncData} (F : Fun K "_check_count" "_check_count" sChCount f fd) (M : Rk K mg) : FnOk P w K mg base CX0 5 f fd ["step", "count"] spChCount := by
  have GC : FnOk P w K mg base CX0 4 M.fc.1 M.fc.2 ["given"] (spIsSt .non) := ok_chStep M.dc.F M.c M.di M.dr M.ds
  have GN : FnOk P w K mg base CX0 3 M.fn.1 M.fn.2 ["given", "least", "most"] spChNum := ok_chNum M.dn.F M.c M.di M.dm
  refine F.ok scChCount (fun vs H Q E h => ?_) (fun cdv A outer s H vs Q E hr h => ?_)
  · obtain ⟨t, x, y, n, rfl, _⟩ := h
    rfl
  · obtain ⟨t, x, y, n, rfl, st, n1, n2, q⟩ := h
    obtain ⟨tk, hmc⟩ := M.mc
    have hr3 : Room 3 _ := hr.mono (by decide)
    refine ⟨_, pss_cons (ps_expr (pe_call GC hr (by rfl) M.dc.g M.dc.F.kp M.dc.b .nil pass0 (pa_cons (pv 0) pa_nil)))
      (pss_one (ps_expr (pe_call GN hr3 (by rfl) M.dn.g M.dn.F.kp M.dn.b .nil pass0 (pa_cons (pv 1) (pa_cons pe_int (pa_cons (pe_glob (v := .int (10 ^ 30)) rfl hmc ⟨_, rfl⟩) pa_nil)))))), ?_⟩
    exact ⟨_, rfl, t, x, y, rfl, st, _, rfl, n, 1, 10 ^ 30, rfl, n1, n2, q⟩
theorem ok_chMark {f : Addr} {fd : FuncData} (F : Fun K "_check_mark" "_check_mark" sChMark f fd) (M : Rk K mg) : FnOk P w K mg base CX0 6 f fd ["step", "count", "mark"] spChMark := by
  have GC : FnOk P w K mg base CX0 5 M.gc.1 M.gc.2 ["step", "count"] spChCount := ok_chCount M.ec.F M
  have GN : FnOk P w K mg base CX0 3 M.fn.1 M.fn.2 ["given", "least", "most"] spChNum := ok_chNum M.dn.F M.c M.di M.dm
  refine F.ok scChMark (fun vs H Q E h => ?_) (fun cdv A outer s H vs Q E hr h => ?_)
  · obtain ⟨t, x, y, n, k, rfl, _⟩ := h
    rfl
  · obtain ⟨t, x, y, n, k, rfl, st, n1, n2, k0, k1, q⟩ := h
    have hr3 : Room 3 _ := hr.mono (by decide)
    refine ⟨_, pss_cons (ps_expr (pe_call GC hr (by rfl) M.ec.g M.ec.F.kp M.ec.b .nil pass0 (pa_cons (pv 0) (pa_cons (pv 1) pa_nil))))
      (pss_one (ps_expr (pe_call GN hr3 (by rfl) M.dn.g M.dn.F.kp M.dn.b .nil pass0 (pa_cons (pv 2) (pa_cons pe_int (pa_cons (pe_op op_sub (pv 1) pe_int) pa_nil)))))), ?_⟩
    exact ⟨_, rfl, _, rfl, t, x, y, n, rfl, st, n1, n2, _, rfl, _, rfl, _, _, rfl, rfl, k, 0, n - 1, rfl, k0, by omega, q⟩
theorem ok_many {f : Addr} {fd : FuncData} (F : Fun K "_how_many_places" "_how_many_places" sMany f fd) (M : Rk K mg) : FnOk P w K mg base CX0 1 f fd ["step", "count"] spMany := by
  refine F.ok scMany (fun vs H Q E h => ?_) (fun cdv A outer s H vs Q E hr h => ?_)
  · obtain ⟨t, x, y, n, rfl, _⟩ := h
    rfl
  · obtain ⟨t, x, y, n, rfl, ⟨hT, st⟩, q⟩ := h
    refine ⟨_, pss_one (ps_ret (pe_callB (call_min2 rfl) (by rfl) M.min (by decide +kernel) (pa_cons (pv 1) (pa_cons (pe_ix ix_tup (pv 0) pe_int (fun _ _ => rfl)) pa_nil)))), ?_⟩
    refine ⟨_, rfl, _, rfl, t, _, 1, .int y, rfl, rfl, SqT.of hT, at_of (j := 1) rfl rfl, _, _, rfl, ?_⟩
    rw [min_if]
    exact q
theorem ok_behind {f : Addr} {fd : FuncData} (F : Fun K "mark_behind" "mark_behind" sBehind f fd) : FnOk P w K mg base CX0 1 f fd ["mark", "many", "first", "last"] spBehind := by
  refine F.ok scBehind (fun vs H Q E h => ?_) (fun cdv A outer s H vs Q E hr h => ?_)
  · obtain ⟨k, n, a, b, rfl, _⟩ := h
    rfl
  · obtain ⟨k, n, a, b, rfl, q⟩ := h
    refine ⟨_, pss_cons (ps_if (pt_cmpR op_lt (pv 0) (pe_op op_sub (pv 1) (pv 2)) (nomark _)) (pss_one (ps_ret (pe_op op_add (pv 0) (pv 2)))) pss_nil)
      (pss_cons (ps_if (pt_cmpR op_ge (pv 0) (pv 3) (nomark _)) (pss_one (ps_ret (pe_op op_sub (pv 0) (pv 3)))) pss_nil)
      (pss_one (ps_ret (pe_op op_sub (pe_op op_add (pv 0) (pv 2)) (pv 3))))), ?_⟩
    unfold behind at q
    refine ⟨_, rfl, _, rfl, _, rfl, _, _, rfl, rfl, _, _, rfl, rfl, _, rfl, ?_⟩
    refine ite2 (fun hc => ?_) (fun hc => ?_)
    · rw [if_pos (of_decide_eq_true hc)] at q
      exact ⟨_, rfl, _, rfl, _, _, rfl, rfl, q⟩
    · rw [if_neg (fun z => hc (decide_eq_true z))] at q
      refine ⟨_, rfl, _, rfl, _, _, rfl, rfl, _, rfl, ?_⟩
      refine ite2 (fun hd => ?_) (fun hd => ?_)
      · rw [if_pos (of_decide_eq_true hd)] at q
        exact ⟨_, rfl, _, rfl, _, _, rfl, rfl, q⟩
      · rw [if_neg (fun z => hd (decide_eq_true z))] at q
        exact ⟨_, rfl, _, rfl, _, _, rfl, rfl, _, rfl, _, _, rfl, rfl, q⟩
theorem ok_beside {f : Addr} {fd : FuncData} (F : Fun K "_beside_zero" "_beside_zero" sBeside f fd) (M : Rk K mg) : FnOk P w K mg base CX0 1 f fd ["step", "many"] spBeside := by
  refine F.ok scBeside (fun vs H Q E h => ?_) (fun cdv A outer s H vs Q E hr h => ?_)
  · obtain ⟨t, x, y, n, rfl, _⟩ := h
    rfl
  · obtain ⟨t, x, y, n, rfl, ⟨hT, st⟩, yb, n2, ny, q⟩ := h
    refine ⟨_, pss_cons (ps_asg (pv 0) (pg_tup (by rfl) (pgs_cons (pg_name (i := 2) scBeside.nd rfl (.inl rfl)) (pgs_cons (pg_name (i := 3) scBeside.nd rfl (.inl rfl)) pgs_nil))))
      (pss_cons (ps_asg (pe_tup (pa_cons pe_int (pa_cons (pv 2) (pa_cons pe_int (pa_cons (pe_op op_sub (pv 3) (pv 2)) pa_nil)))))
        (pg_tup (by rfl) (pgs_cons (pg_name (i := 4) scBeside.nd rfl (.inl rfl)) (pgs_cons (pg_name (i := 5) scBeside.nd rfl (.inl rfl)) (pgs_cons (pg_name (i := 6) scBeside.nd rfl (.inl rfl)) (pgs_cons (pg_name (i := 7) scBeside.nd rfl (.inl rfl)) pgs_nil))))))
      (pss_cons (ps_while PassesOwn.never (pt_cmpR op_lt (pe_op op_add (pv 4) (pv 6)) (pv 1) (nomark _))
        (pss_cons (ps_set (i := 8) scBeside.nd rfl (.inl rfl) (pe_callB (call_min2 rfl) (by rfl) M.min (by decide +kernel) (pa_cons (pe_op op_fdivW (pv 5) (pv 7)) (pa_cons (pe_op op_fdivW (pe_op op_sub (pe_op op_sub (pv 1) pe_int) (pv 4)) (pv 6)) pa_nil))))
        (pss_cons (ps_par (i := 4) (j := 5) (by rfl) scBeside.nd rfl rfl (by decide) rfl rfl (pa_cons (pe_op op_add (pv 4) (pe_op op_mulW (pv 8) (pv 6))) (pa_cons (pe_op op_sub (pv 5) (pe_op op_mulW (pv 8) (pv 7))) pa_nil)) (by rfl))
        (pss_cons (ps_set (i := 8) scBeside.nd rfl (.inl rfl) (pe_callB (call_min2 rfl) (by rfl) M.min (by decide +kernel) (pa_cons (pe_op op_fdivW (pv 7) (pv 5)) (pa_cons (pe_op op_fdivW (pe_op op_sub (pe_op op_sub (pv 1) pe_int) (pv 6)) (pv 4)) pa_nil))))
        (pss_one (ps_par (i := 6) (j := 7) (by rfl) scBeside.nd rfl rfl (by decide) rfl rfl (pa_cons (pe_op op_add (pv 6) (pe_op op_mulW (pv 8) (pv 4))) (pa_cons (pe_op op_sub (pv 7) (pe_op op_mulW (pv 8) (pv 5))) pa_nil)) (by rfl)))))))
      (pss_one (ps_ret (pe_tup (pa_cons (pv 4) (pa_cons (pv 6) pa_nil))))))), ?_⟩
    have x0 := step_pos st (by omega)
    have co := st.co
    refine ⟨_, rfl, t, _, rfl, SqT.of hT, rfl, _, _, rfl, _, _, rfl, rfl, ?_⟩
    refine ⟨_, rfl, _, rfl, _, rfl, _, _, rfl, rfl, (by show 4 ≤ sizeLine; decide), fun l hl => ?_⟩
    have s1 : Same H (upd H l (.tup [.int 1, .int x, .int 1, .int (y - x)])) := same_put hl
    refine ⟨l, _, rfl, SqT.of upd_same, rfl, _, _, rfl, _, _, rfl, _, _, rfl, _, _, rfl, rfl, ?_⟩
    refine while_by (fun σ H' => ∃ (low fl high fh : Int) (tm : Option V), σ = [some (.ref t), some (.int n), some (.int x), some (.int y), some (.int low), some (.int fl), some (.int high), some (.int fh), tm] ∧ (∃ p q, Side x y n low fl high fh p q) ∧ H' = upd H l (.tup [.int 1, .int x, .int 1, .int (y - x)]))
      (fun σ _ => match σ with | [_, some (.int n), _, _, some (.int lo), _, some (.int hi), _, _] => (2 * n - lo - hi).toNat | _ => 0) ⟨1, x, 1, y - x, none, rfl, ⟨0, 1, Side.start x0 st.xy n2⟩, rfl⟩ ?_ ?_
    · rintro σ H' ⟨low, fl, high, fh, tm, rfl, ⟨p, p', S⟩, rfl⟩
      have l0 := S.l0
      have l1 := S.l1
      have h0 := S.h0
      have h1 := S.h1
      have f0 := S.fl0
      have f1 := S.fh0
      have fy := S.fly
      refine ⟨_, rfl, _, rfl, _, _, rfl, rfl, _, rfl, _, _, rfl, rfl, _, rfl, ?_⟩
      refine ite2 (fun hc => ?_) (fun hc => ?_)
      · have go : low + high < n := of_decide_eq_true hc
        have big : ∀ k : Int, 0 ≤ k → k ≤ y → k.natAbs < 2 ^ 100 := fun k a b => Nat.lt_of_le_of_lt (show k.natAbs ≤ y.natAbs by omega) yb
        obtain ⟨w1, w2, w3, w4⟩ := times_ok (a := fl) (c := n - 1 - low) f1 h0 (by omega) (by omega)
        refine ⟨_, rfl, _, rfl, _, _, rfl, rfl, wide_div f1 (big fh (by omega) (by omega)) (by decide) (by decide), _, rfl, _, _, rfl, rfl, _, rfl, _, _, rfl, rfl, _, rfl, _, _, rfl, rfl, wide_div h0 (big high (by omega) (by omega)) (by decide) (by decide), _, _, rfl, ?_⟩
        rw [min_if]
        have T := S.turn co ny go rfl rfl
        have b1 : min (fl / fh) ((n - 1 - low) / high) ≤ fl := by
          have := Int.mul_le_mul_of_nonneg_left (show 1 ≤ fh by omega) w1
          omega
        have S1 := S.low co ny w1 w2 w3
        generalize min (fl / fh) ((n - 1 - low) / high) = t1 at *
        have l2 := S1.l0
        have l3 := S1.l1
        have g0 := S1.fl0
        have gy := S1.fly
        refine ⟨_, rfl, _, rfl, _, rfl, _, _, rfl, rfl, wide_mul (big t1 w1 (by omega)) (big high (by omega) (by omega)) (by decide) (by decide) (by decide), _, _, rfl, rfl, _, rfl, _, rfl, _, rfl, _, _, rfl, rfl, wide_mul (big t1 w1 (by omega)) (big fh (by omega) (by omega)) (by decide) (by decide) (by decide), _, _, rfl, rfl, _, _, rfl, ?_⟩
        obtain ⟨v1, v2, v3, v4⟩ := times_ok (a := fh) (c := n - 1 - high) g0 l2 (by omega) (by omega)
        refine ⟨_, rfl, _, rfl, _, _, rfl, rfl, wide_div g0 (big (fl - t1 * fh) (by omega) (by omega)) (by decide) (by decide), _, rfl, _, _, rfl, rfl, _, rfl, _, _, rfl, rfl, _, rfl, _, _, rfl, rfl, wide_div l2 (big (low + t1 * high) (by omega) (by omega)) (by decide) (by decide), _, _, rfl, ?_⟩
        rw [min_if]
        have b2 : min (fh / (fl - t1 * fh)) ((n - 1 - high) / (low + t1 * high)) ≤ fh := by
          have := Int.mul_le_mul_of_nonneg_left (show 1 ≤ fl - t1 * fh by omega) v1
          omega
        generalize min (fh / (fl - t1 * fh)) ((n - 1 - high) / (low + t1 * high)) = t2 at *
        refine ⟨_, rfl, _, rfl, _, rfl, _, _, rfl, rfl, wide_mul (big t2 v1 (by omega)) (big (low + t1 * high) (by omega) (by omega)) (by decide) (by decide) (by decide), _, _, rfl, rfl, _, rfl, _, rfl, _, rfl, _, _, rfl, rfl, wide_mul (big t2 v1 (by omega)) (big (fl - t1 * fh) (by omega) (by omega)) (by decide) (by decide) (by decide), _, _, rfl, rfl, _, _, rfl, ?_⟩
        obtain ⟨SS, m1, m2, m3⟩ := T
        refine ⟨⟨_, _, _, _, _, rfl, SS, rfl⟩, ?_⟩
        show (2 * n - (low + t1 * high) - (high + t2 * (low + t1 * high))).toNat < (2 * n - low - high).toNat
        omega
      · have e : n ≤ low + high := by
          have : ¬ low + high < n := fun z => hc (decide_eq_true z)
          omega
        refine ⟨_, rfl, _, rfl, (by show 2 ≤ sizeLine; decide), fun r hr' => ?_⟩
        exact q low fl high fh p p' r _ S e (s1.trans (same_put hr')) (s1.free hr') upd_same
    · rintro σ H' Q1 Q2 mo ⟨a, e1, b, e2, i, j, e3, e4, c, e5, k, l, e6, e7, d, e8, h⟩
      exact ⟨a, e1, b, e2, i, j, e3, e4, c, e5, k, l, e6, e7, d, e8, mo _ _ h⟩
theorem fmod_pos {k y : Int} (h : 0 < y) : k.fmod y = k % y := Int.fmod_eq_emod_of_nonneg _ (by omega)
theorem ok_next {f : Addr} {fd : FuncData} (F : Fun K "next_mark" "next_mark" sNext f fd) (M : Rk K mg) : FnOk P w K mg base CX0 7 f fd ["step", "count", "mark"] spNext := by
  have GC : FnOk P w K mg base CX0 6 M.gk.1 M.gk.2 ["step", "count", "mark"] spChMark := ok_chMark M.ek.F M
  have GM : FnOk P w K mg base CX0 1 M.gm.1 M.gm.2 ["step", "count"] spMany := ok_many M.em.F M
  have GZ : FnOk P w K mg base CX0 1 M.gz.1 M.gz.2 ["step", "many"] spBeside := ok_beside M.ez.F M
  have GB : FnOk P w K mg base CX0 1 M.gb.1 M.gb.2 ["mark", "many", "first", "last"] spBehind := ok_behind M.eb.F
  refine F.ok scNext (fun vs H Q E h => ?_) (fun cdv A outer s H vs Q E hr h => ?_)
  · obtain ⟨t, x, y, n, k, rfl, _⟩ := h
    rfl
  · obtain ⟨t, x, y, n, k, rfl, ⟨hT, st⟩, yb, n1, n30, k0, k1, q0, q⟩ := h
    have hr1 : Room 1 _ := hr.mono (by decide)
    refine ⟨_, pss_cons (ps_expr (pe_call GC hr (by rfl) M.ek.g M.ek.F.kp M.ek.b .nil pass0 (pa_cons (pv 0) (pa_cons (pv 1) (pa_cons (pv 2) pa_nil)))))
      (pss_cons (ps_set (i := 3) scNext.nd rfl (.inl rfl) (pe_call GM hr1 (by rfl) M.em.g M.em.F.kp M.em.b .nil pass0 (pa_cons (pv 0) (pa_cons (pv 1) pa_nil))))
      (pss_cons (ps_if (pt_cmpR op_eq (pv 3) pe_int (nomark _)) (pss_one (ps_ret pe_non)) pss_nil)
      (pss_cons (ps_asg (pe_call GZ hr1 (by rfl) M.ez.g M.ez.F.kp M.ez.b .nil pass0 (pa_cons (pv 0) (pa_cons (pv 3) pa_nil))) (pg_tup (by rfl) (pgs_cons (pg_name (i := 4) scNext.nd rfl (.inl rfl)) (pgs_cons (pg_name (i := 5) scNext.nd rfl (.inl rfl)) pgs_nil))))
      (pss_one (ps_ret (pe_call GB hr1 (by rfl) M.eb.g M.eb.F.kp M.eb.b .nil pass0 (pa_cons (pe_op op_modN (pv 2) (pe_ix ix_tup (pv 0) pe_int (fun _ _ => rfl))) (pa_cons (pv 3) (pa_cons (pv 4) (pa_cons (pv 5) pa_nil)))))))))), ?_⟩
    have y0 : 0 < y := by have := st.x0; have := st.xy; omega
    have N1 : 1 ≤ min n y := by rw [Int.min_def]; split <;> omega
    have Ny : min n y ≤ y := Int.min_le_right _ _
    have Nn : min n y ≤ n := Int.min_le_left _ _
    refine ⟨_, rfl, _, rfl, _, rfl, t, x, y, n, k, rfl, ⟨hT, st⟩, n1, n30, k0, k1, ?_⟩
    refine ⟨_, rfl, _, rfl, t, x, y, n, rfl, ⟨hT, st⟩, ?_⟩
    have kN : k % y < min n y := by
      have h1 := Int.emod_lt_of_pos k y0
      have h2 : k % y ≤ k := by
        rcases Int.lt_or_le k y with c | c
        · rw [Int.emod_eq_of_lt k0 c]; exact Int.le_refl _
        · omega
      rw [Int.min_def]; split <;> omega
    generalize min n y = N at *
    refine ⟨_, rfl, rfl, _, rfl, ?_⟩
    refine ite2 (fun hc => q0 (by injection (of_decide_eq_true hc))) (fun hc => ?_)
    have N2 : 2 ≤ N := by
      have : N ≠ 1 := fun e => hc (decide_eq_true (by rw [e]))
      omega
    have q := q N2
    refine ⟨_, rfl, _, rfl, t, x, y, N, rfl, ⟨hT, st⟩, yb, N2, Ny, fun low fl high fh p p' r H1 S e s1 hr0 hR => ?_⟩
    refine ⟨r, _, rfl, SqT.of hR, rfl, _, _, rfl, _, _, rfl, rfl, ?_⟩
    refine ⟨_, rfl, _, rfl, t, _, 1, .int y, rfl, rfl, SqT.of (s1 _ _ hT), at_of (j := 1) rfl rfl, _, _, rfl, rfl, (show y ≠ 0 by omega), _, rfl, _, rfl, _, rfl, _, _, _, _, rfl, ?_⟩
    rw [fmod_pos y0]
    have fd := S.found e
    exact q _ _ s1 (gap (rim_step y0 st.co Ny) S.l0 S.l1 S.h0 S.h1 fd.1 fd.2 (Int.emod_nonneg _ (by omega)) kN)
theorem ok_last {f : Addr} {fd : FuncData} (F : Fun K "last_mark" "last_mark" sLast f fd) (M : Rk K mg) : FnOk P w K mg base CX0 7 f fd ["step", "count", "mark"] spLast := by
  have GC : FnOk P w K mg base CX0 6 M.gk.1 M.gk.2 ["step", "count", "mark"] spChMark := ok_chMark M.ek.F M
  have GM : FnOk P w K mg base CX0 1 M.gm.1 M.gm.2 ["step", "count"] spMany := ok_many M.em.F M
  have GZ : FnOk P w K mg base CX0 1 M.gz.1 M.gz.2 ["step", "many"] spBeside := ok_beside M.ez.F M
  have GB : FnOk P w K mg base CX0 1 M.gb.1 M.gb.2 ["mark", "many", "first", "last"] spBehind := ok_behind M.eb.F
  refine F.ok scLast (fun vs H Q E h => ?_) (fun cdv A outer s H vs Q E hr h => ?_)
  · obtain ⟨t, x, y, n, k, rfl, _⟩ := h
    rfl
  · obtain ⟨t, x, y, n, k, rfl, ⟨hT, st⟩, yb, n1, n30, k0, k1, q0, q⟩ := h
    have hr1 : Room 1 _ := hr.mono (by decide)
    refine ⟨_, pss_cons (ps_expr (pe_call GC hr (by rfl) M.ek.g M.ek.F.kp M.ek.b .nil pass0 (pa_cons (pv 0) (pa_cons (pv 1) (pa_cons (pv 2) pa_nil)))))
      (pss_cons (ps_set (i := 3) scLast.nd rfl (.inl rfl) (pe_call GM hr1 (by rfl) M.em.g M.em.F.kp M.em.b .nil pass0 (pa_cons (pv 0) (pa_cons (pv 1) pa_nil))))
      (pss_cons (ps_if (pt_cmpR op_eq (pv 3) pe_int (nomark _)) (pss_one (ps_ret pe_non)) pss_nil)
      (pss_cons (ps_asg (pe_call GZ hr1 (by rfl) M.ez.g M.ez.F.kp M.ez.b .nil pass0 (pa_cons (pv 0) (pa_cons (pv 3) pa_nil))) (pg_tup (by rfl) (pgs_cons (pg_name (i := 4) scLast.nd rfl (.inl rfl)) (pgs_cons (pg_name (i := 5) scLast.nd rfl (.inl rfl)) pgs_nil))))
      (pss_one (ps_ret (pe_call GB hr1 (by rfl) M.eb.g M.eb.F.kp M.eb.b .nil pass0 (pa_cons (pe_op op_modN (pv 2) (pe_ix ix_tup (pv 0) pe_int (fun _ _ => rfl))) (pa_cons (pv 3) (pa_cons (pv 5) (pa_cons (pv 4) pa_nil)))))))))), ?_⟩
    have y0 : 0 < y := by have := st.x0; have := st.xy; omega
    have N1 : 1 ≤ min n y := by rw [Int.min_def]; split <;> omega
    have Ny : min n y ≤ y := Int.min_le_right _ _
    have Nn : min n y ≤ n := Int.min_le_left _ _
    refine ⟨_, rfl, _, rfl, _, rfl, t, x, y, n, k, rfl, ⟨hT, st⟩, n1, n30, k0, k1, ?_⟩
    refine ⟨_, rfl, _, rfl, t, x, y, n, rfl, ⟨hT, st⟩, ?_⟩
    have kN : k % y < min n y := by
      have h1 := Int.emod_lt_of_pos k y0
      have h2 : k % y ≤ k := by
        rcases Int.lt_or_le k y with c | c
        · rw [Int.emod_eq_of_lt k0 c]; exact Int.le_refl _
        · omega
      rw [Int.min_def]; split <;> omega
    generalize min n y = N at *
    refine ⟨_, rfl, rfl, _, rfl, ?_⟩
    refine ite2 (fun hc => q0 (by injection (of_decide_eq_true hc))) (fun hc => ?_)
    have N2 : 2 ≤ N := by
      have : N ≠ 1 := fun e => hc (decide_eq_true (by rw [e]))
      omega
    have q := q N2
    refine ⟨_, rfl, _, rfl, t, x, y, N, rfl, ⟨hT, st⟩, yb, N2, Ny, fun low fl high fh p p' r H1 S e s1 hr0 hR => ?_⟩
    refine ⟨r, _, rfl, SqT.of hR, rfl, _, _, rfl, _, _, rfl, rfl, ?_⟩
    refine ⟨_, rfl, _, rfl, t, _, 1, .int y, rfl, rfl, SqT.of (s1 _ _ hT), at_of (j := 1) rfl rfl, _, _, rfl, rfl, (show y ≠ 0 by omega), _, rfl, _, rfl, _, rfl, _, _, _, _, rfl, ?_⟩
    rw [fmod_pos y0]
    have fd := S.found e
    exact q _ _ s1 (gapB (rim_step y0 st.co Ny) S.l0 S.l1 S.h0 S.h1 fd.1 fd.2 (Int.emod_nonneg _ (by omega)) kN)
end
end My.R
set_option Elab.async false
set_option linter.all false
set_option maxRecDepth 100000
set_option maxHeartbeats 4000000
namespace Gn
open PySem PySem.Spec PyProof.Rows L2
/-! keywords in the contrary order, all of them -/
def kwR {α : Type} : List α → List α → List α
  | [], ws => ws.reverse
  | _, _ => []
theorem kbR {K : PySem.W.Frag} {fd : FuncData} {ps ks : List Str} (hk : ks = ps.reverse) (h0 : 0 < ps.length) (h : ∀ ws : List Value, ws.length = ps.length → bindArgs fd ⟨[], ks.zip ws⟩ = pure (ps.zip ws.reverse)) : KBinds K fd ps ks kwR kwR :=
  ⟨fun s us ws _ hl => match us, hl with
    | [], hl => .of_eq (h ws (by rw [← hl]; show ws.length = ws.reverse.length; rw [List.length_reverse]))
    | _ :: _, hl => absurd hl (by show ¬ 0 = ps.length; omega), fun {vs us zs ws} r rz => by
    cases r with
    | nil => exact Vals.reverse rz
    | cons _ _ => exact .nil⟩
theorem kwOfR {K : PySem.W.Frag} {x qual : Str} {st : Stmt} {f : Addr} {fd : FuncData} {ps ks : List Str} (F : Fun K x qual st f fd) (hk : ks = ps.reverse) (h0 : 0 < ps.length)
    (h : ∀ (kV doc pm : Value) (an : Option Addr) (cdv ct : Value) (ws : List Value), ws.length = ps.length → bindArgs (PySem.W.fnOf x qual (defArgs st) (defBody st) (defScope st) .none kV doc pm an cdv ct) ⟨[], ks.zip ws⟩ = pure (ps.zip ws.reverse)) : KBinds K fd ps ks kwR kwR := by
  obtain ⟨oc, od, kV, doc, pm, an, cdv, ct, osl, rfl, lk, hcd⟩ := F.ex
  exact kbR hk h0 fun ws hl => h kV doc pm an cdv ct ws hl
/-- divmod by a positive divisor of any size -/
theorem call_divmodW {X : Cx} : CallR X (.builtin "divmod") (fun xs H Q => ∃ i j, xs = [.int i, .int j] ∧ CDivW i j ∧ ∀ p, H p = none → Q (.ref p) (upd H p (.tup [.int (i / j), .int (i % j)]))) := by
  intro pins s σ H xs us Q I r h
  obtain ⟨i, j, rfl, ⟨h1, h2⟩, q⟩ := h
  obtain ⟨u, w', rfl, ⟨t, rfl⟩, ⟨t', rfl⟩⟩ := vals2 r
  refine divmod_int (by omega) ?_ (.inl (PyProof.noPylong_of_log2 h2))
  rw [Int.fdiv_eq_ediv_of_nonneg i (by omega), Int.fmod_eq_emod_of_nonneg i (by omega)]
  have hn : H s.heap.objs.size = none := I.hok.fresh (Nat.le_refl _)
  refine ⟨.ref s.heap.objs.size, _, ?_, rfl, q _ hn⟩
  refine I.laid (fun b o e => Heap.get?_push_of_some _ e) (Nat.le_refl _) ⟨by simp only [List.length_cons, List.length_nil]; rw [sizeLine_eq]; decide, [.int (i / j) s.toks, .int (i % j) (s.toks + 1)], .cons ⟨_, rfl⟩ (.cons ⟨_, rfl⟩ .nil), ?_⟩
  exact ⟨_, Heap.get?_push_size s.heap rfl, rfl, 0, rfl⟩
end Gn
namespace Gn
open PySem PySem.Spec PyProof.Rows L2
theorem pair_eqv {a b c d : Int} : PyData.eqv (.tuple [.int a, .int b]) (.tuple [.int c, .int d]) = decide (a = c ∧ b = d) := by
  rw [Bool.eq_iff_iff]
  simp [PyData.eqv, PyData.eqvAll]
/-- either branch, what holds of either -/
theorem tIf_anyG {tt : TT} {ta tb : TE} {σ : L2.St} {H : Hp} {Q : VK} (Φ : V → Hp → Prop) (c : Bool) (ht : ∀ R : Bool → Hp → Prop, R c H → tt σ H R)
    (h1 : c = true → ∀ R : VK, (∀ v H', Φ v H' → R v H') → ta σ H R) (h2 : c = false → ∀ R : VK, (∀ v H', Φ v H' → R v H') → tb σ H R) (k : ∀ v H', Φ v H' → Q v H') : tIf tt ta tb σ H Q := by
  refine ht _ ?_
  cases c with
  | true => exact iteT (h1 rfl Q k)
  | false => exact iteF (h2 rfl Q k)
end Gn
namespace Gn
open PySem PySem.Spec PyProof.Rows L2
/-- either branch, what holds of either; all may make new objects -/
theorem tIf_same {tt : TT} {ta tb : TE} {σ : L2.St} {H : Hp} {Q : VK} (Φ : V → Hp → Prop) (c : Bool) (ht : ∀ R : Bool → Hp → Prop, (∀ H', Same H H' → R c H') → tt σ H R)
    (h1 : c = true → ∀ H', Same H H' → ∀ R : VK, (∀ v H2, Φ v H2 → R v H2) → ta σ H' R) (h2 : c = false → ∀ H', Same H H' → ∀ R : VK, (∀ v H2, Φ v H2 → R v H2) → tb σ H' R) (k : ∀ v H', Φ v H' → Q v H') : tIf tt ta tb σ H Q := by
  refine ht _ fun H' s => ?_
  cases c with
  | true => exact iteT (h1 rfl H' s Q k)
  | false => exact iteF (h2 rfl H' s Q k)
end Gn
set_option linter.all false
set_option maxRecDepth 100000
namespace Mt
/-! ranks: how many places are less than that of a mark -/
theorem filt_up {f : Int → Int} : ∀ {l : List Int} {i : Nat} {k : Int}, (l.map f).Pairwise (· < ·) → l[i]? = some k → (l.filter fun m => decide (f m < f k)).length = i
  | [], i, k, _, h => by simp at h
  | a :: l, 0, k, P, h => by
    rw [List.getElem?_cons_zero] at h
    cases h
    have P' := List.pairwise_cons.mp P
    rw [List.filter_cons_of_neg (by simp), List.filter_eq_nil_iff.mpr]
    · rfl
    · intro b hb
      have := P'.1 (f b) (List.mem_map.mpr ⟨b, hb, rfl⟩)
      simp
      omega
  | a :: l, i + 1, k, P, h => by
    rw [List.getElem?_cons_succ] at h
    have P' := List.pairwise_cons.mp P
    have := P'.1 (f k) (List.mem_map.mpr ⟨k, List.mem_of_getElem? h, rfl⟩)
    rw [List.filter_cons_of_pos (by simpa using this), List.length_cons, filt_up P'.2 h]
theorem filt_more {f : Int → Int} {t : Int} : ∀ {l : List Int} {i : Nat} {k : Int}, (l.map f).Pairwise (· < ·) → l[i]? = some k → f k < t → i < (l.filter fun m => decide (f m < t)).length
  | [], i, k, _, h, _ => by simp at h
  | a :: l, 0, k, P, h, g => by
    rw [List.getElem?_cons_zero] at h
    cases h
    rw [List.filter_cons_of_pos (by simpa using g), List.length_cons]
    omega
  | a :: l, i + 1, k, P, h, g => by
    rw [List.getElem?_cons_succ] at h
    have P' := List.pairwise_cons.mp P
    have := P'.1 (f k) (List.mem_map.mpr ⟨k, List.mem_of_getElem? h, rfl⟩)
    rw [List.filter_cons_of_pos (by simp; omega), List.length_cons]
    have := filt_more P'.2 h g
    omega
theorem below_filt (x y t : Int) (n : Nat) : below x y t n = (((iota n).filter fun m => decide (x * m % y < t)).length : Int) := by
  induction n with
  | zero => rfl
  | succ n ih =>
    show below x y t n + _ = _
    rw [iota_succ, List.filter_append, List.length_append, ih]
    by_cases c : x * (n : Int) % y < t
    · rw [if_pos c, List.filter_cons_of_pos (by simpa using c)]; simp
    · rw [if_neg c, List.filter_cons_of_neg (by simpa using c)]; simp
theorem below_mono {x y s t : Int} (h : s ≤ t) (n : Nat) : below x y s n ≤ below x y t n := by
  induction n with
  | zero => exact Int.le_refl _
  | succ n ih =>
    show below x y s n + _ ≤ below x y t n + _
    split <;> split <;> omega
theorem below_le (x y t : Int) (n : Nat) : 0 ≤ below x y t n ∧ below x y t n ≤ n := by
  induction n with
  | zero => exact ⟨Int.le_refl _, Int.le_refl _⟩
  | succ n ih =>
    show 0 ≤ below x y t n + _ ∧ below x y t n + _ ≤ ((n + 1 : Nat) : Int)
    push_cast
    split <;> omega
section
variable {x y : Int} {n : Nat} {l : List Int}
theorem Row.nodup {f : Int → Int} (T : Row f n l) : l.Nodup := by
  have h := T.up
  rw [List.pairwise_map] at h
  exact h.imp fun {a b} c e => by rw [e] at c; omega
theorem Row.perm {f : Int → Int} (T : Row f n l) : l.Perm (iota n) :=
  (List.perm_ext_iff_of_nodup T.nodup ((iota_pw n).imp fun {a b} c e => by omega)).mpr fun k => by rw [T.mem, iota_mem]
theorem Row.below (T : Row (fun k => x * k % y) n l) {i : Nat} {k : Int} (h : l[i]? = some k) : Mt.below x y (x * k % y) n = i := by
  rw [below_filt, ← (T.perm.filter _).length_eq, filt_up (f := fun k => x * k % y) T.up h]
theorem Row.more (T : Row (fun k => x * k % y) n l) {i : Nat} {k t : Int} (h : l[i]? = some k) (g : x * k % y < t) : (i : Int) < Mt.below x y t n := by
  rw [below_filt, ← (T.perm.filter _).length_eq]
  have := filt_more (f := fun k => x * k % y) T.up h g
  omega
end
/-- a rank is that of one mark -/
theorem rank_one {x y : Int} {n : Nat} (R : Rim (fun k => x * k % y) y n) {j k : Int} (j0 : 0 ≤ j) (j1 : j < n) (k0 : 0 ≤ k) (k1 : k < n) (e : below x y (x * j % y) n = below x y (x * k % y) n) : j = k := by
  obtain ⟨l, T⟩ := row_ex (f := fun k => x * k % y) (n := n) fun i j a b c d e => R.one a b c d e
  obtain ⟨a, ha, ea⟩ := T.at j0 j1
  obtain ⟨b, hb, eb⟩ := T.at k0 k1
  rw [T.below ea, T.below eb] at e
  have : a = b := by omega
  subst this
  rw [ea] at eb
  exact Option.some.inj eb
/-- each rank has its mark -/
theorem rank_ex {x y : Int} {n : Nat} (R : Rim (fun k => x * k % y) y n) {r : Int} (r0 : 0 ≤ r) (r1 : r < n) : ∃ k : Int, 0 ≤ k ∧ k < n ∧ below x y (x * k % y) n = r ∧ ∀ t, (below x y t n ≤ r ↔ t ≤ x * k % y) := by
  obtain ⟨l, T⟩ := row_ex (f := fun k => x * k % y) (n := n) fun i j a b c d e => R.one a b c d e
  obtain ⟨k, hk, k0, k1⟩ := T.get (i := r.toNat) (by omega)
  refine ⟨k, k0, k1, by rw [T.below hk]; omega, fun t => ⟨fun h => ?_, fun h => ?_⟩⟩
  · rcases Int.lt_or_le (x * k % y) t with c | c
    · have := T.more hk c
      omega
    · exact c
  · have := below_mono (x := x) (y := y) h n
    rw [T.below hk] at this
    omega
/-- behind a mark comes the one with the next rank -/
theorem rank_next {x y : Int} {n : Nat} (R : Rim (fun k => x * k % y) y n) (n2 : 2 ≤ n) {k m : Int} (k0 : 0 ≤ k) (k1 : k < n) (h : Nx (fun k => x * k % y) n k m) : below x y (x * m % y) n = (below x y (x * k % y) n + 1) % n := by
  obtain ⟨l, T⟩ := row_ex (f := fun k => x * k % y) (n := n) fun i j a b c d e => R.one a b c d e
  obtain ⟨i, hi, ei⟩ := T.at k0 k1
  obtain ⟨m', hm, m0, m1⟩ := T.get (i := (i + 1) % n) (Nat.mod_lt _ (by omega))
  have e := Nx.one R h (T.next R n2 hi ei hm)
  rw [e, T.below hm, T.below ei]
  rw [Int.natCast_emod]; rfl
/-- all of a few marks stand in their own order -/
theorem below_plain {x y k : Int} (x0 : 0 < x) : ∀ n : Nat, x * n ≤ y → 0 ≤ k → below x y (x * k) n = min k n
  | 0, _, k0 => by show (0 : Int) = min k 0; omega
  | n + 1, h, k0 => by
    push_cast at h
    rw [Int.mul_add, Int.mul_one] at h
    show below x y (x * k) n + _ = min k ((n + 1 : Nat) : Int)
    rw [below_plain x0 n (by omega) k0, Int.emod_eq_of_lt (Int.mul_nonneg (by omega) (by omega)) (by omega)]
    have e : x * (n : Int) < x * k ↔ (n : Int) < k := ⟨fun c => Int.lt_of_mul_lt_mul_left c (by omega), fun c => Int.mul_lt_mul_of_pos_left c x0⟩
    push_cast
    split <;> rename_i c <;> rw [e] at c <;> omega
theorem nx_plain {y n k : Int} (R : Rim (fun k => 1 * k % y) y n) (k0 : 0 ≤ k) (k1 : k + 1 < n) (y2 : 2 ≤ y) : Nx (fun k => 1 * k % y) n k (k + 1) := by
  refine ⟨by omega, k1, by omega, fun j j0 j1 j2 => ?_⟩
  have z := R.nz (k := j - k) (by omega) (by omega) (by omega)
  have r := R.r (j - k)
  have e : (1 : Int) * (k + 1 - k) % y = 1 := by rw [show k + 1 - k = 1 by omega, Int.one_mul]; exact Int.emod_eq_of_lt (by decide) (by omega)
  show 1 * (k + 1 - k) % y ≤ 1 * (j - k) % y
  rw [e]
  have z' : 1 * (j - k) % y ≠ 0 := z
  have r' : 0 ≤ 1 * (j - k) % y := r.1
  omega
/-- no mark of the first ones lies between one and the next one -/
theorem nx_between {x y n k m s : Int} (k0 : 0 ≤ k) (k1 : k < min n y) (y0 : 0 < y) (h : Nx (fun k => x * k % y) (min n y) k m) (s0 : 0 ≤ s) (s1 : s < n) : ¬ (0 < x * (s - k) % y ∧ x * (s - k) % y < x * (m - k) % y) := by
  rintro ⟨a, b⟩
  have e : x * (s - k) % y = x * (s % y - k) % y := by
    have := Int.emod_add_mul_ediv s y
    rw [show s - k = (s % y - k) + y * (s / y) by omega, Int.mul_add, ← Int.mul_assoc, Int.mul_comm x y, Int.mul_assoc, Int.add_mul_emod_self_left]
  rw [e] at a b
  have h1 := Int.emod_lt_of_pos s y0
  have h2 := Int.emod_nonneg s (show y ≠ 0 by omega)
  have h3 : s % y ≤ s := by
    rcases Int.lt_or_le s y with c | c
    · rw [Int.emod_eq_of_lt s0 c]; exact Int.le_refl _
    · omega
  rcases Int.decEq (s % y) k with c | c
  · have := h.2.2.2 (s % y) h2 (by rw [Int.min_def]; split <;> omega) c
    have this' : x * (m - k) % y ≤ x * (s % y - k) % y := this
    omega
  · rw [c, Int.sub_self, Int.mul_zero, Int.zero_emod] at a
    omega
end Mt
set_option Elab.async false
set_option linter.all false
set_option maxRecDepth 100000
set_option maxHeartbeats 4000000
set_option exponentiation.threshold 2000
namespace My.R
open My.O PySem PySem.Spec PyProof.Rows L2 Gn Mt
/-! ranks: counting below a top, the first mark between two tops -/
abbrev sBelow : Stmt := top 41
theorem scBelow : FnScope ["step", "count", "most", "top", "bottom"] ["step", "count", "most"] (defScope sBelow) := ⟨rfl, rfl, rfl, by decide +kernel, rfl, by decide +kernel, by decide +kernel⟩
abbrev sSum : Stmt := top 42
theorem scSum : FnScope ["count", "bottom", "slope", "shift", "total"] ["count", "bottom", "slope", "shift"] (defScope sSum) := ⟨rfl, rfl, rfl, by decide +kernel, rfl, by decide +kernel, by decide +kernel⟩
abbrev sFFT : Stmt := top 44
theorem scFFT : FnScope ["step", "least", "most", "slope", "whole", "turns", "mark"] ["step", "least", "most"] (defScope sFFT) := ⟨rfl, rfl, rfl, by decide +kernel, rfl, by decide +kernel, by decide +kernel⟩
abbrev sFF : Stmt := top 45
theorem scFF : FnScope ["slope", "least"] ["slope", "least"] (defScope sFF) := ⟨rfl, rfl, rfl, by decide +kernel, rfl, by decide +kernel, by decide +kernel⟩
theorem fmod_at {k y : Int} (h : 0 < y) : k.fmod y = k % y := Int.fmod_eq_emod_of_nonneg _ (by omega)
def spFF : Sp := fun vs H Q _ => ∃ (s a : Int), vs = [.int s, .int a] ∧ 0 < s ∧ s.natAbs < 2 ^ 200 ∧ Q (.int (-(-a / s))) H
def spSum : Sp := fun vs H Q _ => ∃ (n m a b : Int), vs = [.int n, .int m, .int a, .int b] ∧ 0 ≤ n ∧ n < 2 ^ 100 ∧ 0 < m ∧ m < 2 ^ 100 ∧ 0 ≤ a ∧ a < 2 ^ 100 ∧ 0 ≤ b ∧ b < 2 ^ 101 ∧ ∀ H', Same H H' → Q (.int (fsum m a b n.toNat)) H'
def spBelow : Sp := fun vs H Q _ => ∃ (t : Addr) (x y n c : Int), vs = [.ref t, .int n, .int c] ∧ StepAt H t x y ∧ y < 2 ^ 100 ∧ 0 ≤ n ∧ n < 2 ^ 100 ∧ 0 ≤ c ∧ c ≤ y ∧ ∀ H', Same H H' → Q (.int (below x y c n.toNat)) H'
def spFFT : Sp := fun vs H Q _ => ∃ (t : Addr) (x y a b : Int), vs = [.ref t, .int a, .int b] ∧ StepAt H t x y ∧ y < 2 ^ 100 ∧ 0 ≤ a ∧ a ≤ b ∧ b < y ∧ ∀ m H', Same H H' → Fst x y a b m → Q (.int m) H'
theorem nb {z : Int} {n m : Nat} (h0 : 0 ≤ z) (h : z < 2 ^ n) (hm : n ≤ m) : z.natAbs < 2 ^ m := by
  have h1 : (2 : Nat) ^ n ≤ 2 ^ m := Nat.pow_le_pow_right (by decide) hm
  have h2 : ((2 : Int) ^ n) = ((2 ^ n : Nat) : Int) := by push_cast; rfl
  rw [h2] at h
  omega
/-- a first one lies in the first whole -/
theorem fst_lt {s w a b m : Int} (w0 : 0 < w) (F : Fst s w a b m) : 0 ≤ m ∧ m < w := by
  obtain ⟨⟨m0, h1, h2⟩, l⟩ := F
  have := l (m % w) ⟨Int.emod_nonneg _ (by omega), by rw [Int.mul_emod, Int.emod_emod, ← Int.mul_emod]; exact h1, by rw [Int.mul_emod, Int.emod_emod, ← Int.mul_emod]; exact h2⟩
  have := Int.emod_lt_of_pos m w0
  omega
/-- how it came to what is looked for now -/
inductive Ch (s0 w0 a0 b0 : Int) : List (List Int) → Int → Int → Int → Int → Prop
  | nil : 0 ≤ s0 → s0 < w0 → Nat.gcd s0.natAbs w0.natAbs = 1 → 0 ≤ a0 → a0 ≤ b0 → b0 < w0 → Ch s0 w0 a0 b0 [] s0 w0 a0 b0
  | snoc {gs s w a b} : Ch s0 w0 a0 b0 gs s w a b → 0 < a → b < -(-a / s) * s → Ch s0 w0 a0 b0 (gs ++ [[s, w, a]]) (w % s) s (-b % s) (-a % s)
structure Now (s w a b : Int) : Prop where
  s0 : 0 ≤ s
  sw : s < w
  co : Nat.gcd s.natAbs w.natAbs = 1
  a0 : 0 ≤ a
  ab : a ≤ b
  bw : b < w
theorem Now.pos {s w a b : Int} (N : Now s w a b) (h : 0 < a) : 0 < s := by
  rcases Int.lt_or_eq_of_le N.s0 with c | c
  · exact c
  · have co := N.co
    rw [← c, Int.natAbs_zero, Nat.gcd_zero_left] at co
    have := N.ab; have := N.bw
    omega
theorem Now.turn {s w a b : Int} (N : Now s w a b) (h : 0 < a) (g : b < -(-a / s) * s) : Now (w % s) s (-b % s) (-a % s) := by
  have s0 := N.pos h
  obtain ⟨h1, h2⟩ := ceil_at (a := a) s0
  have hab := N.ab
  generalize -(-a / s) = c at *
  have hc : b < s * c := by rw [Int.mul_comm]; exact g
  have ec : s * (c - 1) = s * c - s := by rw [Int.mul_sub, Int.mul_one]
  rw [neg_mod (a := a) (c := c) (d := s * c - a) (by omega) (by omega) (by omega), neg_mod (a := b) (c := c) (d := s * c - b) (by omega) (by omega) (by omega)]
  refine ⟨Int.emod_nonneg _ (by omega), Int.emod_lt_of_pos _ s0, ?_, by omega, by omega, by omega⟩
  have w0 : 0 ≤ w := by have := N.sw; omega
  obtain ⟨u, rfl⟩ := Int.eq_ofNat_of_zero_le w0
  obtain ⟨v, rfl⟩ := Int.eq_ofNat_of_zero_le (show 0 ≤ s by omega)
  have co := N.co
  rw [← Int.natCast_emod, Int.natAbs_natCast, Int.natAbs_natCast] 
  rw [Int.natAbs_natCast, Int.natAbs_natCast, Nat.gcd_rec] at co
  exact co
theorem Ch.now {s0 w0 a0 b0 : Int} {gs : List (List Int)} {s w a b : Int} (C : Ch s0 w0 a0 b0 gs s w a b) : Now s w a b := by
  induction C with
  | nil h1 h2 h3 h4 h5 h6 => exact ⟨h1, h2, h3, h4, h5, h6⟩
  | snoc C h g ih => exact ih.turn h g
theorem Ch.le {s0 w0 a0 b0 : Int} {gs : List (List Int)} {s w a b : Int} (C : Ch s0 w0 a0 b0 gs s w a b) : w ≤ w0 ∧ gs.length + s ≤ s0 := by
  induction C with
  | nil h1 h2 h3 h4 h5 h6 => exact ⟨Int.le_refl _, by simp⟩
  | @snoc gs s w a b C h g ih =>
    have N := C.now
    have s1 := N.pos h
    have := Int.emod_lt_of_pos w s1
    have := N.sw
    rw [List.length_append]
    refine ⟨by omega, by push_cast; show (gs.length : Int) + 1 + w % s ≤ s0; omega⟩
theorem Ch.root {s0 w0 a0 b0 : Int} {gs : List (List Int)} {s w a b : Int} (C : Ch s0 w0 a0 b0 gs s w a b) (e : gs = []) : s = s0 ∧ w = w0 ∧ a = a0 ∧ b = b0 := by
  cases C with
  | nil => exact ⟨rfl, rfl, rfl, rfl⟩
  | snoc => simp at e
/-- few turns: a product halves -/
theorem Ch.half {s0 w0 a0 b0 : Int} {gs : List (List Int)} {s w a b : Int} (C : Ch s0 w0 a0 b0 gs s w a b) : 2 ^ gs.length * (s * w) ≤ s0 * w0 := by
  induction C with
  | nil => simp
  | @snoc gs s w a b C h g ih =>
    have N := C.now
    have sp := N.pos h
    have sw := N.sw
    have r0 := Int.emod_nonneg w (show s ≠ 0 by omega)
    have r1 := Int.emod_lt_of_pos w sp
    have e := Int.emod_add_mul_ediv w s
    have q1 : 1 ≤ w / s := (Int.le_ediv_iff_mul_le sp).mpr (by omega)
    have q2 : s * 1 ≤ s * (w / s) := Int.mul_le_mul_of_nonneg_left q1 (by omega)
    have h2 : 2 * (w % s) ≤ w := by omega
    have h3 : 2 * (w % s) * s ≤ w * s := Int.mul_le_mul_of_nonneg_right h2 (by omega)
    have p0 : (0 : Int) ≤ 2 ^ gs.length := Int.le_of_lt (Int.pow_pos (by decide))
    have h4 : 2 ^ gs.length * (2 * (w % s) * s) ≤ 2 ^ gs.length * (w * s) := Int.mul_le_mul_of_nonneg_left h3 p0
    rw [List.length_append, List.length_singleton, Int.pow_succ]
    have e1 : 2 ^ gs.length * 2 * (w % s * s) = 2 ^ gs.length * (2 * (w % s) * s) := by
      rw [Int.mul_assoc, Int.mul_assoc]
    have e2 : 2 ^ gs.length * (w * s) = 2 ^ gs.length * (s * w) := by rw [Int.mul_comm w s]
    rw [e1]
    omega
theorem Ch.few {s0 w0 a0 b0 : Int} {gs : List (List Int)} {s w a b : Int} (C : Ch s0 w0 a0 b0 gs s w a b) (h : 0 < a) (s1 : 0 ≤ s0 ∧ s0 < w0 ∧ w0 < 2 ^ 100) : gs.length ≤ 900 := by
  have H := C.half
  have N := C.now
  have sp := N.pos h
  have sw := N.sw
  have p1 : (1 : Int) * 1 ≤ s * w := Int.mul_le_mul (by omega) (by omega) (by decide) (by omega)
  have p0 : (0 : Int) ≤ 2 ^ gs.length := Int.le_of_lt (Int.pow_pos (by decide))
  have h1 : 2 ^ gs.length * 1 ≤ 2 ^ gs.length * (s * w) := Int.mul_le_mul_of_nonneg_left (by omega) p0
  have h2 : s0 * w0 ≤ 2 ^ 100 * 2 ^ 100 := Int.mul_le_mul (by omega) (by omega) (by omega) (by decide)
  rcases Nat.lt_or_ge 900 gs.length with c | c
  · have h3 : (2 : Nat) ^ 900 ≤ 2 ^ gs.length := Nat.pow_le_pow_right (by decide) (by omega)
    have h4 : ((2 : Int) ^ gs.length) = ((2 ^ gs.length : Nat) : Int) := by push_cast; rfl
    have h5 : (2 : Nat) ^ 100 * 2 ^ 100 < 2 ^ 900 := by decide
    have h6 : ((2 : Int) ^ 100 * 2 ^ 100) = (((2 : Nat) ^ 100 * 2 ^ 100 : Nat) : Int) := by decide
    rw [h6] at h2
    rw [h4] at h1 H
    omega
  · exact c
theorem tups_get {H : Hp} : ∀ {rs : List Addr} {gs : List (List Int)} {j : Nat} {v : V}, Tups H rs gs → (rs.map V.ref)[j]? = some v → ∃ a g, v = .ref a ∧ gs[j]? = some g ∧ H a = some (.tup (g.map V.int))
  | [], _, j, v, _, h => by simp at h
  | r :: rs, [], j, v, T, _ => T.elim
  | r :: rs, g :: gs, 0, v, T, h => by
    rw [List.map_cons, List.getElem?_cons_zero] at h
    cases h
    exact ⟨r, g, rfl, rfl, T.1⟩
  | r :: rs, g :: gs, j + 1, v, T, h => by
    rw [List.map_cons, List.getElem?_cons_succ] at h
    obtain ⟨a, g', e1, e2, e3⟩ := tups_get T.2 h
    exact ⟨a, g', e1, by rw [List.getElem?_cons_succ]; exact e2, e3⟩
/-- the last one of a row that is not empty -/
theorem Ch.last {s0 w0 a0 b0 : Int} {gs hs : List (List Int)} {g : List Int} {s w a b : Int} (C : Ch s0 w0 a0 b0 gs s w a b) (e : gs = hs ++ [g]) : ∃ s' w' a' b', g = [s', w', a'] ∧ Ch s0 w0 a0 b0 hs s' w' a' b' ∧ 0 < a' ∧ b' < -(-a' / s') * s' ∧ s = w' % s' ∧ w = s' ∧ a = -b' % s' ∧ b = -a' % s' := by
  cases C with
  | nil => cases hs <;> simp at e
  | @snoc gs s w a b C h g' =>
    obtain ⟨e1, e2⟩ := List.append_inj' e rfl
    subst e1
    cases e2
    exact ⟨_, _, _, _, rfl, C, h, g', rfl, rfl, rfl, rfl⟩
section
variable {P : Program} {w : World} {K : PySem.W.Frag} {mg : Str → Option Value} {base : Heap}
theorem ok_ff {f : Addr} {fd : FuncData} (F : Fun K "_first_from" "_first_from" sFF f fd) : FnOk P w K mg base CX0 1 f fd ["slope", "least"] spFF := by
  refine F.ok scFF (fun vs H Q E h => ?_) (fun cdv A outer s H vs Q E hr h => ?_)
  · obtain ⟨s, a, rfl, _⟩ := h
    rfl
  · obtain ⟨s, a, rfl, s0, bs, q⟩ := h
    refine ⟨_, pss_one (ps_ret (pe_un un_neg (pe_op op_fdivW (pe_un un_neg (pv 1)) (pv 0)))), ?_⟩
    exact ⟨_, rfl, _, rfl, _, rfl, _, _, rfl, rfl, wide_div s0 bs (by decide) (by decide), _, rfl, q⟩
theorem ok_sum {f : Addr} {fd : FuncData} (F : Fun K "_sum_of_wholes" "_sum_of_wholes" sSum f fd) (dv : mg "divmod" = none) : FnOk P w K mg base CX0 1 f fd ["count", "bottom", "slope", "shift"] spSum := by
  refine F.ok scSum (fun vs H Q E h => ?_) (fun cdv A outer s H vs Q E hr h => ?_)
  · obtain ⟨n, m, a, b, rfl, _⟩ := h
    rfl
  · obtain ⟨n, m, a, b, rfl, n0, n1, m0, m1, a0, a1, b0, b1, q⟩ := h
    refine ⟨_, pss_cons (ps_set (i := 4) scSum.nd rfl (.inl rfl) pe_int)
      (pss_cons (ps_while PassesOwn.never (pt_truth (pv 0) (by intro _; rfl))
        (pss_cons (ps_aug (i := 4) scSum.nd rfl (.inl rfl) (pe_op op_add (pe_op op_mulW (pe_op op_fdiv (pe_op op_mulW (pv 0) (pe_op op_sub (pv 0) pe_int)) pe_int) (pe_op op_fdivW (pv 2) (pv 1))) (pe_op op_mulW (pv 0) (pe_op op_fdivW (pv 3) (pv 1)))) ip_add)
        (pss_cons (ps_par (i := 2) (j := 3) (by rfl) scSum.nd rfl rfl (by decide) rfl rfl (pa_cons (pe_op op_modN (pv 2) (pv 1)) (pa_cons (pe_op op_modN (pv 3) (pv 1)) pa_nil)) (by rfl))
        (pss_cons (ps_asg (pe_callB call_divmodW (by rfl) dv (by decide +kernel) (pa_cons (pe_op op_add (pe_op op_mulW (pv 2) (pv 0)) (pv 3)) (pa_cons (pv 1) pa_nil))) (pg_tup (by rfl) (pgs_cons (pg_name (i := 0) scSum.nd rfl (.inl rfl)) (pgs_cons (pg_name (i := 3) scSum.nd rfl (.inl rfl)) pgs_nil))))
        (pss_one (ps_par (i := 2) (j := 1) (by rfl) scSum.nd rfl rfl (by decide) rfl rfl (pa_cons (pv 1) (pa_cons (pv 2) pa_nil)) (by rfl)))))))
      (pss_one (ps_ret (pv 4)))), ?_⟩
    dsimp only [tSeq, tAsg, tC, gName]
    refine while_by (fun σ H' => ∃ (n' m' a' b' tot : Int), σ = [some (.int n'), some (.int m'), some (.int a'), some (.int b'), some (.int tot)] ∧ 0 ≤ n' ∧ n' < 2 ^ 100 ∧ 0 ≤ m' ∧ m' < 2 ^ 100 ∧ (n' = 0 ∨ 0 < m') ∧ 0 ≤ a' ∧ a' < 2 ^ 100 ∧ 0 ≤ b' ∧ b' < 2 ^ 101 ∧ tot + fsum m' a' b' n'.toNat = fsum m a b n.toNat ∧ Same H H')
      (fun σ _ => match σ with | [_, some (.int m'), _, _, _] => m'.toNat | _ => 0) ⟨n, m, a, b, 0, rfl, n0, n1, by omega, m1, .inr m0, a0, a1, b0, b1, by rw [Int.zero_add], Same.refl _⟩ ?_ ?_
    · rintro σ H' ⟨n', m', a', b', tot, rfl, n0', n1', m0', m1', hm, a0', a1', b0', b1', inv, s1⟩
      refine ⟨_, rfl, _, rfl, ?_⟩
      refine ite2 (fun hc => ?_) (fun hc => ?_)
      · have nn : n' ≠ 0 := by simpa using hc
        have mp : 0 < m' := by omega
        have r0 := Int.emod_nonneg a' (show m' ≠ 0 by omega)
        have r1 := Int.emod_lt_of_pos a' mp
        have t0 := Int.emod_nonneg b' (show m' ≠ 0 by omega)
        have t1 := Int.emod_lt_of_pos b' mp
        have d0 : 0 ≤ a' / m' := Int.ediv_nonneg a0' (by omega)
        have d1 : a' / m' ≤ a' := Int.ediv_le_self m' a0'
        have e0 : 0 ≤ b' / m' := Int.ediv_nonneg b0' (by omega)
        have e1 : b' / m' ≤ b' := Int.ediv_le_self m' b0'
        have f0 : 0 ≤ n' * (n' - 1) := Int.mul_nonneg n0' (by omega)
        have f1 : (n' * (n' - 1)).natAbs < 2 ^ (100 + 100) := wide_lt (nb n0' n1' (Nat.le_refl _)) (nb (n := 100) (show 0 ≤ n' - 1 by omega) (by omega) (Nat.le_refl _))
        have g0 : 0 ≤ n' * (n' - 1) / 2 := Int.ediv_nonneg f0 (by decide)
        have g1 : n' * (n' - 1) / 2 ≤ n' * (n' - 1) := Int.ediv_le_self 2 f0
        have g2 : (n' * (n' - 1) / 2).natAbs < 2 ^ 200 := Nat.lt_of_le_of_lt (by omega) f1
        refine ⟨_, rfl, ?_⟩
        refine ⟨_, rfl, _, rfl, _, _, rfl, rfl, _, _, rfl, rfl, wide_mul (nb n0' n1' (Nat.le_refl _)) (nb (n := 100) (m := 100) (show 0 ≤ n' - 1 by omega) (by omega) (Nat.le_refl _)) (by decide) (by decide) (by decide), _, _, rfl, rfl, ⟨by decide, by decide⟩, ?_⟩
        refine ⟨_, rfl, _, rfl, _, _, rfl, rfl, wide_div mp (nb m0' m1' (Nat.le_refl _)) (by decide) (by decide), _, _, rfl, rfl, wide_mul g2 (nb (n := 100) (m := 100) d0 (by omega) (Nat.le_refl _)) (by decide) (by decide) (by decide), ?_⟩
        refine ⟨_, rfl, _, rfl, _, rfl, _, _, rfl, rfl, wide_div mp (nb m0' m1' (Nat.le_refl _)) (by decide) (by decide), _, _, rfl, rfl, wide_mul (nb n0' n1' (Nat.le_refl _)) (nb (n := 101) (m := 101) e0 (by omega) (Nat.le_refl _)) (by decide) (by decide) (by decide), _, _, rfl, rfl, _, _, rfl, rfl, ?_⟩
        -- the rests
        refine ⟨_, rfl, _, rfl, _, _, rfl, rfl, (show m' ≠ 0 by omega), _, rfl, _, rfl, _, _, rfl, rfl, (show m' ≠ 0 by omega), _, _, rfl, ?_⟩
        have ea : a'.fmod m' = a' % m' := fmod_at mp
        have eb : b'.fmod m' = b' % m' := fmod_at mp
        rw [← ea] at r0 r1
        rw [← eb] at t0 t1
        -- divmod
        refine ⟨_, rfl, _, rfl, _, _, rfl, rfl, wide_mul (nb (n := 100) (m := 100) r0 (by omega) (Nat.le_refl _)) (nb n0' n1' (Nat.le_refl _)) (by decide) (by decide) (by decide), _, rfl, _, _, rfl, rfl, _, rfl, _, _, rfl, wide_div mp (nb m0' m1' (Nat.le_refl _)) (by decide) (by decide), fun p hp => ?_⟩
        refine ⟨p, _, rfl, SqT.of upd_same, rfl, _, _, rfl, _, _, rfl, rfl, ?_⟩
        refine ⟨_, rfl, _, rfl, _, _, rfl, ?_⟩
        have z0 : 0 ≤ a'.fmod m' * n' + b'.fmod m' := by
          have := Int.mul_nonneg r0 n0'; omega
        have z1 : (a'.fmod m' * n' + b'.fmod m') / m' ≤ n' := by
          have h1 : a'.fmod m' * n' ≤ (m' - 1) * n' := Int.mul_le_mul_of_nonneg_right (by omega) n0'
          have h2 : (m' - 1) * n' = m' * n' - n' := by rw [Int.sub_mul, Int.one_mul]
          have h3 := (Int.ediv_lt_iff_lt_mul mp (a := a'.fmod m' * n' + b'.fmod m') (b := n' + 1)).mpr (by rw [Int.add_mul, Int.one_mul, Int.mul_comm n' m']; omega)
          omega
        have z2 : 0 ≤ (a'.fmod m' * n' + b'.fmod m') / m' := Int.ediv_nonneg z0 m0'
        have z3 := Int.emod_nonneg (a'.fmod m' * n' + b'.fmod m') (show m' ≠ 0 by omega)
        have z4 := Int.emod_lt_of_pos (a'.fmod m' * n' + b'.fmod m') mp
        refine ⟨⟨_, _, _, _, _, rfl, z2, by omega, r0, by omega, ?_, m0', m1', z3, by omega, ?_, s1.trans (same_put hp)⟩, ?_⟩
        · rcases Int.lt_or_eq_of_le r0 with c | c
          · exact .inr c
          · left
            rw [← c, Int.zero_mul, Int.zero_add]
            exact Int.ediv_eq_zero_of_lt t0 t1
        · have st := fsum_step mp a0' b0' n'.toNat
          rw [Int.toNat_of_nonneg n0', ← ea, ← eb] at st
          rw [← inv, st]
          split
          · rename_i c
            rw [c, Int.zero_mul, Int.zero_add, Int.ediv_eq_zero_of_lt t0 t1]
            show tot + (n' * (n' - 1) / 2 * (a' / m') + n' * (b' / m')) + 0 = tot + _
            omega
          · show tot + (n' * (n' - 1) / 2 * (a' / m') + n' * (b' / m')) + _ = tot + _
            omega
        · show (a'.fmod m').toNat < m'.toNat
          omega
      · have nn : n' = 0 := by
          rcases Int.decEq n' 0 with c | c
          · exact absurd (by simpa using c) hc
          · exact c
        subst nn
        refine ⟨_, rfl, ?_⟩
        have e : tot = fsum m a b n.toNat := by
          rw [← inv]
          show tot = tot + 0
          omega
        rw [e]
        exact q _ s1
    · rintro σ H' Q1 Q2 mo ⟨v, e1, k, e2, h⟩
      exact ⟨v, e1, k, e2, mo _ _ h⟩
theorem ok_below {f fS : Addr} {fd fdS : FuncData} (F : Fun K "_how_many_below" "_how_many_below" sBelow f fd) (S : Df K mg "_sum_of_wholes" sSum ["count", "bottom", "slope", "shift"] fS fdS) (dv : mg "divmod" = none) : FnOk P w K mg base CX0 2 f fd ["step", "count", "most"] spBelow := by
  have GS : FnOk P w K mg base CX0 1 fS fdS ["count", "bottom", "slope", "shift"] spSum := ok_sum S.F dv
  refine F.ok scBelow (fun vs H Q E h => ?_) (fun cdv A outer s H vs Q E hr h => ?_)
  · obtain ⟨t, x, y, n, c, rfl, _⟩ := h
    rfl
  · obtain ⟨t, x, y, n, c, rfl, ⟨hT, st⟩, y1, n0, n1, c0, cy, q⟩ := h
    have x0 := st.x0
    have xy := st.xy
    refine ⟨_, pss_cons (ps_asg (pv 0) (pg_tup (by rfl) (pgs_cons (pg_name (i := 3) scBelow.nd rfl (.inl rfl)) (pgs_cons (pg_name (i := 4) scBelow.nd rfl (.inl rfl)) pgs_nil))))
      (pss_one (ps_ret (pe_op op_sub (pe_op op_add (pv 1) (pe_call GS hr (by rfl) S.g S.F.kp S.b .nil pass0 (pa_cons (pv 1) (pa_cons (pv 4) (pa_cons (pv 3) (pa_cons pe_int pa_nil)))))) (pe_call GS hr (by rfl) S.g S.F.kp S.b .nil pass0 (pa_cons (pv 1) (pa_cons (pv 4) (pa_cons (pv 3) (pa_cons (pe_op op_sub (pv 4) (pv 2)) pa_nil)))))))), ?_⟩
    refine ⟨_, rfl, t, _, rfl, SqT.of hT, rfl, _, _, rfl, _, _, rfl, rfl, ?_⟩
    refine ⟨_, rfl, _, rfl, _, rfl, _, rfl, n, y, x, 0, rfl, n0, n1, by omega, y1, x0, by omega, Int.le_refl 0, by decide, fun H1 s1 => ?_⟩
    refine ⟨_, _, rfl, rfl, _, rfl, _, rfl, _, rfl, _, rfl, _, rfl, _, _, rfl, rfl, n, y, x, y - c, rfl, n0, n1, by omega, y1, x0, by omega, by omega, by omega, fun H2 s2 => ?_⟩
    refine ⟨_, _, rfl, rfl, ?_⟩
    have e := below_fsum (x := x) (show 0 < y by omega) c0 cy n.toNat
    rw [Int.toNat_of_nonneg n0] at e
    have z := q _ (s1.trans s2)
    rw [e] at z
    exact z
theorem ok_fft {f fG : Addr} {fd fdG : FuncData} (F : Fun K "_first_from_to" "_first_from_to" sFFT f fd) (G : Df K mg "_first_from" sFF ["slope", "least"] fG fdG) (mr : mg "reversed" = none) : FnOk P w K mg base CX0 2 f fd ["step", "least", "most"] spFFT := by
  have GG : FnOk P w K mg base CX0 1 fG fdG ["slope", "least"] spFF := ok_ff G.F
  refine F.ok scFFT (fun vs H Q E h => ?_) (fun cdv A outer s H vs Q E hr h => ?_)
  · obtain ⟨t, x, y, a, b, rfl, _⟩ := h
    rfl
  · obtain ⟨t, x, y, a, b, rfl, ⟨hT, st⟩, y1, a0, ab, by', q⟩ := h
    have x0 := st.x0
    have xy := st.xy
    refine ⟨_, pss_cons (ps_asg (pv 0) (pg_tup (by rfl) (pgs_cons (pg_name (i := 3) scFFT.nd rfl (.inl rfl)) (pgs_cons (pg_name (i := 4) scFFT.nd rfl (.inl rfl)) pgs_nil))))
      (pss_cons (ps_set (i := 5) scFFT.nd rfl (.inl rfl) (pe_lst pa_nil))
      (pss_cons (ps_while PassesOwn.never (PW.pt (pw_and (pt_cmpR op_gt (pv 1) pe_int (nomark _)) (pw_and1 (pt_cmpR op_gt (pe_op op_mulW (pe_call GG hr (by rfl) G.g G.F.kp G.b .nil pass0 (pa_cons (pv 3) (pa_cons (pv 1) pa_nil))) (pv 3)) (pv 2) (nomark _)))))
        (pss_cons (ps_expr (pe_bm PySem.F.plainAttrs_list PySem.F.slot_list_append PySem.F.type_list_append mt_append (pv 5) (pa_cons (pe_tup (pa_cons (pv 3) (pa_cons (pv 4) (pa_cons (pv 1) pa_nil)))) pa_nil)))
        (pss_one (ps_asg (pe_tup (pa_cons (pe_op op_modN (pv 4) (pv 3)) (pa_cons (pv 3) (pa_cons (pe_op op_modN (pe_un un_neg (pv 2)) (pv 3)) (pa_cons (pe_op op_modN (pe_un un_neg (pv 1)) (pv 3)) pa_nil)))))
          (pg_tup (by rfl) (pgs_cons (pg_name (i := 3) scFFT.nd rfl (.inl rfl)) (pgs_cons (pg_name (i := 4) scFFT.nd rfl (.inl rfl)) (pgs_cons (pg_name (i := 1) scFFT.nd rfl (.inl rfl)) (pgs_cons (pg_name (i := 2) scFFT.nd rfl (.inl rfl)) pgs_nil)))))))))
      (pss_cons (ps_set (i := 6) scFFT.nd rfl (.inl rfl) (pe_ifExp (pt_cmpR op_gt (pv 1) pe_int (nomark _)) (pe_call GG hr (by rfl) G.g G.F.kp G.b .nil pass0 (pa_cons (pv 3) (pa_cons (pv 1) pa_nil))) pe_int))
      (pss_cons (ps_for PassesOwn.never rfl (pi_reversed (by rfl) mr (pa_cons (pv 5) pa_nil)) (pg_tup (by rfl) (pgs_cons (pg_name (i := 3) scFFT.nd rfl (.inl rfl)) (pgs_cons (pg_name (i := 4) scFFT.nd rfl (.inl rfl)) (pgs_cons (pg_name (i := 1) scFFT.nd rfl (.inl rfl)) pgs_nil))))
        (pss_one (ps_set (i := 6) scFFT.nd rfl (.inl rfl) (pe_call GG hr (by rfl) G.g G.F.kp G.b .nil pass0 (pa_cons (pv 3) (pa_cons (pe_op op_add (pv 1) (pe_op op_mulW (pv 4) (pv 6))) pa_nil))))))
      (pss_one (ps_ret (pv 6))))))), ?_⟩
    refine ⟨_, rfl, t, _, rfl, SqT.of hT, rfl, _, _, rfl, _, _, rfl, rfl, ?_⟩
    refine ⟨Nat.zero_le _, fun l hl => ?_⟩
    have s1 : Same H (upd H l (.lst [])) := same_put hl
    refine while_by (fun σ H' => ∃ (rs : List Addr) (gs : List (List Int)) (s' w' a' b' : Int), σ = [some (.ref t), some (.int a'), some (.int b'), some (.int s'), some (.int w'), some (.ref l), none] ∧ Same H H' ∧ H' l = some (.lst (rs.map V.ref)) ∧ Tups H' rs gs ∧ Ch x y a b gs s' w' a' b')
      (fun σ _ => match σ with | [_, _, _, some (.int s'), _, _, _] => s'.toNat | _ => 0) ⟨[], [], x, y, a, b, rfl, s1, upd_same, trivial, .nil x0 xy st.co a0 ab by'⟩ ?_ ?_
    · rintro σ H1 ⟨rs, gs, s', w', a', b', rfl, s2', hL, tu, C⟩
      have N := C.now
      obtain ⟨wl, gl⟩ := C.le
      have ns := N.s0; have nsw := N.sw; have na := N.a0; have nab := N.ab; have nbw := N.bw
      have bs : s'.natAbs < 2 ^ 200 := nb (n := 100) ns (by omega) (by decide)
      refine ⟨_, rfl, _, _, rfl, rfl, _, rfl, and_join (decide (0 < a' ∧ b' < -(-a' / s') * s')) (fun hc R zz => ?_) (fun hc => ?_) ?_⟩
      · have ap : 0 < a' := of_decide_eq_true hc
        have sp := N.pos ap
        obtain ⟨h1, h2⟩ := ceil_at (a := a') sp
        have cb : (-(-a' / s')).natAbs < 2 ^ 200 := by
          have c0 : 0 ≤ -(-a' / s') := by
            rcases Int.lt_or_le (-(-a' / s')) 0 with c | c
            · have := Int.mul_nonpos_of_nonneg_of_nonpos (show 0 ≤ s' by omega) (show -(-a' / s') ≤ 0 by omega); omega
            · exact c
          have c1 : -(-a' / s') ≤ a' := (ceil_le sp).mpr (by
            have := Int.mul_le_mul_of_nonneg_right (show 1 ≤ s' by omega) na; omega)
          exact nb (n := 100) c0 (by omega) (by decide)
        refine ⟨_, rfl, _, rfl, s', a', rfl, sp, bs, _, rfl, _, _, rfl, rfl, wide_mul cb bs (by decide) (by decide) (by decide), _, rfl, _, _, rfl, rfl, _, rfl, ?_⟩
        have e : decide (b' < -(-a' / s') * s') = decide (0 < a' ∧ b' < -(-a' / s') * s') := by
          rw [decide_eq_decide]
          exact ⟨fun y => ⟨ap, y⟩, fun y => y.2⟩
        rw [e]
        exact zz
      · have ap : ¬ 0 < a' := of_decide_eq_false hc
        exact decide_eq_false fun y => ap y.1
      refine ite2 (fun hc => ?_) (fun hc => ?_)
      · obtain ⟨ap, g⟩ := of_decide_eq_true hc
        have sp := N.pos ap
        have few := C.few ap ⟨x0, xy, y1⟩
        refine ⟨_, rfl, .inl ⟨rfl, _, .inl (.inl hL)⟩, _, rfl, _, rfl, _, rfl, (by show 3 ≤ sizeLine; decide), fun p hp => ?_⟩
        have lp : l ≠ p := ne_of_none hL hp
        have s3 : Same H1 (upd H1 p (.tup [.int s', .int w', .int a'])) := same_put hp
        refine ⟨l, _, _, rfl, rfl, s3 _ _ hL, ?_, ?_⟩
        · rw [List.length_map, tu.len]
          exact small1000 (by omega)
        have hL2 : upd (upd H1 p (.tup [.int s', .int w', .int a'])) l (.lst (rs.map V.ref ++ [.ref p])) l = some (.lst ((rs ++ [p]).map V.ref)) := by rw [upd_same, List.map_append]; rfl
        have tu2 : Tups (upd (upd H1 p (.tup [.int s', .int w', .int a'])) l (.lst (rs.map V.ref ++ [.ref p]))) (rs ++ [p]) (gs ++ [[s', w', a']]) := by
          refine Tups.snoc ?_ (tu.mono fun r g e => ?_)
          · rw [upd_ne lp.symm, upd_same]; rfl
          · have n1 : r ≠ l := ne_of e hL (by intro z; cases z)
            rw [upd_ne n1]
            exact s3 _ _ e
        have sH : Same H (upd (upd H1 p (.tup [.int s', .int w', .int a'])) l (.lst (rs.map V.ref ++ [.ref p]))) := fun q1 z1 e1 => by
          rw [upd_ne (ne_of_none e1 hl)]
          exact s3 _ _ (s2' _ _ e1)
        generalize upd (upd H1 p (.tup [.int s', .int w', .int a'])) l (.lst (rs.map V.ref ++ [.ref p])) = H2 at hL2 tu2 sH ⊢
        refine ⟨_, rfl, _, rfl, _, _, rfl, rfl, (show s' ≠ 0 by omega), _, rfl, _, rfl, _, rfl, _, rfl, _, _, rfl, rfl, (show s' ≠ 0 by omega), _, rfl, _, rfl, _, rfl, _, _, rfl, rfl, (show s' ≠ 0 by omega), (by show 4 ≤ sizeLine; decide), fun p2 hp2 => ?_⟩
        refine ⟨p2, _, rfl, SqT.of upd_same, rfl, _, _, rfl, _, _, rfl, _, _, rfl, _, _, rfl, rfl, ?_⟩
        have s4 := same_put (o := HO.tup [.int (w'.fmod s'), .int s', .int ((-b').fmod s'), .int ((-a').fmod s')]) hp2
        have C2 := Ch.snoc C ap g
        rw [← fmod_at (k := w') sp, ← fmod_at (k := -b') sp, ← fmod_at (k := -a') sp] at C2
        refine ⟨⟨_, _, _, _, _, _, rfl, sH.trans s4, s4 _ _ hL2, tu2.mono fun r g e => s4 _ _ e, C2⟩, ?_⟩
        show (w'.fmod s').toNat < s'.toNat
        have := fmod_lt (a := w') sp
        omega
      · have hn : ¬ (0 < a' ∧ b' < -(-a' / s') * s') := fun z => hc (decide_eq_true z)
        refine ⟨_, rfl, _, _, rfl, rfl, _, rfl, tif (.int (-(-a' / s'))) (.int 0) (fun hd R z => ⟨_, rfl, _, rfl, s', a', rfl, N.pos (of_decide_eq_true hd), bs, z⟩) (fun _ R z => z) (fun v e1 e2 => ?_)⟩
        obtain ⟨m, rfl, Fm⟩ : ∃ m, v = V.int m ∧ Fst s' w' a' b' m := by
          by_cases hd : 0 < a'
          · exact ⟨_, e1 (decide_eq_true hd), fst_turn (N.pos hd) nsw hd nbw (by
              rcases Int.lt_or_le b' (-(-a' / s') * s') with c | c
              · exact absurd ⟨hd, c⟩ hn
              · exact c)⟩
          · exact ⟨_, e2 (decide_eq_false hd), fst_zero (by omega) (by omega) (by omega)⟩
        refine ⟨_, rfl, l, _, rfl, SqL.of hL, for_rv (K := K) (a := l) (xs := rs.map V.ref) (fun i σ H2 => ∃ (m s2 w2 a2 b2 a3 s3 w3 : Int), σ = [some (.ref t), some (.int a3), some (.int b'), some (.int s3), some (.int w3), some (.ref l), some (.int m)] ∧ H2 = H1 ∧ Ch x y a b (gs.take (gs.length - i)) s2 w2 a2 b2 ∧ Fst s2 w2 a2 b2 m)
          ⟨m, s', w', a', b', a', s', w', rfl, rfl, by rw [Nat.sub_zero, List.take_length]; exact C, Fm⟩ (fun i σ H2 _ ⟨_, _, _, _, _, _, _, _, _, e, _⟩ => by rw [e]; exact SqL.of hL) ?_ ?_⟩
        · rintro i v σ H2 hi hv ⟨m, s2, w2, a2, b2, a3, s3, w3, rfl, rfl, C2, F2⟩
          rw [List.length_map, tu.len] at hi hv
          obtain ⟨r, g, rfl, hg, hr'⟩ := tups_get tu hv
          have eg : gs.take (gs.length - i) = gs.take (gs.length - (i + 1)) ++ [g] := by
            rw [show gs.length - i = gs.length - (i + 1) + 1 by omega, List.take_add_one, show gs.length - (i + 1) = gs.length - 1 - i by omega, hg]; rfl
          obtain ⟨s4, w4, a4, b4, rfl, C3, ap, g', rfl, rfl, rfl, rfl⟩ := C2.last eg
          have N3 := C3.now
          have sp := N3.pos ap
          have wl3 := C3.le.1
          have fl := fst_lt sp F2
          have nw := N3.sw
          have nb' := N3.bw
          have na' := N3.ab
          refine ⟨r, _, rfl, SqT.of hr', rfl, _, _, rfl, _, _, rfl, _, _, rfl, rfl, ?_⟩
          refine ⟨_, rfl, _, rfl, _, rfl, _, rfl, _, _, rfl, rfl, wide_mul (nb (n := 100) (m := 100) (show 0 ≤ w4 by omega) (by omega) (Nat.le_refl _)) (nb (n := 100) (m := 100) fl.1 (by omega) (Nat.le_refl _)) (by decide) (by decide) (by decide), _, _, rfl, rfl, _, _, rfl, sp, nb (n := 100) (m := 200) (by omega) (by omega) (by decide), ?_⟩
          exact ⟨_, _, _, _, _, _, _, _, rfl, rfl, C3, fst_back sp nw ap na' nb' g' F2⟩
        · rintro σ H2 ⟨m, s2, w2, a2, b2, a3, s3, w3, rfl, rfl, C2, F2⟩
          rw [List.length_map, tu.len, Nat.sub_self, List.take_zero] at C2
          obtain ⟨rfl, rfl, rfl, rfl⟩ := C2.root rfl
          exact ⟨_, rfl, q m _ s2' F2⟩
    · rintro σ H1 Q1 Q2 mo ⟨v1, e1, i1, j1, e2, e3, kk, e4, h7⟩
      refine ⟨v1, e1, i1, j1, e2, e3, kk, e4, ?_⟩
      cases kk with
      | false => exact iteF (mo _ _ (by simpa using h7))
      | true =>
        rw [if_pos rfl] at h7
        obtain ⟨v3, e7, v4, e8, s5, a5, e9, c1, c2, v5, e11, i3, j3, e13, e14, c3, v6, e15, i4, j4, e16, e17, k5, e18, h8⟩ := h7
        exact iteT ⟨v3, e7, v4, e8, s5, a5, e9, c1, c2, v5, e11, i3, j3, e13, e14, c3, v6, e15, i4, j4, e16, e17, k5, e18, mo _ _ h8⟩
end
end My.R
set_option Elab.async false
set_option linter.all false
set_option maxRecDepth 100000
set_option maxHeartbeats 4000000
set_option exponentiation.threshold 2000
namespace My.R
open My.O PySem PySem.Spec PyProof.Rows L2 Gn Mt
/-! rank, mark_of -/
abbrev sRank : Stmt := top 31
abbrev sMarkOf : Stmt := top 32
theorem scRank : FnScope ["step", "count", "mark"] ["step", "count", "mark"] (defScope sRank) := ⟨rfl, rfl, rfl, by decide +kernel, rfl, by decide +kernel, by decide +kernel⟩
theorem scMarkOf : FnScope ["step", "count", "rank", "many", "least", "most", "middle"] ["step", "count", "rank"] (defScope sMarkOf) := ⟨rfl, rfl, rfl, by decide +kernel, rfl, by decide +kernel, by decide +kernel⟩
def spRank : Sp := fun vs H Q _ => ∃ (t : Addr) (x y n k : Int), vs = [.ref t, .int n, .int k] ∧ StepAt H t x y ∧ y < 2 ^ 100 ∧ 1 ≤ n ∧ n ≤ 10 ^ 30 ∧ 0 ≤ k ∧ k < n ∧
  ∀ H', Same H H' → Q (.int (below x y (x * k % y) (min n y).toNat)) H'
def spMarkOf : Sp := fun vs H Q _ => ∃ (t : Addr) (x y n r : Int), vs = [.ref t, .int n, .int r] ∧ StepAt H t x y ∧ y < 2 ^ 100 ∧ 1 ≤ n ∧ n ≤ 10 ^ 30 ∧ 0 ≤ r ∧ r < min n y ∧
  ∀ (k : Int) H', Same H H' → 0 ≤ k → k < min n y → below x y (x * k % y) (min n y).toNat = r → Q (.int k) H'
section
variable {P : Program} {w : World} {K : PySem.W.Frag} {mg : Str → Option Value} {base : Heap}
/-- what rank and mark_of ask of the module -/
structure Rs (K : PySem.W.Frag) (mg : Str → Option Value) where
  rk : Rk K mg
  dv : mg "divmod" = none
  rv : mg "reversed" = none
  hb : Addr × FuncData
  hs : Addr × FuncData
  hf : Addr × FuncData
  hg : Addr × FuncData
  lb : Df K mg "_how_many_below" sBelow ["step", "count", "most"] hb.1 hb.2
  ls : Df K mg "_sum_of_wholes" sSum ["count", "bottom", "slope", "shift"] hs.1 hs.2
  lf : Df K mg "_first_from_to" sFFT ["step", "least", "most"] hf.1 hf.2
  lg : Df K mg "_first_from" sFF ["slope", "least"] hg.1 hg.2
theorem big30 {n : Int} (h : n ≤ 10 ^ 30) : n < 2 ^ 100 := by
  have : (10 : Int) ^ 30 < 2 ^ 100 := by decide
  omega
theorem ok_rank {f : Addr} {fd : FuncData} (F : Fun K "rank" "rank" sRank f fd) (M : Rs K mg) : FnOk P w K mg base CX0 7 f fd ["step", "count", "mark"] spRank := by
  have GC : FnOk P w K mg base CX0 6 M.rk.gk.1 M.rk.gk.2 ["step", "count", "mark"] spChMark := ok_chMark M.rk.ek.F M.rk
  have GM : FnOk P w K mg base CX0 1 M.rk.gm.1 M.rk.gm.2 ["step", "count"] spMany := ok_many M.rk.em.F M.rk
  have GB : FnOk P w K mg base CX0 2 M.hb.1 M.hb.2 ["step", "count", "most"] spBelow := ok_below M.lb.F M.ls M.dv
  refine F.ok scRank (fun vs H Q E h => ?_) (fun cdv A outer s H vs Q E hr h => ?_)
  · obtain ⟨t, x, y, n, k, rfl, _⟩ := h
    rfl
  · obtain ⟨t, x, y, n, k, rfl, ⟨hT, st⟩, yb, n1, n30, k0, k1, q⟩ := h
    have hr1 : Room 1 _ := hr.mono (by decide)
    have hr2 : Room 2 _ := hr.mono (by decide)
    refine ⟨_, pss_cons (ps_expr (pe_call GC hr (by rfl) M.rk.ek.g M.rk.ek.F.kp M.rk.ek.b .nil pass0 (pa_cons (pv 0) (pa_cons (pv 1) (pa_cons (pv 2) pa_nil)))))
      (pss_one (ps_ret (pe_call GB hr2 (by rfl) M.lb.g M.lb.F.kp M.lb.b .nil pass0 (pa_cons (pv 0) (pa_cons (pe_call GM hr1 (by rfl) M.rk.em.g M.rk.em.F.kp M.rk.em.b .nil pass0 (pa_cons (pv 0) (pa_cons (pv 1) pa_nil)))
        (pa_cons (pe_op op_modN (pe_op op_mulW (pe_ix ix_tup (pv 0) pe_int (fun _ _ => rfl)) (pv 2)) (pe_ix ix_tup (pv 0) pe_int (fun _ _ => rfl))) pa_nil)))))), ?_⟩
    have x0 := st.x0
    have xy := st.xy
    have y0 : 0 < y := by omega
    have nl := big30 n30
    have Nn : min n y ≤ n := Int.min_le_left _ _
    have N1 : 1 ≤ min n y := by rw [Int.min_def]; split <;> omega
    refine ⟨_, rfl, _, rfl, _, rfl, t, x, y, n, k, rfl, ⟨hT, st⟩, n1, n30, k0, k1, ?_⟩
    refine ⟨_, rfl, _, rfl, _, rfl, t, x, y, n, rfl, ⟨hT, st⟩, ?_⟩
    refine ⟨_, rfl, t, _, 0, .int x, rfl, rfl, SqT.of hT, at_of (j := 0) rfl rfl, _, rfl, _, _, rfl, rfl, wide_mul (nb (n := 100) (m := 100) x0 (by omega) (Nat.le_refl _)) (nb (n := 100) (m := 100) k0 (by omega) (Nat.le_refl _)) (by decide) (by decide) (by decide), ?_⟩
    refine ⟨_, rfl, t, _, 1, .int y, rfl, rfl, SqT.of hT, at_of (j := 1) rfl rfl, _, _, rfl, rfl, (show y ≠ 0 by omega), ?_⟩
    have r0 := Int.emod_nonneg (x * k) (show y ≠ 0 by omega)
    have r1 := Int.emod_lt_of_pos (x * k) y0
    have e : (x * k).fmod y = x * k % y := fmod_at y0
    rw [← e] at r0 r1 q
    exact ⟨t, x, y, min n y, (x * k).fmod y, rfl, ⟨hT, st⟩, yb, by omega, by omega, r0, by omega, fun H' s' => q _ s'⟩
theorem ok_markOf {f : Addr} {fd : FuncData} (F : Fun K "mark_of" "mark_of" sMarkOf f fd) (M : Rs K mg) : FnOk P w K mg base CX0 6 f fd ["step", "count", "rank"] spMarkOf := by
  have GC : FnOk P w K mg base CX0 5 M.rk.gc.1 M.rk.gc.2 ["step", "count"] spChCount := ok_chCount M.rk.ec.F M.rk
  have GN : FnOk P w K mg base CX0 3 M.rk.fn.1 M.rk.fn.2 ["given", "least", "most"] spChNum := ok_chNum M.rk.dn.F M.rk.c M.rk.di M.rk.dm
  have GM : FnOk P w K mg base CX0 1 M.rk.gm.1 M.rk.gm.2 ["step", "count"] spMany := ok_many M.rk.em.F M.rk
  have GB : FnOk P w K mg base CX0 2 M.hb.1 M.hb.2 ["step", "count", "most"] spBelow := ok_below M.lb.F M.ls M.dv
  have GF : FnOk P w K mg base CX0 2 M.hf.1 M.hf.2 ["step", "least", "most"] spFFT := ok_fft M.lf.F M.lg M.rv
  refine F.ok scMarkOf (fun vs H Q E h => ?_) (fun cdv A outer s H vs Q E hr h => ?_)
  · obtain ⟨t, x, y, n, r, rfl, _⟩ := h
    rfl
  · obtain ⟨t, x, y, n, r, rfl, ⟨hT, st⟩, yb, n1, n30, r0, r1, q⟩ := h
    have hr1 : Room 1 _ := hr.mono (by decide)
    have hr2 : Room 2 _ := hr.mono (by decide)
    have hr3 : Room 3 _ := hr.mono (by decide)
    refine ⟨_, pss_cons (ps_expr (pe_call GC hr (by rfl) M.rk.ec.g M.rk.ec.F.kp M.rk.ec.b .nil pass0 (pa_cons (pv 0) (pa_cons (pv 1) pa_nil))))
      (pss_cons (ps_set (i := 3) scMarkOf.nd rfl (.inl rfl) (pe_call GM hr1 (by rfl) M.rk.em.g M.rk.em.F.kp M.rk.em.b .nil pass0 (pa_cons (pv 0) (pa_cons (pv 1) pa_nil))))
      (pss_cons (ps_expr (pe_call GN hr3 (by rfl) M.rk.dn.g M.rk.dn.F.kp M.rk.dn.b .nil pass0 (pa_cons (pv 2) (pa_cons pe_int (pa_cons (pe_op op_sub (pv 3) pe_int) pa_nil)))))
      (pss_cons (ps_par (i := 4) (j := 5) (by rfl) scMarkOf.nd rfl rfl (by decide) rfl rfl (pa_cons pe_int (pa_cons (pe_op op_sub (pe_ix ix_tup (pv 0) pe_int (fun _ _ => rfl)) pe_int) pa_nil)) (by rfl))
      (pss_cons (ps_while PassesOwn.never (pt_cmpR op_lt (pv 4) (pv 5) (nomark _))
        (pss_cons (ps_set (i := 6) scMarkOf.nd rfl (.inl rfl) (pe_op op_fdiv (pe_op op_add (pe_op op_add (pv 4) (pv 5)) pe_int) pe_int))
        (pss_one (ps_if (pt_cmpR op_le (pe_call GB hr2 (by rfl) M.lb.g M.lb.F.kp M.lb.b .nil pass0 (pa_cons (pv 0) (pa_cons (pv 3) (pa_cons (pv 6) pa_nil)))) (pv 2) (nomark _))
          (pss_one (ps_set (i := 4) scMarkOf.nd rfl (.inl rfl) (pv 6)))
          (pss_one (ps_set (i := 5) scMarkOf.nd rfl (.inl rfl) (pe_op op_sub (pv 6) pe_int)))))))
      (pss_one (ps_ret (pe_call GF hr2 (by rfl) M.lf.g M.lf.F.kp M.lf.b .nil pass0 (pa_cons (pv 0) (pa_cons (pv 4) (pa_cons (pv 4) pa_nil)))))))))), ?_⟩
    have x0 := st.x0
    have xy := st.xy
    have y0 : 0 < y := by omega
    have nl := big30 n30
    have Nn : min n y ≤ n := Int.min_le_left _ _
    have Ny : min n y ≤ y := Int.min_le_right _ _
    have R := rim_step (n := (((min n y).toNat : Nat) : Int)) y0 st.co (by omega)
    obtain ⟨k, k0, k1, ek, hk⟩ := rank_ex R r0 (by omega)
    refine ⟨_, rfl, _, rfl, t, x, y, n, rfl, ⟨hT, st⟩, n1, n30, ?_⟩
    refine ⟨_, rfl, _, rfl, t, x, y, n, rfl, ⟨hT, st⟩, ?_⟩
    generalize min n y = N at *
    refine ⟨_, rfl, _, rfl, _, _, rfl, rfl, r, 0, N - 1, rfl, r0, by omega, ?_⟩
    refine ⟨_, rfl, t, _, 1, .int y, rfl, rfl, SqT.of hT, at_of (j := 1) rfl rfl, _, _, rfl, rfl, _, _, rfl, ?_⟩
    have t0 := Int.emod_nonneg (x * k) (show y ≠ 0 by omega)
    have t1 := Int.emod_lt_of_pos (x * k) y0
    refine while_by (fun σ H' => ∃ (a b : Int) (u : Option V), σ = [some (.ref t), some (.int n), some (.int r), some (.int N), some (.int a), some (.int b), u] ∧ 0 ≤ a ∧ a ≤ x * k % y ∧ x * k % y ≤ b ∧ b < y ∧ Same H H')
      (fun σ _ => match σ with | [_, _, _, _, some (.int a), some (.int b), _] => (b - a).toNat | _ => 0) ⟨0, y - 1, none, rfl, Int.le_refl _, t0, by omega, by omega, Same.refl _⟩ ?_ ?_
    · rintro σ H1 ⟨a, b, u, rfl, a0, a1, b1, by', s1⟩
      refine ⟨_, rfl, _, rfl, _, _, rfl, rfl, _, rfl, ?_⟩
      refine ite2 (fun hc => ?_) (fun hc => ?_)
      · have lt : a < b := of_decide_eq_true hc
        refine ⟨_, rfl, _, rfl, _, _, rfl, rfl, _, _, rfl, rfl, _, _, rfl, rfl, ⟨by decide, by decide⟩, ?_⟩
        have m0 : a < (a + b + 1) / 2 := by omega
        have m1 : (a + b + 1) / 2 ≤ b := by omega
        refine ⟨_, rfl, _, rfl, _, rfl, t, x, y, N, (a + b + 1) / 2, rfl, ⟨s1 _ _ hT, st⟩, yb, by omega, by omega, by omega, by omega, fun H2 s2 => ?_⟩
        refine ⟨_, rfl, _, _, rfl, rfl, _, rfl, ?_⟩
        refine ite2 (fun hd => ?_) (fun hd => ?_)
        · have le := (hk _).mp (of_decide_eq_true hd)
          refine ⟨_, rfl, ⟨((a + b + 1) / 2), b, _, rfl, by omega, le, b1, by', s1.trans s2⟩, ?_⟩
          show (b - ((a + b + 1) / 2)).toNat < (b - a).toNat
          omega
        · have nle : ¬ ((a + b + 1) / 2) ≤ x * k % y := fun z => hd (decide_eq_true ((hk _).mpr z))
          refine ⟨_, rfl, _, _, rfl, rfl, ⟨a, ((a + b + 1) / 2) - 1, _, rfl, a0, a1, by omega, by omega, s1.trans s2⟩, ?_⟩
          show (((a + b + 1) / 2) - 1 - a).toNat < (b - a).toNat
          omega
      · have le : ¬ a < b := fun z => hc (decide_eq_true z)
        have ea : a = x * k % y := by omega
        refine ⟨_, rfl, _, rfl, _, rfl, t, x, y, a, a, rfl, ⟨s1 _ _ hT, st⟩, yb, a0, Int.le_refl _, by omega, fun m H2 s2 Fm => ?_⟩
        have mk := Fm.2 k ⟨k0, by omega, by omega⟩
        have m0 := Fm.1.1
        have e : x * m % y = x * k % y := by have := Fm.1.2.1; have := Fm.1.2.2; omega
        have em : m = k := R.one m0 (by omega) k0 (by omega) e
        rw [em]
        exact q k _ (s1.trans s2) k0 (by omega) ek
    · rintro σ H1 Q1 Q2 mo ⟨v1, e1, v2, e2, i, j, e3, e4, kk, e5, h⟩
      exact ⟨v1, e1, v2, e2, i, j, e3, e4, kk, e5, mo _ _ h⟩
end
end My.R
set_option Elab.async false
set_option linter.all false
set_option maxRecDepth 100000
set_option maxHeartbeats 4000000
set_option exponentiation.threshold 2000
namespace My.W
open My.O PySem PySem.Spec PyProof.Rows L2 Gn Mt
/-! ranks: counting below a top, the first mark between two tops -/
abbrev sIsPart : Stmt := top 22
theorem scIsPart : FnScope ["given"] ["given"] (defScope sIsPart) := ⟨rfl, rfl, rfl, by decide +kernel, rfl, by decide +kernel, by decide +kernel⟩
abbrev sIsLess : Stmt := top 23
theorem scIsLess : FnScope ["one", "other"] ["one", "other"] (defScope sIsLess) := ⟨rfl, rfl, rfl, by decide +kernel, rfl, by decide +kernel, by decide +kernel⟩
abbrev sChArc : Stmt := top 38
theorem scChArc : FnScope ["low", "high"] ["low", "high"] (defScope sChArc) := ⟨rfl, rfl, rfl, by decide +kernel, rfl, by decide +kernel, by decide +kernel⟩
abbrev sBelow : Stmt := top 41
theorem scBelow : FnScope ["step", "count", "most", "top", "bottom"] ["step", "count", "most"] (defScope sBelow) := ⟨rfl, rfl, rfl, by decide +kernel, rfl, by decide +kernel, by decide +kernel⟩
abbrev sSum : Stmt := top 42
theorem scSum : FnScope ["count", "bottom", "slope", "shift", "total"] ["count", "bottom", "slope", "shift"] (defScope sSum) := ⟨rfl, rfl, rfl, by decide +kernel, rfl, by decide +kernel, by decide +kernel⟩
abbrev sLeastTop : Stmt := top 43
theorem scLeastTop : FnScope ["fraction", "bottom"] ["fraction", "bottom"] (defScope sLeastTop) := ⟨rfl, rfl, rfl, by decide +kernel, rfl, by decide +kernel, by decide +kernel⟩
abbrev sFFT : Stmt := top 44
theorem scFFT : FnScope ["step", "least", "most", "slope", "whole", "turns", "mark"] ["step", "least", "most"] (defScope sFFT) := ⟨rfl, rfl, rfl, by decide +kernel, rfl, by decide +kernel, by decide +kernel⟩
abbrev sFF : Stmt := top 45
theorem scFF : FnScope ["slope", "least"] ["slope", "least"] (defScope sFF) := ⟨rfl, rfl, rfl, by decide +kernel, rfl, by decide +kernel, by decide +kernel⟩
theorem fmod_at {k y : Int} (h : 0 < y) : k.fmod y = k % y := Int.fmod_eq_emod_of_nonneg _ (by omega)
/-- a fraction in lowest terms stands at t -/
def FrAt (H : Hp) (t : Addr) (x y : Int) : Prop := H t = some (.tup [.int x, .int y]) ∧ 1 ≤ y ∧ Nat.gcd x.natAbs y.natAbs = 1
def spFr : Sp := fun vs H Q _ => ∃ (t : Addr) (x y : Int), vs = [.ref t] ∧ FrAt H t x y ∧ Q (.bl true) H
def spPart : Sp := fun vs H Q _ => ∃ (t : Addr) (x y : Int), vs = [.ref t] ∧ FrAt H t x y ∧ 0 ≤ x ∧ x ≤ y ∧ Q (.bl true) H
def spLess : Sp := fun vs H Q _ => ∃ (s t : Addr) (a b c d : Int), vs = [.ref s, .ref t] ∧ H s = some (.tup [.int a, .int b]) ∧ H t = some (.tup [.int c, .int d]) ∧ a.natAbs < 2 ^ 200 ∧ b.natAbs < 2 ^ 200 ∧ c.natAbs < 2 ^ 200 ∧ d.natAbs < 2 ^ 200 ∧ Q (.bl (decide (a * d < c * b))) H
def spArc : Sp := fun vs H Q _ => ∃ (s t : Addr) (a b c d : Int), vs = [.ref s, .ref t] ∧ FrAt H s a b ∧ FrAt H t c d ∧ 0 ≤ a ∧ a ≤ b ∧ 0 ≤ c ∧ c ≤ d ∧ b.natAbs < 2 ^ 200 ∧ d.natAbs < 2 ^ 200 ∧ a * d < c * b ∧ Q .non H
def spLeastTop : Sp := fun vs H Q _ => ∃ (t : Addr) (a b n : Int), vs = [.ref t, .int n] ∧ H t = some (.tup [.int a, .int b]) ∧ 0 < b ∧ a.natAbs < 2 ^ 200 ∧ b.natAbs < 2 ^ 200 ∧ n.natAbs < 2 ^ 200 ∧ Q (.int (-(-a * n / b))) H
def spFF : Sp := fun vs H Q _ => ∃ (s a : Int), vs = [.int s, .int a] ∧ 0 < s ∧ s.natAbs < 2 ^ 200 ∧ Q (.int (-(-a / s))) H
def spSum : Sp := fun vs H Q _ => ∃ (n m a b : Int), vs = [.int n, .int m, .int a, .int b] ∧ 0 ≤ n ∧ n < 2 ^ 100 ∧ 0 < m ∧ m < 2 ^ 100 ∧ 0 ≤ a ∧ a < 2 ^ 100 ∧ 0 ≤ b ∧ b < 2 ^ 101 ∧ ∀ H', Same H H' → Q (.int (fsum m a b n.toNat)) H'
def spBelow : Sp := fun vs H Q _ => ∃ (t : Addr) (x y n c : Int), vs = [.ref t, .int n, .int c] ∧ StepAt H t x y ∧ y < 2 ^ 100 ∧ 0 ≤ n ∧ n < 2 ^ 100 ∧ 0 ≤ c ∧ c ≤ y ∧ ∀ H', Same H H' → Q (.int (below x y c n.toNat)) H'
def spFFT : Sp := fun vs H Q _ => ∃ (t : Addr) (x y a b : Int), vs = [.ref t, .int a, .int b] ∧ StepAt H t x y ∧ y < 2 ^ 100 ∧ 0 ≤ a ∧ a ≤ b ∧ b < y ∧ ∀ m H', Same H H' → Fst x y a b m → Q (.int m) H'
theorem nb {z : Int} {n m : Nat} (h0 : 0 ≤ z) (h : z < 2 ^ n) (hm : n ≤ m) : z.natAbs < 2 ^ m := by
  have h1 : (2 : Nat) ^ n ≤ 2 ^ m := Nat.pow_le_pow_right (by decide) hm
  have h2 : ((2 : Int) ^ n) = ((2 ^ n : Nat) : Int) := by push_cast; rfl
  rw [h2] at h
  omega
/-- a first one lies in the first whole -/
theorem fst_lt {s w a b m : Int} (w0 : 0 < w) (F : Fst s w a b m) : 0 ≤ m ∧ m < w := by
  obtain ⟨⟨m0, h1, h2⟩, l⟩ := F
  have := l (m % w) ⟨Int.emod_nonneg _ (by omega), by rw [Int.mul_emod, Int.emod_emod, ← Int.mul_emod]; exact h1, by rw [Int.mul_emod, Int.emod_emod, ← Int.mul_emod]; exact h2⟩
  have := Int.emod_lt_of_pos m w0
  omega
/-- how it came to what is looked for now -/
inductive Ch (s0 w0 a0 b0 : Int) : List (List Int) → Int → Int → Int → Int → Prop
  | nil : 0 ≤ s0 → s0 < w0 → Nat.gcd s0.natAbs w0.natAbs = 1 → 0 ≤ a0 → a0 ≤ b0 → b0 < w0 → Ch s0 w0 a0 b0 [] s0 w0 a0 b0
  | snoc {gs s w a b} : Ch s0 w0 a0 b0 gs s w a b → 0 < a → b < -(-a / s) * s → Ch s0 w0 a0 b0 (gs ++ [[s, w, a]]) (w % s) s (-b % s) (-a % s)
structure Now (s w a b : Int) : Prop where
  s0 : 0 ≤ s
  sw : s < w
  co : Nat.gcd s.natAbs w.natAbs = 1
  a0 : 0 ≤ a
  ab : a ≤ b
  bw : b < w
theorem Now.pos {s w a b : Int} (N : Now s w a b) (h : 0 < a) : 0 < s := by
  rcases Int.lt_or_eq_of_le N.s0 with c | c
  · exact c
  · have co := N.co
    rw [← c, Int.natAbs_zero, Nat.gcd_zero_left] at co
    have := N.ab; have := N.bw
    omega
theorem Now.turn {s w a b : Int} (N : Now s w a b) (h : 0 < a) (g : b < -(-a / s) * s) : Now (w % s) s (-b % s) (-a % s) := by
  have s0 := N.pos h
  obtain ⟨h1, h2⟩ := ceil_at (a := a) s0
  have hab := N.ab
  generalize -(-a / s) = c at *
  have hc : b < s * c := by rw [Int.mul_comm]; exact g
  have ec : s * (c - 1) = s * c - s := by rw [Int.mul_sub, Int.mul_one]
  rw [neg_mod (a := a) (c := c) (d := s * c - a) (by omega) (by omega) (by omega), neg_mod (a := b) (c := c) (d := s * c - b) (by omega) (by omega) (by omega)]
  refine ⟨Int.emod_nonneg _ (by omega), Int.emod_lt_of_pos _ s0, ?_, by omega, by omega, by omega⟩
  have w0 : 0 ≤ w := by have := N.sw; omega
  obtain ⟨u, rfl⟩ := Int.eq_ofNat_of_zero_le w0
  obtain ⟨v, rfl⟩ := Int.eq_ofNat_of_zero_le (show 0 ≤ s by omega)
  have co := N.co
  rw [← Int.natCast_emod, Int.natAbs_natCast, Int.natAbs_natCast] 
  rw [Int.natAbs_natCast, Int.natAbs_natCast, Nat.gcd_rec] at co
  exact co
theorem Ch.now {s0 w0 a0 b0 : Int} {gs : List (List Int)} {s w a b : Int} (C : Ch s0 w0 a0 b0 gs s w a b) : Now s w a b := by
  induction C with
  | nil h1 h2 h3 h4 h5 h6 => exact ⟨h1, h2, h3, h4, h5, h6⟩
  | snoc C h g ih => exact ih.turn h g
theorem Ch.le {s0 w0 a0 b0 : Int} {gs : List (List Int)} {s w a b : Int} (C : Ch s0 w0 a0 b0 gs s w a b) : w ≤ w0 ∧ gs.length + s ≤ s0 := by
  induction C with
  | nil h1 h2 h3 h4 h5 h6 => exact ⟨Int.le_refl _, by simp⟩
  | @snoc gs s w a b C h g ih =>
    have N := C.now
    have s1 := N.pos h
    have := Int.emod_lt_of_pos w s1
    have := N.sw
    rw [List.length_append]
    refine ⟨by omega, by push_cast; show (gs.length : Int) + 1 + w % s ≤ s0; omega⟩
theorem Ch.root {s0 w0 a0 b0 : Int} {gs : List (List Int)} {s w a b : Int} (C : Ch s0 w0 a0 b0 gs s w a b) (e : gs = []) : s = s0 ∧ w = w0 ∧ a = a0 ∧ b = b0 := by
  cases C with
  | nil => exact ⟨rfl, rfl, rfl, rfl⟩
  | snoc => simp at e
/-- few turns: a product halves -/
theorem Ch.half {s0 w0 a0 b0 : Int} {gs : List (List Int)} {s w a b : Int} (C : Ch s0 w0 a0 b0 gs s w a b) : 2 ^ gs.length * (s * w) ≤ s0 * w0 := by
  induction C with
  | nil => simp
  | @snoc gs s w a b C h g ih =>
    have N := C.now
    have sp := N.pos h
    have sw := N.sw
    have r0 := Int.emod_nonneg w (show s ≠ 0 by omega)
    have r1 := Int.emod_lt_of_pos w sp
    have e := Int.emod_add_mul_ediv w s
    have q1 : 1 ≤ w / s := (Int.le_ediv_iff_mul_le sp).mpr (by omega)
    have q2 : s * 1 ≤ s * (w / s) := Int.mul_le_mul_of_nonneg_left q1 (by omega)
    have h2 : 2 * (w % s) ≤ w := by omega
    have h3 : 2 * (w % s) * s ≤ w * s := Int.mul_le_mul_of_nonneg_right h2 (by omega)
    have p0 : (0 : Int) ≤ 2 ^ gs.length := Int.le_of_lt (Int.pow_pos (by decide))
    have h4 : 2 ^ gs.length * (2 * (w % s) * s) ≤ 2 ^ gs.length * (w * s) := Int.mul_le_mul_of_nonneg_left h3 p0
    rw [List.length_append, List.length_singleton, Int.pow_succ]
    have e1 : 2 ^ gs.length * 2 * (w % s * s) = 2 ^ gs.length * (2 * (w % s) * s) := by
      rw [Int.mul_assoc, Int.mul_assoc]
    have e2 : 2 ^ gs.length * (w * s) = 2 ^ gs.length * (s * w) := by rw [Int.mul_comm w s]
    rw [e1]
    omega
theorem Ch.few {s0 w0 a0 b0 : Int} {gs : List (List Int)} {s w a b : Int} (C : Ch s0 w0 a0 b0 gs s w a b) (h : 0 < a) (s1 : 0 ≤ s0 ∧ s0 < w0 ∧ w0 < 2 ^ 100) : gs.length ≤ 900 := by
  have H := C.half
  have N := C.now
  have sp := N.pos h
  have sw := N.sw
  have p1 : (1 : Int) * 1 ≤ s * w := Int.mul_le_mul (by omega) (by omega) (by decide) (by omega)
  have p0 : (0 : Int) ≤ 2 ^ gs.length := Int.le_of_lt (Int.pow_pos (by decide))
  have h1 : 2 ^ gs.length * 1 ≤ 2 ^ gs.length * (s * w) := Int.mul_le_mul_of_nonneg_left (by omega) p0
  have h2 : s0 * w0 ≤ 2 ^ 100 * 2 ^ 100 := Int.mul_le_mul (by omega) (by omega) (by omega) (by decide)
  rcases Nat.lt_or_ge 900 gs.length with c | c
  · have h3 : (2 : Nat) ^ 900 ≤ 2 ^ gs.length := Nat.pow_le_pow_right (by decide) (by omega)
    have h4 : ((2 : Int) ^ gs.length) = ((2 ^ gs.length : Nat) : Int) := by push_cast; rfl
    have h5 : (2 : Nat) ^ 100 * 2 ^ 100 < 2 ^ 900 := by decide
    have h6 : ((2 : Int) ^ 100 * 2 ^ 100) = (((2 : Nat) ^ 100 * 2 ^ 100 : Nat) : Int) := by decide
    rw [h6] at h2
    rw [h4] at h1 H
    omega
  · exact c
theorem tups_get {H : Hp} : ∀ {rs : List Addr} {gs : List (List Int)} {j : Nat} {v : V}, Tups H rs gs → (rs.map V.ref)[j]? = some v → ∃ a g, v = .ref a ∧ gs[j]? = some g ∧ H a = some (.tup (g.map V.int))
  | [], _, j, v, _, h => by simp at h
  | r :: rs, [], j, v, T, _ => T.elim
  | r :: rs, g :: gs, 0, v, T, h => by
    rw [List.map_cons, List.getElem?_cons_zero] at h
    cases h
    exact ⟨r, g, rfl, rfl, T.1⟩
  | r :: rs, g :: gs, j + 1, v, T, h => by
    rw [List.map_cons, List.getElem?_cons_succ] at h
    obtain ⟨a, g', e1, e2, e3⟩ := tups_get T.2 h
    exact ⟨a, g', e1, by rw [List.getElem?_cons_succ]; exact e2, e3⟩
/-- the last one of a row that is not empty -/
theorem Ch.last {s0 w0 a0 b0 : Int} {gs hs : List (List Int)} {g : List Int} {s w a b : Int} (C : Ch s0 w0 a0 b0 gs s w a b) (e : gs = hs ++ [g]) : ∃ s' w' a' b', g = [s', w', a'] ∧ Ch s0 w0 a0 b0 hs s' w' a' b' ∧ 0 < a' ∧ b' < -(-a' / s') * s' ∧ s = w' % s' ∧ w = s' ∧ a = -b' % s' ∧ b = -a' % s' := by
  cases C with
  | nil => cases hs <;> simp at e
  | @snoc gs s w a b C h g' =>
    obtain ⟨e1, e2⟩ := List.append_inj' e rfl
    subst e1
    cases e2
    exact ⟨_, _, _, _, rfl, C, h, g', rfl, rfl, rfl, rfl⟩
section
variable {P : Program} {w : World} {K : PySem.W.Frag} {mg : Str → Option Value} {base : Heap}
theorem ok_fr {f fI : Addr} {fd fdI : FuncData} (F : Fun K "is_fraction" "is_fraction" sIsFr f fd) (B : Bc mg) (D : Df K mg "is_integer" sIsInt ["given"] fI fdI) : FnOk P w K mg base CX0 2 f fd ["given"] spFr := by
  have GI : FnOk P w K mg base CX0 1 fI fdI ["given"] spIsInt := ok_isInt D.F B
  refine F.ok scIsFr (fun vs H Q E h => ?_) (fun cdv A outer s H vs Q E hr h => ?_)
  · obtain ⟨t, x, y, rfl, _⟩ := h
    rfl
  · obtain ⟨t, x, y, rfl, ⟨hT, y1, co⟩, q⟩ := h
    refine ⟨_, pss_cons (ps_if (PW.pt (pw_or (pt_not (pt_val (pe_callB call_isi (by rfl) B.isi (by decide +kernel) (pa_cons (pv 0) (pa_cons (pe_bltn (v := .ty "tuple") (by rfl) B.tuple (by decide +kernel) rfl) pa_nil)))))
        (pw_or1 (pt_cmpR op_ne (pe_callB call_len_seq (by rfl) B.len PySem.boot_len (pa_cons (pv 0) pa_nil)) pe_int (nomark _))))) (pss_one (ps_ret pe_bl)) pss_nil)
      (pss_cons (ps_asg (pv 0) (pg_tup (by rfl) (pgs_cons (pg_name (i := 1) scIsFr.nd rfl (.inl rfl)) (pgs_cons (pg_name (i := 2) scIsFr.nd rfl (.inl rfl)) pgs_nil))))
      (pss_cons (ps_if (PW.pt (pw_or (pt_not (pt_val (pe_call GI hr (by rfl) D.g D.F.kp D.b .nil pass0 (pa_cons (pv 1) pa_nil)))) (pw_or1 (pt_not (pt_val (pe_call GI hr (by rfl) D.g D.F.kp D.b .nil pass0 (pa_cons (pv 2) pa_nil))))))) (pss_one (ps_ret pe_bl)) pss_nil)
      (pss_one (ps_ret (pe_and (pe_cmpR op_ge (pv 2) pe_int (nomark _)) (pe_one (pe_cmpR op_eq (pe_callBfun cr_gcd (by rfl) B.gcd (pa_cons (pv 1) (pa_cons (pv 2) pa_nil))) pe_int (nomark _)))))))), ?_⟩
    refine ⟨_, rfl, .ref t, .ty "tuple", _, _, true, rfl, .ty "tuple", .base (.tup hT), kit_ty (by decide +kernel), true, rfl, iteF ?_⟩
    refine ⟨_, rfl, t, _, rfl, .inr (SqT.of hT), rfl, _, rfl, iteF ?_⟩
    refine ⟨_, rfl, t, _, rfl, SqT.of hT, rfl, _, _, rfl, _, _, rfl, rfl, ?_⟩
    refine ⟨_, rfl, x, rfl, true, rfl, iteF ⟨_, rfl, y, rfl, true, rfl, iteF ?_⟩⟩
    refine ⟨_, rfl, _, _, rfl, rfl, _, rfl, ?_⟩
    rw [decide_eq_true y1]
    refine iteT ⟨_, rfl, _, rfl, x, y, rfl, ?_⟩
    rw [co]
    exact ⟨rfl, q⟩
theorem ok_part {f fI fR : Addr} {fd fdI fdR : FuncData} (F : Fun K "is_part" "is_part" sIsPart f fd) (B : Bc mg) (D : Df K mg "is_integer" sIsInt ["given"] fI fdI) (R : Df K mg "is_fraction" sIsFr ["given"] fR fdR) : FnOk P w K mg base CX0 3 f fd ["given"] spPart := by
  have GR : FnOk P w K mg base CX0 2 fR fdR ["given"] spFr := ok_fr R.F B D
  refine F.ok scIsPart (fun vs H Q E h => ?_) (fun cdv A outer s H vs Q E hr h => ?_)
  · obtain ⟨t, x, y, rfl, _⟩ := h
    rfl
  · obtain ⟨t, x, y, rfl, ⟨hT, fr⟩, x0, xy, q⟩ := h
    refine ⟨_, pss_one (ps_ret (pe_and (pe_call GR hr (by rfl) R.g R.F.kp R.b .nil pass0 (pa_cons (pv 0) pa_nil)) (pe_one (pe_chain op_le op_le pe_int (pe_ix ix_tup (pv 0) pe_int (fun _ _ => rfl)) (pe_ix ix_tup (pv 0) pe_int (fun _ _ => rfl)))))), ?_⟩
    refine ⟨_, rfl, t, x, y, rfl, ⟨hT, fr⟩, true, rfl, iteT ?_⟩
    refine ⟨_, rfl, t, _, 0, .int x, rfl, rfl, SqT.of hT, at_of (j := 0) rfl rfl, _, _, rfl, rfl, _, rfl, ?_⟩
    rw [decide_eq_true x0]
    refine iteT ⟨_, rfl, t, _, 1, .int y, rfl, rfl, SqT.of hT, at_of (j := 1) rfl rfl, _, _, rfl, rfl, ?_⟩
    show Q (.bl (decide (x ≤ y))) H
    rw [decide_eq_true xy]
    exact q
theorem ok_less {f : Addr} {fd : FuncData} (F : Fun K "is_less" "is_less" sIsLess f fd) : FnOk P w K mg base CX0 1 f fd ["one", "other"] spLess := by
  refine F.ok scIsLess (fun vs H Q E h => ?_) (fun cdv A outer s H vs Q E hr h => ?_)
  · obtain ⟨s, t, a, b, c, d, rfl, _⟩ := h
    rfl
  · obtain ⟨s, t, a, b, c, d, rfl, hS, hT, ba, bb, bc, bd, q⟩ := h
    refine ⟨_, pss_one (ps_ret (pe_cmpR op_lt (pe_op op_mulW (pe_ix ix_tup (pv 0) pe_int (fun _ _ => rfl)) (pe_ix ix_tup (pv 1) pe_int (fun _ _ => rfl))) (pe_op op_mulW (pe_ix ix_tup (pv 1) pe_int (fun _ _ => rfl)) (pe_ix ix_tup (pv 0) pe_int (fun _ _ => rfl))) (nomark _))), ?_⟩
    exact ⟨_, rfl, s, _, 0, .int a, rfl, rfl, SqT.of hS, at_of (j := 0) rfl rfl, _, rfl, t, _, 1, .int d, rfl, rfl, SqT.of hT, at_of (j := 1) rfl rfl, _, _, rfl, rfl, wide_mul ba bd (by decide) (by decide) (by decide),
      _, rfl, t, _, 0, .int c, rfl, rfl, SqT.of hT, at_of (j := 0) rfl rfl, _, rfl, s, _, 1, .int b, rfl, rfl, SqT.of hS, at_of (j := 1) rfl rfl, _, _, rfl, rfl, wide_mul bc bb (by decide) (by decide) (by decide), _, _, rfl, rfl, q⟩
theorem ok_arc {f fI fR fP fL : Addr} {fd fdI fdR fdP fdL : FuncData} (F : Fun K "_check_arc" "_check_arc" sChArc f fd) (B : Bc mg) (D : Df K mg "is_integer" sIsInt ["given"] fI fdI) (R : Df K mg "is_fraction" sIsFr ["given"] fR fdR)
    (T : Df K mg "is_part" sIsPart ["given"] fP fdP) (L : Df K mg "is_less" sIsLess ["one", "other"] fL fdL) : FnOk P w K mg base CX0 4 f fd ["low", "high"] spArc := by
  have GP : FnOk P w K mg base CX0 3 fP fdP ["given"] spPart := ok_part T.F B D R
  have GL : FnOk P w K mg base CX0 1 fL fdL ["one", "other"] spLess := ok_less L.F
  refine F.ok scChArc (fun vs H Q E h => ?_) (fun cdv A outer s H vs Q E hr h => ?_)
  · obtain ⟨s, t, a, b, c, d, rfl, _⟩ := h
    rfl
  · obtain ⟨s, t, a, b, c, d, rfl, hS, hT, a0, ab, c0, cd, bb, bd, lt, q⟩ := h
    have hr1 : Room 1 _ := hr.mono (by decide)
    have ba : a.natAbs < 2 ^ 200 := by omega
    have bc : c.natAbs < 2 ^ 200 := by omega
    refine ⟨_, pss_cons (ps_if (pt_not (pt_val (pe_call GP hr (by rfl) T.g T.F.kp T.b .nil pass0 (pa_cons (pv 0) pa_nil)))) (pss_one (ps_never)) pss_nil)
      (pss_one (ps_if (PW.pt (pw_or (pt_not (pt_val (pe_call GP hr (by rfl) T.g T.F.kp T.b .nil pass0 (pa_cons (pv 1) pa_nil)))) (pw_or1 (pt_not (pt_val (pe_call GL hr1 (by rfl) L.g L.F.kp L.b .nil pass0 (pa_cons (pv 0) (pa_cons (pv 1) pa_nil)))))))) (pss_one (ps_never)) pss_nil)), ?_⟩
    refine ⟨_, rfl, s, a, b, rfl, hS, a0, ab, true, rfl, iteF ?_⟩
    refine ⟨_, rfl, t, c, d, rfl, hT, c0, cd, true, rfl, iteF ?_⟩
    refine ⟨_, rfl, _, rfl, s, t, a, b, c, d, rfl, hS.1, hT.1, ba, bb, bc, bd, _, rfl, ?_⟩
    rw [decide_eq_true lt]
    exact iteF q
theorem ok_leastTop {f : Addr} {fd : FuncData} (F : Fun K "_least_top" "_least_top" sLeastTop f fd) : FnOk P w K mg base CX0 1 f fd ["fraction", "bottom"] spLeastTop := by
  refine F.ok scLeastTop (fun vs H Q E h => ?_) (fun cdv A outer s H vs Q E hr h => ?_)
  · obtain ⟨t, a, b, n, rfl, _⟩ := h
    rfl
  · obtain ⟨t, a, b, n, rfl, hT, b0, ba, bb, bn, q⟩ := h
    refine ⟨_, pss_one (ps_ret (pe_un un_neg (pe_op op_fdivW (pe_op op_mulW (pe_un un_neg (pe_ix ix_tup (pv 0) pe_int (fun _ _ => rfl))) (pv 1)) (pe_ix ix_tup (pv 0) pe_int (fun _ _ => rfl))))), ?_⟩
    exact ⟨_, rfl, t, _, 0, .int a, rfl, rfl, SqT.of hT, at_of (j := 0) rfl rfl, _, rfl, _, rfl, _, _, rfl, rfl, wide_mul (i := -a) (a := 200) (by rw [Int.natAbs_neg]; exact ba) bn (by decide) (by decide) (by decide), _, rfl, t, _, 1, .int b, rfl, rfl, SqT.of hT, at_of (j := 1) rfl rfl, _, _, rfl, rfl, wide_div b0 bb (by decide) (by decide), _, rfl, q⟩
theorem ok_ff {f : Addr} {fd : FuncData} (F : Fun K "_first_from" "_first_from" sFF f fd) : FnOk P w K mg base CX0 1 f fd ["slope", "least"] spFF := by
  refine F.ok scFF (fun vs H Q E h => ?_) (fun cdv A outer s H vs Q E hr h => ?_)
  · obtain ⟨s, a, rfl, _⟩ := h
    rfl
  · obtain ⟨s, a, rfl, s0, bs, q⟩ := h
    refine ⟨_, pss_one (ps_ret (pe_un un_neg (pe_op op_fdivW (pe_un un_neg (pv 1)) (pv 0)))), ?_⟩
    exact ⟨_, rfl, _, rfl, _, rfl, _, _, rfl, rfl, wide_div s0 bs (by decide) (by decide), _, rfl, q⟩
theorem ok_sum {f : Addr} {fd : FuncData} (F : Fun K "_sum_of_wholes" "_sum_of_wholes" sSum f fd) (dv : mg "divmod" = none) : FnOk P w K mg base CX0 1 f fd ["count", "bottom", "slope", "shift"] spSum := by
  refine F.ok scSum (fun vs H Q E h => ?_) (fun cdv A outer s H vs Q E hr h => ?_)
  · obtain ⟨n, m, a, b, rfl, _⟩ := h
    rfl
  · obtain ⟨n, m, a, b, rfl, n0, n1, m0, m1, a0, a1, b0, b1, q⟩ := h
    refine ⟨_, pss_cons (ps_set (i := 4) scSum.nd rfl (.inl rfl) pe_int)
      (pss_cons (ps_while PassesOwn.never (pt_truth (pv 0) (by intro _; rfl))
        (pss_cons (ps_aug (i := 4) scSum.nd rfl (.inl rfl) (pe_op op_add (pe_op op_mulW (pe_op op_fdiv (pe_op op_mulW (pv 0) (pe_op op_sub (pv 0) pe_int)) pe_int) (pe_op op_fdivW (pv 2) (pv 1))) (pe_op op_mulW (pv 0) (pe_op op_fdivW (pv 3) (pv 1)))) ip_add)
        (pss_cons (ps_par (i := 2) (j := 3) (by rfl) scSum.nd rfl rfl (by decide) rfl rfl (pa_cons (pe_op op_modN (pv 2) (pv 1)) (pa_cons (pe_op op_modN (pv 3) (pv 1)) pa_nil)) (by rfl))
        (pss_cons (ps_asg (pe_callB call_divmodW (by rfl) dv (by decide +kernel) (pa_cons (pe_op op_add (pe_op op_mulW (pv 2) (pv 0)) (pv 3)) (pa_cons (pv 1) pa_nil))) (pg_tup (by rfl) (pgs_cons (pg_name (i := 0) scSum.nd rfl (.inl rfl)) (pgs_cons (pg_name (i := 3) scSum.nd rfl (.inl rfl)) pgs_nil))))
        (pss_one (ps_par (i := 2) (j := 1) (by rfl) scSum.nd rfl rfl (by decide) rfl rfl (pa_cons (pv 1) (pa_cons (pv 2) pa_nil)) (by rfl)))))))
      (pss_one (ps_ret (pv 4)))), ?_⟩
    dsimp only [tSeq, tAsg, tC, gName]
    refine while_by (fun σ H' => ∃ (n' m' a' b' tot : Int), σ = [some (.int n'), some (.int m'), some (.int a'), some (.int b'), some (.int tot)] ∧ 0 ≤ n' ∧ n' < 2 ^ 100 ∧ 0 ≤ m' ∧ m' < 2 ^ 100 ∧ (n' = 0 ∨ 0 < m') ∧ 0 ≤ a' ∧ a' < 2 ^ 100 ∧ 0 ≤ b' ∧ b' < 2 ^ 101 ∧ tot + fsum m' a' b' n'.toNat = fsum m a b n.toNat ∧ Same H H')
      (fun σ _ => match σ with | [_, some (.int m'), _, _, _] => m'.toNat | _ => 0) ⟨n, m, a, b, 0, rfl, n0, n1, by omega, m1, .inr m0, a0, a1, b0, b1, by rw [Int.zero_add], Same.refl _⟩ ?_ ?_
    · rintro σ H' ⟨n', m', a', b', tot, rfl, n0', n1', m0', m1', hm, a0', a1', b0', b1', inv, s1⟩
      refine ⟨_, rfl, _, rfl, ?_⟩
      refine ite2 (fun hc => ?_) (fun hc => ?_)
      · have nn : n' ≠ 0 := by simpa using hc
        have mp : 0 < m' := by omega
        have r0 := Int.emod_nonneg a' (show m' ≠ 0 by omega)
        have r1 := Int.emod_lt_of_pos a' mp
        have t0 := Int.emod_nonneg b' (show m' ≠ 0 by omega)
        have t1 := Int.emod_lt_of_pos b' mp
        have d0 : 0 ≤ a' / m' := Int.ediv_nonneg a0' (by omega)
        have d1 : a' / m' ≤ a' := Int.ediv_le_self m' a0'
        have e0 : 0 ≤ b' / m' := Int.ediv_nonneg b0' (by omega)
        have e1 : b' / m' ≤ b' := Int.ediv_le_self m' b0'
        have f0 : 0 ≤ n' * (n' - 1) := Int.mul_nonneg n0' (by omega)
        have f1 : (n' * (n' - 1)).natAbs < 2 ^ (100 + 100) := wide_lt (nb n0' n1' (Nat.le_refl _)) (nb (n := 100) (show 0 ≤ n' - 1 by omega) (by omega) (Nat.le_refl _))
        have g0 : 0 ≤ n' * (n' - 1) / 2 := Int.ediv_nonneg f0 (by decide)
        have g1 : n' * (n' - 1) / 2 ≤ n' * (n' - 1) := Int.ediv_le_self 2 f0
        have g2 : (n' * (n' - 1) / 2).natAbs < 2 ^ 200 := Nat.lt_of_le_of_lt (by omega) f1
        refine ⟨_, rfl, ?_⟩
        refine ⟨_, rfl, _, rfl, _, _, rfl, rfl, _, _, rfl, rfl, wide_mul (nb n0' n1' (Nat.le_refl _)) (nb (n := 100) (m := 100) (show 0 ≤ n' - 1 by omega) (by omega) (Nat.le_refl _)) (by decide) (by decide) (by decide), _, _, rfl, rfl, ⟨by decide, by decide⟩, ?_⟩
        refine ⟨_, rfl, _, rfl, _, _, rfl, rfl, wide_div mp (nb m0' m1' (Nat.le_refl _)) (by decide) (by decide), _, _, rfl, rfl, wide_mul g2 (nb (n := 100) (m := 100) d0 (by omega) (Nat.le_refl _)) (by decide) (by decide) (by decide), ?_⟩
        refine ⟨_, rfl, _, rfl, _, rfl, _, _, rfl, rfl, wide_div mp (nb m0' m1' (Nat.le_refl _)) (by decide) (by decide), _, _, rfl, rfl, wide_mul (nb n0' n1' (Nat.le_refl _)) (nb (n := 101) (m := 101) e0 (by omega) (Nat.le_refl _)) (by decide) (by decide) (by decide), _, _, rfl, rfl, _, _, rfl, rfl, ?_⟩
        -- the rests
        refine ⟨_, rfl, _, rfl, _, _, rfl, rfl, (show m' ≠ 0 by omega), _, rfl, _, rfl, _, _, rfl, rfl, (show m' ≠ 0 by omega), _, _, rfl, ?_⟩
        have ea : a'.fmod m' = a' % m' := fmod_at mp
        have eb : b'.fmod m' = b' % m' := fmod_at mp
        rw [← ea] at r0 r1
        rw [← eb] at t0 t1
        -- divmod
        refine ⟨_, rfl, _, rfl, _, _, rfl, rfl, wide_mul (nb (n := 100) (m := 100) r0 (by omega) (Nat.le_refl _)) (nb n0' n1' (Nat.le_refl _)) (by decide) (by decide) (by decide), _, rfl, _, _, rfl, rfl, _, rfl, _, _, rfl, wide_div mp (nb m0' m1' (Nat.le_refl _)) (by decide) (by decide), fun p hp => ?_⟩
        refine ⟨p, _, rfl, SqT.of upd_same, rfl, _, _, rfl, _, _, rfl, rfl, ?_⟩
        refine ⟨_, rfl, _, rfl, _, _, rfl, ?_⟩
        have z0 : 0 ≤ a'.fmod m' * n' + b'.fmod m' := by
          have := Int.mul_nonneg r0 n0'; omega
        have z1 : (a'.fmod m' * n' + b'.fmod m') / m' ≤ n' := by
          have h1 : a'.fmod m' * n' ≤ (m' - 1) * n' := Int.mul_le_mul_of_nonneg_right (by omega) n0'
          have h2 : (m' - 1) * n' = m' * n' - n' := by rw [Int.sub_mul, Int.one_mul]
          have h3 := (Int.ediv_lt_iff_lt_mul mp (a := a'.fmod m' * n' + b'.fmod m') (b := n' + 1)).mpr (by rw [Int.add_mul, Int.one_mul, Int.mul_comm n' m']; omega)
          omega
        have z2 : 0 ≤ (a'.fmod m' * n' + b'.fmod m') / m' := Int.ediv_nonneg z0 m0'
        have z3 := Int.emod_nonneg (a'.fmod m' * n' + b'.fmod m') (show m' ≠ 0 by omega)
        have z4 := Int.emod_lt_of_pos (a'.fmod m' * n' + b'.fmod m') mp
        refine ⟨⟨_, _, _, _, _, rfl, z2, by omega, r0, by omega, ?_, m0', m1', z3, by omega, ?_, s1.trans (same_put hp)⟩, ?_⟩
        · rcases Int.lt_or_eq_of_le r0 with c | c
          · exact .inr c
          · left
            rw [← c, Int.zero_mul, Int.zero_add]
            exact Int.ediv_eq_zero_of_lt t0 t1
        · have st := fsum_step mp a0' b0' n'.toNat
          rw [Int.toNat_of_nonneg n0', ← ea, ← eb] at st
          rw [← inv, st]
          split
          · rename_i c
            rw [c, Int.zero_mul, Int.zero_add, Int.ediv_eq_zero_of_lt t0 t1]
            show tot + (n' * (n' - 1) / 2 * (a' / m') + n' * (b' / m')) + 0 = tot + _
            omega
          · show tot + (n' * (n' - 1) / 2 * (a' / m') + n' * (b' / m')) + _ = tot + _
            omega
        · show (a'.fmod m').toNat < m'.toNat
          omega
      · have nn : n' = 0 := by
          rcases Int.decEq n' 0 with c | c
          · exact absurd (by simpa using c) hc
          · exact c
        subst nn
        refine ⟨_, rfl, ?_⟩
        have e : tot = fsum m a b n.toNat := by
          rw [← inv]
          show tot = tot + 0
          omega
        rw [e]
        exact q _ s1
    · rintro σ H' Q1 Q2 mo ⟨v, e1, k, e2, h⟩
      exact ⟨v, e1, k, e2, mo _ _ h⟩
theorem ok_below {f fS : Addr} {fd fdS : FuncData} (F : Fun K "_how_many_below" "_how_many_below" sBelow f fd) (S : Df K mg "_sum_of_wholes" sSum ["count", "bottom", "slope", "shift"] fS fdS) (dv : mg "divmod" = none) : FnOk P w K mg base CX0 2 f fd ["step", "count", "most"] spBelow := by
  have GS : FnOk P w K mg base CX0 1 fS fdS ["count", "bottom", "slope", "shift"] spSum := ok_sum S.F dv
  refine F.ok scBelow (fun vs H Q E h => ?_) (fun cdv A outer s H vs Q E hr h => ?_)
  · obtain ⟨t, x, y, n, c, rfl, _⟩ := h
    rfl
  · obtain ⟨t, x, y, n, c, rfl, ⟨hT, st⟩, y1, n0, n1, c0, cy, q⟩ := h
    have x0 := st.x0
    have xy := st.xy
    refine ⟨_, pss_cons (ps_asg (pv 0) (pg_tup (by rfl) (pgs_cons (pg_name (i := 3) scBelow.nd rfl (.inl rfl)) (pgs_cons (pg_name (i := 4) scBelow.nd rfl (.inl rfl)) pgs_nil))))
      (pss_one (ps_ret (pe_op op_sub (pe_op op_add (pv 1) (pe_call GS hr (by rfl) S.g S.F.kp S.b .nil pass0 (pa_cons (pv 1) (pa_cons (pv 4) (pa_cons (pv 3) (pa_cons pe_int pa_nil)))))) (pe_call GS hr (by rfl) S.g S.F.kp S.b .nil pass0 (pa_cons (pv 1) (pa_cons (pv 4) (pa_cons (pv 3) (pa_cons (pe_op op_sub (pv 4) (pv 2)) pa_nil)))))))), ?_⟩
    refine ⟨_, rfl, t, _, rfl, SqT.of hT, rfl, _, _, rfl, _, _, rfl, rfl, ?_⟩
    refine ⟨_, rfl, _, rfl, _, rfl, _, rfl, n, y, x, 0, rfl, n0, n1, by omega, y1, x0, by omega, Int.le_refl 0, by decide, fun H1 s1 => ?_⟩
    refine ⟨_, _, rfl, rfl, _, rfl, _, rfl, _, rfl, _, rfl, _, rfl, _, _, rfl, rfl, n, y, x, y - c, rfl, n0, n1, by omega, y1, x0, by omega, by omega, by omega, fun H2 s2 => ?_⟩
    refine ⟨_, _, rfl, rfl, ?_⟩
    have e := below_fsum (x := x) (show 0 < y by omega) c0 cy n.toNat
    rw [Int.toNat_of_nonneg n0] at e
    have z := q _ (s1.trans s2)
    rw [e] at z
    exact z
theorem ok_fft {f fG : Addr} {fd fdG : FuncData} (F : Fun K "_first_from_to" "_first_from_to" sFFT f fd) (G : Df K mg "_first_from" sFF ["slope", "least"] fG fdG) (mr : mg "reversed" = none) : FnOk P w K mg base CX0 2 f fd ["step", "least", "most"] spFFT := by
  have GG : FnOk P w K mg base CX0 1 fG fdG ["slope", "least"] spFF := ok_ff G.F
  refine F.ok scFFT (fun vs H Q E h => ?_) (fun cdv A outer s H vs Q E hr h => ?_)
  · obtain ⟨t, x, y, a, b, rfl, _⟩ := h
    rfl
  · obtain ⟨t, x, y, a, b, rfl, ⟨hT, st⟩, y1, a0, ab, by', q⟩ := h
    have x0 := st.x0
    have xy := st.xy
    refine ⟨_, pss_cons (ps_asg (pv 0) (pg_tup (by rfl) (pgs_cons (pg_name (i := 3) scFFT.nd rfl (.inl rfl)) (pgs_cons (pg_name (i := 4) scFFT.nd rfl (.inl rfl)) pgs_nil))))
      (pss_cons (ps_set (i := 5) scFFT.nd rfl (.inl rfl) (pe_lst pa_nil))
      (pss_cons (ps_while PassesOwn.never (PW.pt (pw_and (pt_cmpR op_gt (pv 1) pe_int (nomark _)) (pw_and1 (pt_cmpR op_gt (pe_op op_mulW (pe_call GG hr (by rfl) G.g G.F.kp G.b .nil pass0 (pa_cons (pv 3) (pa_cons (pv 1) pa_nil))) (pv 3)) (pv 2) (nomark _)))))
        (pss_cons (ps_expr (pe_bm PySem.F.plainAttrs_list PySem.F.slot_list_append PySem.F.type_list_append mt_append (pv 5) (pa_cons (pe_tup (pa_cons (pv 3) (pa_cons (pv 4) (pa_cons (pv 1) pa_nil)))) pa_nil)))
        (pss_one (ps_asg (pe_tup (pa_cons (pe_op op_modN (pv 4) (pv 3)) (pa_cons (pv 3) (pa_cons (pe_op op_modN (pe_un un_neg (pv 2)) (pv 3)) (pa_cons (pe_op op_modN (pe_un un_neg (pv 1)) (pv 3)) pa_nil)))))
          (pg_tup (by rfl) (pgs_cons (pg_name (i := 3) scFFT.nd rfl (.inl rfl)) (pgs_cons (pg_name (i := 4) scFFT.nd rfl (.inl rfl)) (pgs_cons (pg_name (i := 1) scFFT.nd rfl (.inl rfl)) (pgs_cons (pg_name (i := 2) scFFT.nd rfl (.inl rfl)) pgs_nil)))))))))
      (pss_cons (ps_set (i := 6) scFFT.nd rfl (.inl rfl) (pe_ifExp (pt_cmpR op_gt (pv 1) pe_int (nomark _)) (pe_call GG hr (by rfl) G.g G.F.kp G.b .nil pass0 (pa_cons (pv 3) (pa_cons (pv 1) pa_nil))) pe_int))
      (pss_cons (ps_for PassesOwn.never rfl (pi_reversed (by rfl) mr (pa_cons (pv 5) pa_nil)) (pg_tup (by rfl) (pgs_cons (pg_name (i := 3) scFFT.nd rfl (.inl rfl)) (pgs_cons (pg_name (i := 4) scFFT.nd rfl (.inl rfl)) (pgs_cons (pg_name (i := 1) scFFT.nd rfl (.inl rfl)) pgs_nil))))
        (pss_one (ps_set (i := 6) scFFT.nd rfl (.inl rfl) (pe_call GG hr (by rfl) G.g G.F.kp G.b .nil pass0 (pa_cons (pv 3) (pa_cons (pe_op op_add (pv 1) (pe_op op_mulW (pv 4) (pv 6))) pa_nil))))))
      (pss_one (ps_ret (pv 6))))))), ?_⟩
    refine ⟨_, rfl, t, _, rfl, SqT.of hT, rfl, _, _, rfl, _, _, rfl, rfl, ?_⟩
    refine ⟨Nat.zero_le _, fun l hl => ?_⟩
    have s1 : Same H (upd H l (.lst [])) := same_put hl
    refine while_by (fun σ H' => ∃ (rs : List Addr) (gs : List (List Int)) (s' w' a' b' : Int), σ = [some (.ref t), some (.int a'), some (.int b'), some (.int s'), some (.int w'), some (.ref l), none] ∧ Same H H' ∧ H' l = some (.lst (rs.map V.ref)) ∧ Tups H' rs gs ∧ Ch x y a b gs s' w' a' b')
      (fun σ _ => match σ with | [_, _, _, some (.int s'), _, _, _] => s'.toNat | _ => 0) ⟨[], [], x, y, a, b, rfl, s1, upd_same, trivial, .nil x0 xy st.co a0 ab by'⟩ ?_ ?_
    · rintro σ H1 ⟨rs, gs, s', w', a', b', rfl, s2', hL, tu, C⟩
      have N := C.now
      obtain ⟨wl, gl⟩ := C.le
      have ns := N.s0; have nsw := N.sw; have na := N.a0; have nab := N.ab; have nbw := N.bw
      have bs : s'.natAbs < 2 ^ 200 := nb (n := 100) ns (by omega) (by decide)
      refine ⟨_, rfl, _, _, rfl, rfl, _, rfl, and_join (decide (0 < a' ∧ b' < -(-a' / s') * s')) (fun hc R zz => ?_) (fun hc => ?_) ?_⟩
      · have ap : 0 < a' := of_decide_eq_true hc
        have sp := N.pos ap
        obtain ⟨h1, h2⟩ := ceil_at (a := a') sp
        have cb : (-(-a' / s')).natAbs < 2 ^ 200 := by
          have c0 : 0 ≤ -(-a' / s') := by
            rcases Int.lt_or_le (-(-a' / s')) 0 with c | c
            · have := Int.mul_nonpos_of_nonneg_of_nonpos (show 0 ≤ s' by omega) (show -(-a' / s') ≤ 0 by omega); omega
            · exact c
          have c1 : -(-a' / s') ≤ a' := (ceil_le sp).mpr (by
            have := Int.mul_le_mul_of_nonneg_right (show 1 ≤ s' by omega) na; omega)
          exact nb (n := 100) c0 (by omega) (by decide)
        refine ⟨_, rfl, _, rfl, s', a', rfl, sp, bs, _, rfl, _, _, rfl, rfl, wide_mul cb bs (by decide) (by decide) (by decide), _, rfl, _, _, rfl, rfl, _, rfl, ?_⟩
        have e : decide (b' < -(-a' / s') * s') = decide (0 < a' ∧ b' < -(-a' / s') * s') := by
          rw [decide_eq_decide]
          exact ⟨fun y => ⟨ap, y⟩, fun y => y.2⟩
        rw [e]
        exact zz
      · have ap : ¬ 0 < a' := of_decide_eq_false hc
        exact decide_eq_false fun y => ap y.1
      refine ite2 (fun hc => ?_) (fun hc => ?_)
      · obtain ⟨ap, g⟩ := of_decide_eq_true hc
        have sp := N.pos ap
        have few := C.few ap ⟨x0, xy, y1⟩
        refine ⟨_, rfl, .inl ⟨rfl, _, .inl (.inl hL)⟩, _, rfl, _, rfl, _, rfl, (by show 3 ≤ sizeLine; decide), fun p hp => ?_⟩
        have lp : l ≠ p := ne_of_none hL hp
        have s3 : Same H1 (upd H1 p (.tup [.int s', .int w', .int a'])) := same_put hp
        refine ⟨l, _, _, rfl, rfl, s3 _ _ hL, ?_, ?_⟩
        · rw [List.length_map, tu.len]
          exact small1000 (by omega)
        have hL2 : upd (upd H1 p (.tup [.int s', .int w', .int a'])) l (.lst (rs.map V.ref ++ [.ref p])) l = some (.lst ((rs ++ [p]).map V.ref)) := by rw [upd_same, List.map_append]; rfl
        have tu2 : Tups (upd (upd H1 p (.tup [.int s', .int w', .int a'])) l (.lst (rs.map V.ref ++ [.ref p]))) (rs ++ [p]) (gs ++ [[s', w', a']]) := by
          refine Tups.snoc ?_ (tu.mono fun r g e => ?_)
          · rw [upd_ne lp.symm, upd_same]; rfl
          · have n1 : r ≠ l := ne_of e hL (by intro z; cases z)
            rw [upd_ne n1]
            exact s3 _ _ e
        have sH : Same H (upd (upd H1 p (.tup [.int s', .int w', .int a'])) l (.lst (rs.map V.ref ++ [.ref p]))) := fun q1 z1 e1 => by
          rw [upd_ne (ne_of_none e1 hl)]
          exact s3 _ _ (s2' _ _ e1)
        generalize upd (upd H1 p (.tup [.int s', .int w', .int a'])) l (.lst (rs.map V.ref ++ [.ref p])) = H2 at hL2 tu2 sH ⊢
        refine ⟨_, rfl, _, rfl, _, _, rfl, rfl, (show s' ≠ 0 by omega), _, rfl, _, rfl, _, rfl, _, rfl, _, _, rfl, rfl, (show s' ≠ 0 by omega), _, rfl, _, rfl, _, rfl, _, _, rfl, rfl, (show s' ≠ 0 by omega), (by show 4 ≤ sizeLine; decide), fun p2 hp2 => ?_⟩
        refine ⟨p2, _, rfl, SqT.of upd_same, rfl, _, _, rfl, _, _, rfl, _, _, rfl, _, _, rfl, rfl, ?_⟩
        have s4 := same_put (o := HO.tup [.int (w'.fmod s'), .int s', .int ((-b').fmod s'), .int ((-a').fmod s')]) hp2
        have C2 := Ch.snoc C ap g
        rw [← fmod_at (k := w') sp, ← fmod_at (k := -b') sp, ← fmod_at (k := -a') sp] at C2
        refine ⟨⟨_, _, _, _, _, _, rfl, sH.trans s4, s4 _ _ hL2, tu2.mono fun r g e => s4 _ _ e, C2⟩, ?_⟩
        show (w'.fmod s').toNat < s'.toNat
        have := fmod_lt (a := w') sp
        omega
      · have hn : ¬ (0 < a' ∧ b' < -(-a' / s') * s') := fun z => hc (decide_eq_true z)
        refine ⟨_, rfl, _, _, rfl, rfl, _, rfl, tif (.int (-(-a' / s'))) (.int 0) (fun hd R z => ⟨_, rfl, _, rfl, s', a', rfl, N.pos (of_decide_eq_true hd), bs, z⟩) (fun _ R z => z) (fun v e1 e2 => ?_)⟩
        obtain ⟨m, rfl, Fm⟩ : ∃ m, v = V.int m ∧ Fst s' w' a' b' m := by
          by_cases hd : 0 < a'
          · exact ⟨_, e1 (decide_eq_true hd), fst_turn (N.pos hd) nsw hd nbw (by
              rcases Int.lt_or_le b' (-(-a' / s') * s') with c | c
              · exact absurd ⟨hd, c⟩ hn
              · exact c)⟩
          · exact ⟨_, e2 (decide_eq_false hd), fst_zero (by omega) (by omega) (by omega)⟩
        refine ⟨_, rfl, l, _, rfl, SqL.of hL, for_rv (K := K) (a := l) (xs := rs.map V.ref) (fun i σ H2 => ∃ (m s2 w2 a2 b2 a3 s3 w3 : Int), σ = [some (.ref t), some (.int a3), some (.int b'), some (.int s3), some (.int w3), some (.ref l), some (.int m)] ∧ H2 = H1 ∧ Ch x y a b (gs.take (gs.length - i)) s2 w2 a2 b2 ∧ Fst s2 w2 a2 b2 m)
          ⟨m, s', w', a', b', a', s', w', rfl, rfl, by rw [Nat.sub_zero, List.take_length]; exact C, Fm⟩ (fun i σ H2 _ ⟨_, _, _, _, _, _, _, _, _, e, _⟩ => by rw [e]; exact SqL.of hL) ?_ ?_⟩
        · rintro i v σ H2 hi hv ⟨m, s2, w2, a2, b2, a3, s3, w3, rfl, rfl, C2, F2⟩
          rw [List.length_map, tu.len] at hi hv
          obtain ⟨r, g, rfl, hg, hr'⟩ := tups_get tu hv
          have eg : gs.take (gs.length - i) = gs.take (gs.length - (i + 1)) ++ [g] := by
            rw [show gs.length - i = gs.length - (i + 1) + 1 by omega, List.take_add_one, show gs.length - (i + 1) = gs.length - 1 - i by omega, hg]; rfl
          obtain ⟨s4, w4, a4, b4, rfl, C3, ap, g', rfl, rfl, rfl, rfl⟩ := C2.last eg
          have N3 := C3.now
          have sp := N3.pos ap
          have wl3 := C3.le.1
          have fl := fst_lt sp F2
          have nw := N3.sw
          have nb' := N3.bw
          have na' := N3.ab
          refine ⟨r, _, rfl, SqT.of hr', rfl, _, _, rfl, _, _, rfl, _, _, rfl, rfl, ?_⟩
          refine ⟨_, rfl, _, rfl, _, rfl, _, rfl, _, _, rfl, rfl, wide_mul (nb (n := 100) (m := 100) (show 0 ≤ w4 by omega) (by omega) (Nat.le_refl _)) (nb (n := 100) (m := 100) fl.1 (by omega) (Nat.le_refl _)) (by decide) (by decide) (by decide), _, _, rfl, rfl, _, _, rfl, sp, nb (n := 100) (m := 200) (by omega) (by omega) (by decide), ?_⟩
          exact ⟨_, _, _, _, _, _, _, _, rfl, rfl, C3, fst_back sp nw ap na' nb' g' F2⟩
        · rintro σ H2 ⟨m, s2, w2, a2, b2, a3, s3, w3, rfl, rfl, C2, F2⟩
          rw [List.length_map, tu.len, Nat.sub_self, List.take_zero] at C2
          obtain ⟨rfl, rfl, rfl, rfl⟩ := C2.root rfl
          exact ⟨_, rfl, q m _ s2' F2⟩
    · rintro σ H1 Q1 Q2 mo ⟨v1, e1, i1, j1, e2, e3, kk, e4, h7⟩
      refine ⟨v1, e1, i1, j1, e2, e3, kk, e4, ?_⟩
      cases kk with
      | false => exact iteF (mo _ _ (by simpa using h7))
      | true =>
        rw [if_pos rfl] at h7
        obtain ⟨v3, e7, v4, e8, s5, a5, e9, c1, c2, v5, e11, i3, j3, e13, e14, c3, v6, e15, i4, j4, e16, e17, k5, e18, h8⟩ := h7
        exact iteT ⟨v3, e7, v4, e8, s5, a5, e9, c1, c2, v5, e11, i3, j3, e13, e14, c3, v6, e15, i4, j4, e16, e17, k5, e18, mo _ _ h8⟩
end
end My.W
set_option Elab.async false
set_option maxRecDepth 100000
set_option maxHeartbeats 1000000
set_option linter.all false
/-! marks in arcs -/
namespace Mt
/-- the least top from a fraction a / b on, over n -/
def ltop (a b n : Int) : Int := -(-a * n / b)
theorem ltop_le {a b n g : Int} (b0 : 0 < b) : ltop a b n ≤ g ↔ a * n ≤ g * b := by
  unfold ltop
  rw [Int.neg_mul, Int.mul_comm g b]
  exact ceil_le b0
theorem ltop_0 {a b n : Int} (b0 : 0 < b) (a0 : 0 ≤ a) (n0 : 0 ≤ n) : 0 ≤ ltop a b n := by
  rcases Int.lt_or_le (ltop a b n) 0 with c | c
  · have h := (ltop_le (g := -1) b0 (a := a) (n := n)).mp (by omega)
    have := Int.mul_nonneg a0 n0
    omega
  · exact c
theorem ltop_n {a b n : Int} (b0 : 0 < b) (ab : a ≤ b) (n0 : 0 ≤ n) : ltop a b n ≤ n := by
  refine (ltop_le b0).mpr ?_
  rw [Int.mul_comm n b]
  exact Int.mul_le_mul_of_nonneg_right ab n0
theorem ltop_mono {a b c d n : Int} (b0 : 0 < b) (d0 : 0 < d) (n0 : 0 ≤ n) (h : a * d ≤ c * b) : ltop a b n ≤ ltop c d n := by
  refine (ltop_le b0).mpr ?_
  have h1 : c * n ≤ ltop c d n * d := (ltop_le d0).mp (Int.le_refl _)
  have h2 : a * d * n ≤ c * b * n := Int.mul_le_mul_of_nonneg_right h n0
  have h3 : c * n * b ≤ ltop c d n * d * b := Int.mul_le_mul_of_nonneg_right h1 (by omega)
  have h4 : d * (a * n) ≤ d * (ltop c d n * b) := by
    have e1 : d * (a * n) = a * d * n := by grind
    have e2 : d * (ltop c d n * b) = ltop c d n * d * b := by grind
    have e3 : c * n * b = c * b * n := by grind
    omega
  exact Int.le_of_mul_le_mul_left h4 d0
/-- whether the mark k lies in the arc from A, below C -/
def inA (x y A C k : Int) : Bool := decide (A ≤ x * k % y) && decide (x * k % y < C)
theorem inA_iff {x y A C k : Int} : inA x y A C k = true ↔ A ≤ x * k % y ∧ x * k % y < C := by
  unfold inA; simp
theorem below_none {x y t : Int} (y0 : 0 < y) (h : t ≤ 0) (n : Nat) : below x y t n = 0 := by
  induction n with
  | zero => rfl
  | succ n ih =>
    show below x y t n + _ = 0
    have := Int.emod_nonneg (x * (n : Int)) (show y ≠ 0 by omega)
    rw [ih, if_neg (by omega)]; rfl
theorem below_all {x y t : Int} (y0 : 0 < y) (h : y ≤ t) (n : Nat) : below x y t n = n := by
  induction n with
  | zero => rfl
  | succ n ih =>
    show below x y t n + _ = ((n + 1 : Nat) : Int)
    have := Int.emod_lt_of_pos (x * (n : Int)) y0
    rw [ih, if_pos (by omega)]; push_cast; rfl
theorem below_arc {x y A C : Int} (h : A ≤ C) (n : Nat) : below x y C n - below x y A n = (((iota n).filter (inA x y A C)).length : Int) := by
  induction n with
  | zero => rfl
  | succ n ih =>
    show below x y C n + _ - (below x y A n + _) = _
    rw [iota_succ, List.filter_append, List.length_append]
    push_cast
    rw [← ih]
    by_cases c1 : A ≤ x * (n : Int) % y
    · by_cases c2 : x * (n : Int) % y < C
      · rw [List.filter_cons_of_pos (inA_iff.mpr ⟨c1, c2⟩), if_pos c2, if_neg (by omega)]; simp; omega
      · rw [List.filter_cons_of_neg (fun z => c2 (inA_iff.mp z).2), if_neg c2, if_neg (by omega)]; simp
    · rw [List.filter_cons_of_neg (fun z => c1 (inA_iff.mp z).1), if_pos (by omega), if_pos (by omega)]; simp; omega
theorem arc_zero {x y A C : Int} (h : A ≤ C) {n : Nat} (none : ∀ k : Int, 0 ≤ k → k < n → ¬ (A ≤ x * k % y ∧ x * k % y < C)) : below x y C n - below x y A n = 0 := by
  rw [below_arc h, List.filter_eq_nil_iff.mpr fun k hk z => none k (iota_mem.mp hk).1 (iota_mem.mp hk).2 (inA_iff.mp z)]; rfl
theorem arc_pos {x y A C : Int} (h : A ≤ C) {n : Nat} {k : Int} (k0 : 0 ≤ k) (k1 : k < n) (z : A ≤ x * k % y ∧ x * k % y < C) : below x y C n - below x y A n ≠ 0 := by
  rw [below_arc h]
  have := List.length_pos_of_mem (List.mem_filter.mpr ⟨iota_mem.mpr ⟨k0, k1⟩, inA_iff.mpr z⟩)
  omega
/-- the first of the marks of a round -/
theorem arc_head {x y A C m : Int} {n : Nat} (F : Fst x y A (C - 1) m) (m1 : m < n) : ((iota n).filter (inA x y A C))[0]? = some m := by
  obtain ⟨⟨m0, h1, h2⟩, least⟩ := F
  have mem : m ∈ (iota n).filter (inA x y A C) := List.mem_filter.mpr ⟨iota_mem.mpr ⟨m0, m1⟩, inA_iff.mpr ⟨h1, by omega⟩⟩
  have pw : ((iota n).filter (inA x y A C)).Pairwise (· < ·) := (iota_pw n).filter _
  cases e : (iota n).filter (inA x y A C) with
  | nil => rw [e] at mem; simp at mem
  | cons a l =>
    rw [e] at mem pw
    have ma : a ∈ (iota n).filter (inA x y A C) := by rw [e]; exact List.mem_cons_self
    obtain ⟨ha, hb⟩ := List.mem_filter.mp ma
    obtain ⟨z1, z2⟩ := inA_iff.mp hb
    have le := least a ⟨(iota_mem.mp ha).1, z1, by omega⟩
    rcases List.mem_cons.mp mem with c | c
    · subst c; rfl
    · have := (List.pairwise_cons.mp pw).1 m c
      omega
theorem arc_nil {x y A C : Int} (h : C ≤ A) (n : Nat) : (iota n).filter (inA x y A C) = [] :=
  List.filter_eq_nil_iff.mpr fun k hk z => by
    have := inA_iff.mp z
    omega
/-- a fraction brought to lowest terms -/
theorem low_part {a b : Int} (a0 : 0 ≤ a) (ab : a ≤ b) (b0 : 0 < b) :
    1 ≤ b / ((Nat.gcd a.natAbs b.natAbs : Nat) : Int) ∧ Nat.gcd (a / ((Nat.gcd a.natAbs b.natAbs : Nat) : Int)).natAbs (b / ((Nat.gcd a.natAbs b.natAbs : Nat) : Int)).natAbs = 1 ∧
    0 ≤ a / ((Nat.gcd a.natAbs b.natAbs : Nat) : Int) ∧ a / ((Nat.gcd a.natAbs b.natAbs : Nat) : Int) ≤ b / ((Nat.gcd a.natAbs b.natAbs : Nat) : Int) ∧ b / ((Nat.gcd a.natAbs b.natAbs : Nat) : Int) ≤ b ∧
    a = a / ((Nat.gcd a.natAbs b.natAbs : Nat) : Int) * ((Nat.gcd a.natAbs b.natAbs : Nat) : Int) ∧ b = b / ((Nat.gcd a.natAbs b.natAbs : Nat) : Int) * ((Nat.gcd a.natAbs b.natAbs : Nat) : Int) ∧ 0 < ((Nat.gcd a.natAbs b.natAbs : Nat) : Int) := by
  obtain ⟨x, rfl⟩ := Int.eq_ofNat_of_zero_le a0
  obtain ⟨y, rfl⟩ := Int.eq_ofNat_of_zero_le (show 0 ≤ b by omega)
  simp only [Int.natAbs_natCast]
  have hy : 0 < y := by omega
  have g0 : 0 < Nat.gcd x y := Nat.gcd_pos_of_pos_right _ hy
  have e1 : ((x : Int) / ((Nat.gcd x y : Nat) : Int)) = ((x / Nat.gcd x y : Nat) : Int) := by simp
  have e2 : ((y : Int) / ((Nat.gcd x y : Nat) : Int)) = ((y / Nat.gcd x y : Nat) : Int) := by simp
  rw [e1, e2]
  have d1 := Nat.div_mul_cancel (Nat.gcd_dvd_left x y)
  have d2 := Nat.div_mul_cancel (Nat.gcd_dvd_right x y)
  refine ⟨?_, ?_, Int.natCast_nonneg _, ?_, ?_, ?_, ?_, by omega⟩
  · have : 0 < y / Nat.gcd x y := Nat.div_pos (Nat.le_of_dvd hy (Nat.gcd_dvd_right x y)) g0
    omega
  · simp only [Int.natAbs_natCast]
    exact Nat.coprime_div_gcd_div_gcd g0
  · have := Nat.div_le_div_right (c := Nat.gcd x y) (show x ≤ y by omega)
    omega
  · have := Nat.div_le_self y (Nat.gcd x y)
    omega
  · rw [← Int.natCast_mul, d1]
  · rw [← Int.natCast_mul, d2]
theorem cross_low {a b c g h p q r s : Int} (ea : a = p * g) (eb : b = q * g) (ec : c = r * h) (ed : b = s * h) (g0 : 0 < g) (h0 : 0 < h) (b0 : 0 < b) (lt : a < c) : p * s < r * q := by
  have h1 : a * b < c * b := Int.mul_lt_mul_of_pos_right lt b0
  have h2 : a * b = g * h * (p * s) := by
    have : a * b = p * g * (s * h) := by rw [← ea, ← ed]
    rw [this]; grind
  have h3 : c * b = g * h * (r * q) := by
    have : c * b = r * h * (q * g) := by rw [← ec, ← eb]
    rw [this]; grind
  rw [h2, h3] at h1
  exact Int.lt_of_mul_lt_mul_left h1 (Int.le_of_lt (Int.mul_pos g0 h0))
end Mt
set_option Elab.async false
set_option linter.all false
set_option maxRecDepth 100000
set_option maxHeartbeats 4000000
set_option exponentiation.threshold 2000
namespace My.W
open My.O PySem PySem.Spec PyProof.Rows L2 Gn Mt
abbrev sHowMany : Stmt := top 33
abbrev sWithin : Stmt := top 34
abbrev sChCount : Stmt := top 36
theorem scHowMany : FnScope ["step", "count", "low", "high", "below_high"] ["step", "count", "low", "high"] (defScope sHowMany) := ⟨rfl, rfl, rfl, by decide +kernel, rfl, by decide +kernel, by decide +kernel⟩
theorem scWithin : FnScope ["step", "low", "high", "least", "most"] ["step", "low", "high"] (defScope sWithin) := ⟨rfl, rfl, rfl, by decide +kernel, rfl, by decide +kernel, by decide +kernel⟩
theorem scChCount : FnScope ["step", "count"] ["step", "count"] (defScope sChCount) := ⟨rfl, rfl, rfl, by decide +kernel, rfl, by decide +kernel, by decide +kernel⟩
/-- an arc stands at s and u -/
structure ArcAt (H : Hp) (s u : Addr) (a b c d : Int) : Prop where
  s : FrAt H s a b
  u : FrAt H u c d
  a0 : 0 ≤ a
  ab : a ≤ b
  c0 : 0 ≤ c
  cd : c ≤ d
  b1 : b.natAbs < 2 ^ 150
  d1 : d.natAbs < 2 ^ 150
  lt : a * d < c * b
theorem ArcAt.same {H H' : Hp} {s u : Addr} {a b c d : Int} (A : ArcAt H s u a b c d) (e : Same H H') : ArcAt H' s u a b c d := ⟨⟨e _ _ A.s.1, A.s.2⟩, ⟨e _ _ A.u.1, A.u.2⟩, A.a0, A.ab, A.c0, A.cd, A.b1, A.d1, A.lt⟩
def spChCount : Sp := fun vs H Q _ => ∃ (t : Addr) (x y n : Int), vs = [.ref t, .int n] ∧ StepAt H t x y ∧ 1 ≤ n ∧ n ≤ 10 ^ 30 ∧ Q .non H
def spHowMany : Sp := fun vs H Q _ => ∃ (t s u : Addr) (x y n a b c d : Int), vs = [.ref t, .int n, .ref s, .ref u] ∧ StepAt H t x y ∧ y < 2 ^ 100 ∧ 1 ≤ n ∧ n ≤ 10 ^ 30 ∧ ArcAt H s u a b c d ∧
  ∀ H', Same H H' → Q (.int (below x y (ltop c d y) n.toNat - below x y (ltop a b y) n.toNat)) H'
def spWithin : Sp := fun vs H Q _ => ∃ (t s u : Addr) (x y a b c d : Int), vs = [.ref t, .ref s, .ref u] ∧ StepAt H t x y ∧ y < 2 ^ 100 ∧ ArcAt H s u a b c d ∧
  ∀ v H', Same H H' → (ltop c d y ≤ ltop a b y ∧ v = .non) ∨ (ltop a b y < ltop c d y ∧ ∃ m, v = .int m ∧ Fst x y (ltop a b y) (ltop c d y - 1) m) → Q v H'
/-- what the counting functions ask of the module -/
structure Cn (K : PySem.W.Frag) (mg : Str → Option Value) where
  c : Bc mg
  dv : mg "divmod" = none
  rv : mg "reversed" = none
  mc : ∃ tk, mg "MOST_COUNT" = some (.int (10 ^ 30) tk)
  fi : Addr × FuncData
  fr : Addr × FuncData
  fs : Addr × FuncData
  fc : Addr × FuncData
  fm : Addr × FuncData
  fn : Addr × FuncData
  fp : Addr × FuncData
  fl : Addr × FuncData
  gc : Addr × FuncData
  ga : Addr × FuncData
  gb : Addr × FuncData
  gs : Addr × FuncData
  gt : Addr × FuncData
  gf : Addr × FuncData
  gg : Addr × FuncData
  di : Df K mg "is_integer" sIsInt ["given"] fi.1 fi.2
  dr : Df K mg "is_fraction" sIsFr ["given"] fr.1 fr.2
  ds : Df K mg "is_step" sIsStep ["given"] fs.1 fs.2
  dc : Df K mg "check_step" sChStep ["given"] fc.1 fc.2
  dm : Df K mg "is_number" sIsNum ["given", "least", "most"] fm.1 fm.2
  dn : Df K mg "check_number" sChNum ["given", "least", "most"] fn.1 fn.2
  dp : Df K mg "is_part" sIsPart ["given"] fp.1 fp.2
  dl : Df K mg "is_less" sIsLess ["one", "other"] fl.1 fl.2
  ec : Df K mg "_check_count" sChCount ["step", "count"] gc.1 gc.2
  ea : Df K mg "_check_arc" sChArc ["low", "high"] ga.1 ga.2
  eb : Df K mg "_how_many_below" sBelow ["step", "count", "most"] gb.1 gb.2
  es : Df K mg "_sum_of_wholes" sSum ["count", "bottom", "slope", "shift"] gs.1 gs.2
  et : Df K mg "_least_top" sLeastTop ["fraction", "bottom"] gt.1 gt.2
  ef : Df K mg "_first_from_to" sFFT ["step", "least", "most"] gf.1 gf.2
  eg : Df K mg "_first_from" sFF ["slope", "least"] gg.1 gg.2
theorem w100 {z : Int} (h : z.natAbs < 2 ^ 100) : z.natAbs < 2 ^ 150 := Nat.lt_of_lt_of_le h (Nat.pow_le_pow_right (by decide) (by decide))
theorem w150 {z : Int} {m : Nat} (h : z.natAbs < 2 ^ 150) (hm : 150 ≤ m) : z.natAbs < 2 ^ m := Nat.lt_of_lt_of_le h (Nat.pow_le_pow_right (by decide) hm)
section
variable {P : Program} {w : World} {K : PySem.W.Frag} {mg : Str → Option Value} {base : Heap}
theorem ok_chCount {f : Addr} {fd : FuncData} (F : Fun K "_check_count" "_check_count" sChCount f fd) (M : Cn K mg) : FnOk P w K mg base CX0 5 f fd ["step", "count"] spChCount := by
  have GC : FnOk P w K mg base CX0 4 M.fc.1 M.fc.2 ["given"] (spIsSt .non) := ok_chStep M.dc.F M.c M.di M.dr M.ds
  have GN : FnOk P w K mg base CX0 3 M.fn.1 M.fn.2 ["given", "least", "most"] spChNum := ok_chNum M.dn.F M.c M.di M.dm
  refine F.ok scChCount (fun vs H Q E h => ?_) (fun cdv A outer s H vs Q E hr h => ?_)
  · obtain ⟨t, x, y, n, rfl, _⟩ := h
    rfl
  · obtain ⟨t, x, y, n, rfl, st, n1, n2, q⟩ := h
    obtain ⟨tk, hmc⟩ := M.mc
    have hr3 : Room 3 _ := hr.mono (by decide)
    refine ⟨_, pss_cons (ps_expr (pe_call GC hr (by rfl) M.dc.g M.dc.F.kp M.dc.b .nil pass0 (pa_cons (pv 0) pa_nil)))
      (pss_one (ps_expr (pe_call GN hr3 (by rfl) M.dn.g M.dn.F.kp M.dn.b .nil pass0 (pa_cons (pv 1) (pa_cons pe_int (pa_cons (pe_glob (v := .int (10 ^ 30)) rfl hmc ⟨_, rfl⟩) pa_nil)))))), ?_⟩
    exact ⟨_, rfl, t, x, y, rfl, st, _, rfl, n, 1, 10 ^ 30, rfl, n1, n2, q⟩
theorem ok_howMany {f : Addr} {fd : FuncData} (F : Fun K "how_many" "how_many" sHowMany f fd) (M : Cn K mg) : FnOk P w K mg base CX0 6 f fd ["step", "count", "low", "high"] spHowMany := by
  have GC : FnOk P w K mg base CX0 5 M.gc.1 M.gc.2 ["step", "count"] spChCount := ok_chCount M.ec.F M
  have GA : FnOk P w K mg base CX0 4 M.ga.1 M.ga.2 ["low", "high"] spArc := ok_arc M.ea.F M.c M.di M.dr M.dp M.dl
  have GB : FnOk P w K mg base CX0 2 M.gb.1 M.gb.2 ["step", "count", "most"] spBelow := ok_below M.eb.F M.es M.dv
  have GT : FnOk P w K mg base CX0 1 M.gt.1 M.gt.2 ["fraction", "bottom"] spLeastTop := ok_leastTop M.et.F
  refine F.ok scHowMany (fun vs H Q E h => ?_) (fun cdv A outer s0 H vs Q E hr h => ?_)
  · obtain ⟨t, s, u, x, y, n, a, b, c, d, rfl, _⟩ := h
    rfl
  · obtain ⟨t, s, u, x, y, n, a, b, c, d, rfl, ⟨hT, st⟩, y1, n1, n2, A, q⟩ := h
    have x0 := st.x0
    have xy := st.xy
    have hr4 : Room 4 _ := hr.mono (by decide)
    have hr2 : Room 2 _ := hr.mono (by decide)
    have hr1 : Room 1 _ := hr.mono (by decide)
    have b0 := A.s.2.1
    have d0 := A.u.2.1
    have a0 := A.a0; have ab := A.ab; have c0 := A.c0; have cd := A.cd
    have yb : y.natAbs < 2 ^ 200 := nb (n := 100) (by omega) y1 (by decide)
    have hb := w150 A.b1 (m := 200) (by decide)
    have hd := w150 A.d1 (m := 200) (by decide)
    have ha : a.natAbs < 2 ^ 200 := Nat.lt_of_le_of_lt (by omega) hb
    have hc : c.natAbs < 2 ^ 200 := Nat.lt_of_le_of_lt (by omega) hd
    refine ⟨_, pss_cons (ps_expr (pe_call GC hr (by rfl) M.ec.g M.ec.F.kp M.ec.b .nil pass0 (pa_cons (pv 0) (pa_cons (pv 1) pa_nil))))
      (pss_cons (ps_expr (pe_call GA hr4 (by rfl) M.ea.g M.ea.F.kp M.ea.b .nil pass0 (pa_cons (pv 2) (pa_cons (pv 3) pa_nil))))
      (pss_cons (ps_set (i := 4) scHowMany.nd rfl (.inl rfl) (pe_call GB hr2 (by rfl) M.eb.g M.eb.F.kp M.eb.b .nil pass0 (pa_cons (pv 0) (pa_cons (pv 1) (pa_cons (pe_call GT hr1 (by rfl) M.et.g M.et.F.kp M.et.b .nil pass0 (pa_cons (pv 3) (pa_cons (pe_ix ix_tup (pv 0) pe_int (fun _ _ => rfl)) pa_nil))) pa_nil)))))
      (pss_one (ps_ret (pe_op op_sub (pv 4) (pe_call GB hr2 (by rfl) M.eb.g M.eb.F.kp M.eb.b .nil pass0 (pa_cons (pv 0) (pa_cons (pv 1) (pa_cons (pe_call GT hr1 (by rfl) M.et.g M.et.F.kp M.et.b .nil pass0 (pa_cons (pv 2) (pa_cons (pe_ix ix_tup (pv 0) pe_int (fun _ _ => rfl)) pa_nil))) pa_nil))))))))), ?_⟩
    refine ⟨_, rfl, _, rfl, t, x, y, n, rfl, ⟨hT, st⟩, n1, n2, ?_⟩
    refine ⟨_, rfl, _, rfl, s, u, a, b, c, d, rfl, A.s, A.u, a0, ab, c0, cd, hb, hd, A.lt, ?_⟩
    refine ⟨_, rfl, _, rfl, _, rfl, _, rfl, t, _, 1, .int y, rfl, rfl, SqT.of hT, at_of (j := 1) rfl rfl, u, c, d, y, rfl, A.u.1, by omega, hc, hd, yb, ?_⟩
    refine ⟨t, x, y, n, ltop c d y, rfl, ⟨hT, st⟩, y1, by omega, by omega, ltop_0 (by omega) c0 (by omega), ltop_n (by omega) cd (by omega), fun H1 s1 => ?_⟩
    refine ⟨_, rfl, _, rfl, _, rfl, _, rfl, _, rfl, t, _, 1, .int y, rfl, rfl, SqT.of (s1 _ _ hT), at_of (j := 1) rfl rfl, s, a, b, y, rfl, s1 _ _ A.s.1, by omega, ha, hb, yb, ?_⟩
    refine ⟨t, x, y, n, ltop a b y, rfl, ⟨s1 _ _ hT, st⟩, y1, by omega, by omega, ltop_0 (by omega) a0 (by omega), ltop_n (by omega) ab (by omega), fun H2 s2 => ?_⟩
    exact ⟨_, _, rfl, rfl, q _ (s1.trans s2)⟩
theorem ok_within {f : Addr} {fd : FuncData} (F : Fun K "first_within" "first_within" sWithin f fd) (M : Cn K mg) : FnOk P w K mg base CX0 5 f fd ["step", "low", "high"] spWithin := by
  have GC : FnOk P w K mg base CX0 4 M.fc.1 M.fc.2 ["given"] (spIsSt .non) := ok_chStep M.dc.F M.c M.di M.dr M.ds
  have GA : FnOk P w K mg base CX0 4 M.ga.1 M.ga.2 ["low", "high"] spArc := ok_arc M.ea.F M.c M.di M.dr M.dp M.dl
  have GF : FnOk P w K mg base CX0 2 M.gf.1 M.gf.2 ["step", "least", "most"] spFFT := ok_fft M.ef.F M.eg M.rv
  have GT : FnOk P w K mg base CX0 1 M.gt.1 M.gt.2 ["fraction", "bottom"] spLeastTop := ok_leastTop M.et.F
  refine F.ok scWithin (fun vs H Q E h => ?_) (fun cdv A outer s0 H vs Q E hr h => ?_)
  · obtain ⟨t, s, u, x, y, a, b, c, d, rfl, _⟩ := h
    rfl
  · obtain ⟨t, s, u, x, y, a, b, c, d, rfl, ⟨hT, st⟩, y1, A, q⟩ := h
    have x0 := st.x0
    have xy := st.xy
    have hr2 : Room 2 _ := hr.mono (by decide)
    have hr1 : Room 1 _ := hr.mono (by decide)
    have b0 := A.s.2.1
    have d0 := A.u.2.1
    have a0 := A.a0; have ab := A.ab; have c0 := A.c0; have cd := A.cd
    have yb : y.natAbs < 2 ^ 200 := nb (n := 100) (by omega) y1 (by decide)
    have hb := w150 A.b1 (m := 200) (by decide)
    have hd := w150 A.d1 (m := 200) (by decide)
    have ha : a.natAbs < 2 ^ 200 := Nat.lt_of_le_of_lt (by omega) hb
    have hc : c.natAbs < 2 ^ 200 := Nat.lt_of_le_of_lt (by omega) hd
    refine ⟨_, pss_cons (ps_expr (pe_call GC hr (by rfl) M.dc.g M.dc.F.kp M.dc.b .nil pass0 (pa_cons (pv 0) pa_nil)))
      (pss_cons (ps_expr (pe_call GA hr (by rfl) M.ea.g M.ea.F.kp M.ea.b .nil pass0 (pa_cons (pv 1) (pa_cons (pv 2) pa_nil))))
      (pss_cons (ps_par (i := 3) (j := 4) (by rfl) scWithin.nd rfl rfl (by decide) rfl rfl (pa_cons (pe_call GT hr1 (by rfl) M.et.g M.et.F.kp M.et.b .nil pass0 (pa_cons (pv 1) (pa_cons (pe_ix ix_tup (pv 0) pe_int (fun _ _ => rfl)) pa_nil))) (pa_cons (pe_op op_sub (pe_call GT hr1 (by rfl) M.et.g M.et.F.kp M.et.b .nil pass0 (pa_cons (pv 2) (pa_cons (pe_ix ix_tup (pv 0) pe_int (fun _ _ => rfl)) pa_nil))) pe_int) pa_nil)) (by rfl))
      (pss_cons (ps_if (pt_cmpR op_gt (pv 3) (pv 4) (nomark _)) (pss_one (ps_ret pe_non)) pss_nil)
      (pss_one (ps_ret (pe_call GF hr2 (by rfl) M.ef.g M.ef.F.kp M.ef.b .nil pass0 (pa_cons (pv 0) (pa_cons (pv 3) (pa_cons (pv 4) pa_nil))))))))), ?_⟩
    refine ⟨_, rfl, t, x, y, rfl, ⟨hT, st⟩, ?_⟩
    refine ⟨_, rfl, _, rfl, s, u, a, b, c, d, rfl, A.s, A.u, a0, ab, c0, cd, hb, hd, A.lt, ?_⟩
    refine ⟨_, rfl, _, rfl, t, _, 1, .int y, rfl, rfl, SqT.of hT, at_of (j := 1) rfl rfl, s, a, b, y, rfl, A.s.1, by omega, ha, hb, yb, ?_⟩
    refine ⟨_, rfl, _, rfl, t, _, 1, .int y, rfl, rfl, SqT.of hT, at_of (j := 1) rfl rfl, u, c, d, y, rfl, A.u.1, by omega, hc, hd, yb, ?_⟩
    refine ⟨_, _, rfl, rfl, _, _, rfl, ?_⟩
    refine ⟨_, rfl, _, rfl, _, _, rfl, rfl, _, rfl, ?_⟩
    refine ite2 (fun hc' => ?_) (fun hc' => ?_)
    · have z : ltop c d y - 1 < ltop a b y := of_decide_eq_true hc'
      exact q _ _ (Same.refl _) (.inl ⟨by omega, rfl⟩)
    · have z : ¬ ltop c d y - 1 < ltop a b y := fun z => hc' (decide_eq_true z)
      have z1 := ltop_n (b := d) (n := y) (by omega) cd (by omega)
      have z2 := ltop_0 (n := y) (show 0 < b by omega) a0 (by omega)
      refine ⟨_, rfl, _, rfl, _, rfl, t, x, y, ltop a b y, ltop c d y - 1, rfl, ⟨hT, st⟩, y1, z2, by omega, by omega, fun m H' s' Fm => ?_⟩
      exact q _ _ s' (.inr ⟨by omega, m, rfl, Fm⟩)
end
end My.W
set_option Elab.async false
set_option linter.all false
set_option maxRecDepth 100000
set_option maxHeartbeats 8000000
set_option exponentiation.threshold 2000
namespace My
open PySem PySem.Spec PyProof.Rows L2 L2H Gn Mt
/-! the functions called with anything: told, or the first that is wrong refused -/
def Told (H : Hp) (Q : VK) : Prop := ∀ r H', Same H H' → Q r H'
/-- not too great -/
structure Gd (d : PyData) : Prop where
  fr : ∀ t b : Int, d = .tuple [.int t, .int b] → t.natAbs < 2 ^ 100 ∧ b.natAbs < 2 ^ 100
  l60 : Lt60 d
def gdB (d : PyData) : Bool := match d with
  | .tuple [.int t, .int b] => decide (t.natAbs < 2 ^ 100) && decide (b.natAbs < 2 ^ 100)
  | .tuple [_, .int b] => decide (b.natAbs < 2 ^ 100)
  | _ => true
theorem lt60_of {b : Int} (h : b.natAbs < 2 ^ 100) : b ≤ 10 ^ 60 := by
  have l : (2 : Nat) ^ 100 ≤ 10 ^ 60 := by decide
  have y := Nat.lt_of_lt_of_le h l
  have e : ((10 ^ 60 : Nat) : Int) = (10 : Int) ^ 60 := by decide
  omega
theorem gd_of {d : PyData} (h : gdB d = true) : Gd d := by
  refine ⟨fun t b e => ?_, fun p b e => ?_⟩
  · subst e
    have z := Bool.and_eq_true_iff.mp (show (decide (t.natAbs < 2 ^ 100) && decide (b.natAbs < 2 ^ 100)) = true from h)
    exact ⟨of_decide_eq_true z.1, of_decide_eq_true z.2⟩
  · subst e
    have z : b.natAbs < 2 ^ 100 := by
      cases p with
      | int t => exact of_decide_eq_true (Bool.and_eq_true_iff.mp (show (decide (t.natAbs < 2 ^ 100) && decide (b.natAbs < 2 ^ 100)) = true from h)).2
      | _ => exact of_decide_eq_true h
    exact lt60_of z
theorem Gd.bd {d : PyData} (h : Gd d) : Bd d := by
  unfold Bd
  split
  · have z := h.fr _ _ rfl
    exact ⟨Nat.lt_of_lt_of_le z.1 (Nat.pow_le_pow_right (by decide) (by decide)), Nat.lt_of_lt_of_le z.2 (Nat.pow_le_pow_right (by decide) (by decide))⟩
  · trivial
theorem st_of {K : PySem.W.Frag} {H : Hp} {v : V} {d : PyData} (h : An K H v d) (e : isSt d = true) : ∃ a x y, v = .ref a ∧ d = .tuple [.int x, .int y] ∧ StepAt H a x y := by
  obtain ⟨a, t, b, rfl, rfl, hT, b1, co⟩ := fr_of h (st_fr e)
  have z : (decide (0 ≤ t) && decide (t < b)) = true := (Bool.and_eq_true_iff.mp e).2
  have y := Bool.and_eq_true_iff.mp z
  exact ⟨a, t, b, rfl, rfl, hT, of_decide_eq_true y.1, of_decide_eq_true y.2, co⟩
theorem num_at {K : PySem.W.Frag} {H : Hp} {v : V} {d : PyData} {a b : Int} (h : An K H v d) (e : isNum d a b = true) : ∃ i, v = .int i ∧ d = .int i ∧ a ≤ i ∧ i ≤ b := by
  cases d with
  | int i =>
    cases h
    have z := of_decide_eq_true (show decide (a ≤ i ∧ i ≤ b) = true from e)
    exact ⟨i, rfl, rfl, z.1, z.2⟩
  | _ => cases e
theorem pt_of {K : PySem.W.Frag} {H : Hp} {v : V} {d : PyData} (h : An K H v d) (e : isPt d = true) : ∃ a x y, v = .ref a ∧ d = .tuple [.int x, .int y] ∧ W.FrAt H a x y ∧ 0 ≤ x ∧ x ≤ y := by
  have f : isFr d = true := by
    cases z : isFr d with
    | true => rfl
    | false => rw [isPt_fr z] at e; cases e
  obtain ⟨a, t, b, rfl, rfl, hT, b1, co⟩ := fr_of h f
  have z : (decide (0 ≤ t) && decide (t ≤ b)) = true := (Bool.and_eq_true_iff.mp e).2
  have y := Bool.and_eq_true_iff.mp z
  exact ⟨a, t, b, rfl, rfl, ⟨hT, b1, co⟩, of_decide_eq_true y.1, of_decide_eq_true y.2⟩
/-- the four forms of calls -/
def spC1 (K : PySem.W.Frag) (C : Addr) (r : PyData → Bool) : Sp := fun vs H Q E => ∃ v d, vs = [v] ∧ An K H v d ∧ Gd d ∧ (r d = true → Told H Q) ∧ (r d = false → Thrown C v H E)
def spC2 (K : PySem.W.Frag) (C1 C2 : Addr) (r1 r2 : PyData → Bool) : Sp := fun vs H Q E => ∃ v u d e, vs = [v, u] ∧ An K H v d ∧ An K H u e ∧ Gd d ∧ Gd e ∧ (r1 d = true → r2 e = true → Told H Q) ∧ (r1 d = false → Thrown C1 v H E) ∧ (r1 d = true → r2 e = false → Thrown C2 u H E)
def spC3 (K : PySem.W.Frag) (CS CN : Addr) (lim : Int → Int → Int) : Sp := fun vs H Q E => ∃ (v u k : V) (d e m : PyData), vs = [v, u, k] ∧ An K H v d ∧ An K H u e ∧ An K H k m ∧ Gd d ∧ (isSt d = false → Thrown CS v H E) ∧ (isSt d = true → isNum e 1 (10 ^ 30) = false → Thrown CN u H E) ∧
  ∀ t b n : Int, isSt d = true → d = .tuple [.int t, .int b] → e = .int n → 1 ≤ n → n ≤ 10 ^ 30 → (isNum m 0 (lim n b) = true → Told H Q) ∧ (isNum m 0 (lim n b) = false → Thrown CN k H E)
def spC4 (K : PySem.W.Frag) (CS CN CA : Addr) : Sp := fun vs H Q E => ∃ (v u l h : V) (d e p q : PyData), vs = [v, u, l, h] ∧ An K H v d ∧ An K H u e ∧ An K H l p ∧ An K H h q ∧ Gd d ∧ Gd p ∧ Gd q ∧ (isSt d = false → Thrown CS v H E) ∧ (isSt d = true → isNum e 1 (10 ^ 30) = false → Thrown CN u H E) ∧
  (isSt d = true → isNum e 1 (10 ^ 30) = true → (isPt p = false → Thrown CA l H E) ∧ (isPt p = true → (isPt q && lessD p q) = false → Thrown CA h H E) ∧ (isPt p = true → (isPt q && lessD p q) = true → Told H Q))
def spC3w (K : PySem.W.Frag) (CS CA : Addr) : Sp := fun vs H Q E => ∃ (v l h : V) (d p q : PyData), vs = [v, l, h] ∧ An K H v d ∧ An K H l p ∧ An K H h q ∧ Gd d ∧ Gd p ∧ Gd q ∧ (isSt d = false → Thrown CS v H E) ∧
  (isSt d = true → (isPt p = false → Thrown CA l H E) ∧ (isPt p = true → (isPt q && lessD p q) = false → Thrown CA h H E) ∧ (isPt p = true → (isPt q && lessD p q) = true → Told H Q))
section
variable {P : Program} {w : World} {K : PySem.W.Frag} {mg : Str → Option Value} {base : Heap}
theorem okImp {CX : CXT} {k : Nat} {f : Addr} {fd : FuncData} {ps : List Str} {sp sp' : Sp} (F : FnOk P w K mg base CX k f fd ps sp) (i : ∀ vs H Q E, sp' vs H Q E → sp vs H Q E) : FnOk P w K mg base CX k f fd ps sp' :=
  ⟨fun vs H Q E h => F.len vs H Q E (i _ _ _ _ h), fun A o s H a us vs Q E hr e hb hv h => F.run A o s H a us vs Q E hr e hb hv (i _ _ _ _ h)⟩
theorem or2 {C1 C2 : Addr} {r1 r2 : PyData → Bool} {f : Addr} {fd : FuncData} {k : Nat} {ps : List Str} {sp : Sp} (F : FnOk P w K mg base CX0 k f fd ps sp) (G : FnOk P w K mg base (L2N.CX P w) k f fd ps (spBad2 K C1 C2 r1 r2))
    (h : ∀ (v u : V) (d e : PyData) (H : Hp) (Q : VK) (E : XK), An K H v d → An K H u e → Gd d → Gd e → r1 d = true → r2 e = true → Told H Q → sp [v, u] H Q E) : FnOk P w K mg base (L2N.CX P w) k f fd ps (spC2 K C1 C2 r1 r2) :=
  okImp (okOr (okUp F) G) fun vs H Q E ⟨v, u, d, e, ev, an, am, gd, ge, q, b1, b2⟩ => by
    subst ev
    cases s1 : r1 d with
    | false => exact .inr ⟨v, u, d, e, rfl, an, am, .inl ⟨s1, b1 s1⟩⟩
    | true => cases s2 : r2 e with
      | false => exact .inr ⟨v, u, d, e, rfl, an, am, .inr ⟨s1, s2, b2 s1 s2⟩⟩
      | true => exact .inl (h v u d e H Q E an am gd ge s1 s2 (q s1 s2))
theorem or3 {CS CN : Addr} {f : Addr} {fd : FuncData} {k : Nat} {ps : List Str} {sp : Sp} (F : FnOk P w K mg base CX0 k f fd ps sp) (G : FnOk P w K mg base (L2N.CX P w) k f fd ps (spBad3 K CS CN))
    (h : ∀ (a : Addr) (x y n k : Int) (H : Hp) (Q : VK) (E : XK), StepAt H a x y → y.natAbs < 2 ^ 100 → 1 ≤ n → n ≤ 10 ^ 30 → 0 ≤ k → k < n → Told H Q → sp [.ref a, .int n, .int k] H Q E) : FnOk P w K mg base (L2N.CX P w) k f fd ps (spC3 K CS CN fun n _ => n - 1) :=
  okImp (okOr (okUp F) G) fun vs H Q E ⟨v, u, k, d, e, m, ev, an, am, ak, gd, b1, b2, b3⟩ => by
    subst ev
    cases s1 : isSt d with
    | false => exact .inr ⟨v, u, k, d, e, m, rfl, an, am, ak, .inl ⟨s1, b1 s1⟩⟩
    | true => cases s2 : isNum e 1 (10 ^ 30) with
      | false => exact .inr ⟨v, u, k, d, e, m, rfl, an, am, ak, .inr (.inl ⟨s1, s2, b2 s1 s2⟩)⟩
      | true =>
        obtain ⟨a, x, y, rfl, rfl, st⟩ := st_of an s1
        obtain ⟨n, rfl, rfl, n1, n2⟩ := num_at am s2
        have b := b3 x y n s1 rfl rfl n1 n2
        cases s3 : isNum m 0 (n - 1) with
        | false => exact .inr ⟨_, _, k, _, _, m, rfl, an, am, ak, .inr (.inr ⟨n, s1, rfl, n1, n2, s3, b.2 s3⟩)⟩
        | true =>
          obtain ⟨i, rfl, rfl, i0, i1⟩ := num_at ak s3
          exact .inl (h a x y n i H Q E st (gd.fr _ _ rfl).2 n1 n2 i0 (by omega) (b.1 s3))
end
end My
set_option Elab.async false
set_option linter.all false
set_option maxRecDepth 100000
set_option maxHeartbeats 8000000
set_option exponentiation.threshold 2000
namespace My
open PySem PySem.Spec PyProof.Rows L2 L2H Gn Mt
/-! each function called with anything -/
theorem scOrder8 : FnScope ["step", "count", "top", "bottom", "standing", "mark"] ["step", "count"] (defScope sOrder) := ⟨rfl, rfl, rfl, by decide +kernel, rfl, by decide +kernel, by decide +kernel⟩
structure Fs (P : Program) (w : World) (K : PySem.W.Frag) (mg : Str → Option Value) (base : Heap) where
  ck : Ck P w K mg base
  bo : O.Bo mg
  si : B.Si K mg
  rs : R.Rs K mg
  cn : W.Cn K mg
  fo : Addr × FuncData
  fb : Addr × FuncData
  lo : Df K mg "lowest" O.sLowest ["top", "bottom"] fo.1 fo.2
  sb : Df K mg "_simplest_between" B.sSb ["one", "other"] fb.1 fb.2
  pl : Addr × FuncData
  od : Addr × FuncData
  mi : Addr × FuncData
  pa : Addr × FuncData
  be : Addr × FuncData
  nx : Addr × FuncData
  la : Addr × FuncData
  ra : Addr × FuncData
  mo : Addr × FuncData
  hm : Addr × FuncData
  fw : Addr × FuncData
  dpl : Df K mg "place" sPlace ["step", "mark"] pl.1 pl.2
  dod : Df K mg "order" sOrder ["step", "count"] od.1 od.2
  dmi : Df K mg "mirrored" sMirr ["step"] mi.1 mi.2
  dpa : Df K mg "parting" sParting ["one", "other"] pa.1 pa.2
  dbe : Df K mg "between" sBetween ["one", "other"] be.1 be.2
  dnx : Df K mg "next_mark" sNext ["step", "count", "mark"] nx.1 nx.2
  dla : Df K mg "last_mark" sLast ["step", "count", "mark"] la.1 la.2
  dra : Df K mg "rank" sRank ["step", "count", "mark"] ra.1 ra.2
  dmo : Df K mg "mark_of" sMarkOf ["step", "count", "rank"] mo.1 mo.2
  dhm : Df K mg "how_many" sHowMany ["step", "count", "low", "high"] hm.1 hm.2
  dfw : Df K mg "first_within" sFirstW ["step", "low", "high"] fw.1 fw.2
theorem lt100 {y : Int} (h : y.natAbs < 2 ^ 100) : y < 2 ^ 100 := by
  have e : ((2 ^ 100 : Nat) : Int) = (2 : Int) ^ 100 := by decide
  omega
section
variable {P : Program} {w : World} {K : PySem.W.Frag} {mg : Str → Option Value} {base : Heap}
theorem c_place (M : Fs P w K mg base) : FnOk P w K mg base (L2N.CX P w) 5 M.pl.1 M.pl.2 ["step", "mark"] (spC2 K M.ck.CS M.ck.CN isSt (isNum · 0 (10 ^ 30))) :=
  or2 (O.ok_place M.dpl.F M.ck.c M.ck.mc M.ck.di M.ck.dr M.ck.ds M.ck.dc M.ck.dn M.lo M.ck.dm) (bad_place M.dpl.F M.ck) fun v u d e H Q E an am gd ge s1 s2 q => by
    obtain ⟨a, x, y, rfl, rfl, st⟩ := st_of an s1
    obtain ⟨k, rfl, rfl, k0, k1⟩ := num_at am s2
    exact ⟨a, x, y, k, rfl, st, (gd.fr _ _ rfl).2, k0, k1, fun r hr => q _ _ (same_put hr)⟩
theorem c_order (M : Fs P w K mg base) : FnOk P w K mg base (L2N.CX P w) 5 M.od.1 M.od.2 ["step", "count"] (spC2 K M.ck.CS M.ck.CN isSt (isNum · 1 60)) :=
  or2 (O.ok_order M.dod.F M.bo M.ck.di M.ck.dr M.ck.ds M.ck.dc M.ck.dn M.ck.dm) (bad_order M.dod.F M.ck M.bo.mo scOrder8) fun v u d e H Q E an am gd ge s1 s2 q => by
    obtain ⟨a, x, y, rfl, rfl, st⟩ := st_of an s1
    obtain ⟨k, rfl, rfl, k0, k1⟩ := num_at am s2
    exact ⟨a, x, y, k, rfl, st, k0, k1, fun r H' s _ _ => q _ _ s⟩
theorem c_mirr (M : Fs P w K mg base) : FnOk P w K mg base (L2N.CX P w) 5 M.mi.1 M.mi.2 ["step"] (spC1 K M.ck.CS isSt) :=
  okImp (okOr (okUp (O.ok_mirr M.dmi.F M.ck.c M.ck.di M.ck.dr M.ck.ds M.ck.dc)) (bad_mirrored M.dmi.F M.ck)) fun vs H Q E ⟨v, d, ev, an, gd, q, b⟩ => by
    subst ev
    cases s1 : isSt d with
    | false => exact .inr ⟨v, d, rfl, an, s1, b s1⟩
    | true =>
      obtain ⟨a, x, y, rfl, rfl, st⟩ := st_of an s1
      exact .inl ⟨a, x, y, rfl, st, fun b H' s _ => q s1 _ _ s⟩
theorem two_of {K : PySem.W.Frag} {H : Hp} {v u : V} {d e : PyData} (an : An K H v d) (am : An K H u e) (gd : Gd d) (ge : Gd e) (s1 : isSt d = true) (s2 : isSt e = true) : ∃ a x y c z t, v = .ref a ∧ u = .ref c ∧ B.Two H a c x y z t := by
  obtain ⟨a, x, y, rfl, rfl, st⟩ := st_of an s1
  obtain ⟨c, z, t, rfl, rfl, st'⟩ := st_of am s2
  exact ⟨a, x, y, c, z, t, rfl, rfl, st, st', lt100 (gd.fr _ _ rfl).2, lt100 (ge.fr _ _ rfl).2⟩
theorem c_parting (M : Fs P w K mg base) : FnOk P w K mg base (L2N.CX P w) 5 M.pa.1 M.pa.2 ["one", "other"] (spC2 K M.ck.CS M.ck.CS isSt isSt) :=
  or2 (B.ok_parting M.dpa.F M.ck.c M.si M.sb M.ck.di M.ck.dr M.ck.ds M.ck.dc) (bad_parting M.dpa.F M.ck) fun v u d e H Q E an am gd ge s1 s2 q => by
    obtain ⟨a, x, y, c, z, t, rfl, rfl, tw⟩ := two_of an am gd ge s1 s2
    exact ⟨a, c, x, y, z, t, rfl, tw, fun _ => q _ _ (Same.refl _), fun _ p r H' _ s => q _ _ s⟩
theorem c_between (M : Fs P w K mg base) : FnOk P w K mg base (L2N.CX P w) 5 M.be.1 M.be.2 ["one", "other"] (spC2 K M.ck.CS M.ck.CS isSt isSt) :=
  or2 (B.ok_between M.dbe.F M.ck.c M.si M.sb M.ck.di M.ck.dr M.ck.ds M.ck.dc) (bad_between M.dbe.F M.ck) fun v u d e H Q E an am gd ge s1 s2 q => by
    obtain ⟨a, x, y, c, z, t, rfl, rfl, tw⟩ := two_of an am gd ge s1 s2
    exact ⟨a, c, x, y, z, t, rfl, tw, fun p r b H' _ s _ _ => q _ _ s⟩
theorem c_next (M : Fs P w K mg base) : FnOk P w K mg base (L2N.CX P w) 7 M.nx.1 M.nx.2 ["step", "count", "mark"] (spC3 K M.ck.CS M.ck.CN fun n _ => n - 1) :=
  or3 (R.ok_next M.dnx.F M.rs.rk) (bad_Next M.dnx.F M.ck M.rs.rk.ek) fun a x y n k H Q E st yb n1 n2 k0 k1 q =>
    ⟨a, x, y, n, k, rfl, st, yb, n1, n2, k0, k1, fun _ => q _ _ (Same.refl _), fun _ m H' s _ => q _ _ s⟩
theorem c_last (M : Fs P w K mg base) : FnOk P w K mg base (L2N.CX P w) 7 M.la.1 M.la.2 ["step", "count", "mark"] (spC3 K M.ck.CS M.ck.CN fun n _ => n - 1) :=
  or3 (R.ok_last M.dla.F M.rs.rk) (bad_Last M.dla.F M.ck M.rs.rk.ek) fun a x y n k H Q E st yb n1 n2 k0 k1 q =>
    ⟨a, x, y, n, k, rfl, st, yb, n1, n2, k0, k1, fun _ => q _ _ (Same.refl _), fun _ m H' s _ => q _ _ s⟩
theorem c_rank (M : Fs P w K mg base) : FnOk P w K mg base (L2N.CX P w) 7 M.ra.1 M.ra.2 ["step", "count", "mark"] (spC3 K M.ck.CS M.ck.CN fun n _ => n - 1) :=
  or3 (R.ok_rank M.dra.F M.rs) (bad_Rank M.dra.F M.ck M.rs.rk.ek) fun a x y n k H Q E st yb n1 n2 k0 k1 q =>
    ⟨a, x, y, n, k, rfl, st, lt100 yb, n1, n2, k0, k1, fun H' s => q _ _ s⟩
theorem c_markOf (M : Fs P w K mg base) : FnOk P w K mg base (L2N.CX P w) 6 M.mo.1 M.mo.2 ["step", "count", "rank"] (spC3 K M.ck.CS M.ck.CN fun n b => min n b - 1) :=
  okImp (okOr (okUp (R.ok_markOf M.dmo.F M.rs)) (bad_MarkOf M.dmo.F M.ck M.rs.rk.em M.rs.rk.min)) fun vs H Q E ⟨v, u, k, d, e, m, ev, an, am, ak, gd, b1, b2, b3⟩ => by
    subst ev
    cases s1 : isSt d with
    | false => exact .inr ⟨v, u, k, d, e, m, rfl, an, am, ak, .inl ⟨s1, b1 s1⟩⟩
    | true => cases s2 : isNum e 1 (10 ^ 30) with
      | false => exact .inr ⟨v, u, k, d, e, m, rfl, an, am, ak, .inr (.inl ⟨s1, s2, b2 s1 s2⟩)⟩
      | true =>
        obtain ⟨a, x, y, rfl, rfl, st⟩ := st_of an s1
        obtain ⟨n, rfl, rfl, n1, n2⟩ := num_at am s2
        have b := b3 x y n s1 rfl rfl n1 n2
        cases s3 : isNum m 0 (min n y - 1) with
        | false => exact .inr ⟨_, _, k, _, _, m, rfl, an, am, ak, .inr (.inr ⟨n, x, y, s1, rfl, rfl, n1, n2, s3, b.2 s3⟩)⟩
        | true =>
          obtain ⟨i, rfl, rfl, i0, i1⟩ := num_at ak s3
          exact .inl ⟨a, x, y, n, i, rfl, st, lt100 (gd.fr _ _ rfl).2, n1, n2, i0, by omega, fun k H' s _ _ _ => b.1 s3 _ _ s⟩
theorem arc_of {K : PySem.W.Frag} {H : Hp} {l h : V} {p q : PyData} (al : An K H l p) (ah : An K H h q) (gp : Gd p) (gq : Gd q) (s1 : isPt p = true) (s2 : (isPt q && lessD p q) = true) : ∃ s u a b c d, l = .ref s ∧ h = .ref u ∧ W.ArcAt H s u a b c d := by
  have z := Bool.and_eq_true_iff.mp s2
  obtain ⟨s, a, b, rfl, rfl, f1, a0, a1⟩ := pt_of al s1
  obtain ⟨u, c, d, rfl, rfl, f2, c0, c1⟩ := pt_of ah z.1
  exact ⟨s, u, a, b, c, d, rfl, rfl, { s := f1, u := f2, a0 := a0, ab := a1, c0 := c0, cd := c1, b1 := W.w100 (gp.fr _ _ rfl).2, d1 := W.w100 (gq.fr _ _ rfl).2, lt := of_decide_eq_true z.2 }⟩
theorem c_howMany (M : Fs P w K mg base) : FnOk P w K mg base (L2N.CX P w) 6 M.hm.1 M.hm.2 ["step", "count", "low", "high"] (spC4 K M.ck.CS M.ck.CN M.ck.CA) :=
  okImp (okOr (okUp (W.ok_howMany M.dhm.F M.cn)) (bad_HowMany M.dhm.F M.ck M.cn.ea)) fun vs H Q E ⟨v, u, l, h, d, e, p, q, ev, an, am, al, ah, gd, gp, gq, b1, b2, b3⟩ => by
    subst ev
    cases s1 : isSt d with
    | false => exact .inr ⟨v, u, l, h, d, e, p, q, rfl, an, am, al, ah, gp.bd, gq.bd, .inl ⟨s1, b1 s1⟩⟩
    | true => cases s2 : isNum e 1 (10 ^ 30) with
      | false => exact .inr ⟨v, u, l, h, d, e, p, q, rfl, an, am, al, ah, gp.bd, gq.bd, .inr (.inl ⟨s1, s2, b2 s1 s2⟩)⟩
      | true =>
        obtain ⟨c1, c2, c3⟩ := b3 s1 s2
        cases s3 : isPt p with
        | false => exact .inr ⟨v, u, l, h, d, e, p, q, rfl, an, am, al, ah, gp.bd, gq.bd, .inr (.inr (.inl ⟨s1, s2, s3, c1 s3⟩))⟩
        | true => cases s4 : (isPt q && lessD p q) with
          | false => exact .inr ⟨v, u, l, h, d, e, p, q, rfl, an, am, al, ah, gp.bd, gq.bd, .inr (.inr (.inr ⟨s1, s2, s3, s4, c2 s3 s4⟩))⟩
          | true =>
            obtain ⟨a, x, y, rfl, rfl, st⟩ := st_of an s1
            obtain ⟨n, rfl, rfl, n1, n2⟩ := num_at am s2
            obtain ⟨s, u, a', b', c', d', rfl, rfl, A⟩ := arc_of al ah gp gq s3 s4
            exact .inl ⟨a, s, u, x, y, n, a', b', c', d', rfl, st, lt100 (gd.fr _ _ rfl).2, n1, n2, A, fun H' s => c3 s3 s4 _ _ s⟩
theorem c_firstW (M : Fs P w K mg base) : FnOk P w K mg base (L2N.CX P w) 5 M.fw.1 M.fw.2 ["step", "low", "high"] (spC3w K M.ck.CS M.ck.CA) :=
  okImp (okOr (okUp (W.ok_within M.dfw.F M.cn)) (bad_FirstW M.dfw.F M.ck M.cn.ea)) fun vs H Q E ⟨v, l, h, d, p, q, ev, an, al, ah, gd, gp, gq, b1, b3⟩ => by
    subst ev
    cases s1 : isSt d with
    | false => exact .inr ⟨v, l, h, d, p, q, rfl, an, al, ah, gp.bd, gq.bd, .inl ⟨s1, b1 s1⟩⟩
    | true =>
      obtain ⟨c1, c2, c3⟩ := b3 s1
      cases s3 : isPt p with
      | false => exact .inr ⟨v, l, h, d, p, q, rfl, an, al, ah, gp.bd, gq.bd, .inr (.inl ⟨s1, s3, c1 s3⟩)⟩
      | true => cases s4 : (isPt q && lessD p q) with
        | false => exact .inr ⟨v, l, h, d, p, q, rfl, an, al, ah, gp.bd, gq.bd, .inr (.inr ⟨s1, s3, s4, c2 s3 s4⟩)⟩
        | true =>
          obtain ⟨a, x, y, rfl, rfl, st⟩ := st_of an s1
          obtain ⟨s, u, a', b', c', d', rfl, rfl, A⟩ := arc_of al ah gp gq s3 s4
          exact .inl ⟨a, s, u, x, y, a', b', c', d', rfl, st, lt100 (gd.fr _ _ rfl).2, A, fun v H' s _ => c3 s3 s4 _ _ s⟩
end
end My
set_option Elab.async false
set_option linter.all false
set_option maxRecDepth 100000
set_option maxHeartbeats 8000000
set_option exponentiation.threshold 2000
namespace My
open PySem PySem.Spec PyProof.Rows L2 L2H Gn Mt
/-! what the law tells of an error -/
abbrev sLError : Stmt := top 72
abbrev sLClass : Stmt := top 73
abbrev sLField : Stmt := top 74
theorem scLClass : FnScope ["_law_e", "_law_sorts", "_law_found", "_law_word", "_law_fits_here"] ["_law_e"] (defScope sLClass) := ⟨rfl, rfl, rfl, by decide +kernel, rfl, by decide +kernel, by decide +kernel⟩
theorem scLField : FnScope ["_law_e"] ["_law_e"] (defScope sLField) := ⟨rfl, rfl, rfl, by decide +kernel, rfl, by decide +kernel, by decide +kernel⟩
theorem scLError : FnScope ["_law_act", "_law_found", "_law_e", "_law_bases", "_law_plain"] ["_law_act"] (defScope sLError) := ⟨rfl, rfl, rfl, by decide +kernel, rfl, by decide +kernel, by decide +kernel⟩
/-- the classes in the law's order -/
def nmOf : Nat → Str
  | 0 => "InvalidText" | 1 => "InvalidNumber" | 2 => "InvalidStep" | 3 => "InvalidArc" | 4 => "InvalidSighting" | 5 => "InvalidSightings" | 6 => "NotALot" | 7 => "InvalidPieces" | 8 => "InvalidOrder" | 9 => "InvalidIndex" | 10 => "NoStep" | 11 => "TooMany" | _ => "Broken"
def wdOf : Nat → Str
  | 0 => "text" | 1 => "number" | 2 => "step" | 3 => "arc" | 4 => "sighting" | 5 => "sightings" | 6 => "lot" | 7 => "pieces" | 8 => "order" | 9 => "index" | 10 => "none" | 11 => "many" | _ => "broken"
/-- what they have -/
def fdOf (i : Nat) : Option Str := if i = 5 ∨ i = 7 ∨ i = 8 ∨ i = 12 then some "index" else if i = 10 then none else if i = 11 then some "most" else some "given"
structure Er (mg : Str → Option Value) where
  c : Nat → Addr
  R0 : Addr
  R1 : Addr
  R2 : Addr
  g : ∀ i, i < 13 → mg (nmOf i) = some (.ref (c i))
  g0 : mg "NotRight" = some (.ref R0)
  g1 : mg "NotKnown" = some (.ref R1)
  g2 : mg "NotPossible" = some (.ref R2)
  v0 : mg "ValueError" = none
  v1 : mg "LookupError" = none
  v2 : mg "ArithmeticError" = none
  isi : mg "isinstance" = none
  len : mg "len" = none
/-- an error of the class that stands at i -/
structure Held (K : PySem.W.Frag) {mg : Str → Option Value} (B : Er mg) (D : Addr) (i0 : Nat) : Prop where
  ex : ExcC K D
  xf : XfC K D
  lt : i0 < 13
  one : ∀ i, i < 13 → PySem.W.kitOne K (.ref D) (.ref (B.c i)) = some (decide (i = i0))
  no : ∀ n, fdOf i0 = some n → PySem.W.findIn K (.ref D) n = some none
  bs : ∃ b0 b1 b2 : Bool, [b0, b1, b2].count true = 1 ∧ PySem.W.kitOne K (.ref D) (.ref B.R0) = some b0 ∧ PySem.W.kitOne K (.ref D) (.ref B.R1) = some b1 ∧ PySem.W.kitOne K (.ref D) (.ref B.R2) = some b2 ∧
    PySem.W.kitOne K (.ref D) (.type "ValueError") = some b0 ∧ PySem.W.kitOne K (.ref D) (.type "LookupError") = some b1 ∧ PySem.W.kitOne K (.ref D) (.type "ArithmeticError") = some b2
  ma : PySem.W.exmAny K (.ref D) [.ref B.R0, .ref B.R1, .ref B.R2] = some true
/-- what it has -/
def FldAt (H : Hp) (d : Option Addr) (i0 : Nat) (v : V) : Prop := match fdOf i0 with
  | none => v = .non
  | some n => ∃ dd fs, d = some dd ∧ H dd = some (.xd fs) ∧ fs.lookup n = some v
def DictAt (H : Hp) (d : Option Addr) : Prop := ∀ y, d = some y → ∃ fs, H y = some (.xd fs)
def spLClass (K : PySem.W.Frag) {mg : Str → Option Value} (B : Er mg) : Addr × Obj → Sp := fun p vs H Q _ => ∃ (D : Addr) (d : Option Addr) (i0 : Nat), vs = [.ref p.1] ∧ Zc (.ref D) d p.2 ∧ (∃ w, p.2.data = .fields w) ∧ Held K B D i0 ∧ DictAt H d ∧ ∀ H', Same H H' → Q (.str (wdOf i0)) H'
def spLField (K : PySem.W.Frag) {mg : Str → Option Value} (B : Er mg) : Addr × Obj → Sp := fun p vs H Q _ => ∃ (D : Addr) (d : Option Addr) (i0 : Nat) (v : V), vs = [.ref p.1] ∧ Zc (.ref D) d p.2 ∧ (∃ w, p.2.data = .fields w) ∧ Held K B D i0 ∧ DictAt H d ∧ FldAt H d i0 v ∧ ∀ H', Same H H' → Q v H'
theorem isP_of {K : PySem.W.Frag} {a C D : Addr} {d : Option Addr} {b : Bool} {H : Hp} {Q : VK} (X : ExcC K D) (hd : DictAt H d) (o : PySem.W.kitOne K (.ref D) (.ref C) = some b) (q : Q (.bl b) H) : rIsP K (.ref D) a d [.ref a, .ref C] H Q :=
  ⟨D, .ref C, .ref C, b, rfl, X, rfl, hd, fun u r => r, o, q⟩
theorem isPt_of {K : PySem.W.Frag} {a D : Addr} {n : String} {d : Option Addr} {b : Bool} {H : Hp} {Q : VK} (X : ExcC K D) (hd : DictAt H d) (o : PySem.W.kitOne K (.ref D) (.type n) = some b) (q : Q (.bl b) H) : rIsP K (.ref D) a d [.ref a, .ty n] H Q :=
  ⟨D, .ty n, .type n, b, rfl, X, rfl, hd, fun u r => r, o, q⟩
theorem DictAt.same {H H' : Hp} {d : Option Addr} (h : DictAt H d) (e : Same H H') : DictAt H' d := fun y z => by
  obtain ⟨fs, x⟩ := h y z
  exact ⟨fs, e _ _ x⟩
section
variable {P : Program} {w : World} {K : PySem.W.Frag} {mg : Str → Option Value} {base : Heap}
theorem ok_lclass {f : Addr} {fd : FuncData} (F : Fun K "_law_class" "_law_class" sLClass f fd) (B : Er mg) : FnP P w K mg base CX0 1 f fd ["_law_e"] (spLClass K B) := by
  refine funP F scLClass (fun p vs H Q E h => ?_) (fun cdv A outer s H vs Q E p hot hr h => ?_)
  · obtain ⟨D, d, i0, rfl, _⟩ := h
    rfl
  · obtain ⟨D, d, i0, rfl, hz, hf, hd, hD, q⟩ := h
    have mp : (p.1, p.2) ∈ (cxH CX0 P w K mg base ["_law_e", "_law_sorts", "_law_found", "_law_word", "_law_fits_here"] "_law_class" (defScope sLClass) f cdv A outer s H E p).pn := List.mem_cons_self
    refine ⟨_, pss_cons (ps_set (i := 1) scLClass.nd rfl (.inl rfl) (pe_lst (pa_cons (pe_lst (pa_cons pe_str (pa_cons (pe_callB (cr_isP mp hz hf) (by rfl) B.isi (by decide +kernel) (pa_cons (pv 0) (pa_cons (pe_glob (v := .ref (B.c 0)) rfl (B.g 0 (by decide)) rfl) pa_nil))) pa_nil))) (pa_cons (pe_lst (pa_cons pe_str (pa_cons (pe_callB (cr_isP mp hz hf) (by rfl) B.isi (by decide +kernel) (pa_cons (pv 0) (pa_cons (pe_glob (v := .ref (B.c 1)) rfl (B.g 1 (by decide)) rfl) pa_nil))) pa_nil))) pa_nil))))
      (pss_cons (ps_set (i := 1) scLClass.nd rfl (.inl rfl) (pe_op op_cat (pv 1) (pe_lst (pa_cons (pe_lst (pa_cons pe_str (pa_cons (pe_callB (cr_isP mp hz hf) (by rfl) B.isi (by decide +kernel) (pa_cons (pv 0) (pa_cons (pe_glob (v := .ref (B.c 2)) rfl (B.g 2 (by decide)) rfl) pa_nil))) pa_nil))) (pa_cons (pe_lst (pa_cons pe_str (pa_cons (pe_callB (cr_isP mp hz hf) (by rfl) B.isi (by decide +kernel) (pa_cons (pv 0) (pa_cons (pe_glob (v := .ref (B.c 3)) rfl (B.g 3 (by decide)) rfl) pa_nil))) pa_nil))) pa_nil)))))
      (pss_cons (ps_set (i := 1) scLClass.nd rfl (.inl rfl) (pe_op op_cat (pv 1) (pe_lst (pa_cons (pe_lst (pa_cons pe_str (pa_cons (pe_callB (cr_isP mp hz hf) (by rfl) B.isi (by decide +kernel) (pa_cons (pv 0) (pa_cons (pe_glob (v := .ref (B.c 4)) rfl (B.g 4 (by decide)) rfl) pa_nil))) pa_nil))) (pa_cons (pe_lst (pa_cons pe_str (pa_cons (pe_callB (cr_isP mp hz hf) (by rfl) B.isi (by decide +kernel) (pa_cons (pv 0) (pa_cons (pe_glob (v := .ref (B.c 5)) rfl (B.g 5 (by decide)) rfl) pa_nil))) pa_nil))) pa_nil)))))
      (pss_cons (ps_set (i := 1) scLClass.nd rfl (.inl rfl) (pe_op op_cat (pv 1) (pe_lst (pa_cons (pe_lst (pa_cons pe_str (pa_cons (pe_callB (cr_isP mp hz hf) (by rfl) B.isi (by decide +kernel) (pa_cons (pv 0) (pa_cons (pe_glob (v := .ref (B.c 6)) rfl (B.g 6 (by decide)) rfl) pa_nil))) pa_nil))) (pa_cons (pe_lst (pa_cons pe_str (pa_cons (pe_callB (cr_isP mp hz hf) (by rfl) B.isi (by decide +kernel) (pa_cons (pv 0) (pa_cons (pe_glob (v := .ref (B.c 7)) rfl (B.g 7 (by decide)) rfl) pa_nil))) pa_nil))) pa_nil)))))
      (pss_cons (ps_set (i := 1) scLClass.nd rfl (.inl rfl) (pe_op op_cat (pv 1) (pe_lst (pa_cons (pe_lst (pa_cons pe_str (pa_cons (pe_callB (cr_isP mp hz hf) (by rfl) B.isi (by decide +kernel) (pa_cons (pv 0) (pa_cons (pe_glob (v := .ref (B.c 8)) rfl (B.g 8 (by decide)) rfl) pa_nil))) pa_nil))) (pa_cons (pe_lst (pa_cons pe_str (pa_cons (pe_callB (cr_isP mp hz hf) (by rfl) B.isi (by decide +kernel) (pa_cons (pv 0) (pa_cons (pe_glob (v := .ref (B.c 9)) rfl (B.g 9 (by decide)) rfl) pa_nil))) pa_nil))) pa_nil)))))
      (pss_cons (ps_set (i := 1) scLClass.nd rfl (.inl rfl) (pe_op op_cat (pv 1) (pe_lst (pa_cons (pe_lst (pa_cons pe_str (pa_cons (pe_callB (cr_isP mp hz hf) (by rfl) B.isi (by decide +kernel) (pa_cons (pv 0) (pa_cons (pe_glob (v := .ref (B.c 10)) rfl (B.g 10 (by decide)) rfl) pa_nil))) pa_nil))) (pa_cons (pe_lst (pa_cons pe_str (pa_cons (pe_callB (cr_isP mp hz hf) (by rfl) B.isi (by decide +kernel) (pa_cons (pv 0) (pa_cons (pe_glob (v := .ref (B.c 11)) rfl (B.g 11 (by decide)) rfl) pa_nil))) pa_nil))) (pa_cons (pe_lst (pa_cons pe_str (pa_cons (pe_callB (cr_isP mp hz hf) (by rfl) B.isi (by decide +kernel) (pa_cons (pv 0) (pa_cons (pe_glob (v := .ref (B.c 12)) rfl (B.g 12 (by decide)) rfl) pa_nil))) pa_nil))) pa_nil))))))
      (pss_cons (ps_setLcH (i := 2) (g := gLst K 2 (gCons (gName 3) (gCons (gName 4) gNil))) (te := tVar 3) (tt := tTest (tVar 4)) (own := [("_law_word", 3), ("_law_fits_here", 4)]) (p := p) ⟨hot.1, hot.2⟩ mp scLClass.nd rfl rfl (sw_true rfl rfl rfl (by decide +kernel)) (pv 1) (blkOk_by (N := ["_law_e", "_law_sorts", "_law_found", "_law_word", "_law_fits_here"]) (sc := defScope sLClass) (by decide +kernel)) (fun _ _ _ _ _ S => pg_lstH S (pgs_cons (pg_name (i := 3) scLClass.nd rfl (.inl rfl)) (pgs_cons (pg_name (i := 4) scLClass.nd rfl (.inl rfl)) pgs_nil))) (fun _ _ _ _ _ _ => pts_one (pt_val (pv 4))) (fun _ _ _ _ _ _ => pv 3))
      (pss_one (ps_ret (pe_ifExp (pt_cmpR op_eq (pe_callB call_len_seq (by rfl) B.len PySem.boot_len (pa_cons (pv 2) pa_nil)) pe_int (nomark _)) (pe_ix ix_list (pv 2) pe_int (fun _ _ => rfl)) pe_str))))))))), ?_⟩
    dsimp only [gName, tSeq, tAsg]
    have S : Same H H := Same.refl H
    refine ⟨_, rfl, ?_⟩
    dsimp only [tCB, tCons, tC, tNil]
    refine isP_of hd.ex (hD.same S) (hd.one 0 (by decide)) ?_
    refine ⟨(by show 2 ≤ sizeLine; decide), fun a0 h0 => ?_⟩
    have e := same_put (o := HO.lst [.str "text", .bl (decide (0 = i0))]) h0
    have S := S.trans e
    have f0 : upd H a0 (HO.lst [.str "text", .bl (decide (0 = i0))]) a0 = some (HO.lst [.str "text", .bl (decide (0 = i0))]) := upd_same
    generalize upd H a0 (HO.lst [.str "text", .bl (decide (0 = i0))]) = G0 at *
    clear e
    refine ⟨_, rfl, ?_⟩
    dsimp only [tCB, tCons, tC, tNil]
    refine isP_of hd.ex (hD.same S) (hd.one 1 (by decide)) ?_
    refine ⟨(by show 2 ≤ sizeLine; decide), fun a1 h1 => ?_⟩
    have e := same_put (o := HO.lst [.str "number", .bl (decide (1 = i0))]) h1
    have f0 := e _ _ f0
    have S := S.trans e
    have f1 : upd G0 a1 (HO.lst [.str "number", .bl (decide (1 = i0))]) a1 = some (HO.lst [.str "number", .bl (decide (1 = i0))]) := upd_same
    generalize upd G0 a1 (HO.lst [.str "number", .bl (decide (1 = i0))]) = G1 at *
    clear e
    refine ⟨(by show 2 ≤ sizeLine; decide), fun b0 k0 => ?_⟩
    have e := same_put (o := HO.lst [.ref a0, .ref a1]) k0
    have f0 := e _ _ f0
    have f1 := e _ _ f1
    have S := S.trans e
    have fb : upd G1 b0 (HO.lst [.ref a0, .ref a1]) b0 = some (HO.lst [.ref a0, .ref a1]) := upd_same
    generalize upd G1 b0 (HO.lst [.ref a0, .ref a1]) = G2 at *
    clear e
    have fl := fb
    refine ⟨_, rfl, ?_⟩
    refine ⟨_, rfl, ?_⟩
    dsimp only [tCB, tCons, tC, tNil]
    refine isP_of hd.ex (hD.same S) (hd.one 2 (by decide)) ?_
    refine ⟨(by show 2 ≤ sizeLine; decide), fun a2 h2 => ?_⟩
    have e := same_put (o := HO.lst [.str "step", .bl (decide (2 = i0))]) h2
    have f0 := e _ _ f0
    have f1 := e _ _ f1
    have fl := e _ _ fl
    have S := S.trans e
    have f2 : upd G2 a2 (HO.lst [.str "step", .bl (decide (2 = i0))]) a2 = some (HO.lst [.str "step", .bl (decide (2 = i0))]) := upd_same
    generalize upd G2 a2 (HO.lst [.str "step", .bl (decide (2 = i0))]) = G3 at *
    clear e
    refine ⟨_, rfl, ?_⟩
    dsimp only [tCB, tCons, tC, tNil]
    refine isP_of hd.ex (hD.same S) (hd.one 3 (by decide)) ?_
    refine ⟨(by show 2 ≤ sizeLine; decide), fun a3 h3 => ?_⟩
    have e := same_put (o := HO.lst [.str "arc", .bl (decide (3 = i0))]) h3
    have f0 := e _ _ f0
    have f1 := e _ _ f1
    have f2 := e _ _ f2
    have fl := e _ _ fl
    have S := S.trans e
    have f3 : upd G3 a3 (HO.lst [.str "arc", .bl (decide (3 = i0))]) a3 = some (HO.lst [.str "arc", .bl (decide (3 = i0))]) := upd_same
    generalize upd G3 a3 (HO.lst [.str "arc", .bl (decide (3 = i0))]) = G4 at *
    clear e
    refine ⟨(by show 2 ≤ sizeLine; decide), fun b1 k1 => ?_⟩
    have e := same_put (o := HO.lst [.ref a2, .ref a3]) k1
    have f0 := e _ _ f0
    have f1 := e _ _ f1
    have f2 := e _ _ f2
    have f3 := e _ _ f3
    have fl := e _ _ fl
    have S := S.trans e
    have fb : upd G4 b1 (HO.lst [.ref a2, .ref a3]) b1 = some (HO.lst [.ref a2, .ref a3]) := upd_same
    generalize upd G4 b1 (HO.lst [.ref a2, .ref a3]) = G5 at *
    clear e
    refine ⟨b0, b1, [.ref a0, .ref a1], [.ref a2, .ref a3], rfl, rfl, fl, fb, (by show 4 ≤ sizeLine; decide), fun l1 m1 => ?_⟩
    have e := same_put (o := HO.lst ([.ref a0, .ref a1] ++ [.ref a2, .ref a3])) m1
    have f0 := e _ _ f0
    have f1 := e _ _ f1
    have f2 := e _ _ f2
    have f3 := e _ _ f3
    have S := S.trans e
    have fl : upd G5 l1 (HO.lst ([.ref a0, .ref a1] ++ [.ref a2, .ref a3])) l1 = some (HO.lst [.ref a0, .ref a1, .ref a2, .ref a3]) := upd_same
    generalize upd G5 l1 (HO.lst ([.ref a0, .ref a1] ++ [.ref a2, .ref a3])) = G6 at *
    clear e fb
    refine ⟨_, rfl, ?_⟩
    refine ⟨_, rfl, ?_⟩
    dsimp only [tCB, tCons, tC, tNil]
    refine isP_of hd.ex (hD.same S) (hd.one 4 (by decide)) ?_
    refine ⟨(by show 2 ≤ sizeLine; decide), fun a4 h4 => ?_⟩
    have e := same_put (o := HO.lst [.str "sighting", .bl (decide (4 = i0))]) h4
    have f0 := e _ _ f0
    have f1 := e _ _ f1
    have f2 := e _ _ f2
    have f3 := e _ _ f3
    have fl := e _ _ fl
    have S := S.trans e
    have f4 : upd G6 a4 (HO.lst [.str "sighting", .bl (decide (4 = i0))]) a4 = some (HO.lst [.str "sighting", .bl (decide (4 = i0))]) := upd_same
    generalize upd G6 a4 (HO.lst [.str "sighting", .bl (decide (4 = i0))]) = G7 at *
    clear e
    refine ⟨_, rfl, ?_⟩
    dsimp only [tCB, tCons, tC, tNil]
    refine isP_of hd.ex (hD.same S) (hd.one 5 (by decide)) ?_
    refine ⟨(by show 2 ≤ sizeLine; decide), fun a5 h5 => ?_⟩
    have e := same_put (o := HO.lst [.str "sightings", .bl (decide (5 = i0))]) h5
    have f0 := e _ _ f0
    have f1 := e _ _ f1
    have f2 := e _ _ f2
    have f3 := e _ _ f3
    have f4 := e _ _ f4
    have fl := e _ _ fl
    have S := S.trans e
    have f5 : upd G7 a5 (HO.lst [.str "sightings", .bl (decide (5 = i0))]) a5 = some (HO.lst [.str "sightings", .bl (decide (5 = i0))]) := upd_same
    generalize upd G7 a5 (HO.lst [.str "sightings", .bl (decide (5 = i0))]) = G8 at *
    clear e
    refine ⟨(by show 2 ≤ sizeLine; decide), fun b2 k2 => ?_⟩
    have e := same_put (o := HO.lst [.ref a4, .ref a5]) k2
    have f0 := e _ _ f0
    have f1 := e _ _ f1
    have f2 := e _ _ f2
    have f3 := e _ _ f3
    have f4 := e _ _ f4
    have f5 := e _ _ f5
    have fl := e _ _ fl
    have S := S.trans e
    have fb : upd G8 b2 (HO.lst [.ref a4, .ref a5]) b2 = some (HO.lst [.ref a4, .ref a5]) := upd_same
    generalize upd G8 b2 (HO.lst [.ref a4, .ref a5]) = G9 at *
    clear e
    refine ⟨l1, b2, [.ref a0, .ref a1, .ref a2, .ref a3], [.ref a4, .ref a5], rfl, rfl, fl, fb, (by show 6 ≤ sizeLine; decide), fun l2 m2 => ?_⟩
    have e := same_put (o := HO.lst ([.ref a0, .ref a1, .ref a2, .ref a3] ++ [.ref a4, .ref a5])) m2
    have f0 := e _ _ f0
    have f1 := e _ _ f1
    have f2 := e _ _ f2
    have f3 := e _ _ f3
    have f4 := e _ _ f4
    have f5 := e _ _ f5
    have S := S.trans e
    have fl : upd G9 l2 (HO.lst ([.ref a0, .ref a1, .ref a2, .ref a3] ++ [.ref a4, .ref a5])) l2 = some (HO.lst [.ref a0, .ref a1, .ref a2, .ref a3, .ref a4, .ref a5]) := upd_same
    generalize upd G9 l2 (HO.lst ([.ref a0, .ref a1, .ref a2, .ref a3] ++ [.ref a4, .ref a5])) = G10 at *
    clear e fb
    refine ⟨_, rfl, ?_⟩
    refine ⟨_, rfl, ?_⟩
    dsimp only [tCB, tCons, tC, tNil]
    refine isP_of hd.ex (hD.same S) (hd.one 6 (by decide)) ?_
    refine ⟨(by show 2 ≤ sizeLine; decide), fun a6 h6 => ?_⟩
    have e := same_put (o := HO.lst [.str "lot", .bl (decide (6 = i0))]) h6
    have f0 := e _ _ f0
    have f1 := e _ _ f1
    have f2 := e _ _ f2
    have f3 := e _ _ f3
    have f4 := e _ _ f4
    have f5 := e _ _ f5
    have fl := e _ _ fl
    have S := S.trans e
    have f6 : upd G10 a6 (HO.lst [.str "lot", .bl (decide (6 = i0))]) a6 = some (HO.lst [.str "lot", .bl (decide (6 = i0))]) := upd_same
    generalize upd G10 a6 (HO.lst [.str "lot", .bl (decide (6 = i0))]) = G11 at *
    clear e
    refine ⟨_, rfl, ?_⟩
    dsimp only [tCB, tCons, tC, tNil]
    refine isP_of hd.ex (hD.same S) (hd.one 7 (by decide)) ?_
    refine ⟨(by show 2 ≤ sizeLine; decide), fun a7 h7 => ?_⟩
    have e := same_put (o := HO.lst [.str "pieces", .bl (decide (7 = i0))]) h7
    have f0 := e _ _ f0
    have f1 := e _ _ f1
    have f2 := e _ _ f2
    have f3 := e _ _ f3
    have f4 := e _ _ f4
    have f5 := e _ _ f5
    have f6 := e _ _ f6
    have fl := e _ _ fl
    have S := S.trans e
    have f7 : upd G11 a7 (HO.lst [.str "pieces", .bl (decide (7 = i0))]) a7 = some (HO.lst [.str "pieces", .bl (decide (7 = i0))]) := upd_same
    generalize upd G11 a7 (HO.lst [.str "pieces", .bl (decide (7 = i0))]) = G12 at *
    clear e
    refine ⟨(by show 2 ≤ sizeLine; decide), fun b3 k3 => ?_⟩
    have e := same_put (o := HO.lst [.ref a6, .ref a7]) k3
    have f0 := e _ _ f0
    have f1 := e _ _ f1
    have f2 := e _ _ f2
    have f3 := e _ _ f3
    have f4 := e _ _ f4
    have f5 := e _ _ f5
    have f6 := e _ _ f6
    have f7 := e _ _ f7
    have fl := e _ _ fl
    have S := S.trans e
    have fb : upd G12 b3 (HO.lst [.ref a6, .ref a7]) b3 = some (HO.lst [.ref a6, .ref a7]) := upd_same
    generalize upd G12 b3 (HO.lst [.ref a6, .ref a7]) = G13 at *
    clear e
    refine ⟨l2, b3, [.ref a0, .ref a1, .ref a2, .ref a3, .ref a4, .ref a5], [.ref a6, .ref a7], rfl, rfl, fl, fb, (by show 8 ≤ sizeLine; decide), fun l3 m3 => ?_⟩
    have e := same_put (o := HO.lst ([.ref a0, .ref a1, .ref a2, .ref a3, .ref a4, .ref a5] ++ [.ref a6, .ref a7])) m3
    have f0 := e _ _ f0
    have f1 := e _ _ f1
    have f2 := e _ _ f2
    have f3 := e _ _ f3
    have f4 := e _ _ f4
    have f5 := e _ _ f5
    have f6 := e _ _ f6
    have f7 := e _ _ f7
    have S := S.trans e
    have fl : upd G13 l3 (HO.lst ([.ref a0, .ref a1, .ref a2, .ref a3, .ref a4, .ref a5] ++ [.ref a6, .ref a7])) l3 = some (HO.lst [.ref a0, .ref a1, .ref a2, .ref a3, .ref a4, .ref a5, .ref a6, .ref a7]) := upd_same
    generalize upd G13 l3 (HO.lst ([.ref a0, .ref a1, .ref a2, .ref a3, .ref a4, .ref a5] ++ [.ref a6, .ref a7])) = G14 at *
    clear e fb
    refine ⟨_, rfl, ?_⟩
    refine ⟨_, rfl, ?_⟩
    dsimp only [tCB, tCons, tC, tNil]
    refine isP_of hd.ex (hD.same S) (hd.one 8 (by decide)) ?_
    refine ⟨(by show 2 ≤ sizeLine; decide), fun a8 h8 => ?_⟩
    have e := same_put (o := HO.lst [.str "order", .bl (decide (8 = i0))]) h8
    have f0 := e _ _ f0
    have f1 := e _ _ f1
    have f2 := e _ _ f2
    have f3 := e _ _ f3
    have f4 := e _ _ f4
    have f5 := e _ _ f5
    have f6 := e _ _ f6
    have f7 := e _ _ f7
    have fl := e _ _ fl
    have S := S.trans e
    have f8 : upd G14 a8 (HO.lst [.str "order", .bl (decide (8 = i0))]) a8 = some (HO.lst [.str "order", .bl (decide (8 = i0))]) := upd_same
    generalize upd G14 a8 (HO.lst [.str "order", .bl (decide (8 = i0))]) = G15 at *
    clear e
    refine ⟨_, rfl, ?_⟩
    dsimp only [tCB, tCons, tC, tNil]
    refine isP_of hd.ex (hD.same S) (hd.one 9 (by decide)) ?_
    refine ⟨(by show 2 ≤ sizeLine; decide), fun a9 h9 => ?_⟩
    have e := same_put (o := HO.lst [.str "index", .bl (decide (9 = i0))]) h9
    have f0 := e _ _ f0
    have f1 := e _ _ f1
    have f2 := e _ _ f2
    have f3 := e _ _ f3
    have f4 := e _ _ f4
    have f5 := e _ _ f5
    have f6 := e _ _ f6
    have f7 := e _ _ f7
    have f8 := e _ _ f8
    have fl := e _ _ fl
    have S := S.trans e
    have f9 : upd G15 a9 (HO.lst [.str "index", .bl (decide (9 = i0))]) a9 = some (HO.lst [.str "index", .bl (decide (9 = i0))]) := upd_same
    generalize upd G15 a9 (HO.lst [.str "index", .bl (decide (9 = i0))]) = G16 at *
    clear e
    refine ⟨(by show 2 ≤ sizeLine; decide), fun b4 k4 => ?_⟩
    have e := same_put (o := HO.lst [.ref a8, .ref a9]) k4
    have f0 := e _ _ f0
    have f1 := e _ _ f1
    have f2 := e _ _ f2
    have f3 := e _ _ f3
    have f4 := e _ _ f4
    have f5 := e _ _ f5
    have f6 := e _ _ f6
    have f7 := e _ _ f7
    have f8 := e _ _ f8
    have f9 := e _ _ f9
    have fl := e _ _ fl
    have S := S.trans e
    have fb : upd G16 b4 (HO.lst [.ref a8, .ref a9]) b4 = some (HO.lst [.ref a8, .ref a9]) := upd_same
    generalize upd G16 b4 (HO.lst [.ref a8, .ref a9]) = G17 at *
    clear e
    refine ⟨l3, b4, [.ref a0, .ref a1, .ref a2, .ref a3, .ref a4, .ref a5, .ref a6, .ref a7], [.ref a8, .ref a9], rfl, rfl, fl, fb, (by show 10 ≤ sizeLine; decide), fun l4 m4 => ?_⟩
    have e := same_put (o := HO.lst ([.ref a0, .ref a1, .ref a2, .ref a3, .ref a4, .ref a5, .ref a6, .ref a7] ++ [.ref a8, .ref a9])) m4
    have f0 := e _ _ f0
    have f1 := e _ _ f1
    have f2 := e _ _ f2
    have f3 := e _ _ f3
    have f4 := e _ _ f4
    have f5 := e _ _ f5
    have f6 := e _ _ f6
    have f7 := e _ _ f7
    have f8 := e _ _ f8
    have f9 := e _ _ f9
    have S := S.trans e
    have fl : upd G17 l4 (HO.lst ([.ref a0, .ref a1, .ref a2, .ref a3, .ref a4, .ref a5, .ref a6, .ref a7] ++ [.ref a8, .ref a9])) l4 = some (HO.lst [.ref a0, .ref a1, .ref a2, .ref a3, .ref a4, .ref a5, .ref a6, .ref a7, .ref a8, .ref a9]) := upd_same
    generalize upd G17 l4 (HO.lst ([.ref a0, .ref a1, .ref a2, .ref a3, .ref a4, .ref a5, .ref a6, .ref a7] ++ [.ref a8, .ref a9])) = G18 at *
    clear e fb
    refine ⟨_, rfl, ?_⟩
    refine ⟨_, rfl, ?_⟩
    dsimp only [tCB, tCons, tC, tNil]
    refine isP_of hd.ex (hD.same S) (hd.one 10 (by decide)) ?_
    refine ⟨(by show 2 ≤ sizeLine; decide), fun a10 h10 => ?_⟩
    have e := same_put (o := HO.lst [.str "none", .bl (decide (10 = i0))]) h10
    have f0 := e _ _ f0
    have f1 := e _ _ f1
    have f2 := e _ _ f2
    have f3 := e _ _ f3
    have f4 := e _ _ f4
    have f5 := e _ _ f5
    have f6 := e _ _ f6
    have f7 := e _ _ f7
    have f8 := e _ _ f8
    have f9 := e _ _ f9
    have fl := e _ _ fl
    have S := S.trans e
    have f10 : upd G18 a10 (HO.lst [.str "none", .bl (decide (10 = i0))]) a10 = some (HO.lst [.str "none", .bl (decide (10 = i0))]) := upd_same
    generalize upd G18 a10 (HO.lst [.str "none", .bl (decide (10 = i0))]) = G19 at *
    clear e
    refine ⟨_, rfl, ?_⟩
    dsimp only [tCB, tCons, tC, tNil]
    refine isP_of hd.ex (hD.same S) (hd.one 11 (by decide)) ?_
    refine ⟨(by show 2 ≤ sizeLine; decide), fun a11 h11 => ?_⟩
    have e := same_put (o := HO.lst [.str "many", .bl (decide (11 = i0))]) h11
    have f0 := e _ _ f0
    have f1 := e _ _ f1
    have f2 := e _ _ f2
    have f3 := e _ _ f3
    have f4 := e _ _ f4
    have f5 := e _ _ f5
    have f6 := e _ _ f6
    have f7 := e _ _ f7
    have f8 := e _ _ f8
    have f9 := e _ _ f9
    have f10 := e _ _ f10
    have fl := e _ _ fl
    have S := S.trans e
    have f11 : upd G19 a11 (HO.lst [.str "many", .bl (decide (11 = i0))]) a11 = some (HO.lst [.str "many", .bl (decide (11 = i0))]) := upd_same
    generalize upd G19 a11 (HO.lst [.str "many", .bl (decide (11 = i0))]) = G20 at *
    clear e
    refine ⟨_, rfl, ?_⟩
    dsimp only [tCB, tCons, tC, tNil]
    refine isP_of hd.ex (hD.same S) (hd.one 12 (by decide)) ?_
    refine ⟨(by show 2 ≤ sizeLine; decide), fun a12 h12 => ?_⟩
    have e := same_put (o := HO.lst [.str "broken", .bl (decide (12 = i0))]) h12
    have f0 := e _ _ f0
    have f1 := e _ _ f1
    have f2 := e _ _ f2
    have f3 := e _ _ f3
    have f4 := e _ _ f4
    have f5 := e _ _ f5
    have f6 := e _ _ f6
    have f7 := e _ _ f7
    have f8 := e _ _ f8
    have f9 := e _ _ f9
    have f10 := e _ _ f10
    have f11 := e _ _ f11
    have fl := e _ _ fl
    have S := S.trans e
    have f12 : upd G20 a12 (HO.lst [.str "broken", .bl (decide (12 = i0))]) a12 = some (HO.lst [.str "broken", .bl (decide (12 = i0))]) := upd_same
    generalize upd G20 a12 (HO.lst [.str "broken", .bl (decide (12 = i0))]) = G21 at *
    clear e
    refine ⟨(by show 3 ≤ sizeLine; decide), fun b5 k5 => ?_⟩
    have e := same_put (o := HO.lst [.ref a10, .ref a11, .ref a12]) k5
    have f0 := e _ _ f0
    have f1 := e _ _ f1
    have f2 := e _ _ f2
    have f3 := e _ _ f3
    have f4 := e _ _ f4
    have f5 := e _ _ f5
    have f6 := e _ _ f6
    have f7 := e _ _ f7
    have f8 := e _ _ f8
    have f9 := e _ _ f9
    have f10 := e _ _ f10
    have f11 := e _ _ f11
    have f12 := e _ _ f12
    have fl := e _ _ fl
    have S := S.trans e
    have fb : upd G21 b5 (HO.lst [.ref a10, .ref a11, .ref a12]) b5 = some (HO.lst [.ref a10, .ref a11, .ref a12]) := upd_same
    generalize upd G21 b5 (HO.lst [.ref a10, .ref a11, .ref a12]) = G22 at *
    clear e
    refine ⟨l4, b5, [.ref a0, .ref a1, .ref a2, .ref a3, .ref a4, .ref a5, .ref a6, .ref a7, .ref a8, .ref a9], [.ref a10, .ref a11, .ref a12], rfl, rfl, fl, fb, (by show 13 ≤ sizeLine; decide), fun l5 m5 => ?_⟩
    have e := same_put (o := HO.lst ([.ref a0, .ref a1, .ref a2, .ref a3, .ref a4, .ref a5, .ref a6, .ref a7, .ref a8, .ref a9] ++ [.ref a10, .ref a11, .ref a12])) m5
    have f0 := e _ _ f0
    have f1 := e _ _ f1
    have f2 := e _ _ f2
    have f3 := e _ _ f3
    have f4 := e _ _ f4
    have f5 := e _ _ f5
    have f6 := e _ _ f6
    have f7 := e _ _ f7
    have f8 := e _ _ f8
    have f9 := e _ _ f9
    have f10 := e _ _ f10
    have f11 := e _ _ f11
    have f12 := e _ _ f12
    have S := S.trans e
    have fl : upd G22 l5 (HO.lst ([.ref a0, .ref a1, .ref a2, .ref a3, .ref a4, .ref a5, .ref a6, .ref a7, .ref a8, .ref a9] ++ [.ref a10, .ref a11, .ref a12])) l5 = some (HO.lst [.ref a0, .ref a1, .ref a2, .ref a3, .ref a4, .ref a5, .ref a6, .ref a7, .ref a8, .ref a9, .ref a10, .ref a11, .ref a12]) := upd_same
    generalize upd G22 l5 (HO.lst ([.ref a0, .ref a1, .ref a2, .ref a3, .ref a4, .ref a5, .ref a6, .ref a7, .ref a8, .ref a9] ++ [.ref a10, .ref a11, .ref a12])) = G23 at *
    clear e fb
    have all : ∀ (i : Nat) (v : V), ([.ref a0, .ref a1, .ref a2, .ref a3, .ref a4, .ref a5, .ref a6, .ref a7, .ref a8, .ref a9, .ref a10, .ref a11, .ref a12] : List V)[i]? = some v → i < 13 ∧ ∃ a, v = .ref a ∧ G23 a = some (.lst [.str (wdOf i), .bl (decide (i = i0))]) := by
      intro i v hv
      rcases i with _ | _ | _ | _ | _ | _ | _ | _ | _ | _ | _ | _ | _ | i
      · cases hv; exact ⟨by decide, a0, rfl, f0⟩
      · cases hv; exact ⟨by decide, a1, rfl, f1⟩
      · cases hv; exact ⟨by decide, a2, rfl, f2⟩
      · cases hv; exact ⟨by decide, a3, rfl, f3⟩
      · cases hv; exact ⟨by decide, a4, rfl, f4⟩
      · cases hv; exact ⟨by decide, a5, rfl, f5⟩
      · cases hv; exact ⟨by decide, a6, rfl, f6⟩
      · cases hv; exact ⟨by decide, a7, rfl, f7⟩
      · cases hv; exact ⟨by decide, a8, rfl, f8⟩
      · cases hv; exact ⟨by decide, a9, rfl, f9⟩
      · cases hv; exact ⟨by decide, a10, rfl, f10⟩
      · cases hv; exact ⟨by decide, a11, rfl, f11⟩
      · cases hv; exact ⟨by decide, a12, rfl, f12⟩
      · simp at hv
    refine ⟨_, rfl, l5, rfl, ⟨_, SqL.of fl⟩, fun D1 hD1 => ?_⟩
    refine lc_list (K := K) (a := l5) (xs := [.ref a0, .ref a1, .ref a2, .ref a3, .ref a4, .ref a5, .ref a6, .ref a7, .ref a8, .ref a9, .ref a10, .ref a11, .ref a12]) (fun j H2 => H2 D1 = some (.lst (((List.range j).filter fun i => decide (i = i0)).map fun i => V.str (wdOf i))) ∧ Same G23 H2) ⟨upd_same, same_put hD1⟩ (fun j H2 _ ⟨_, e⟩ => SqL.of (e _ _ fl)) ?_ ?_
    · rintro j v H2 hj ⟨h1, h2⟩
      obtain ⟨j13, a, rfl, ha⟩ := all j v hj
      refine ⟨a, _, rfl, SqL.of (h2 _ _ ha), rfl, _, _, rfl, _, _, rfl, rfl, ?_⟩
      refine ⟨rfl, _, rfl, _, rfl, ?_⟩
      have er : ((List.range (j + 1)).filter fun i => decide (i = i0)).map (fun i => V.str (wdOf i)) = ((List.range j).filter fun i => decide (i = i0)).map (fun i => V.str (wdOf i)) ++ (if j = i0 then [V.str (wdOf j)] else []) := by
        rw [List.range_succ, List.filter_append, List.map_append]
        congr 1
        by_cases c : j = i0
        · simp [c]
        · simp [c]
      refine ite2 (fun hc => ?_) (fun hc => ?_)
      · have c : j = i0 := of_decide_eq_true hc
        refine ⟨_, rfl, _, h1, ?_, ?_, fun b o e => ?_⟩
        · refine small1000 (Nat.le_trans (by rw [List.length_map]; exact List.length_filter_le _ _) (by rw [List.length_range]; omega))
        · rw [upd_same, er, if_pos c]
        · rw [upd_ne (ne_of_none e hD1)]
          exact h2 _ _ e
      · have c : ¬ j = i0 := fun z => hc (decide_eq_true z)
        exact ⟨by rw [er, if_neg c, List.append_nil]; exact h1, h2⟩
    · rintro H2 ⟨h1, h2⟩
      have e1 : ((List.range 13).filter fun i => decide (i = i0)) = [i0] := by
        have := hd.lt
        rcases i0 with _ | _ | _ | _ | _ | _ | _ | _ | _ | _ | _ | _ | _ | i0 <;> first | rfl | omega
      rw [show ([.ref a0, .ref a1, .ref a2, .ref a3, .ref a4, .ref a5, .ref a6, .ref a7, .ref a8, .ref a9, .ref a10, .ref a11, .ref a12] : List V).length = 13 from rfl, e1] at h1
      refine ⟨_, rfl, D1, _, rfl, .inl (SqL.of h1), rfl, _, rfl, iteT ?_⟩
      refine ⟨_, rfl, D1, _, 0, .str (wdOf i0), rfl, rfl, SqL.of h1, at_of (j := 0) rfl rfl, ?_⟩
      exact q _ (S.trans h2)
end
end My
set_option Elab.async false
set_option linter.all false
set_option maxRecDepth 100000
set_option maxHeartbeats 8000000
set_option exponentiation.threshold 2000
namespace My
open PySem PySem.Spec PyProof.Rows L2 L2H Gn Mt
theorem any_of {K : PySem.W.Frag} {mg : Str → Option Value} {B : Er mg} {D : Addr} {i0 : Nat} (h : Held K B D i0) : ∀ is : List Nat, (∀ i ∈ is, i < 13) → PySem.W.kitAny K (.ref D) (is.map fun i => Value.ref (B.c i)) = some (is.any fun i => decide (i = i0))
  | [], _ => rfl
  | i :: is, l => by
    rw [List.map_cons, List.any_cons]
    unfold PySem.W.kitAny
    rw [h.one i (l i (by simp))]
    cases decide (i = i0)
    · rw [Bool.false_or]; exact any_of h is fun j m => l j (by simp [m])
    · rfl
section
variable {P : Program} {w : World} {K : PySem.W.Frag} {mg : Str → Option Value} {base : Heap}
theorem ok_lfield {f : Addr} {fd : FuncData} (F : Fun K "_law_field" "_law_field" sLField f fd) (B : Er mg) : FnP P w K mg base CX0 1 f fd ["_law_e"] (spLField K B) := by
  refine funP F scLField (fun p vs H Q E h => ?_) (fun cdv A outer s H vs Q E p hot hr h => ?_)
  · obtain ⟨D, d, i0, v, rfl, _⟩ := h
    rfl
  · obtain ⟨D, d, i0, v, rfl, hz, hf, hd, hD, hv, q⟩ := h
    have mp : (p.1, p.2) ∈ (cxH CX0 P w K mg base ["_law_e"] "_law_field" (defScope sLField) f cdv A outer s H E p).pn := List.mem_cons_self
    refine ⟨_, pss_cons (ps_if (pt_val (pe_callB (cr_isPT mp hz hf) (by rfl) B.isi (by decide +kernel) (pa_cons (pv 0) (pa_cons (pe_tup (pa_cons (pe_glob (v := .ref (B.c 7)) rfl (B.g 7 (by decide)) rfl) (pa_cons (pe_glob (v := .ref (B.c 8)) rfl (B.g 8 (by decide)) rfl)
          (pa_cons (pe_glob (v := .ref (B.c 5)) rfl (B.g 5 (by decide)) rfl) (pa_cons (pe_glob (v := .ref (B.c 12)) rfl (B.g 12 (by decide)) rfl) pa_nil))))) pa_nil)))) (pss_one (ps_ret (pe_xfP mp hz hf (pv 0)))) pss_nil)
      (pss_cons (ps_if (pt_val (pe_callB (cr_isP mp hz hf) (by rfl) B.isi (by decide +kernel) (pa_cons (pv 0) (pa_cons (pe_glob (v := .ref (B.c 10)) rfl (B.g 10 (by decide)) rfl) pa_nil)))) (pss_one (ps_ret pe_non)) pss_nil)
      (pss_one (ps_ret (pe_ifExp (pt_val (pe_callB (cr_isP mp hz hf) (by rfl) B.isi (by decide +kernel) (pa_cons (pv 0) (pa_cons (pe_glob (v := .ref (B.c 11)) rfl (B.g 11 (by decide)) rfl) pa_nil)))) (pe_xfP mp hz hf (pv 0)) (pe_xfP mp hz hf (pv 0)))))), ?_⟩
    refine ⟨_, rfl, (by show 4 ≤ sizeLine; decide), fun tp ht => ?_⟩
    have s1 := same_put (o := HO.tup [.ref (B.c 7), .ref (B.c 8), .ref (B.c 5), .ref (B.c 12)]) ht
    have fld : ∀ (n : Str), fdOf i0 = some n → ∀ R : VK, (∀ H', Same H H' → R v H') → tXfP K p.1 (.ref D) d n (tVar 0) (start ["_law_e"] [.ref p.1]) (upd H tp (.tup [.ref (B.c 7), .ref (B.c 8), .ref (B.c 5), .ref (B.c 12)])) R := fun n hn R k => by
      unfold FldAt at hv
      rw [hn] at hv
      obtain ⟨dd, fs, rfl, h1, h2⟩ := hv
      exact ⟨.ref p.1, rfl, D, dd, fs, v, rfl, rfl, hd.xf, hd.no n hn, rfl, s1 _ _ h1, h2, k _ s1⟩
    refine ⟨D, tp, _, [.ref (B.c 7), .ref (B.c 8), .ref (B.c 5), .ref (B.c 12)], _, rfl, hd.ex, rfl, upd_same, ?_, hD.same s1, any_of hd [7, 8, 5, 12] (by decide), ?_⟩
    · exact .cons (.own _) (.cons (.own _) (.cons (.own _) (.cons (.own _) .nil)))
    refine ⟨_, rfl, ite2 (fun hc => ?_) (fun hc => ?_)⟩
    · refine fld "index" ?_ _ fun H' e => q _ e
      unfold fdOf
      rw [if_pos]
      simp at hc
      omega
    · have n1 : ¬ (i0 = 5 ∨ i0 = 7 ∨ i0 = 8 ∨ i0 = 12) := fun z => hc (by simp; omega)
      refine ⟨_, rfl, ?_⟩
      dsimp only [tCB, tCons, tC, tNil]
      refine isP_of hd.ex (hD.same s1) (hd.one 10 (by decide)) ⟨_, rfl, ite2 (fun h10 => ?_) (fun h10 => ?_)⟩
      · have e10 : 10 = i0 := of_decide_eq_true h10
        have : v = .non := by
          unfold FldAt fdOf at hv
          rw [if_neg n1, if_pos e10.symm] at hv
          exact hv
        rw [← this]
        exact q _ s1
      · have n10 : ¬ i0 = 10 := fun z => h10 (decide_eq_true z.symm)
        refine ⟨_, rfl, ?_⟩
        dsimp only [tCB, tCons, tC, tNil]
        refine isP_of hd.ex (hD.same s1) (hd.one 11 (by decide)) ⟨_, rfl, ite2 (fun h11 => ?_) (fun h11 => ?_)⟩
        · have e11 : 11 = i0 := of_decide_eq_true h11
          refine fld "most" ?_ _ fun H' e => q _ e
          unfold fdOf
          rw [if_neg n1, if_neg n10, if_pos e11.symm]
        · have n11 : ¬ i0 = 11 := fun z => h11 (decide_eq_true z.symm)
          refine fld "given" ?_ _ fun H' e => q _ e
          unfold fdOf
          rw [if_neg n1, if_neg n10, if_neg n11]
end
end My
set_option Elab.async false
set_option linter.all false
set_option maxRecDepth 100000
set_option maxHeartbeats 8000000
set_option exponentiation.threshold 2000
namespace My
open PySem PySem.Spec PyProof.Rows L2 L2H Gn Mt
/-- what is tried raises one of the package's errors, or returns -/
def RaisesAs (K : PySem.W.Frag) {mg : Str → Option Value} (B : Er mg) (Q : VK) : XK := fun C d G => ∃ (D : Addr) (i0 : Nat) (v : V), C = .ref D ∧ Held K B D i0 ∧ DictAt G d ∧ FldAt G d i0 v ∧ ∀ r G', Same G G' → r ≠ sysModules → G' r = some (.lst [.str (wdOf i0), v]) → Q (.ref r) G'
def TellsAs (Q : VK) : VK := fun v G => ∀ r G', Same G G' → G' r = some (.lst [.str "told", v]) → Q (.ref r) G'
def TTe (K : PySem.W.Frag) {mg : Str → Option Value} (B : Er mg) : (XK → Hp → VK → Prop) → Hp → VK → Prop := fun tl H Q =>
  ∀ (E' : XK) (Q' : VK), (∀ C d G, RaisesAs K B Q C d G → E' C d G) → (∀ v G, TellsAs Q v G → Q' v G) → tl E' H Q'
theorem takesN0 {X : Cx} : L2N.Takes X (fun _ _ _ _ => False) := fun _ _ ⟨_, _, _, _, _, _, _, _, _, _, _, _, _, _, _, _, z⟩ => z.elim
/-- _law_class(e), _law_field(e) within the handler -/
def tErrC (K : PySem.W.Frag) {mg : Str → Option Value} (B : Er mg) (x : Addr) (C : Value) (d : Option Addr) : TE := fun σ H Q => tVar 2 σ H fun y H1 => y = .ref x ∧ ∃ D i0, C = .ref D ∧ Held K B D i0 ∧ DictAt H1 d ∧ ∀ H', Same H1 H' → Q (.str (wdOf i0)) H'
def tErrF (K : PySem.W.Frag) {mg : Str → Option Value} (B : Er mg) (x : Addr) (C : Value) (d : Option Addr) : TE := fun σ H Q => tVar 2 σ H fun y H1 => y = .ref x ∧ ∃ D i0 v, C = .ref D ∧ Held K B D i0 ∧ DictAt H1 d ∧ FldAt H1 d i0 v ∧ ∀ H', Same H1 H' → Q v H'
def hnd0 : List Stmt → List Stmt
  | .Try _ (.ExceptHandler _ _ b _ :: _) _ _ _ :: _ => b
  | _ => []
abbrev NE : List Str := ["_law_act", "_law_found", "_law_e", "_law_bases", "_law_plain"]
abbrev cxE (X : Cx) (s : Shared) (H : Hp) (g : Addr) (cdv : Value) : Cx := (cxOf CX0 X.prog X.w X.K X.mg X.base NE "_law_error" (defScope sLError) g cdv X.A X.stack s H E0).nox
def tsErr (K : PySem.W.Frag) {mg : Str → Option Value} (B : Er mg) : Addr → Value → Option Addr → TS := fun x C d =>
  tSeq (tAsg (tLst (tCons (tCB (rIsP K C x d) (tCons (tVar 2) (tCons (tC (V.ref B.R0)) tNil))) (tCons (tCB (rIsP K C x d) (tCons (tVar 2) (tCons (tC (V.ref B.R1)) tNil))) (tCons (tCB (rIsP K C x d) (tCons (tVar 2) (tCons (tC (V.ref B.R2)) tNil))) tNil)))) (gName 3))
    (tSeq (tAsg (tLst (tCons (tCB (rIsP K C x d) (tCons (tVar 2) (tCons (tC (V.ty "ValueError")) tNil))) (tCons (tCB (rIsP K C x d) (tCons (tVar 2) (tCons (tC (V.ty "LookupError")) tNil))) (tCons (tCB (rIsP K C x d) (tCons (tVar 2) (tCons (tC (V.ty "ArithmeticError")) tNil))) tNil)))) (gName 4))
      (tRet (tLstZ (tCons (tIf (tAnd (tTest (tOp (rEqD K) (tVar 3) (tVar 4))) (tTest (tOp rEq (tBM K "list" (rCntB K) (tVar 3) (tCons (tC (V.bl true)) tNil)) (tC (V.int 1))))) (tErrC K B x C d) (tC (V.str "odd"))) (tCons (tErrF K B x C d) tNil)))))
section
variable {X : Cx}
theorem err_suite {g fC fF : Addr} {fdC fdF : FuncData} {cdv : Value} {s : Shared} {H : Hp} (B : Er X.mg) (CL : Df X.K X.mg "_law_class" sLClass ["_law_e"] fC fdC) (CF : Df X.K X.mg "_law_field" sLField ["_law_e"] fF fdF) (rH : RoomH 1 (cxE X s H g cdv).A)
    (x : Addr) (oe : Obj) (C : Value) (d : Option Addr) (pn : List (Addr × Obj)) (z : L2N.Zn C d oe) (hf : ∃ vs, oe.data = .fields vs) : PSs ((cxE X s H g cdv).suite x ((x, oe) :: pn)) (hnd0 (defBody sLError)) (tsErr X.K B x C d) := by
  have GC : FnP X.prog X.w X.K X.mg X.base CX0 1 fC fdC ["_law_e"] (spLClass X.K B) := ok_lclass CL.F B
  have GF : FnP X.prog X.w X.K X.mg X.base CX0 1 fF fdF ["_law_e"] (spLField X.K B) := ok_lfield CF.F B
  have hu : (cxE X s H g cdv).A.units + 64 < cLine := by have := rH.un; omega
  exact pss_cons (ps_set (i := 3) scLError.nd rfl (.inl rfl) (pe_lst (pa_cons (pe_callB (cr_isP (a := x) (oe := oe) List.mem_cons_self z.zc hf) (by rfl) B.isi (by decide +kernel) (pa_cons (pv 2) (pa_cons (pe_glob (v := .ref B.R0) rfl B.g0 rfl) pa_nil)))
          (pa_cons (pe_callB (cr_isP (a := x) (oe := oe) List.mem_cons_self z.zc hf) (by rfl) B.isi (by decide +kernel) (pa_cons (pv 2) (pa_cons (pe_glob (v := .ref B.R1) rfl B.g1 rfl) pa_nil)))
          (pa_cons (pe_callB (cr_isP (a := x) (oe := oe) List.mem_cons_self z.zc hf) (by rfl) B.isi (by decide +kernel) (pa_cons (pv 2) (pa_cons (pe_glob (v := .ref B.R2) rfl B.g2 rfl) pa_nil))) pa_nil)))))
        (pss_cons (ps_set (i := 4) scLError.nd rfl (.inl rfl) (pe_lst (pa_cons (pe_callB (cr_isP (a := x) (oe := oe) List.mem_cons_self z.zc hf) (by rfl) B.isi (by decide +kernel) (pa_cons (pv 2) (pa_cons (pe_bltn (v := .ty "ValueError") (by rfl) B.v0 (by decide +kernel) rfl) pa_nil)))
          (pa_cons (pe_callB (cr_isP (a := x) (oe := oe) List.mem_cons_self z.zc hf) (by rfl) B.isi (by decide +kernel) (pa_cons (pv 2) (pa_cons (pe_bltn (v := .ty "LookupError") (by rfl) B.v1 (by decide +kernel) rfl) pa_nil)))
          (pa_cons (pe_callB (cr_isP (a := x) (oe := oe) List.mem_cons_self z.zc hf) (by rfl) B.isi (by decide +kernel) (pa_cons (pv 2) (pa_cons (pe_bltn (v := .ty "ArithmeticError") (by rfl) B.v2 (by decide +kernel) rfl) pa_nil))) pa_nil)))))
        (pss_one (ps_ret (pe_lstZ (pa_cons (pe_ifExp (PW.pt (pw_and (pt_cmpR (op_eqD (X := (cxE X s H g cdv).suite x ((x, oe) :: pn)) hu) (pv 3) (pv 4) (nomark _)) (pw_and1 (pt_cmpR op_eq (pe_bm PySem.F.plainAttrs_list PySem.F.slot_list_count PySem.F.type_list_count mt_countB (pv 3) (pa_cons pe_bl pa_nil)) pe_int (nomark _)))))
            (PE.imp (t' := tErrC X.K B x C d) (pe_callP GC (q := (x, oe)) ⟨rH.dp, rH.un⟩ List.mem_cons_self ⟨rfl, hf.choose, hf.choose_spec, z.2.2 _ hf.choose_spec⟩ (by rfl) CL.g CL.F.kp CL.b pass0 (pa_cons (pv 2) pa_nil)) (fun σ G Q ⟨y, e1, e2, D, i0, e3, hd, hD, q⟩ => ⟨y, e1, D, d, i0, by rw [e2]; rfl, by rw [← e3]; exact z.zc, hf, hd, hD, q⟩)) pe_str)
          (pa_cons (PE.imp (t' := tErrF X.K B x C d) (pe_callP GF (q := (x, oe)) ⟨rH.dp, rH.un⟩ List.mem_cons_self ⟨rfl, hf.choose, hf.choose_spec, z.2.2 _ hf.choose_spec⟩ (by rfl) CF.g CF.F.kp CF.b pass0 (pa_cons (pv 2) pa_nil)) (fun σ G Q ⟨y, e1, e2, D, i0, v, e3, hd, hD, hv, q⟩ => ⟨y, e1, D, d, i0, v, by rw [e2]; rfl, by rw [← e3]; exact z.zc, hf, hd, hD, hv, q⟩)) pa_nil))))))
theorem err_reads {K : PySem.W.Frag} {mg : Str → Option Value} (B : Er mg) {x D : Addr} {d : Option Addr} {i0 : Nat} {v : V} {Dn : Ends} {u1 u2 u3 u4 : Option V} {G : Hp} (hd : Held K B D i0) (hD : DictAt G d) (hv : FldAt G d i0 v)
    (q : ∀ r G', Same G G' → r ≠ sysModules → G' r = some (.lst [.str (wdOf i0), v]) → Dn.rt (.ref r) G') : tsErr K B x (.ref D) d Dn [u1, u2, some (.ref x), u3, u4] G := by
  obtain ⟨b0, b1, b2, cnt, k0, k1, k2, l0, l1, l2⟩ := hd.bs
  have sh : SeqAt.shaped (PyData.list [.bool b0, .bool b1, .bool b2]) = true := by cases b0 <;> cases b1 <;> cases b2 <;> decide +kernel
  unfold tsErr
  dsimp only [tSeq, tAsg, gName]
  refine ⟨_, rfl, ?_⟩
  dsimp only [tCB, tCons, tC, tNil]
  refine isP_of hd.ex hD k0 ⟨_, rfl, ?_⟩
  dsimp only [tCB, tCons, tC, tNil]
  refine isP_of hd.ex hD k1 ⟨_, rfl, ?_⟩
  dsimp only [tCB, tCons, tC, tNil]
  refine isP_of hd.ex hD k2 ⟨(by show 3 ≤ sizeLine; decide), fun p1 h1 => ?_⟩
  have s1 := same_put (o := HO.lst [.bl b0, .bl b1, .bl b2]) h1
  have f1 : upd G p1 (HO.lst [.bl b0, .bl b1, .bl b2]) p1 = some (.lst ([b0, b1, b2].map V.bl)) := upd_same
  generalize upd G p1 (HO.lst [.bl b0, .bl b1, .bl b2]) = G1 at *
  refine ⟨_, rfl, ?_⟩
  dsimp only [tCB, tCons, tC, tNil]
  refine isPt_of hd.ex (hD.same s1) l0 ⟨_, rfl, ?_⟩
  dsimp only [tCB, tCons, tC, tNil]
  refine isPt_of hd.ex (hD.same s1) l1 ⟨_, rfl, ?_⟩
  dsimp only [tCB, tCons, tC, tNil]
  refine isPt_of hd.ex (hD.same s1) l2 ⟨(by show 3 ≤ sizeLine; decide), fun p2 h2 => ?_⟩
  have s2 := same_put (o := HO.lst [.bl b0, .bl b1, .bl b2]) h2
  have f2 : upd G1 p2 (HO.lst [.bl b0, .bl b1, .bl b2]) p2 = some (.lst ([b0, b1, b2].map V.bl)) := upd_same
  have f1 := s2 _ _ f1
  generalize upd G1 p2 (HO.lst [.bl b0, .bl b1, .bl b2]) = G2 at *
  have S2 := s1.trans s2
  refine ⟨_, rfl, _, rfl, .list [.bool b0, .bool b1, .bool b2], .list [.bool b0, .bool b1, .bool b2], .lst (SqL.of f1) (.cons (.bl b0) (.cons (.bl b1) (.cons (.bl b2) .nil))), .lst (SqL.of f2) (.cons (.bl b0) (.cons (.bl b1) (.cons (.bl b2) .nil))), sh, sh, _, rfl, ?_⟩
  rw [SeqAt.eqv_refl (PyData.list [.bool b0, .bool b1, .bool b2]) (by cases b0 <;> cases b1 <;> cases b2 <;> decide +kernel)]
  refine iteT ⟨_, rfl, .inl ⟨rfl, _, SqL.of f1⟩, p1, [b0, b1, b2], true, rfl, rfl, SqL.of f1, rfl, _, rfl, ?_⟩
  rw [cnt]
  refine iteT ⟨_, rfl, rfl, D, i0, rfl, hd, hD.same S2, fun G3 s3 => ?_⟩
  have S3 := S2.trans s3
  refine ⟨_, rfl, rfl, D, i0, v, rfl, hd, hD.same S3, ?_, fun G4 s4 => ?_⟩
  · unfold FldAt at hv ⊢
    cases e : fdOf i0 with
    | none => rw [e] at hv; exact hv
    | some n =>
      rw [e] at hv
      obtain ⟨dd, fs, h1, h2, h3⟩ := hv
      exact ⟨dd, fs, h1, S3 _ _ h2, h3⟩
  refine ⟨(by show 2 ≤ sizeLine; decide), fun r hr np => q r _ ((S3.trans s4).trans (same_put hr)) np upd_same⟩
theorem error_gives {g fC fF : Addr} {fdC fdF : FuncData} {q : Str} {k : Nat} (B : Er X.mg) (CL : Df X.K X.mg "_law_class" sLClass ["_law_e"] fC fdC) (CF : Df X.K X.mg "_law_field" sLField ["_law_e"] fF fdF) (cdv : Value) :
    GivesN X NE "_law_error" (defScope sLError) g cdv (defBody sLError) "_law_act" q k (TTe X.K B) := by
  intro f c s H Q tl act hc hr want
  have rH : RoomH 1 (cxE X s H g cdv).A := (roomH_of hr).mono (by omega)
  refine ⟨_, pss_cons (ps_try_triN (j := 2) (ts := tsErr X.K B) rfl rfl scLError.nd rfl rfl ⟨rfl, by decide, .inl B.g0⟩ ⟨rfl, by decide, .inl B.g1⟩ ⟨rfl, by decide, .inl B.g2⟩ takesN0
      (fun W pn xe tk _ => pss_one (ps_set (i := 1) scLError.nd rfl (.inl rfl) (act W pn xe _ _ tk))) (err_suite B CL CF rH))
    (pss_one (ps_ret (pe_lst (pa_cons pe_str (pa_cons (pv 1) pa_nil))))), ?_⟩
  dsimp only [gName, tSeq, tAsg]
  refine ⟨rfl, hc, want _ _ (fun C d G w => ?_) (fun v G w => ?_)⟩
  · obtain ⟨D, i0, v, rfl, hd, hD, hv, w⟩ := w
    exact ⟨true, hd.ma, fun _ x hx => err_reads B hd hD hv w, fun z => nomatch z⟩
  · refine ⟨_, rfl, (by show 2 ≤ sizeLine; decide), fun r hr' => ?_⟩
    exact w r _ (same_put hr') upd_same
end
end My
set_option Elab.async false
set_option linter.all false
set_option maxRecDepth 100000
set_option maxHeartbeats 8000000
set_option exponentiation.threshold 2000
namespace My
open PySem PySem.Spec PyProof.Rows L2 L2H Gn Mt
/-! what stays while the law draws, makes things and lambdas -/
theorem tabS_sip {H H' : Hp} {t P : Addr} {q : Str} (T : LamX.TabS H P q) (hT : Tin H t) (s : Sipped H H' t) : LamX.TabS H' P q := by
  obtain ⟨ps, h1, h2, h3⟩ := T
  obtain ⟨a, b, c, hl, _⟩ := hT
  refine ⟨ps, s.2 _ _ h1 (fun z => by rw [z, hl] at h1; cases h1), h2, fun pos cv hc => ?_⟩
  obtain ⟨c0, e1, e2⟩ := h3 pos cv hc
  exact ⟨c0, e1, s.2 _ _ e2 (fun z => by rw [z, hl] at e2; unfold LamX.CodeO at e2; cases e2)⟩
structure Stp (T : List (Addr × Str)) (H H' : Hp) (t : Addr) : Prop where
  tin : Tin H' t
  keep : ∀ b o, H b = some o → b ≠ t → (∀ ps, o ≠ .tbl ps) → H' b = some o
  tab : LamX.Tabs T H'
section
variable {T : List (Addr × Str)} {K : PySem.W.Frag} {H H' H1 H2 : Hp} {t : Addr}
theorem Stp.refl (hT : Tin H t) (hB : LamX.Tabs T H) : Stp T H H t := ⟨hT, fun _ _ e _ _ => e, hB⟩
theorem Stp.drawn (a : Stp T H H1 t) (s : Sipped H1 H2 t) : Stp T H H2 t :=
  ⟨s.1, fun b o e n x => s.2 _ _ (a.keep b o e n x) n, fun p hp => tabS_sip (a.tab p hp) a.tin s⟩
theorem Stp.same (a : Stp T H H1 t) (s : Same H1 H2) : Stp T H H2 t := a.drawn (Sipped.ofSame a.tin s)
theorem Stp.ext (a : Stp T H H1 t) (e : LamX.ExtN H1 H2) (hB : LamX.Tabs T H2) : Stp T H H2 t := by
  refine ⟨?_, fun b o z n x => e b o (a.keep b o z n x) x, hB⟩
  obtain ⟨u, v, c, hl, r⟩ := a.tin
  exact ⟨u, v, c, e _ _ hl (fun ps z => by cases z), r⟩
theorem Stp.trans (a : Stp T H H1 t) (b : Stp T H1 H2 t) : Stp T H H2 t := ⟨b.tin, fun c o e n x => b.keep c o (a.keep c o e n x) n x, b.tab⟩
/-- no list, tuple, dict -/
def atom : PyData → Bool
  | .list _ => false
  | .tuple _ => false
  | .dict _ => false
  | _ => true
/-- lists in it are pairs that begin with a plain thing -/
def pairB (ds : List PyData) : Bool := match ds with | [d, _] => atom d | _ => false
def fine : PyData → Bool
  | .list ds => pairB ds && fines ds
  | .tuple ds => fines ds
  | _ => true
where fines : List PyData → Bool
  | [] => true
  | d :: ds => fine d && fines ds
theorem pair_at {H : Hp} {xs : List V} {ds : List PyData} (s : AnAll K H xs ds) (f : pairB ds = true) : ∃ x y d e, xs = [x, y] ∧ ds = [d, e] ∧ An K H x d ∧ atom d = true := by
  cases s with
  | nil => cases f
  | cons h s => cases s with
    | nil => cases f
    | cons h2 s => cases s with
      | nil => exact ⟨_, _, _, _, rfl, rfl, h, f⟩
      | cons h3 s => cases f
mutual
theorem an_stp (hT : Tin H t) (e : Stp T H H' t) : ∀ {v : V} {d : PyData}, An K H v d → fine d = true → An K H' v d
  | _, _, .non, _ => .non
  | _, _, .bl b, _ => .bl b
  | _, _, .int i, _ => .int i
  | _, _, .str x, _ => .str x
  | _, _, .lst (a := a) (xs := xs) h n s, f => by
    simp only [fine, Bool.and_eq_true] at f
    refine .lst (e.keep _ _ h (fun z => ?_) fun ps z => by cases z) n (anAll_stp hT e s f.2)
    obtain ⟨_, _, _, ht, _⟩ := hT
    rw [z, ht] at h
    cases h
    obtain ⟨_, _, _, _, e, _⟩ := pair_at s f.1
    cases e
  | _, _, .tup (a := a) h s, f => by
    simp only [fine] at f
    refine .tup (e.keep _ _ h (fun z => ?_) fun ps z => by cases z) (anAll_stp hT e s f)
    obtain ⟨_, _, _, ht, _⟩ := hT
    rw [z, ht] at h
    cases h
  | _, _, .dct (a := a) h, _ => by
    refine .dct (e.keep _ _ h (fun z => ?_) fun ps z => by cases z)
    obtain ⟨_, _, _, ht, _⟩ := hT
    rw [z, ht] at h
    cases h
theorem anAll_stp (hT : Tin H t) (e : Stp T H H' t) : ∀ {vs : List V} {ds : List PyData}, AnAll K H vs ds → fine.fines ds = true → AnAll K H' vs ds
  | _, _, .nil, _ => .nil
  | _, _, .cons h s, f => by
    simp only [fine.fines, Bool.and_eq_true] at f
    exact .cons (an_stp hT e h f.1) (anAll_stp hT e s f.2)
end
mutual
theorem an_put {l f : Addr} {xs : List V} {o : HO} (hl : H l = some (.lst (.ref f :: xs))) : ∀ {v : V} {d : PyData}, An K H v d → fine d = true → An K (upd H l o) v d
  | _, _, .non, _ => .non
  | _, _, .bl b, _ => .bl b
  | _, _, .int i, _ => .int i
  | _, _, .str x, _ => .str x
  | _, _, .lst (a := a) (xs := xs) h n s, f => by
    simp only [fine, Bool.and_eq_true] at f
    have ne : a ≠ l := fun z => by
      obtain ⟨x, y, d, e, e1, e2, an, at0⟩ := pair_at s f.1
      rw [z, hl, e1] at h
      cases h
      cases an <;> cases at0
    exact .lst (by rw [upd_ne ne]; exact h) n (anAll_put hl s f.2)
  | _, _, .tup (a := a) h s, f => by
    simp only [fine] at f
    have ne : a ≠ l := fun z => by rw [z, hl] at h; cases h
    exact .tup (by rw [upd_ne ne]; exact h) (anAll_put hl s f)
  | _, _, .dct (a := a) h, _ => by
    have ne : a ≠ l := fun z => by rw [z, hl] at h; cases h
    exact .dct (by rw [upd_ne ne]; exact h)
theorem anAll_put {l f : Addr} {xs : List V} {o : HO} (hl : H l = some (.lst (.ref f :: xs))) : ∀ {vs : List V} {ds : List PyData}, AnAll K H vs ds → fine.fines ds = true → AnAll K (upd H l o) vs ds
  | _, _, .nil, _ => .nil
  | _, _, .cons h s, f => by
    simp only [fine.fines, Bool.and_eq_true] at f
    exact .cons (an_put hl h f.1) (anAll_put hl s f.2)
end
/-- a list that it made since grows -/
theorem Stp.put {G0 G : Hp} {l : Addr} {xs ys : List V} (a : Stp T H G0 t) (n : G0 l = none) (b : Stp T G0 G t) (hl : G l = some (.lst xs)) : Stp T H (upd G l (.lst ys)) t := by
  refine ⟨?_, fun c o e nt x => ?_, fun p hp => ?_⟩
  · obtain ⟨u, v, w, ht, r⟩ := b.tin
    have ne : t ≠ l := fun z => by
      obtain ⟨_, _, _, h0, _⟩ := a.tin
      rw [z, n] at h0
      cases h0
    exact ⟨u, v, w, by rw [upd_ne ne]; exact ht, r⟩
  · have e0 := a.keep c o e nt x
    have ne : c ≠ l := fun z => by rw [z, n] at e0; cases e0
    rw [upd_ne ne]
    exact b.keep c o e0 nt x
  · obtain ⟨ps, h1, h2, h3⟩ := b.tab p hp
    have ne : p.1 ≠ l := fun z => by rw [z, hl] at h1; cases h1
    refine ⟨ps, by rw [upd_ne ne]; exact h1, h2, fun pos cv hc => ?_⟩
    obtain ⟨c0, e1, e2⟩ := h3 pos cv hc
    have ne2 : c0 ≠ l := fun z => by rw [z, hl] at e2; unfold LamX.CodeO at e2; cases e2
    exact ⟨c0, e1, by rw [upd_ne ne2]; exact e2⟩
/-- what is found: told, or the first that is due -/
def FoundAt (K : PySem.W.Frag) (H : Hp) (f : Addr) (ds : List PyData) : Prop := (ds = [] ∧ ∃ r, H f = some (.lst [.str "told", r])) ∨ ∃ e es, ds = e :: es ∧ An K H (.ref f) e
/-- things that may be due -/
structure Du (ds : List PyData) : Prop where
  n3 : fine.fines ds = true
  ls : ∀ e ∈ ds, Shw e ∧ ∃ l, e = .list l
theorem Du.nil : Du [] := ⟨rfl, fun e h => by simp at h⟩
theorem fines_app : ∀ {as bs : List PyData}, fine.fines as = true → fine.fines bs = true → fine.fines (as ++ bs) = true
  | [], bs, _, h => h
  | a :: as, bs, h1, h2 => by
    simp only [List.cons_append, fine.fines, Bool.and_eq_true] at h1 ⊢
    exact ⟨h1.1, fines_app h1.2 h2⟩
theorem Du.app {as bs : List PyData} (a : Du as) (b : Du bs) : Du (as ++ bs) := ⟨fines_app a.n3 b.n3, fun e h => (List.mem_append.mp h).elim (a.ls e) (b.ls e)⟩
/-- a value that may be passed -/
structure Ar (d : PyData) : Prop where
  gd : Gd d
  n3 : fine d = true
  sh : ∀ wd ∈ (["step", "number", "arc"] : List Str), Shw (.list [.str wd, d])
theorem Ar.du {d : PyData} (h : Ar d) {wd : Str} {g : Bool} (m : wd ∈ (["step", "number", "arc"] : List Str)) : Du (dueD wd d g) := by
  unfold dueD
  split
  · exact .nil
  · refine ⟨by simp only [fine.fines, fine, atom, h.n3]; rfl, fun e he => ?_⟩
    obtain rfl := List.mem_singleton.mp he
    exact ⟨h.sh wd m, _, rfl⟩
theorem FoundAt.stp {f : Addr} {ds : List PyData} (hT : Tin H t) (e : Stp T H H' t) (du : Du ds) (h : FoundAt K H f ds) : FoundAt K H' f ds := by
  rcases h with ⟨rfl, r, hf⟩ | ⟨d, es, rfl, an⟩
  · refine .inl ⟨rfl, r, e.keep _ _ hf (fun z => ?_) fun ps z => by cases z⟩
    obtain ⟨_, _, _, ht, _⟩ := hT
    rw [z, ht] at hf
    cases hf
  · have n := du.n3
    simp only [fine.fines, Bool.and_eq_true] at n
    exact .inr ⟨d, es, rfl, an_stp hT e an n.1⟩
theorem FoundAt.put {f l g : Addr} {xs : List V} {o : HO} {ds : List PyData} (hl : H l = some (.lst (.ref g :: xs))) (du : Du ds) (h : FoundAt K H f ds) : FoundAt K (upd H l o) f ds := by
  rcases h with ⟨rfl, r, hf⟩ | ⟨d, es, rfl, an⟩
  · have ne : f ≠ l := fun z => by rw [z, hl] at hf; cases hf
    exact .inl ⟨rfl, r, by rw [upd_ne ne]; exact hf⟩
  · have n := du.n3
    simp only [fine.fines, Bool.and_eq_true] at n
    exact .inr ⟨d, es, rfl, an_put hl an n.1⟩
theorem DuesAt.stp {r : V} {ds : List PyData} (hT : Tin H t) (e : Stp T H H' t) (du : Du ds) (l3 : ds.length ≠ 3) (h : DuesAt K H r ds) : DuesAt K H' r ds := by
  obtain ⟨p, xs, rfl, hp, all⟩ := h
  refine ⟨p, xs, rfl, e.keep _ _ hp (fun z => ?_) (fun ps z => by cases z), anAll_stp hT e all du.n3⟩
  obtain ⟨_, _, _, ht, _⟩ := hT
  rw [z, ht] at hp
  cases hp
  exact l3 (dpAll_len all).symm
/-- what is found is due -/
theorem ends_ok {f : Addr} {u : V} {ds : List PyData} {Q : VK} {E : XK} (F : FoundAt K H f ds) (D : DuesAt K H u ds) (du : Du ds) (q : ∀ H', Same H H' → Q (.bl true) H') : spEnds K [.ref f, u] H Q E := by
  rcases F with ⟨rfl, r, hf⟩ | ⟨e, es, rfl, an⟩
  · exact ⟨f, u, rfl, .inl ⟨"told", r, D, hf, fun H' s => q H' s⟩⟩
  · obtain ⟨sh, ls⟩ := du.ls e List.mem_cons_self
    refine ⟨f, u, rfl, .inr ⟨e, e, es, D, ls, an, sh, sh, fun H' s => ?_⟩⟩
    rw [decide_eq_true rfl]
    exact q H' s
/-- dues put together -/
theorem dues_app {a b : Addr} {xs ys : List V} {p : Addr} {as bs : List PyData} (h1 : H a = some (.lst xs)) (h2 : AnAll K H xs as) (h3 : H b = some (.lst ys)) (h4 : AnAll K H ys bs) (hp : H p = none) : DuesAt K (upd H p (.lst (xs ++ ys))) (.ref p) (as ++ bs) := by
  have s := same_put (o := HO.lst (xs ++ ys)) hp
  refine ⟨p, _, rfl, upd_same, ?_⟩
  have z : ∀ {xs : List V} {as : List PyData}, AnAll K (upd H p (.lst (xs ++ ys))) xs as → AnAll K (upd H p (.lst (xs ++ ys))) ys bs → True := fun _ _ => trivial
  have app : ∀ {G : Hp} {xs ys : List V} {as bs : List PyData}, AnAll K G xs as → AnAll K G ys bs → AnAll K G (xs ++ ys) (as ++ bs) := by
    intro G xs ys as bs h
    induction xs generalizing as with
    | nil => cases h; exact fun h => h
    | cons x xs ih => cases h with | cons a b => exact fun h => .cons a (ih b h)
  exact app (h2.same s) (h4.same s)
end
/-! what is tried -/
section
variable {K : PySem.W.Frag} {mg : Str → Option Value} {B : Er mg} {H : Hp} {Q Q' : VK} {E' : XK}
theorem told_of {ds : List PyData} (z : ds = []) (hQ : ∀ v G, TellsAs Q v G → Q' v G) (q : ∀ f G, Same H G → FoundAt K G f ds → Q (.ref f) G) : Told H Q' :=
  fun r H' s => hQ r H' fun f G s2 hf => q f G (s.trans s2) (.inl ⟨z, r, hf⟩)
theorem thrown_of {C : Addr} {i0 : Nat} {v : V} {d : PyData} {ds es : List PyData} (hd : Held K B C i0) (fi : fdOf i0 = some "given") (an : An K H v d) (z : ds = PyData.list [.str (wdOf i0), d] :: es) (hE : ∀ C d G, RaisesAs K B Q C d G → E' C d G)
    (q : ∀ f G, Same H G → FoundAt K G f ds → Q (.ref f) G) : Thrown C v H E' := fun y H' s n hy =>
  hE _ _ _ ⟨C, i0, v, rfl, hd, fun y' e => by cases e; exact ⟨_, hy⟩, by unfold FldAt; rw [fi]; exact ⟨y, _, rfl, hy, rfl⟩, fun f G s2 np hf => q f G (s.trans s2) (.inr ⟨_, es, z, .lst hf np (.cons (.str _) (.cons ((an.same s).same s2) .nil))⟩)⟩
theorem due_f {wd : Str} {d : PyData} {g : Bool} (h : g = false) : dueD wd d g = [.list [.str wd, d]] := by unfold dueD; rw [h]; rfl
theorem due_t {wd : Str} {d : PyData} {g : Bool} (h : g = true) : dueD wd d g = [] := by unfold dueD; rw [h]; rfl
variable {CS CN CA : Addr}
theorem try1 {v : V} {d : PyData} {r : PyData → Bool} {i : Nat} {C : Addr} (h : Held K B C i) (fi : fdOf i = some "given") (an : An K H v d) (gd : Gd d) (hE : ∀ C d G, RaisesAs K B Q C d G → E' C d G) (hQ : ∀ v G, TellsAs Q v G → Q' v G)
    (q : ∀ f G, Same H G → FoundAt K G f (dueD (wdOf i) d (r d)) → Q (.ref f) G) : spC1 K C r [v] H Q' E' :=
  ⟨v, d, rfl, an, gd, fun z => told_of (due_t z) hQ q, fun z => thrown_of h fi an (due_f z) hE q⟩
theorem try2 {v u : V} {d e : PyData} {r1 r2 : PyData → Bool} {i j : Nat} {C1 C2 : Addr} (h1 : Held K B C1 i) (f1 : fdOf i = some "given") (h2 : Held K B C2 j) (f2 : fdOf j = some "given") (an : An K H v d) (am : An K H u e) (gd : Gd d) (ge : Gd e)
    (hE : ∀ C d G, RaisesAs K B Q C d G → E' C d G) (hQ : ∀ v G, TellsAs Q v G → Q' v G) (q : ∀ f G, Same H G → FoundAt K G f (dueD (wdOf i) d (r1 d) ++ dueD (wdOf j) e (r2 e)) → Q (.ref f) G) : spC2 K C1 C2 r1 r2 [v, u] H Q' E' :=
  ⟨v, u, d, e, rfl, an, am, gd, ge, fun z y => told_of (by rw [due_t z, due_t y]; rfl) hQ q, fun z => thrown_of h1 f1 an (by rw [due_f z]; rfl) hE q, fun z y => thrown_of h2 f2 am (by rw [due_t z, due_f y]; rfl) hE q⟩
/-- step and number -/
def first3 (d e : PyData) : List PyData := dueD "step" d (isSt d) ++ dueD "number" e (isNum e 1 (10 ^ 30))
/-- then a mark or a rank -/
def last3 (lim : Int → Int → Int) (d e m : PyData) : List PyData := if first3 d e = [] then (match d, e with | .tuple [_, .int b], .int n => dueD "number" m (isNum m 0 (lim n b)) | _, _ => []) else []
def arcs (p q : PyData) : List PyData := dueD "arc" p (isPt p) ++ if dueD "arc" p (isPt p) = [] then dueD "arc" q (isPt q && lessD p q) else []
theorem try3 {v u k : V} {d e m : PyData} {lim : Int → Int → Int} (h1 : Held K B CS 2) (h2 : Held K B CN 1) (an : An K H v d) (am : An K H u e) (ak : An K H k m) (gd : Gd d)
    (hE : ∀ C d G, RaisesAs K B Q C d G → E' C d G) (hQ : ∀ v G, TellsAs Q v G → Q' v G) (q : ∀ f G, Same H G → FoundAt K G f (first3 d e ++ last3 lim d e m) → Q (.ref f) G) : spC3 K CS CN lim [v, u, k] H Q' E' := by
  refine ⟨v, u, k, d, e, m, rfl, an, am, ak, gd, fun z => thrown_of h1 rfl an (by unfold first3; rw [due_f z]; rfl) hE q, fun z y => thrown_of h2 rfl am (by unfold first3; rw [due_t z, due_f y]; rfl) hE q, fun t b n z ed ee n1 n2 => ?_⟩
  subst ed ee
  have e0 : first3 (.tuple [.int t, .int b]) (.int n) = [] := by unfold first3; rw [due_t z, due_t (num_of n1 n2)]; rfl
  have e1 : last3 lim (.tuple [.int t, .int b]) (.int n) m = dueD "number" m (isNum m 0 (lim n b)) := by unfold last3; rw [if_pos e0]
  rw [e0, e1] at q
  exact ⟨fun y => told_of (by rw [due_t y]; rfl) hQ q, fun y => thrown_of h2 rfl ak (by rw [due_f y]; rfl) hE q⟩
theorem arcs_told {p q : PyData} (y : isPt p = true) (x : (isPt q && lessD p q) = true) : arcs p q = [] := by unfold arcs; rw [due_t y, due_t x]; rfl
theorem arcs_low {p q : PyData} (y : isPt p = false) : arcs p q = [.list [.str "arc", p]] := by unfold arcs; rw [due_f y, if_neg (by simp), List.append_nil]
theorem arcs_high {p q : PyData} (y : isPt p = true) (x : (isPt q && lessD p q) = false) : arcs p q = [.list [.str "arc", q]] := by unfold arcs; rw [due_t y, due_f x]; rfl
theorem try4 {v u l h : V} {d e p r : PyData} (h1 : Held K B CS 2) (h2 : Held K B CN 1) (h3 : Held K B CA 3) (an : An K H v d) (am : An K H u e) (al : An K H l p) (ah : An K H h r) (gd : Gd d) (gp : Gd p) (gr : Gd r)
    (hE : ∀ C d G, RaisesAs K B Q C d G → E' C d G) (hQ : ∀ v G, TellsAs Q v G → Q' v G) (q : ∀ f G, Same H G → FoundAt K G f (first3 d e ++ arcs p r) → Q (.ref f) G) : spC4 K CS CN CA [v, u, l, h] H Q' E' := by
  refine ⟨v, u, l, h, d, e, p, r, rfl, an, am, al, ah, gd, gp, gr, fun z => thrown_of h1 rfl an (by unfold first3; rw [due_f z]; rfl) hE q, fun z y => thrown_of h2 rfl am (by unfold first3; rw [due_t z, due_f y]; rfl) hE q, fun z y => ?_⟩
  have e0 : first3 d e = [] := by unfold first3; rw [due_t z, due_t y]; rfl
  rw [e0] at q
  exact ⟨fun x => thrown_of h3 rfl al (by rw [arcs_low x]; rfl) hE q, fun x x' => thrown_of h3 rfl ah (by rw [arcs_high x x']; rfl) hE q, fun x x' => told_of (by rw [arcs_told x x']; rfl) hQ q⟩
theorem try3w {v l h : V} {d p r : PyData} (h1 : Held K B CS 2) (h3 : Held K B CA 3) (an : An K H v d) (al : An K H l p) (ah : An K H h r) (gd : Gd d) (gp : Gd p) (gr : Gd r)
    (hE : ∀ C d G, RaisesAs K B Q C d G → E' C d G) (hQ : ∀ v G, TellsAs Q v G → Q' v G) (q : ∀ f G, Same H G → FoundAt K G f (dueD "step" d (isSt d) ++ arcs p r) → Q (.ref f) G) : spC3w K CS CA [v, l, h] H Q' E' := by
  refine ⟨v, l, h, d, p, r, rfl, an, al, ah, gd, gp, gr, fun z => thrown_of h1 rfl an (by rw [due_f z]; rfl) hE q, fun z => ?_⟩
  rw [due_t z] at q
  exact ⟨fun x => thrown_of h3 rfl al (by rw [arcs_low x]; rfl) hE q, fun x x' => thrown_of h3 rfl ah (by rw [arcs_high x x']; rfl) hE q, fun x x' => told_of (by rw [arcs_told x x']; rfl) hQ q⟩
end
/-- keywords alone, what is raised goes on -/
theorem passN {X : Cx} {E : XK} (tk : L2N.Takes X (fun C d _ G => E C d G)) : Passes (L2N.CX X.prog X.w) X E := fun pins σ H s e s' I c => (L2N.passAt tk σ) pins H s e s' I c
/-! what the law draws from its lists of plain things -/
theorem plain_an {K : PySem.W.Frag} {H : Hp} {v : V} {d : PyData} (h : plain v = some d) : An K H v d := by
  cases v with
  | non => cases h; exact .non
  | bl b => cases h; exact .bl b
  | int i => cases h; exact .int i
  | str x => cases h; exact .str x
  | _ => cases h
theorem mem_plain {K : PySem.W.Frag} {v : V} : ∀ {xs : List V} {ds : List PyData}, xs.map plain = ds.map some → v ∈ xs → ∃ d ∈ ds, ∀ H : Hp, An K H v d
  | x :: xs, [], e, _ => by cases e
  | x :: xs, d :: ds, e, m => by
    rw [List.map_cons, List.map_cons, List.cons.injEq] at e
    rcases List.mem_cons.mp m with rfl | m
    · exact ⟨d, List.mem_cons_self, fun _ => plain_an e.1⟩
    · obtain ⟨d', h1, h2⟩ := mem_plain e.2 m
      exact ⟨d', List.mem_cons_of_mem _ h1, h2⟩
/-- the arguments and what is due first, as they stay -/
structure Bn (K : PySem.W.Frag) (T : List (Addr × Str)) (H0 H : Hp) (t : Addr) (vx vy : V) (dx dy : PyData) (r : V) (ds : List PyData) : Prop where
  s : Stp T H0 H t
  x : An K H vx dx
  y : An K H vy dy
  d : DuesAt K H r ds
section
variable {K : PySem.W.Frag} {T : List (Addr × Str)} {H0 H H' : Hp} {t : Addr} {vx vy : V} {dx dy : PyData} {r : V} {ds : List PyData}
theorem Bn.here (b : Bn K T H0 H t vx vy dx dy r ds) : Stp T H H t := Stp.refl b.s.tin b.s.tab
theorem Bn.go (b : Bn K T H0 H t vx vy dx dy r ds) (fx : fine dx = true) (fy : fine dy = true) (du : Du ds) (l3 : ds.length ≠ 3) (e : Stp T H H' t) : Bn K T H0 H' t vx vy dx dy r ds :=
  ⟨b.s.trans e, an_stp b.s.tin e b.x fx, an_stp b.s.tin e b.y fy, b.d.stp b.s.tin e du l3⟩
end
theorem mS : ("step" : Str) ∈ (["step", "number", "arc"] : List Str) := List.mem_cons_self
theorem mN : ("number" : Str) ∈ (["step", "number", "arc"] : List Str) := List.mem_cons_of_mem _ List.mem_cons_self
theorem mA : ("arc" : Str) ∈ (["step", "number", "arc"] : List Str) := List.mem_cons_of_mem _ (List.mem_cons_of_mem _ List.mem_cons_self)
theorem len_due {wd : Str} {d : PyData} {g : Bool} : (dueD wd d g).length ≤ 1 := by unfold dueD; split <;> simp
end My
set_option Elab.async false
set_option linter.all false
set_option maxRecDepth 100000
set_option maxHeartbeats 16000000
set_option exponentiation.threshold 2000
namespace My
open PySem PySem.Spec PyProof.Rows L2 L2H Gn Mt
abbrev sSteps : Stmt := top 77
abbrev NS : List Str := ["_law_tin_here", "_law_x", "_law_y", "_law_far_here", "_law_first", "_law_found", "_law_last", "_law_both", "_law_k", "_law_many", "_law_each"]
theorem scSteps : FnScope NS ["_law_tin_here", "_law_x", "_law_y"] (defScope sSteps) := ⟨rfl, rfl, rfl, by decide +kernel, rfl, by decide +kernel, by decide +kernel⟩
def qS : Str := (envOfC "_law_steps_right" (defScope sSteps) 0 0 .none).qual ++ "<lambda>"
/-- small, told by asking -/
def shwB (d : PyData) : Bool := d.showable && decide (d.depth < 60) && decide (d.shown.length ≤ 4000)
def arB (d : PyData) : Bool := gdB d && fine d && (["step", "number", "arc"] : List Str).all fun wd => shwB (.list [.str wd, d])
theorem shw_of {d : PyData} (h : shwB d = true) : Shw d := by
  have z := Bool.and_eq_true_iff.mp h
  have y := Bool.and_eq_true_iff.mp z.1
  exact ⟨y.1, of_decide_eq_true y.2, Nat.le_trans (of_decide_eq_true z.2) (by decide)⟩
theorem ar_of {d : PyData} (h : arB d = true) : Ar d := by
  have z := Bool.and_eq_true_iff.mp h
  have y := Bool.and_eq_true_iff.mp z.1
  exact ⟨gd_of y.1, y.2, fun wd m => shw_of (List.all_eq_true.mp z.2 wd m)⟩
theorem ars_of {ds : List PyData} (h : ds.all arB = true) : ∀ d ∈ ds, Ar d := fun d m => ar_of (List.all_eq_true.mp h d m)
def menuK : List PyData := [.int 0, .int 5, .int (10 ^ 30), .int (10 ^ 30 + 1), .int (-1), .none, .bool true, .str "1"]
def menuM : List PyData := [.int 1, .int 60, .int 61, .int 0, .int (-1), .none, .bool true]
theorem menuK_ar : ∀ d ∈ menuK, Ar d := ars_of (by decide +kernel)
theorem menuM_ar : ∀ d ∈ menuM, Ar d := ars_of (by decide +kernel)
theorem odds_ar : ∀ d ∈ odds, Ar d := ars_of (by decide +kernel)
/-- what the law asks of the module -/
structure La (P : Program) (w : World) (K : PySem.W.Frag) (mg : Str → Option Value) (base : Heap) where
  fs : Fs P w K mg base
  er : Er mg
  hS : Held K er fs.ck.CS 2
  hN : Held K er fs.ck.CN 1
  hA : Held K er fs.ck.CA 3
  b : Bl mg
  rp : mg "repr" = none
  range : mg "range" = none
  all : mg "all" = none
  gs : Addr × FuncData
  gp : Addr × FuncData
  gf : Addr × FuncData
  gg : Addr × FuncData
  gl : Addr × FuncData
  ge : Addr × FuncData
  gu : Addr × FuncData
  hn : Addr × FuncData
  hp : Addr × FuncData
  hi : Addr × FuncData
  ho : Addr × FuncData
  he : Addr × FuncData
  hc : Addr × FuncData
  hf : Addr × FuncData
  hx : Addr × FuncData
  hd : Addr × FuncData
  ls : Df K mg "_law_sip" sSip ["_law_tin_here", "_law_top"] gs.1 gs.2
  lp : Df K mg "_law_pick" sPick ["_law_tin_here", "_law_menu"] gp.1 gp.2
  lf : Df K mg "_law_far" sFar ["_law_tin_here", "_law_most"] gf.1 gf.2
  lg : Df K mg "_law_gcd" sGcd ["_law_one", "_law_two"] gg.1 gg.2
  ll : Df K mg "_law_low" sLow ["_law_top", "_law_bottom"] gl.1 gl.2
  le : Df K mg "_law_step" sStep ["_law_tin_here", "_law_most"] ge.1 ge.2
  lu : Df K mg "_law_under" sLUnder ["_law_one", "_law_two"] gu.1 gu.2
  lN : Df K mg "_law_is_number" sLNum ["_law_thing", "_law_low_here", "_law_high"] hn.1 hn.2
  lP : Df K mg "_law_is_part" sLPart ["_law_thing"] hp.1 hp.2
  lI : Df K mg "_law_is_step" sLIsSt ["_law_thing"] hi.1 hi.2
  lO : Df K mg "_law_odd" sLOdd ["_law_tin_here"] ho.1 ho.2
  lE : Df K mg "_law_error" sLError ["_law_act"] he.1 he.2
  lC : Df K mg "_law_class" sLClass ["_law_e"] hc.1 hc.2
  lF : Df K mg "_law_field" sLField ["_law_e"] hf.1 hf.2
  lX : Df K mg "_law_ends_right" sLEnds ["_law_found", "_law_dues"] hx.1 hx.2
  lD : Df K mg "_law_due" sLDue ["_law_word", "_law_thing", "_law_is_good"] hd.1 hd.2
  plk : KBinds K fs.pl.2 ["step", "mark"] ["mark", "step"] kw2s kw2s
  bek : KBinds K fs.be.2 ["one", "other"] ["other", "one"] kw2s kw2s
  lak : KBinds K fs.la.2 ["step", "count", "mark"] ["mark", "count", "step"] kwR kwR
  fwk : KBinds K fs.fw.2 ["step", "low", "high"] ["high", "low", "step"] kwR kwR
/-- both are let in or refused as they should -/
def spTwoR (K : PySem.W.Frag) (T : List (Addr × Str)) : Sp := fun vs H Q _ => ∃ (t : Addr) (vx vy : V) (dx dy : PyData), vs = [.ref t, vx, vy] ∧ Tin H t ∧ LamX.Tabs T H ∧ An K H vx dx ∧ An K H vy dy ∧ Ar dx ∧ Ar dy ∧ ∀ H', Stp T H H' t → Q (.bl true) H'
theorem Du.first3 {d e : PyData} (a : Ar d) (b : Ar e) : Du (first3 d e) := (a.du mS).app (b.du mN)
section
variable {P : Program} {w : World} {K : PySem.W.Frag} {mg : Str → Option Value} {base : Heap}
theorem ends_at {K : PySem.W.Frag} {σ : L2.St} {H : Hp} {f u : V} {Q : VK} {E : XK} (h : spEnds K [f, u] H Q E) : tNil σ H (fun xs H2 => spEnds K ((f :: (u :: xs)) ++ []) H2 Q E) := h
/-- all of the found ones end right -/
theorem lc_ends {G : Hp} {l D : Addr} {fs : List Addr} {ds : List PyData} {σ : L2.St} {j : Nat} {td : TE} {Qd : Hp → Prop} (hl : G l = some (.lst (fs.map V.ref))) (hn : fs.length ≤ 3) (F : ∀ f ∈ fs, FoundAt K G f ds) (du : Du ds) (hD : G D = none)
    (hw : ∀ a : Addr, wipe ((wipe σ [j]).set j (some (.ref a))) [j] = wipe σ [j]) (hv : ∀ a : Addr, ((wipe σ [j]).set j (some (.ref a)))[j]? = some (some (.ref a)))
    (td_ok : ∀ (a : Addr) (H : Hp) (R : VK), Same G H → (∀ u H2, Same H H2 → DuesAt K H2 u ds → R u H2) → td ((wipe σ [j]).set j (some (.ref a))) H R)
    (q : ∀ H, Same G H → H D = some (.lst ((List.replicate fs.length true).map V.bl)) → Qd H) :
    ∃ W : Nat → Nat → Hp → Prop, (∃ m, W 0 m (upd G D (.lst []))) ∧ ∀ i m H, W i m H →
      ((Itl K l).stop i H ∧ Qd H) ∨ ((Itl K l).go i H ∧ ∃ Nx : Hp → Prop, (∀ H', Nx H' → ∃ m', m' < m ∧ W (i + 1) m' H') ∧ ∀ x H', (Itl K l).yld i H x H' → gName j x (wipe σ [j]) H' fun σ2 H2 => wipe σ2 [j] = wipe σ [j] ∧ tYes σ2 H2 fun b H3 =>
        if b = true then tCall (spEnds K) [] E0 (tCons (tVar j) (tCons td tNil)) σ2 H3 fun y H4 => ∃ acc, H4 D = some (.lst acc) ∧ acc.length < sizeLine ∧ Nx (upd H4 D (.lst (acc ++ [y]))) else Nx H3) := by
  refine lc_list (K := K) (a := l) (xs := fs.map V.ref) (fun i H' => H' D = some (.lst ((List.replicate i true).map V.bl)) ∧ Same G H') ⟨upd_same, same_put hD⟩ (fun i H' _ h => SqL.of (h.2 _ _ hl)) ?_ ?_
  · rintro i x H hx ⟨g1, g2⟩
    rw [List.getElem?_map] at hx
    obtain ⟨f, hf, rfl⟩ := Option.map_eq_some_iff.mp hx
    have il : i < fs.length := (List.getElem?_eq_some_iff.mp hf).1
    refine ⟨hw f, .ref f, hv f, td_ok f H _ g2 fun u H2 s2 D2 => ?_⟩
    have F2 : FoundAt K H2 f ds := by
      rcases F f (List.mem_of_getElem? hf) with ⟨z, r, e⟩ | ⟨e, es, z, an⟩
      · exact .inl ⟨z, r, s2 _ _ (g2 _ _ e)⟩
      · exact .inr ⟨e, es, z, (an.same g2).same s2⟩
    dsimp only [tNil, List.append_nil]
    refine ends_ok F2 D2 du fun H3 s3 => ⟨_, s3 _ _ (s2 _ _ g1), ?_, ?_, fun b o e => ?_⟩
    · rw [List.length_map, List.length_replicate]
      exact small1000 (by omega)
    · rw [upd_same, List.replicate_succ', List.map_append]; rfl
    · rw [upd_ne (ne_of_none e hD)]
      exact s3 _ _ (s2 _ _ (g2 _ _ e))
  · rintro H ⟨g1, g2⟩
    rw [List.length_map] at g1
    exact q H g2 g1
theorem all_true (n : Nat) : (List.replicate n true).all id = true := by
  rw [List.all_eq_true]
  intro b hb
  exact (List.mem_replicate.mp hb).2
theorem ok_steps {f cc PP PR : Addr} {fd : FuncData} {qR : Str} (F : Fun K "_law_steps_right" "_law_steps_right" sSteps f fd) (M : La P w K mg base) (ec : fd.code = .ref cc) (TB : LamX.TabB base mg cc PP) (ne : PR ≠ PP) : FnG P w K mg base CX0 10 f fd ["_law_tin_here", "_law_x", "_law_y"] (spTwoR K [(PP, qS), (PR, qR)]) := by
  have C := M.fs.ck.c
  have GPl := c_place M.fs
  have GOd := c_order M.fs
  have GMi := c_mirr M.fs
  have GPa := c_parting M.fs
  have GBe := c_between M.fs
  have LP : FnOk P w K mg base CX0 2 M.gp.1 M.gp.2 ["_law_tin_here", "_law_menu"] spPick := ok_pick M.lp.F M.b M.ls
  have LN : FnOk P w K mg base CX0 1 M.hn.1 M.hn.2 ["_law_thing", "_law_low_here", "_law_high"] (spNumA K) := ok_lNum M.lN.F C
  have LI : FnOk P w K mg base CX0 3 M.hi.1 M.hi.2 ["_law_thing"] (spAsk60 K isSt) := ok_lIsSt M.lI.F C M.b M.lN M.lg M.lP
  have LD : FnOk P w K mg base CX0 1 M.hd.1 M.hd.2 ["_law_word", "_law_thing", "_law_is_good"] (spDue K) := ok_due M.lD.F
  have LX : FnG P w K mg base CX0 1 M.hx.1 M.hx.2 ["_law_found", "_law_dues"] (spEnds K) := ok_ends M.lX.F M.rp
  refine funGC F scSteps (fun vs H Q E h => ?_) (fun A outer s H vs Q E hg hr h => ?_)
  · obtain ⟨t, vx, vy, dx, dy, rfl, _⟩ := h
    rfl
  · obtain ⟨t, vx, vy, dx, dy, rfl, T0, TT, anx, any, ax, ay, q⟩ := h
    have hr1 : Room 1 _ := hr.mono (by decide)
    have hr2 : Room 2 _ := hr.mono (by decide)
    have hr3 : Room 3 _ := hr.mono (by decide)
    have hr7 : Room 7 _ := hr.mono (by decide)
    have one : ∀ q ∈ [(PP, qS), (PR, qR)], q.1 = PP → q.2 = qS := fun q m e => by
      rcases List.mem_cons.mp m with rfl | m
      · rfl
      · rw [List.mem_singleton.mp m] at e
        exact absurd e ne
    refine ⟨_, pss_cons (ps_set (i := 3) scSteps.nd rfl (.inl rfl) (pe_op op_pow pe_int pe_int))
      -- first
      (pss_cons (ps_set (i := 4) scSteps.nd rfl (.inr rfl) (pe_call LD hr1 (by rfl) M.lD.g M.lD.F.kp M.lD.b .nil pass0 (pa_cons pe_str (pa_cons (pv 1) (pa_cons (pe_call LI hr3 (by rfl) M.lI.g M.lI.F.kp M.lI.b .nil pass0 (pa_cons (pv 1) pa_nil)) pa_nil)))))
      -- k
      (pss_cons (ps_set (i := 8) scSteps.nd rfl (.inr rfl) (pe_call LP hr2 (by rfl) M.lp.g M.lp.F.kp M.lp.b .nil pass0 (pa_cons (pv 0) (pa_cons (pe_lst (pa_cons pe_int (pa_cons pe_int (pa_cons (pv 3) (pa_cons (pe_op op_add (pv 3) pe_int) (pa_cons (pe_un un_neg pe_int) (pa_cons pe_non (pa_cons pe_bl (pa_cons pe_str pa_nil))))))))) pa_nil))))
      -- place
      (pss_cons (ps_set (i := 5) scSteps.nd rfl (.inl rfl) (pe_lst (pa_cons (pe_lamN (T := [(PP, qS), (PR, qR)]) (k := 5) (by rfl) M.lE.g M.lE.F M.lE.F.kp M.lE.b scLError rfl (.inl rfl) (error_gives M.er M.lC M.lF) TB ec (by exact List.mem_cons_self) one hr7 (LamX.lamS_by (by show LamX.lamSB (defScope sSteps) _ = true; decide +kernel)) rfl (fun _ _ _ _ _ => rfl)
          (fun A o s H E f c hr' => pe_callS GPl hr' (by rfl) M.fs.dpl.g M.fs.dpl.F.kp M.fs.dpl.b (fun σ => L2N.passAt lamN_takes σ) (pa_cons (pv 1) (pa_cons (pv 8) pa_nil)))) pa_nil)))
      (pss_cons (ps_expr (pe_bm PySem.F.plainAttrs_list PySem.F.slot_list_append PySem.F.type_list_append mt_append (pv 5) (pa_cons (pe_lamN (T := [(PP, qS), (PR, qR)]) (k := 5) (by rfl) M.lE.g M.lE.F M.lE.F.kp M.lE.b scLError rfl (.inl rfl) (error_gives M.er M.lC M.lF) TB ec (by exact List.mem_cons_self) one hr7 (LamX.lamS_by (by show LamX.lamSB (defScope sSteps) _ = true; decide +kernel)) rfl (fun _ _ _ _ _ => rfl)
          (fun A o s H E f c hr' => pe_callK0 GPl hr' (by rfl) M.fs.dpl.g M.fs.dpl.F.kp M.plk (passN lamN_takes) (pk_cons (pv 8) (pk_cons (pv 1) pk_nil)))) pa_nil)))
      (pss_cons (ps_set (i := 6) scSteps.nd rfl (.inr rfl) (pe_call LD hr1 (by rfl) M.lD.g M.lD.F.kp M.lD.b .nil pass0 (pa_cons pe_str (pa_cons (pv 8) (pa_cons (pe_call LN hr1 (by rfl) M.lN.g M.lN.F.kp M.lN.b .nil pass0 (pa_cons (pv 8) (pa_cons pe_int (pa_cons (pv 3) pa_nil)))) pa_nil)))))
      (pss_cons (ps_if (pt_not (pt_val (pe_callB (cr_all rfl) (by rfl) M.all (by decide +kernel) (pa_cons
          (pe_lc (te := tCall (spEnds K) [] E0 (tCons (tVar 10) (tCons (tOp rCat (tVar 4) (tVar 6)) tNil))) (own := [("_law_each", 10)]) (g := gName 10) (tt := tYes) rfl scSteps.nd (pi_list (pv 5))
            (blkOk_by (N := NS) (sc := defScope sSteps) (by decide +kernel)) (fun _ _ _ _ _ => pg_name (i := 10) scSteps.nd rfl (.inl rfl)) (fun _ _ _ _ _ => pts_nil)
            (fun _ _ _ _ _ => pe_callG LX hg hr1 (by rfl) M.lX.g M.lX.F.kp M.lX.b .nil pass0 (pa_cons (pv 10) (pa_cons (pe_op op_cat (pv 4) (pv 6)) pa_nil)))) pa_nil)))) (pss_one (ps_ret pe_bl)) pss_nil)
      -- order
      (pss_cons (ps_set (i := 9) scSteps.nd rfl (.inr rfl) (pe_call LP hr2 (by rfl) M.lp.g M.lp.F.kp M.lp.b .nil pass0 (pa_cons (pv 0) (pa_cons (pe_lst (pa_cons pe_int (pa_cons pe_int (pa_cons pe_int (pa_cons pe_int (pa_cons (pe_un un_neg pe_int) (pa_cons pe_non (pa_cons pe_bl pa_nil)))))))) pa_nil))))
      (pss_cons (ps_set (i := 6) scSteps.nd rfl (.inr rfl) (pe_call LD hr1 (by rfl) M.lD.g M.lD.F.kp M.lD.b .nil pass0 (pa_cons pe_str (pa_cons (pv 9) (pa_cons (pe_call LN hr1 (by rfl) M.lN.g M.lN.F.kp M.lN.b .nil pass0 (pa_cons (pv 9) (pa_cons pe_int (pa_cons pe_int pa_nil)))) pa_nil)))))
      (pss_cons (ps_if (pt_not (pt_val (pe_callG LX hg hr1 (by rfl) M.lX.g M.lX.F.kp M.lX.b .nil pass0 (pa_cons (pe_lamN (T := [(PP, qS), (PR, qR)]) (k := 5) (by rfl) M.lE.g M.lE.F M.lE.F.kp M.lE.b scLError rfl (.inl rfl) (error_gives M.er M.lC M.lF) TB ec (by exact List.mem_cons_self) one hr7 (LamX.lamS_by (by show LamX.lamSB (defScope sSteps) _ = true; decide +kernel)) rfl (fun _ _ _ _ _ => rfl)
          (fun A o s H E f c hr' => pe_callS GOd hr' (by rfl) M.fs.dod.g M.fs.dod.F.kp M.fs.dod.b (fun σ => L2N.passAt lamN_takes σ) (pa_cons (pv 1) (pa_cons (pv 9) pa_nil)))) (pa_cons (pe_op op_cat (pv 4) (pv 6)) pa_nil))))) (pss_one (ps_ret pe_bl)) pss_nil)
      -- mirrored
      (pss_cons (ps_if (pt_not (pt_val (pe_callG LX hg hr1 (by rfl) M.lX.g M.lX.F.kp M.lX.b .nil pass0 (pa_cons (pe_lamN (T := [(PP, qS), (PR, qR)]) (k := 5) (by rfl) M.lE.g M.lE.F M.lE.F.kp M.lE.b scLError rfl (.inl rfl) (error_gives M.er M.lC M.lF) TB ec (by exact List.mem_cons_self) one hr7 (LamX.lamS_by (by show LamX.lamSB (defScope sSteps) _ = true; decide +kernel)) rfl (fun _ _ _ _ _ => rfl)
          (fun A o s H E f c hr' => pe_callS GMi hr' (by rfl) M.fs.dmi.g M.fs.dmi.F.kp M.fs.dmi.b (fun σ => L2N.passAt lamN_takes σ) (pa_cons (pv 1) pa_nil))) (pa_cons (pv 4) pa_nil))))) (pss_one (ps_ret pe_bl)) pss_nil)
      -- both
      (pss_cons (ps_set (i := 7) scSteps.nd rfl (.inr rfl) (pe_op op_cat (pv 4) (pe_call LD hr1 (by rfl) M.lD.g M.lD.F.kp M.lD.b .nil pass0 (pa_cons pe_str (pa_cons (pv 2) (pa_cons (pe_call LI hr3 (by rfl) M.lI.g M.lI.F.kp M.lI.b .nil pass0 (pa_cons (pv 2) pa_nil)) pa_nil))))))
      (pss_cons (ps_set (i := 5) scSteps.nd rfl (.inl rfl) (pe_lst (pa_cons (pe_lamN (T := [(PP, qS), (PR, qR)]) (k := 5) (by rfl) M.lE.g M.lE.F M.lE.F.kp M.lE.b scLError rfl (.inl rfl) (error_gives M.er M.lC M.lF) TB ec (by exact List.mem_cons_self) one hr7 (LamX.lamS_by (by show LamX.lamSB (defScope sSteps) _ = true; decide +kernel)) rfl (fun _ _ _ _ _ => rfl)
          (fun A o s H E f c hr' => pe_callS GPa hr' (by rfl) M.fs.dpa.g M.fs.dpa.F.kp M.fs.dpa.b (fun σ => L2N.passAt lamN_takes σ) (pa_cons (pv 1) (pa_cons (pv 2) pa_nil)))) pa_nil)))
      (pss_cons (ps_expr (pe_bm PySem.F.plainAttrs_list PySem.F.slot_list_append PySem.F.type_list_append mt_append (pv 5) (pa_cons (pe_lamN (T := [(PP, qS), (PR, qR)]) (k := 5) (by rfl) M.lE.g M.lE.F M.lE.F.kp M.lE.b scLError rfl (.inl rfl) (error_gives M.er M.lC M.lF) TB ec (by exact List.mem_cons_self) one hr7 (LamX.lamS_by (by show LamX.lamSB (defScope sSteps) _ = true; decide +kernel)) rfl (fun _ _ _ _ _ => rfl)
          (fun A o s H E f c hr' => pe_callK0 GBe hr' (by rfl) M.fs.dbe.g M.fs.dbe.F.kp M.bek (passN lamN_takes) (pk_cons (pv 2) (pk_cons (pv 1) pk_nil)))) pa_nil)))
      (pss_one (ps_ret (pe_callB (cr_all rfl) (by rfl) M.all (by decide +kernel) (pa_cons
          (pe_lc (te := tCall (spEnds K) [] E0 (tCons (tVar 10) (tCons (tVar 7) tNil))) (own := [("_law_each", 10)]) (g := gName 10) (tt := tYes) rfl scSteps.nd (pi_list (pv 5))
            (blkOk_by (N := NS) (sc := defScope sSteps) (by decide +kernel)) (fun _ _ _ _ _ => pg_name (i := 10) scSteps.nd rfl (.inl rfl)) (fun _ _ _ _ _ => pts_nil)
            (fun _ _ _ _ _ => pe_callG LX hg hr1 (by rfl) M.lX.g M.lX.F.kp M.lX.b .nil pass0 (pa_cons (pv 10) (pa_cons (pv 7) pa_nil)))) pa_nil))))))))))))))))), ?_⟩
    -- far
    refine ⟨_, _, rfl, rfl, ⟨by decide, by decide, by decide⟩, ?_⟩
    -- first
    have S0 := Stp.refl T0 TT
    refine ⟨_, rfl, _, rfl, vx, dx, rfl, anx, ax.gd.l60, "step", vx, dx, isSt dx, rfl, anx, fun r1 H1 s1 D1 => ?_⟩
    have du : Du (dueD "step" dx (isSt dx)) := ax.du mS
    have l1 : (dueD "step" dx (isSt dx)).length ≤ 1 := len_due
    have l3 : (dueD "step" dx (isSt dx)).length ≠ 3 := by omega
    obtain ⟨p1, xs1, rfl, hp1, al1⟩ := D1
    have b1 : Bn K [(PP, qS), (PR, qR)] H H1 t vx vy dx dy (.ref p1) (dueD "step" dx (isSt dx)) := ⟨S0.same s1, anx.same s1, any.same s1, p1, xs1, rfl, hp1, al1⟩
    clear hp1 al1
    have go : ∀ {G G' : Hp}, Bn K [(PP, qS), (PR, qR)] H G t vx vy dx dy (.ref p1) (dueD "step" dx (isSt dx)) → Stp [(PP, qS), (PR, qR)] G G' t → Bn K [(PP, qS), (PR, qR)] H G' t vx vy dx dy (.ref p1) (dueD "step" dx (isSt dx)) := fun b e => b.go ax.n3 ay.n3 du l3 e
    -- k
    refine ⟨_, rfl, _, rfl, _, rfl, _, _, rfl, rfl, _, rfl, (by show 8 ≤ sizeLine; decide), fun m hm => ?_⟩
    refine ⟨t, m, _, rfl, (b1.here.same (same_put hm)).tin, upd_same, b1.s.tin.not hm, by decide, by decide, fun vk H2 hv s2 => ?_⟩
    have b2 := go b1 ((b1.here.same (same_put hm)).drawn s2)
    obtain ⟨dk, hdk, ank⟩ := mem_plain (K := K) (ds := menuK) rfl hv
    have ak := menuK_ar dk hdk
    have duK : Du (dueD "step" dx (isSt dx) ++ dueD "number" dk (isNum dk 0 (10 ^ 30))) := du.app (ak.du mN)
    -- place
    refine ⟨b2.s.tab, fun H3 e3 T3 => ?_⟩
    have b3 := go b2 (b2.here.ext e3 T3)
    intro E' Q' hE hQ
    refine ⟨_, rfl, _, rfl, try2 M.hS rfl M.hN rfl b3.x (ank _) ax.gd ak.gd hE hQ (fun f1 H4 s4 F1 => ?_)⟩
    have b4 := go b3 (b3.here.same s4)
    refine ⟨(by show 1 ≤ sizeLine; decide), fun l hl => ?_⟩
    have e5 := same_put (o := HO.lst [.ref f1]) hl
    have hl5 : upd H4 l (HO.lst [.ref f1]) l = some (.lst [.ref f1]) := upd_same
    have b5 := go b4 (b4.here.same e5)
    have B5 := b4.here.same e5
    generalize upd H4 l (HO.lst [.ref f1]) = H5 at *
    refine ⟨_, rfl, .inl ⟨rfl, _, SqL.of hl5⟩, b5.s.tab, fun H6 e6 T6 => ?_⟩
    have b6 := go b5 (b5.here.ext e6 T6)
    have B6 := B5.ext e6 T6
    intro E' Q' hE hQ
    refine ⟨_, rfl, _, rfl, try2 M.hS rfl M.hN rfl b6.x (ank _) ax.gd ak.gd hE hQ (fun f2 H7 s7 F2 => ?_)⟩
    have b7 := go b6 (b6.here.same s7)
    have B7 := B6.same s7
    have hl7 := s7 _ _ (e6 _ _ hl5 (fun ps z => by cases z))
    refine ⟨l, [.ref f1], .ref f2, rfl, rfl, hl7, (by show 1 < sizeLine; decide), ?_⟩
    have B8 : Stp [(PP, qS), (PR, qR)] H4 (upd H7 l (.lst ([.ref f1] ++ [.ref f2]))) t := b4.here.put hl B7 hl7
    have b8 := go b4 B8
    have F1' := F1.stp b4.s.tin B8 duK
    have F2' := F2.put (o := .lst ([.ref f1] ++ [.ref f2])) hl7 duK
    have hl8 : upd H7 l (.lst ([.ref f1] ++ [.ref f2])) l = some (.lst ([f1, f2].map V.ref)) := upd_same
    generalize upd H7 l (.lst ([.ref f1] ++ [.ref f2])) = H8 at *
    -- last
    refine ⟨_, rfl, _, rfl, _, rfl, vk, dk, 0, 10 ^ 30, rfl, ank _, "number", vk, dk, isNum dk 0 (10 ^ 30), rfl, ank _, fun r2 H9 s9 D2 => ?_⟩
    obtain ⟨p2, xs2, rfl, hp2, al2⟩ := D2
    have b9 := go b8 (b8.here.same s9)
    obtain ⟨_, xs1, e, hp1, al1⟩ := b9.d
    cases e
    have x1 := dpAll_len al1
    have x2 : xs2.length ≤ 1 := by rw [dpAll_len al2]; exact len_due
    refine ⟨_, rfl, l, rfl, ⟨_, SqL.of (s9 _ _ hl8)⟩, fun D hD => ?_⟩
    refine lc_ends (s9 _ _ hl8) (by show 2 ≤ 3; decide) (fun f hf => ?_) duK hD (fun _ => rfl) (fun _ => rfl) (fun a G R s k => ?_) (fun H10 s10 g10 => ?_)
    · rcases List.mem_cons.mp hf with rfl | hf
      · exact F1'.stp b8.s.tin (b8.here.same s9) duK
      · rw [List.mem_singleton.mp hf]
        exact F2'.stp b8.s.tin (b8.here.same s9) duK
    · exact ⟨_, rfl, _, rfl, p1, p2, xs1, xs2, rfl, rfl, s _ _ hp1, s _ _ hp2, Nat.le_of_lt (small1000 (by omega)), fun p hp => k _ _ (same_put hp) (dues_app (s _ _ hp1) (al1.same s) (s _ _ hp2) (al2.same s) hp)⟩
    have b10 := go b9 (b9.here.same s10)
    refine ⟨D, List.replicate 2 true, rfl, SqL.of g10, ?_⟩
    rw [all_true]
    refine ⟨_, rfl, iteF ?_⟩
    -- many
    refine ⟨_, rfl, _, rfl, (by show 7 ≤ sizeLine; decide), fun m2 hm2 => ?_⟩
    refine ⟨t, m2, _, rfl, (b10.here.same (same_put hm2)).tin, upd_same, b10.s.tin.not hm2, by decide, by decide, fun vm H11 hv s11 => ?_⟩
    have b11 := go b10 ((b10.here.same (same_put hm2)).drawn s11)
    obtain ⟨dm, hdm, anm⟩ := mem_plain (K := K) (ds := menuM) rfl hv
    have am := menuM_ar dm hdm
    have duM : Du (dueD "step" dx (isSt dx) ++ dueD "number" dm (isNum dm 1 60)) := du.app (am.du mN)
    -- last
    refine ⟨_, rfl, _, rfl, vm, dm, 1, 60, rfl, anm _, "number", vm, dm, isNum dm 1 60, rfl, anm _, fun r3 H12 s12 D3 => ?_⟩
    have b12 := go b11 (b11.here.same s12)
    -- order
    refine ⟨b12.s.tab, fun H13 e13 T13 => ?_⟩
    have b13 := go b12 (b12.here.ext e13 T13)
    intro E' Q' hE hQ
    refine ⟨_, rfl, _, rfl, try2 M.hS rfl M.hN rfl b13.x (anm _) ax.gd am.gd hE hQ (fun f3 H14 s14 F3 => ?_)⟩
    have b14 := go b13 (b13.here.same s14)
    obtain ⟨p3, xs3, rfl, hp3, al3⟩ := D3.stp b12.s.tin ((b12.here.ext e13 T13).same s14) (am.du mN) (by have := len_due (wd := "number") (d := dm) (g := isNum dm 1 60); omega)
    have x3 : xs3.length ≤ 1 := by rw [dpAll_len al3]; exact len_due
    obtain ⟨_, ys1, e, hq1, ql1⟩ := b14.d
    cases e
    have y1 := dpAll_len ql1
    refine ⟨_, rfl, _, rfl, p1, p3, ys1, xs3, rfl, rfl, hq1, hp3, Nat.le_of_lt (small1000 (by omega)), fun p hp => ?_⟩
    have s15 := same_put (o := HO.lst (ys1 ++ xs3)) hp
    refine ends_at (ends_ok (F3.stp b14.s.tin (b14.here.same s15) duM) (dues_app hq1 ql1 hp3 al3 hp) duM fun H16 s16 => ?_)
    have b16 := go b14 ((b14.here.same s15).same s16)
    refine ⟨_, rfl, iteF ?_⟩
    -- mirrored
    refine ⟨b16.s.tab, fun H17 e17 T17 => ?_⟩
    have b17 := go b16 (b16.here.ext e17 T17)
    intro E' Q' hE hQ
    refine ⟨_, rfl, try1 M.hS rfl b17.x ax.gd hE hQ (fun f4 H18 s18 F4 => ?_)⟩
    have b18 := go b17 (b17.here.same s18)
    refine ⟨_, rfl, ends_at (ends_ok F4 b18.d du fun H19 s19 => ?_)⟩
    have b19 := go b18 (b18.here.same s19)
    refine ⟨_, rfl, iteF ?_⟩
    -- both
    refine ⟨_, rfl, _, rfl, _, rfl, vy, dy, rfl, b19.y, ay.gd.l60, "step", vy, dy, isSt dy, rfl, b19.y, fun r4 H20 s20 D4 => ?_⟩
    have b20 := go b19 (b19.here.same s20)
    obtain ⟨p4, xs4, rfl, hp4, al4⟩ := D4
    have x4 : xs4.length ≤ 1 := by rw [dpAll_len al4]; exact len_due
    obtain ⟨_, zs1, e, hz1, zl1⟩ := b20.d
    cases e
    have z1 := dpAll_len zl1
    refine ⟨p1, p4, zs1, xs4, rfl, rfl, hz1, hp4, Nat.le_of_lt (small1000 (by omega)), fun pb hpb => ?_⟩
    have s21 := same_put (o := HO.lst (zs1 ++ xs4)) hpb
    have Db := dues_app hz1 zl1 hp4 al4 hpb
    have b21 := go b20 (b20.here.same s21)
    generalize upd H20 pb (HO.lst (zs1 ++ xs4)) = H21 at *
    have duB : Du (dueD "step" dx (isSt dx) ++ dueD "step" dy (isSt dy)) := du.app (ay.du mS)
    have lB : (dueD "step" dx (isSt dx) ++ dueD "step" dy (isSt dy)).length ≠ 3 := by
      have := len_due (wd := "step") (d := dy) (g := isSt dy)
      rw [List.length_append]
      omega
    have c21 : Bn K [(PP, qS), (PR, qR)] H H21 t vx vy dx dy (.ref pb) (dueD "step" dx (isSt dx) ++ dueD "step" dy (isSt dy)) := ⟨b21.s, b21.x, b21.y, Db⟩
    have go2 : ∀ {G G' : Hp}, Bn K [(PP, qS), (PR, qR)] H G t vx vy dx dy (.ref pb) (dueD "step" dx (isSt dx) ++ dueD "step" dy (isSt dy)) → Stp [(PP, qS), (PR, qR)] G G' t → Bn K [(PP, qS), (PR, qR)] H G' t vx vy dx dy (.ref pb) (dueD "step" dx (isSt dx) ++ dueD "step" dy (isSt dy)) := fun b e => b.go ax.n3 ay.n3 duB lB e
    -- parting
    refine ⟨c21.s.tab, fun H22 e22 T22 => ?_⟩
    have c22 := go2 c21 (c21.here.ext e22 T22)
    intro E' Q' hE hQ
    refine ⟨_, rfl, _, rfl, try2 M.hS rfl M.hS rfl c22.x c22.y ax.gd ay.gd hE hQ (fun f5 H23 s23 F5 => ?_)⟩
    have c23 := go2 c22 (c22.here.same s23)
    refine ⟨(by show 1 ≤ sizeLine; decide), fun l2 hl2 => ?_⟩
    have e24 := same_put (o := HO.lst [.ref f5]) hl2
    have hl24 : upd H23 l2 (HO.lst [.ref f5]) l2 = some (.lst [.ref f5]) := upd_same
    have c24 := go2 c23 (c23.here.same e24)
    have C24 := c23.here.same e24
    generalize upd H23 l2 (HO.lst [.ref f5]) = H24 at *
    refine ⟨_, rfl, .inl ⟨rfl, _, SqL.of hl24⟩, c24.s.tab, fun H25 e25 T25 => ?_⟩
    have c25 := go2 c24 (c24.here.ext e25 T25)
    have C25 := C24.ext e25 T25
    intro E' Q' hE hQ
    refine ⟨_, rfl, _, rfl, try2 M.hS rfl M.hS rfl c25.x c25.y ax.gd ay.gd hE hQ (fun f6 H26 s26 F6 => ?_)⟩
    have c26 := go2 c25 (c25.here.same s26)
    have C26 := C25.same s26
    have hl26 := s26 _ _ (e25 _ _ hl24 (fun ps z => by cases z))
    refine ⟨l2, [.ref f5], .ref f6, rfl, rfl, hl26, (by show 1 < sizeLine; decide), ?_⟩
    have C27 : Stp [(PP, qS), (PR, qR)] H23 (upd H26 l2 (.lst ([.ref f5] ++ [.ref f6]))) t := c23.here.put hl2 C26 hl26
    have c27 := go2 c23 C27
    have F5' := F5.stp c23.s.tin C27 duB
    have F6' := F6.put (o := .lst ([.ref f5] ++ [.ref f6])) hl26 duB
    have hl27 : upd H26 l2 (.lst ([.ref f5] ++ [.ref f6])) l2 = some (.lst ([f5, f6].map V.ref)) := upd_same
    generalize upd H26 l2 (.lst ([.ref f5] ++ [.ref f6])) = H27 at *
    refine ⟨_, rfl, l2, rfl, ⟨_, SqL.of hl27⟩, fun D2 hD2 => ?_⟩
    refine lc_ends hl27 (by show 2 ≤ 3; decide) (fun f hf => ?_) duB hD2 (fun _ => rfl) (fun _ => rfl) (fun a G R s k => ?_) (fun H28 s28 g28 => ?_)
    · rcases List.mem_cons.mp hf with rfl | hf
      · exact F5'
      · rw [List.mem_singleton.mp hf]
        exact F6'
    · exact ⟨_, rfl, k _ _ (Same.refl _) (c27.d.same s)⟩
    have c28 := go2 c27 (c27.here.same s28)
    refine ⟨D2, List.replicate 2 true, rfl, SqL.of g28, ?_⟩
    rw [all_true]
    exact q _ c28.s
end
end My
set_option Elab.async false
set_option linter.all false
set_option maxRecDepth 100000
set_option maxHeartbeats 16000000
set_option exponentiation.threshold 2000
namespace My
open PySem PySem.Spec PyProof.Rows L2 L2H Gn Mt
abbrev sRanks : Stmt := top 78
abbrev NRk : List Str := ["_law_tin_here", "_law_x", "_law_y", "_law_far_here", "_law_first", "_law_last", "_law_found", "_law_arc", "_law_alone", "_law_k", "_law_many", "_law_z", "_law_each"]
theorem scRanks : FnScope NRk ["_law_tin_here", "_law_x", "_law_y"] (defScope sRanks) := ⟨rfl, rfl, rfl, by decide +kernel, rfl, by decide +kernel, by decide +kernel⟩
def qR : Str := (envOfC "_law_ranks_right" (defScope sRanks) 0 0 .none).qual ++ "<lambda>"
def menuC : List PyData := [.int 1, .int 4, .int (10 ^ 30), .int (10 ^ 30 + 1), .int 0, .none, .bool true]
def menuJ : List PyData := [.int 0, .int 1, .int 3, .int 4, .int (10 ^ 30), .int (-1), .none, .bool true]
theorem menuC_ar : ∀ d ∈ menuC, Ar d := ars_of (by decide +kernel)
theorem menuJ_ar : ∀ d ∈ menuJ, Ar d := ars_of (by decide +kernel)
theorem ar11 : Ar (.tuple [.int 1, .int 1]) := ar_of (by decide +kernel)
theorem ar12 : Ar (.tuple [.int 1, .int 2]) := ar_of (by decide +kernel)
theorem ar01 : Ar (.tuple [.int 0, .int 1]) := ar_of (by decide +kernel)
/-- [] where something is due already, else what tc says -/
theorem or_dues {K : PySem.W.Frag} {i : Nat} {tc : TE} {σ : L2.St} {H : Hp} {Q : VK} {p : Addr} {ds ds' : List PyData} (hσ : σ[i]? = some (some (.ref p))) (D : DuesAt K H (.ref p) ds) (e0 : ds ≠ [] → ds' = []) (h : ∀ r H', Same H H' → DuesAt K H' r ds' → Q r H')
    (h1 : ds = [] → ∀ (H' : Hp) (Q' : VK), Same H H' → (∀ r H2, Same H' H2 → DuesAt K H2 r ds' → Q' r H2) → tc σ H' Q') : tIf (tTest (tOp (rNeNil K) (tVar i) (tLst tNil))) (tLstZ tNil) tc σ H Q := by
  obtain ⟨_, xs, e, hp, al⟩ := D
  cases e
  refine ⟨_, hσ, (by show 0 ≤ sizeLine; decide), fun z hz => ?_⟩
  have s1 := same_put (o := HO.lst []) hz
  refine ⟨p, z, xs, rfl, rfl, .inl (.inl (s1 _ _ hp)), .inl (.inl upd_same), _, rfl, ?_⟩
  cases al with
  | nil => exact iteF (h1 rfl _ _ s1 fun r H2 s2 D2 => h r H2 (s1.trans s2) D2)
  | cons a b =>
    refine iteT ⟨by decide, fun y hy ny => ?_⟩
    have s2 := same_put (o := HO.lst []) hy
    exact h _ _ (s1.trans s2) ⟨y, [], rfl, upd_same, by rw [e0 (by simp)]; exact .nil⟩
def spLU (K : PySem.W.Frag) : Sp := fun vs H Q _ => ∃ (v u : V) (d e : PyData), vs = [v, u] ∧ An K H v d ∧ An K H u e ∧ isFr d = true ∧ isFr e = true ∧ Gd d ∧ Gd e ∧ Q (.bl (lessD d e)) H
theorem ok_lUnder {P : Program} {w : World} {K : PySem.W.Frag} {mg : Str → Option Value} {base : Heap} {f : Addr} {fd : FuncData} (F : Fun K "_law_under" "_law_under" sLUnder f fd) : FnOk P w K mg base CX0 1 f fd ["_law_one", "_law_two"] (spLU K) := by
  refine F.ok scLUnder (fun vs H Q E h => ?_) (fun cdv A outer s H vs Q E hr h => ?_)
  · obtain ⟨v, u, d, e, rfl, _⟩ := h
    rfl
  · obtain ⟨v, u, d, e, rfl, an, am, f1, f2, gd, ge, q⟩ := h
    obtain ⟨t, a, b, rfl, rfl, hT, _⟩ := fr_of an f1
    obtain ⟨s', c, f, rfl, rfl, hU, _⟩ := fr_of am f2
    have g1 := gd.fr _ _ rfl
    have g2 := ge.fr _ _ rfl
    have up : ∀ {z : Int}, z.natAbs < 2 ^ 100 → z.natAbs < 2 ^ 300 := fun h => Nat.lt_of_lt_of_le h (Nat.pow_le_pow_right (by decide) (by decide))
    refine ⟨_, pss_one (ps_ret (pe_cmpR op_lt (pe_op op_mulW (pe_ix ix_tup (pv 0) pe_int (fun _ _ => rfl)) (pe_ix ix_tup (pv 1) pe_int (fun _ _ => rfl))) (pe_op op_mulW (pe_ix ix_tup (pv 1) pe_int (fun _ _ => rfl)) (pe_ix ix_tup (pv 0) pe_int (fun _ _ => rfl))) (nomark _))), ?_⟩
    refine ⟨_, rfl, t, _, 0, .int a, rfl, rfl, SqT.of hT, at_of (j := 0) rfl rfl, _, rfl, s', _, 1, .int f, rfl, rfl, SqT.of hU, at_of (j := 1) rfl rfl, _, _, rfl, rfl, wide_mul (a := 300) (b := 300) (up g1.1) (up g2.2) (by decide) (by decide) (by decide), ?_⟩
    exact ⟨_, rfl, s', _, 0, .int c, rfl, rfl, SqT.of hU, at_of (j := 0) rfl rfl, _, rfl, t, _, 1, .int b, rfl, rfl, SqT.of hT, at_of (j := 1) rfl rfl, _, _, rfl, rfl, wide_mul (a := 300) (b := 300) (up g2.1) (up g1.2) (by decide) (by decide) (by decide), _, _, rfl, rfl, q⟩
theorem first_len {d e : PyData} : (first3 d e).length ≤ 2 := by
  unfold first3
  rw [List.length_append]
  have := len_due (wd := "step") (d := d) (g := isSt d)
  have := len_due (wd := "number") (d := e) (g := isNum e 1 (10 ^ 30))
  omega
theorem last_len {lim : Int → Int → Int} {d e m : PyData} : (last3 lim d e m).length ≤ 1 := by
  unfold last3
  split
  · split
    · exact len_due
    · simp
  · simp
theorem last_du {lim : Int → Int → Int} {d e m : PyData} (a : Ar m) : Du (last3 lim d e m) := by
  unfold last3
  split
  · split
    · exact a.du mN
    · exact .nil
  · exact .nil
theorem arcs_len {p q : PyData} : (arcs p q).length ≤ 1 := by
  unfold arcs
  split
  · rename_i h
    rw [h]
    exact len_due
  · rw [List.append_nil]
    exact len_due
theorem arcs_du {p q : PyData} (a : Ar p) (b : Ar q) : Du (arcs p q) := by
  unfold arcs
  split
  · exact (a.du mA).app (b.du mA)
  · exact (a.du mA).app .nil
/-- nothing due yet: a step and a number -/
theorem first_nil {d e : PyData} (h : first3 d e = []) : isSt d = true ∧ isNum e 1 (10 ^ 30) = true := by
  unfold first3 at h
  obtain ⟨h1, h2⟩ := List.append_eq_nil_iff.mp h
  constructor
  · cases z : isSt d with
    | true => rfl
    | false => rw [due_f z] at h1; cases h1
  · cases z : isNum e 1 (10 ^ 30) with
    | true => rfl
    | false => rw [due_f z] at h2; cases h2
end My
set_option Elab.async false
set_option linter.all false
set_option maxRecDepth 100000
set_option maxHeartbeats 16000000
set_option exponentiation.threshold 2000
namespace My
open PySem PySem.Spec PyProof.Rows L2 L2H Gn Mt
section
variable {P : Program} {w : World} {K : PySem.W.Frag} {mg : Str → Option Value} {base : Heap}
theorem ok_ranks {f cc PP PS : Addr} {fd : FuncData} (F : Fun K "_law_ranks_right" "_law_ranks_right" sRanks f fd) (M : La P w K mg base) (ec : fd.code = .ref cc) (TB : LamX.TabB base mg cc PP) (ne : PS ≠ PP) : FnG P w K mg base CX0 10 f fd ["_law_tin_here", "_law_x", "_law_y"] (spTwoR K [(PS, qS), (PP, qR)]) := by
  have C := M.fs.ck.c
  have GNx := c_next M.fs
  have GLa := c_last M.fs
  have GRa := c_rank M.fs
  have GMo := c_markOf M.fs
  have GHm := c_howMany M.fs
  have GFw := c_firstW M.fs
  have LP : FnOk P w K mg base CX0 2 M.gp.1 M.gp.2 ["_law_tin_here", "_law_menu"] spPick := ok_pick M.lp.F M.b M.ls
  have LN : FnOk P w K mg base CX0 1 M.hn.1 M.hn.2 ["_law_thing", "_law_low_here", "_law_high"] (spNumA K) := ok_lNum M.lN.F C
  have LPt : FnOk P w K mg base CX0 2 M.hp.1 M.hp.2 ["_law_thing"] (spAsk60 K isPt) := ok_lPart M.lP.F C M.b M.lN M.lg
  have LI : FnOk P w K mg base CX0 3 M.hi.1 M.hi.2 ["_law_thing"] (spAsk60 K isSt) := ok_lIsSt M.lI.F C M.b M.lN M.lg M.lP
  have LU : FnOk P w K mg base CX0 1 M.gu.1 M.gu.2 ["_law_one", "_law_two"] (spLU K) := ok_lUnder M.lu.F
  have LO : FnOk P w K mg base CX0 2 M.ho.1 M.ho.2 ["_law_tin_here"] (spOdd K) := ok_odd M.lO.F M.b M.ls
  have LD : FnOk P w K mg base CX0 1 M.hd.1 M.hd.2 ["_law_word", "_law_thing", "_law_is_good"] (spDue K) := ok_due M.lD.F
  have LX : FnG P w K mg base CX0 1 M.hx.1 M.hx.2 ["_law_found", "_law_dues"] (spEnds K) := ok_ends M.lX.F M.rp
  refine funGC F scRanks (fun vs H Q E h => ?_) (fun A outer s H vs Q E hg hr h => ?_)
  · obtain ⟨t, vx, vy, dx, dy, rfl, _⟩ := h
    rfl
  · obtain ⟨t, vx, vy, dx, dy, rfl, T0, TT, anx, any, ax, ay, q⟩ := h
    have hr1 : Room 1 _ := hr.mono (by decide)
    have hr2 : Room 2 _ := hr.mono (by decide)
    have hr3 : Room 3 _ := hr.mono (by decide)
    have hr7 : Room 7 _ := hr.mono (by decide)
    have hr8 : Room 8 _ := hr.mono (by decide)
    have hu := Nat.lt_of_le_of_lt (Nat.le_add_right _ 64) hr.units
    have one : ∀ q ∈ [(PS, qS), (PP, qR)], q.1 = PP → q.2 = qR := fun q m e => by
      rcases List.mem_cons.mp m with rfl | m
      · exact absurd e ne
      · rw [List.mem_singleton.mp m]
    refine ⟨_, pss_cons (ps_set (i := 3) scRanks.nd rfl (.inl rfl) (pe_op op_pow pe_int pe_int))
      (pss_cons (ps_set (i := 10) scRanks.nd rfl (.inr rfl) (pe_call LP hr2 (by rfl) M.lp.g M.lp.F.kp M.lp.b .nil pass0 (pa_cons (pv 0) (pa_cons (pe_lst (pa_cons pe_int (pa_cons pe_int (pa_cons (pv 3) (pa_cons (pe_op op_add (pv 3) pe_int) (pa_cons pe_int (pa_cons pe_non (pa_cons pe_bl pa_nil)))))))) pa_nil))))
      (pss_cons (ps_set (i := 9) scRanks.nd rfl (.inr rfl) (pe_call LP hr2 (by rfl) M.lp.g M.lp.F.kp M.lp.b .nil pass0 (pa_cons (pv 0) (pa_cons (pe_lst (pa_cons pe_int (pa_cons pe_int (pa_cons pe_int (pa_cons pe_int (pa_cons (pv 3) (pa_cons (pe_un un_neg pe_int) (pa_cons pe_non (pa_cons pe_bl pa_nil))))))))) pa_nil))))
      (pss_cons (ps_set (i := 4) scRanks.nd rfl (.inr rfl) (pe_call LD hr1 (by rfl) M.lD.g M.lD.F.kp M.lD.b .nil pass0 (pa_cons pe_str (pa_cons (pv 1) (pa_cons (pe_call LI hr3 (by rfl) M.lI.g M.lI.F.kp M.lI.b .nil pass0 (pa_cons (pv 1) pa_nil)) pa_nil)))))
      (pss_cons (ps_set (i := 4) scRanks.nd rfl (.inr rfl) (pe_op op_cat (pv 4) (pe_call LD hr1 (by rfl) M.lD.g M.lD.F.kp M.lD.b .nil pass0 (pa_cons pe_str (pa_cons (pv 10) (pa_cons (pe_call LN hr1 (by rfl) M.lN.g M.lN.F.kp M.lN.b .nil pass0 (pa_cons (pv 10) (pa_cons pe_int (pa_cons (pv 3) pa_nil)))) pa_nil))))))
      (pss_cons (ps_set (i := 5) scRanks.nd rfl (.inr rfl) (pe_ifExp (pt_cmpR (op_neNil hu) (pv 4) (pe_lst pa_nil) (nomark _)) (pe_lstZ pa_nil) (pe_call LD hr1 (by rfl) M.lD.g M.lD.F.kp M.lD.b .nil pass0 (pa_cons pe_str (pa_cons (pv 9) (pa_cons (pe_call LN hr1 (by rfl) M.lN.g M.lN.F.kp M.lN.b .nil pass0 (pa_cons (pv 9) (pa_cons pe_int (pa_cons (pe_op op_sub (pv 10) pe_int) pa_nil)))) pa_nil))))))
      (pss_cons (ps_set (i := 6) scRanks.nd rfl (.inl rfl) (pe_lst (pa_cons (pe_lamN (T := [(PS, qS), (PP, qR)]) (k := 7) (by rfl) M.lE.g M.lE.F M.lE.F.kp M.lE.b scLError rfl (.inl rfl) (error_gives M.er M.lC M.lF) TB ec (by exact List.mem_cons_of_mem _ List.mem_cons_self) one hr (LamX.lamS_by (by show LamX.lamSB (defScope sRanks) _ = true; decide +kernel)) rfl (fun _ _ _ _ _ => rfl)
          (fun A o s H E f c hr' => pe_callS GNx hr' (by rfl) M.fs.dnx.g M.fs.dnx.F.kp M.fs.dnx.b (fun σ => L2N.passAt lamN_takes σ) (pa_cons (pv 1) (pa_cons (pv 10) (pa_cons (pv 9) pa_nil))))) pa_nil)))
      (pss_cons (ps_expr (pe_bm PySem.F.plainAttrs_list PySem.F.slot_list_append PySem.F.type_list_append mt_append (pv 6) (pa_cons (pe_lamN (T := [(PS, qS), (PP, qR)]) (k := 7) (by rfl) M.lE.g M.lE.F M.lE.F.kp M.lE.b scLError rfl (.inl rfl) (error_gives M.er M.lC M.lF) TB ec (by exact List.mem_cons_of_mem _ List.mem_cons_self) one hr (LamX.lamS_by (by show LamX.lamSB (defScope sRanks) _ = true; decide +kernel)) rfl (fun _ _ _ _ _ => rfl)
          (fun A o s H E f c hr' => pe_callK0 GLa hr' (by rfl) M.fs.dla.g M.fs.dla.F.kp M.lak (passN lamN_takes) (pk_cons (pv 9) (pk_cons (pv 10) (pk_cons (pv 1) pk_nil))))) pa_nil)))
      (pss_cons (ps_expr (pe_bm PySem.F.plainAttrs_list PySem.F.slot_list_append PySem.F.type_list_append mt_append (pv 6) (pa_cons (pe_lamN (T := [(PS, qS), (PP, qR)]) (k := 7) (by rfl) M.lE.g M.lE.F M.lE.F.kp M.lE.b scLError rfl (.inl rfl) (error_gives M.er M.lC M.lF) TB ec (by exact List.mem_cons_of_mem _ List.mem_cons_self) one hr (LamX.lamS_by (by show LamX.lamSB (defScope sRanks) _ = true; decide +kernel)) rfl (fun _ _ _ _ _ => rfl)
          (fun A o s H E f c hr' => pe_callS GRa hr' (by rfl) M.fs.dra.g M.fs.dra.F.kp M.fs.dra.b (fun σ => L2N.passAt lamN_takes σ) (pa_cons (pv 1) (pa_cons (pv 10) (pa_cons (pv 9) pa_nil))))) pa_nil)))
      (pss_cons (ps_if (pt_not (pt_val (pe_callB (cr_all rfl) (by rfl) M.all (by decide +kernel) (pa_cons
          (pe_lc (te := tCall (spEnds K) [] E0 (tCons (tVar 12) (tCons (tOp rCat (tVar 4) (tVar 5)) tNil))) (own := [("_law_each", 12)]) (g := gName 12) (tt := tYes) rfl scRanks.nd (pi_list (pv 6))
            (blkOk_by (N := NRk) (sc := defScope sRanks) (by decide +kernel)) (fun _ _ _ _ _ => pg_name (i := 12) scRanks.nd rfl (.inl rfl)) (fun _ _ _ _ _ => pts_nil)
            (fun _ _ _ _ _ => pe_callG LX hg hr1 (by rfl) M.lX.g M.lX.F.kp M.lX.b .nil pass0 (pa_cons (pv 12) (pa_cons (pe_op op_cat (pv 4) (pv 5)) pa_nil)))) pa_nil)))) (pss_one (ps_ret pe_bl)) pss_nil)
      (pss_cons (ps_set (i := 5) scRanks.nd rfl (.inr rfl) (pe_ifExp (pt_cmpR (op_neNil hu) (pv 4) (pe_lst pa_nil) (nomark _)) (pe_lstZ pa_nil) (pe_call LD hr1 (by rfl) M.lD.g M.lD.F.kp M.lD.b .nil pass0 (pa_cons pe_str (pa_cons (pv 9) (pa_cons (pe_call LN hr1 (by rfl) M.lN.g M.lN.F.kp M.lN.b .nil pass0 (pa_cons (pv 9) (pa_cons pe_int (pa_cons (pe_op op_sub (pe_callB (call_min2 rfl) (by rfl) M.fs.rs.rk.min (by decide +kernel) (pa_cons (pv 10) (pa_cons (pe_ix ix_tup (pv 1) pe_int (fun _ _ => rfl)) pa_nil))) pe_int) pa_nil)))) pa_nil))))))
      (pss_cons (ps_if (pt_not (pt_val (pe_callG LX hg hr1 (by rfl) M.lX.g M.lX.F.kp M.lX.b .nil pass0 (pa_cons (pe_lamN (T := [(PS, qS), (PP, qR)]) (k := 6) (by rfl) M.lE.g M.lE.F M.lE.F.kp M.lE.b scLError rfl (.inl rfl) (error_gives M.er M.lC M.lF) TB ec (by exact List.mem_cons_of_mem _ List.mem_cons_self) one hr8 (LamX.lamS_by (by show LamX.lamSB (defScope sRanks) _ = true; decide +kernel)) rfl (fun _ _ _ _ _ => rfl)
          (fun A o s H E f c hr' => pe_callS GMo hr' (by rfl) M.fs.dmo.g M.fs.dmo.F.kp M.fs.dmo.b (fun σ => L2N.passAt lamN_takes σ) (pa_cons (pv 1) (pa_cons (pv 10) (pa_cons (pv 9) pa_nil))))) (pa_cons (pe_op op_cat (pv 4) (pv 5)) pa_nil))))) (pss_one (ps_ret pe_bl)) pss_nil)
      (pss_cons (ps_set (i := 11) scRanks.nd rfl (.inr rfl) (pe_call LP hr2 (by rfl) M.lp.g M.lp.F.kp M.lp.b .nil pass0 (pa_cons (pv 0) (pa_cons (pe_lst (pa_cons (pe_tup (pa_cons pe_int (pa_cons pe_int pa_nil))) (pa_cons (pe_tup (pa_cons pe_int (pa_cons pe_int pa_nil))) (pa_cons (pe_tup (pa_cons pe_int (pa_cons pe_int pa_nil))) (pa_cons (pe_call LO hr2 (by rfl) M.lO.g M.lO.F.kp M.lO.b .nil pass0 (pa_cons (pv 0) pa_nil)) pa_nil))))) pa_nil))))
      (pss_cons (ps_set (i := 7) scRanks.nd rfl (.inl rfl) (pe_call LD hr1 (by rfl) M.lD.g M.lD.F.kp M.lD.b .nil pass0 (pa_cons pe_str (pa_cons (pv 2) (pa_cons (pe_call LPt hr2 (by rfl) M.lP.g M.lP.F.kp M.lP.b .nil pass0 (pa_cons (pv 2) pa_nil)) pa_nil)))))
      (pss_cons (ps_set (i := 7) scRanks.nd rfl (.inl rfl) (pe_op op_cat (pv 7) (pe_ifExp (pt_cmpR (op_neNil hu) (pv 7) (pe_lst pa_nil) (nomark _)) (pe_lstZ pa_nil) (pe_call LD hr1 (by rfl) M.lD.g M.lD.F.kp M.lD.b .nil pass0 (pa_cons pe_str (pa_cons (pv 11) (pa_cons (pe_and (pe_call LPt hr2 (by rfl) M.lP.g M.lP.F.kp M.lP.b .nil pass0 (pa_cons (pv 11) pa_nil)) (pe_one (pe_call LU hr1 (by rfl) M.lu.g M.lu.F.kp M.lu.b .nil pass0 (pa_cons (pv 2) (pa_cons (pv 11) pa_nil))))) pa_nil)))))))
      (pss_cons (ps_if (pt_not (pt_val (pe_callG LX hg hr1 (by rfl) M.lX.g M.lX.F.kp M.lX.b .nil pass0 (pa_cons (pe_lamN (T := [(PS, qS), (PP, qR)]) (k := 6) (by rfl) M.lE.g M.lE.F M.lE.F.kp M.lE.b scLError rfl (.inl rfl) (error_gives M.er M.lC M.lF) TB ec (by exact List.mem_cons_of_mem _ List.mem_cons_self) one hr8 (LamX.lamS_by (by show LamX.lamSB (defScope sRanks) _ = true; decide +kernel)) rfl (fun _ _ _ _ _ => rfl)
          (fun A o s H E f c hr' => pe_callS GHm hr' (by rfl) M.fs.dhm.g M.fs.dhm.F.kp M.fs.dhm.b (fun σ => L2N.passAt lamN_takes σ) (pa_cons (pv 1) (pa_cons (pv 10) (pa_cons (pv 2) (pa_cons (pv 11) pa_nil)))))) (pa_cons (pe_op op_cat (pv 4) (pv 7)) pa_nil))))) (pss_one (ps_ret pe_bl)) pss_nil)
      (pss_cons (ps_set (i := 8) scRanks.nd rfl (.inl rfl) (pe_op op_cat (pe_call LD hr1 (by rfl) M.lD.g M.lD.F.kp M.lD.b .nil pass0 (pa_cons pe_str (pa_cons (pv 1) (pa_cons (pe_call LI hr3 (by rfl) M.lI.g M.lI.F.kp M.lI.b .nil pass0 (pa_cons (pv 1) pa_nil)) pa_nil)))) (pv 7)))
      (pss_one (ps_ret (pe_callG LX hg hr1 (by rfl) M.lX.g M.lX.F.kp M.lX.b .nil pass0 (pa_cons (pe_lamN (T := [(PS, qS), (PP, qR)]) (k := 5) (by rfl) M.lE.g M.lE.F M.lE.F.kp M.lE.b scLError rfl (.inl rfl) (error_gives M.er M.lC M.lF) TB ec (by exact List.mem_cons_of_mem _ List.mem_cons_self) one hr7 (LamX.lamS_by (by show LamX.lamSB (defScope sRanks) _ = true; decide +kernel)) rfl (fun _ _ _ _ _ => rfl)
          (fun A o s H E f c hr' => pe_callK0 GFw hr' (by rfl) M.fs.dfw.g M.fs.dfw.F.kp M.fwk (passN lamN_takes) (pk_cons (pv 11) (pk_cons (pv 2) (pk_cons (pv 1) pk_nil))))) (pa_cons (pv 8) pa_nil))))))))))))))))))))), ?_⟩
    -- far, many, k
    have S0 := Stp.refl T0 TT
    refine ⟨_, _, rfl, rfl, ⟨by decide, by decide, by decide⟩, ?_⟩
    refine ⟨_, rfl, _, rfl, _, rfl, _, _, rfl, rfl, (by show 7 ≤ sizeLine; decide), fun m hm => ?_⟩
    refine ⟨t, m, _, rfl, (S0.same (same_put hm)).tin, upd_same, T0.not hm, by decide, by decide, fun vm H1 hv s1 => ?_⟩
    have S1 := (S0.same (same_put hm)).drawn s1
    obtain ⟨dm, hdm, anm⟩ := mem_plain (K := K) (ds := menuC) rfl hv
    have am := menuC_ar dm hdm
    refine ⟨_, rfl, _, rfl, _, rfl, (by show 8 ≤ sizeLine; decide), fun m2 hm2 => ?_⟩
    refine ⟨t, m2, _, rfl, (S1.same (same_put hm2)).tin, upd_same, S1.tin.not hm2, by decide, by decide, fun vk H2 hv s2 => ?_⟩
    have S2 := (S1.same (same_put hm2)).drawn s2
    obtain ⟨dk, hdk, ank⟩ := mem_plain (K := K) (ds := menuJ) rfl hv
    have ak := menuJ_ar dk hdk
    have anx2 := an_stp T0 S2 anx ax.n3
    have any2 := an_stp T0 S2 any ay.n3
    clear s1 s2 hv S1 S0
    -- first
    refine ⟨_, rfl, _, rfl, vx, dx, rfl, anx2, ax.gd.l60, "step", vx, dx, isSt dx, rfl, anx2, fun r0 H3 s3 D0 => ?_⟩
    obtain ⟨p0, xs0, rfl, hp0, al0⟩ := D0
    refine ⟨_, rfl, _, rfl, _, rfl, _, rfl, vm, dm, 1, 10 ^ 30, rfl, anm _, "number", vm, dm, isNum dm 1 (10 ^ 30), rfl, anm _, fun r0' H4 s4 D0' => ?_⟩
    obtain ⟨p0', xs0', rfl, hp0', al0'⟩ := D0'
    have x0 : xs0.length ≤ 1 := by rw [dpAll_len al0]; exact len_due
    have x0' : xs0'.length ≤ 1 := by rw [dpAll_len al0']; exact len_due
    refine ⟨p0, p0', xs0, xs0', rfl, rfl, s4 _ _ hp0, hp0', Nat.le_of_lt (small1000 (by omega)), fun p1 hp1 => ?_⟩
    have s5 := same_put (o := HO.lst (xs0 ++ xs0')) hp1
    have D1 : DuesAt K _ _ (first3 dx dm) := dues_app (s4 _ _ hp0) (al0.same s4) hp0' al0' hp1
    have du : Du (first3 dx dm) := Du.first3 ax am
    have l1 := first_len (d := dx) (e := dm)
    have l3 : (first3 dx dm).length ≠ 3 := by omega
    have b5 : Bn K [(PS, qS), (PP, qR)] H (upd H4 p1 (HO.lst (xs0 ++ xs0'))) t vx vy dx dy (.ref p1) (first3 dx dm) := ⟨((S2.same s3).same s4).same s5, ((anx2.same s3).same s4).same s5, ((any2.same s3).same s4).same s5, D1⟩
    clear anx2 any2 S2
    generalize upd H4 p1 (HO.lst (xs0 ++ xs0')) = H5 at *
    have go : ∀ {G G' : Hp}, Bn K [(PS, qS), (PP, qR)] H G t vx vy dx dy (.ref p1) (first3 dx dm) → Stp [(PS, qS), (PP, qR)] G G' t → Bn K [(PS, qS), (PP, qR)] H G' t vx vy dx dy (.ref p1) (first3 dx dm) := fun b e => b.go ax.n3 ay.n3 du l3 e
    -- last
    refine or_dues rfl b5.d (ds' := last3 (fun n _ => n - 1) dx dm dk) (fun z => by unfold last3; rw [if_neg z]) (fun r2 H6 s6 D2 => ?_) (fun e0 H6 Q' s6 kq => ?_)
    rotate_left
    · obtain ⟨st, nm⟩ := first_nil e0
      obtain ⟨a, x, y, rfl, rfl, _⟩ := st_of b5.x st
      obtain ⟨n, rfl, rfl, n1, n2⟩ := num_at (anm H6) nm
      have ez : last3 (fun n _ => n - 1) (.tuple [.int x, .int y]) (.int n) dk = dueD "number" dk (isNum dk 0 (n - 1)) := by unfold last3; rw [if_pos e0]
      rw [ez] at kq
      exact ⟨_, rfl, _, rfl, _, rfl, _, _, rfl, rfl, vk, dk, 0, n - 1, rfl, ank _, "number", vk, dk, isNum dk 0 (n - 1), rfl, ank _, kq⟩
    obtain ⟨p2, xs2, rfl, hp2, al2⟩ := D2
    have b6 := go b5 (b5.here.same s6)
    have lK := last_len (lim := fun n _ => n - 1) (d := dx) (e := dm) (m := dk)
    have duL : Du (last3 (fun n _ => n - 1) dx dm dk) := last_du ak
    have duK := du.app duL
    have c6 : Bn K [(PS, qS), (PP, qR)] H H6 t vx vy dx dy (.ref p2) (last3 (fun n _ => n - 1) dx dm dk) := ⟨b6.s, b6.x, b6.y, p2, xs2, rfl, hp2, al2⟩
    have goL : ∀ {G G' : Hp}, Bn K [(PS, qS), (PP, qR)] H G t vx vy dx dy (.ref p2) (last3 (fun n _ => n - 1) dx dm dk) → Stp [(PS, qS), (PP, qR)] G G' t → Bn K [(PS, qS), (PP, qR)] H G' t vx vy dx dy (.ref p2) (last3 (fun n _ => n - 1) dx dm dk) := fun b e => b.go ax.n3 ay.n3 duL (by omega) e
    -- next_mark
    refine ⟨b6.s.tab, fun H7 e7 T7 => ?_⟩
    have b7 := go b6 (b6.here.ext e7 T7)
    have c7 := goL c6 (b6.here.ext e7 T7)
    intro E' Q' hE hQ
    refine ⟨_, rfl, _, rfl, _, rfl, try3 M.hS M.hN b7.x (anm _) (ank _) ax.gd hE hQ (fun f1 H8 s8 F1 => ?_)⟩
    have b8 := go b7 (b7.here.same s8)
    have c8 := goL c7 (b7.here.same s8)
    refine ⟨(by show 1 ≤ sizeLine; decide), fun l hl => ?_⟩
    have e9 := same_put (o := HO.lst [.ref f1]) hl
    have hl9 : upd H8 l (HO.lst [.ref f1]) l = some (.lst [.ref f1]) := upd_same
    have b9 := go b8 (b8.here.same e9)
    have B9 := b8.here.same e9
    generalize upd H8 l (HO.lst [.ref f1]) = H9 at *
    -- last_mark
    refine ⟨_, rfl, .inl ⟨rfl, _, SqL.of hl9⟩, b9.s.tab, fun H10 e10 T10 => ?_⟩
    have b10 := go b9 (b9.here.ext e10 T10)
    have B10 := B9.ext e10 T10
    intro E' Q' hE hQ
    refine ⟨_, rfl, _, rfl, _, rfl, try3 M.hS M.hN b10.x (anm _) (ank _) ax.gd hE hQ (fun f2 H11 s11 F2 => ?_)⟩
    have B11 := B10.same s11
    have hl11 := s11 _ _ (e10 _ _ hl9 (fun ps z => by cases z))
    refine ⟨l, [.ref f1], .ref f2, rfl, rfl, hl11, (by show 1 < sizeLine; decide), ?_⟩
    have B12 : Stp [(PS, qS), (PP, qR)] H8 (upd H11 l (.lst ([.ref f1] ++ [.ref f2]))) t := b8.here.put hl B11 hl11
    have b12 := go b8 B12
    have F2' := F2.put (o := .lst ([.ref f1] ++ [.ref f2])) hl11 duK
    have hl12 : upd H11 l (.lst ([.ref f1] ++ [.ref f2])) l = some (.lst [.ref f1, .ref f2]) := upd_same
    generalize upd H11 l (.lst ([.ref f1] ++ [.ref f2])) = H12 at *
    -- rank
    refine ⟨_, rfl, .inl ⟨rfl, _, SqL.of hl12⟩, b12.s.tab, fun H13 e13 T13 => ?_⟩
    have b13 := go b12 (b12.here.ext e13 T13)
    have B13 := B12.ext e13 T13
    have N13 := b12.here.ext e13 T13
    intro E' Q' hE hQ
    refine ⟨_, rfl, _, rfl, _, rfl, try3 M.hS M.hN b13.x (anm _) (ank _) ax.gd hE hQ (fun f3 H14 s14 F3 => ?_)⟩
    have B14 := B13.same s14
    have N14 := N13.same s14
    have hl14 := s14 _ _ (e13 _ _ hl12 (fun ps z => by cases z))
    refine ⟨l, [.ref f1, .ref f2], .ref f3, rfl, rfl, hl14, (by show 2 < sizeLine; decide), ?_⟩
    have B15 : Stp [(PS, qS), (PP, qR)] H8 (upd H14 l (.lst ([.ref f1, .ref f2] ++ [.ref f3]))) t := b8.here.put hl B14 hl14
    have b15 := go b8 B15
    have c15 := goL c8 B15
    have F1' := F1.stp b8.s.tin B15 duK
    have F2'' := (F2'.stp b12.s.tin N14 duK).put (o := .lst ([.ref f1, .ref f2] ++ [.ref f3])) hl14 duK
    have F3' := F3.put (o := .lst ([.ref f1, .ref f2] ++ [.ref f3])) hl14 duK
    have hl15 : upd H14 l (.lst ([.ref f1, .ref f2] ++ [.ref f3])) l = some (.lst ([f1, f2, f3].map V.ref)) := upd_same
    generalize upd H14 l (.lst ([.ref f1, .ref f2] ++ [.ref f3])) = H15 at *
    obtain ⟨_, ys1, e, hq1, ql1⟩ := b15.d
    cases e
    obtain ⟨_, ys2, e, hq2, ql2⟩ := c15.d
    cases e
    have y1 := dpAll_len ql1
    have y2 := dpAll_len ql2
    refine ⟨_, rfl, l, rfl, ⟨_, SqL.of hl15⟩, fun D hD => ?_⟩
    refine lc_ends hl15 (by show 3 ≤ 3; decide) (fun f hf => ?_) duK hD (fun _ => rfl) (fun _ => rfl) (fun a G R s k => ?_) (fun H16 s16 g16 => ?_)
    · rcases List.mem_cons.mp hf with rfl | hf
      · exact F1'
      · rcases List.mem_cons.mp hf with rfl | hf
        · exact F2''
        · rw [List.mem_singleton.mp hf]
          exact F3'
    · exact ⟨_, rfl, _, rfl, p1, p2, ys1, ys2, rfl, rfl, s _ _ hq1, s _ _ hq2, Nat.le_of_lt (small1000 (by omega)), fun p hp => k _ _ (same_put hp) (dues_app (s _ _ hq1) (ql1.same s) (s _ _ hq2) (ql2.same s) hp)⟩
    have b16 := go b15 (b15.here.same s16)
    refine ⟨D, List.replicate 3 true, rfl, SqL.of g16, ?_⟩
    rw [all_true]
    refine ⟨_, rfl, iteF ?_⟩
    clear F1 F1' F2 F2' F2'' F3 F3' c15 c8 c7 c6 goL
    -- last
    refine or_dues rfl b16.d (ds' := last3 (fun n b => min n b - 1) dx dm dk) (fun z => by unfold last3; rw [if_neg z]) (fun r3 H17 s17 D3 => ?_) (fun e0 H17 Q' s17 kq => ?_)
    rotate_left
    · obtain ⟨st, nm⟩ := first_nil e0
      obtain ⟨a, x, y, rfl, rfl, sta⟩ := st_of (b16.x.same s17) st
      obtain ⟨n, rfl, rfl, n1, n2⟩ := num_at (anm H17) nm
      have ez : last3 (fun n b => min n b - 1) (.tuple [.int x, .int y]) (.int n) dk = dueD "number" dk (isNum dk 0 (min n y - 1)) := by unfold last3; rw [if_pos e0]
      rw [ez] at kq
      refine ⟨_, rfl, _, rfl, _, rfl, _, rfl, a, _, 1, .int y, rfl, rfl, SqT.of sta.1, at_of (j := 1) rfl rfl, _, _, rfl, ?_⟩
      have e : (if y < n then y else n) = min n y := by rw [Int.min_def]; split <;> split <;> omega
      rw [e]
      exact ⟨_, _, rfl, rfl, vk, dk, 0, min n y - 1, rfl, ank _, "number", vk, dk, isNum dk 0 (min n y - 1), rfl, ank _, kq⟩
    have duM : Du (last3 (fun n b => min n b - 1) dx dm dk) := last_du ak
    have lM := last_len (lim := fun n b => min n b - 1) (d := dx) (e := dm) (m := dk)
    have b17 := go b16 (b16.here.same s17)
    -- mark_of
    refine ⟨b17.s.tab, fun H18 e18 T18 => ?_⟩
    have b18 := go b17 (b17.here.ext e18 T18)
    intro E' Q' hE hQ
    obtain ⟨p3, xs3, rfl, hp3', al3'⟩ := D3
    refine ⟨_, rfl, _, rfl, _, rfl, try3 M.hS M.hN b18.x (anm _) (ank _) ax.gd hE hQ (fun f4 H19 s19 F4 => ?_)⟩
    have b19 := go b18 (b18.here.same s19)
    obtain ⟨_, zs3, e, hp3, al3⟩ := DuesAt.stp b17.s.tin ((b17.here.ext e18 T18).same s19) duM (by omega) ⟨p3, xs3, rfl, hp3', al3'⟩
    cases e
    have x3 := dpAll_len al3
    obtain ⟨_, ys4, e, hq4, ql4⟩ := b19.d
    cases e
    have y4 := dpAll_len ql4
    refine ⟨_, rfl, _, rfl, p1, p3, ys4, zs3, rfl, rfl, hq4, hp3, Nat.le_of_lt (small1000 (by omega)), fun p hp => ?_⟩
    have s20 := same_put (o := HO.lst (ys4 ++ zs3)) hp
    refine ends_at (ends_ok (F4.stp b19.s.tin (b19.here.same s20) (du.app duM)) (dues_app hq4 ql4 hp3 al3 hp) (du.app duM) fun H21 s21 => ?_)
    have b21 := go b19 ((b19.here.same s20).same s21)
    refine ⟨_, rfl, iteF ?_⟩
    -- z
    refine ⟨_, rfl, (by show 2 ≤ sizeLine; decide), fun a1 h1 => ⟨(by show 2 ≤ sizeLine; decide), fun a2 h2 => ⟨(by show 2 ≤ sizeLine; decide), fun a3 h3 => ?_⟩⟩⟩
    have w1 := same_put (o := HO.tup [.int 1, .int 1]) h1
    have w2 := same_put (o := HO.tup [.int 1, .int 2]) h2
    have w3 := same_put (o := HO.tup [.int 0, .int 1]) h3
    have g1 : upd H21 a1 (HO.tup [.int 1, .int 1]) a1 = some (.tup [.int 1, .int 1]) := upd_same
    have g2 : upd (upd H21 a1 (HO.tup [.int 1, .int 1])) a2 (HO.tup [.int 1, .int 2]) a2 = some (.tup [.int 1, .int 2]) := upd_same
    have g3 : upd (upd (upd H21 a1 (HO.tup [.int 1, .int 1])) a2 (HO.tup [.int 1, .int 2])) a3 (HO.tup [.int 0, .int 1]) a3 = some (.tup [.int 0, .int 1]) := upd_same
    have g1 := w3 _ _ (w2 _ _ g1)
    have g2 := w3 _ _ g2
    have b22 := go b21 (((b21.here.same w1).same w2).same w3)
    generalize upd (upd (upd H21 a1 (HO.tup [.int 1, .int 1])) a2 (HO.tup [.int 1, .int 2])) a3 (HO.tup [.int 0, .int 1]) = H22 at *
    refine ⟨_, rfl, t, rfl, b22.s.tin, fun vo dO H23 hO anO s23 => ?_⟩
    have b23 := go b22 (b22.here.drawn s23)
    have N23 := b22.here.drawn s23
    refine ⟨(by show 4 ≤ sizeLine; decide), fun m3 hm3 => ?_⟩
    refine ⟨t, m3, _, rfl, (b23.here.same (same_put hm3)).tin, upd_same, b23.s.tin.not hm3, by show 0 < 4; decide, by show 4 ≤ 1000; decide, fun vz H24 hv s24 => ?_⟩
    have N24 := (b23.here.same (same_put hm3)).drawn s24
    have b24 := go b23 N24
    obtain ⟨dz, anz, az⟩ : ∃ dz, An K H24 vz dz ∧ Ar dz := by
      have N := N23.trans N24
      rcases List.mem_cons.mp hv with rfl | hv
      · exact ⟨_, an_stp b22.s.tin N (.tup g1 (.cons (.int 1) (.cons (.int 1) .nil))) ar11.n3, ar11⟩
      · rcases List.mem_cons.mp hv with rfl | hv
        · exact ⟨_, an_stp b22.s.tin N (.tup g2 (.cons (.int 1) (.cons (.int 2) .nil))) ar12.n3, ar12⟩
        · rcases List.mem_cons.mp hv with rfl | hv
          · exact ⟨_, an_stp b22.s.tin N (.tup g3 (.cons (.int 0) (.cons (.int 1) .nil))) ar01.n3, ar01⟩
          · rw [List.mem_singleton.mp hv]
            exact ⟨dO, an_stp b23.s.tin N24 anO (odds_ar dO hO).n3, odds_ar dO hO⟩
    -- arc
    refine ⟨_, rfl, _, rfl, vy, dy, rfl, b24.y, ay.gd.l60, "arc", vy, dy, isPt dy, rfl, b24.y, fun r5 H25 s25 D5 => ?_⟩
    have b25 := go b24 (b24.here.same s25)
    have anz := anz.same s25
    obtain ⟨p5, xs5, rfl, hp5, al5⟩ := D5
    refine ⟨_, rfl, or_dues rfl ⟨p5, xs5, rfl, hp5, al5⟩ (ds' := if dueD "arc" dy (isPt dy) = [] then dueD "arc" dz (isPt dz && lessD dy dz) else []) (fun z => if_neg z) (fun r6 H26 s26 D6 => ?_) (fun e0 H26 Q' s26 kq => ?_)⟩
    rotate_left
    · have py : isPt dy = true := by
        cases z : isPt dy with
        | true => rfl
        | false => rw [due_f z] at e0; cases e0
      rw [if_pos e0] at kq
      refine ⟨_, rfl, _, rfl, vz, dz, rfl, anz.same s26, az.gd.l60, _, rfl, ?_⟩
      cases pz : isPt dz with
      | false =>
        rw [pz, Bool.false_and] at kq
        exact iteF ⟨"arc", vz, dz, false, rfl, anz.same s26, kq⟩
      | true =>
        rw [pz, Bool.true_and] at kq
        obtain ⟨_, x, y, rfl, rfl, fy, _⟩ := pt_of (b25.y.same s26) py
        have frp : ∀ {d : PyData}, isPt d = true → isFr d = true := fun {d} e => by
          cases z : isFr d with
          | true => rfl
          | false => rw [isPt_fr z] at e; cases e
        exact iteT ⟨_, rfl, _, rfl, _, vz, _, dz, rfl, b25.y.same s26, anz.same s26, frp py, frp pz, ay.gd, az.gd, "arc", vz, dz, _, rfl, anz.same s26, kq⟩
    have b26 := go b25 (b25.here.same s26)
    obtain ⟨p6, xs6, rfl, hp6, al6⟩ := D6
    have x5 : xs5.length ≤ 1 := by rw [dpAll_len al5]; exact len_due
    have x6 : xs6.length ≤ 1 := by
      rw [dpAll_len al6]
      split
      · exact len_due
      · simp
    refine ⟨p5, p6, xs5, xs6, rfl, rfl, s26 _ _ hp5, hp6, Nat.le_of_lt (small1000 (by omega)), fun pa hpa => ?_⟩
    have s27 := same_put (o := HO.lst (xs5 ++ xs6)) hpa
    have Da : DuesAt K _ _ (arcs dy dz) := dues_app (s26 _ _ hp5) (al5.same s26) hp6 al6 hpa
    have b27 := go b26 (b26.here.same s27)
    have duA : Du (arcs dy dz) := arcs_du ay az
    have lA := arcs_len (p := dy) (q := dz)
    have d27 : Bn K [(PS, qS), (PP, qR)] H (upd H26 pa (HO.lst (xs5 ++ xs6))) t vx vz dx dz (.ref pa) (arcs dy dz) := ⟨b27.s, b27.x, (anz.same s26).same s27, Da⟩
    generalize upd H26 pa (HO.lst (xs5 ++ xs6)) = H27 at *
    have goA : ∀ {G G' : Hp}, Bn K [(PS, qS), (PP, qR)] H G t vx vz dx dz (.ref pa) (arcs dy dz) → Stp [(PS, qS), (PP, qR)] G G' t → Bn K [(PS, qS), (PP, qR)] H G' t vx vz dx dz (.ref pa) (arcs dy dz) := fun b e => b.go ax.n3 az.n3 duA (by omega) e
    -- how_many
    refine ⟨b27.s.tab, fun H28 e28 T28 => ?_⟩
    have b28 := go b27 (b27.here.ext e28 T28)
    have d28 := goA d27 (b27.here.ext e28 T28)
    intro E' Q' hE hQ
    refine ⟨_, rfl, _, rfl, _, rfl, _, rfl, try4 M.hS M.hN M.hA b28.x (anm _) b28.y d28.y ax.gd ay.gd az.gd hE hQ (fun f5 H29 s29 F5 => ?_)⟩
    have b29 := go b28 (b28.here.same s29)
    have d29 := goA d28 (b28.here.same s29)
    obtain ⟨_, ys7, e, hq7, ql7⟩ := b29.d
    cases e
    obtain ⟨_, ys8, e, hq8, ql8⟩ := d29.d
    cases e
    have y7 := dpAll_len ql7
    have y8 := dpAll_len ql8
    refine ⟨_, rfl, _, rfl, p1, pa, ys7, ys8, rfl, rfl, hq7, hq8, Nat.le_of_lt (small1000 (by omega)), fun p hp => ?_⟩
    have s30 := same_put (o := HO.lst (ys7 ++ ys8)) hp
    refine ends_at (ends_ok (F5.stp b29.s.tin (b29.here.same s30) (du.app duA)) (dues_app hq7 ql7 hq8 ql8 hp) (du.app duA) fun H31 s31 => ?_)
    have b31 := go b29 ((b29.here.same s30).same s31)
    have d31 := goA d29 ((b29.here.same s30).same s31)
    refine ⟨_, rfl, iteF ?_⟩
    -- alone
    refine ⟨_, rfl, _, rfl, vx, dx, rfl, b31.x, ax.gd.l60, "step", vx, dx, isSt dx, rfl, b31.x, fun r7 H32 s32 D7 => ?_⟩
    have b32 := go b31 (b31.here.same s32)
    have d32 := goA d31 (b31.here.same s32)
    obtain ⟨p7, xs7, rfl, hp7, al7⟩ := D7
    have x7 : xs7.length ≤ 1 := by rw [dpAll_len al7]; exact len_due
    obtain ⟨_, zs8, e, hz8, zl8⟩ := d32.d
    cases e
    have z8 := dpAll_len zl8
    refine ⟨_, rfl, p7, pa, xs7, zs8, rfl, rfl, hp7, hz8, Nat.le_of_lt (small1000 (by omega)), fun po hpo => ?_⟩
    have s33 := same_put (o := HO.lst (xs7 ++ zs8)) hpo
    have Do : DuesAt K _ _ (dueD "step" dx (isSt dx) ++ arcs dy dz) := dues_app hp7 al7 hz8 zl8 hpo
    have d33 := goA d32 (b32.here.same s33)
    have b33 := go b32 (b32.here.same s33)
    generalize upd H32 po (HO.lst (xs7 ++ zs8)) = H33 at *
    -- first_within
    refine ⟨b33.s.tab, fun H34 e34 T34 => ?_⟩
    have N34 := b33.here.ext e34 T34
    have b34 := go b33 N34
    have d34 := goA d33 N34
    intro E' Q' hE hQ
    refine ⟨_, rfl, _, rfl, _, rfl, try3w M.hS M.hA b34.x b34.y d34.y ax.gd ay.gd az.gd hE hQ (fun f6 H35 s35 F6 => ?_)⟩
    have b35 := go b34 (b34.here.same s35)
    have duO : Du (dueD "step" dx (isSt dx) ++ arcs dy dz) := (ax.du mS).app duA
    have Do' := Do.stp b33.s.tin (N34.same s35) duO (by rw [List.length_append]; have := len_due (wd := "step") (d := dx) (g := isSt dx); omega)
    refine ⟨_, rfl, ends_at (ends_ok F6 Do' duO fun H36 s36 => ?_)⟩
    exact q _ (b35.s.same s36)
end
end My
set_option Elab.async false
set_option linter.all false
set_option maxRecDepth 100000
set_option maxHeartbeats 16000000
set_option exponentiation.threshold 2000
namespace My
open PySem PySem.Spec PyProof.Rows L2 L2H Gn Mt
abbrev sRight : Stmt := top 79
theorem scRight : FnScope ["_law_tin_here", "_law_turn", "_law_x", "_law_y"] ["_law_tin_here"] (defScope sRight) := ⟨rfl, rfl, rfl, by decide +kernel, rfl, by decide +kernel, by decide +kernel⟩
abbrev sLaw : Stmt := top 80
theorem scLaw : FnScope ["_law_script", "_law_turn"] ["_law_script"] (defScope sLaw) := ⟨rfl, rfl, rfl, by decide +kernel, rfl, by decide +kernel, by decide +kernel⟩
theorem sm_wd : ∀ wd ∈ (["step", "number", "arc"] : List Str), Sm 3849 1 (.str wd) := by
  intro wd m
  rcases List.mem_cons.mp m with rfl | m
  · exact ⟨by decide +kernel, by decide +kernel, by decide +kernel, by decide +kernel⟩
  · rcases List.mem_cons.mp m with rfl | m
    · exact ⟨by decide +kernel, by decide +kernel, by decide +kernel, by decide +kernel⟩
    · rw [List.mem_singleton.mp m]
      exact ⟨by decide +kernel, by decide +kernel, by decide +kernel, by decide +kernel⟩
theorem ar_step {x y : Int} (st : IsStep x y) (h : y ≤ 10 ^ 30) : Ar (.tuple [.int x, .int y]) := by
  have x0 := st.x0
  have xy := st.xy
  have l : (10 : Int) ^ 30 < 2 ^ 100 := by decide
  have e : ((2 ^ 100 : Nat) : Int) = (2 : Int) ^ 100 := by decide
  have yb : y.natAbs < 2 ^ 100 := by omega
  have xb : x.natAbs < 2 ^ 100 := by omega
  have up : ∀ {z : Int}, z.natAbs < 2 ^ 100 → z.natAbs < 2 ^ 1000 := fun h => Nat.lt_of_lt_of_le h (Nat.pow_le_pow_right (by decide) (by decide))
  refine ⟨⟨fun t b z => by cases z; exact ⟨xb, yb⟩, fun p b z => by cases z; exact lt60_of yb⟩, rfl, fun wd m => ?_⟩
  have s1 : Sm 3849 1 (.tuple [.int x, .int y]) := Sm.ints (n := 2) (ns := [x, y]) (fun i hi => by
    rcases List.mem_cons.mp hi with rfl | hi
    · exact up xb
    · rw [List.mem_singleton.mp hi]; exact up yb) (Nat.le_refl _)
  have s2 := Sm.lst (n := 2) (ds := [.str wd, .tuple [.int x, .int y]]) (fun d hd => by
    rcases List.mem_cons.mp hd with rfl | hd
    · exact sm_wd wd m
    · rw [List.mem_singleton.mp hd]; exact s1) (Nat.le_refl _)
  exact ⟨s2.sh, Nat.lt_of_le_of_lt s2.dp (by decide), Nat.le_trans s2.ln (by decide)⟩
def spRight (T : List (Addr × Str)) : Sp := fun vs H Q _ => ∃ t, vs = [.ref t] ∧ Tin H t ∧ LamX.Tabs T H ∧ ∀ H', Stp T H H' t → Q (.bl true) H'
section
variable {P : Program} {w : World} {K : PySem.W.Frag} {mg : Str → Option Value} {base : Heap}
/-- the law's own functions that make lambdas -/
structure Lb (P : Program) (w : World) (K : PySem.W.Frag) (mg : Str → Option Value) (base : Heap) where
  la : La P w K mg base
  sr : Addr × FuncData
  rr : Addr × FuncData
  ds : Df K mg "_law_steps_right" sSteps ["_law_tin_here", "_law_x", "_law_y"] sr.1 sr.2
  dr : Df K mg "_law_ranks_right" sRanks ["_law_tin_here", "_law_x", "_law_y"] rr.1 rr.2
  cs : Addr
  cr : Addr
  PS : Addr
  PR : Addr
  es : sr.2.code = .ref cs
  er : rr.2.code = .ref cr
  ts : LamX.TabB base mg cs PS
  tr : LamX.TabB base mg cr PR
  ne : PS ≠ PR
theorem ok_right {f : Addr} {fd : FuncData} (F : Fun K "_law_right" "_law_right" sRight f fd) (M : Lb P w K mg base) : FnG P w K mg base CX0 11 f fd ["_law_tin_here"] (spRight [(M.PS, qS), (M.PR, qR)]) := by
  have GS : FnG P w K mg base CX0 10 M.sr.1 M.sr.2 ["_law_tin_here", "_law_x", "_law_y"] (spTwoR K [(M.PS, qS), (M.PR, qR)]) := ok_steps M.ds.F M.la M.es M.ts M.ne.symm
  have GR : FnG P w K mg base CX0 10 M.rr.1 M.rr.2 ["_law_tin_here", "_law_x", "_law_y"] (spTwoR K [(M.PS, qS), (M.PR, qR)]) := ok_ranks M.dr.F M.la M.er M.tr M.ne
  have LP : FnOk P w K mg base CX0 2 M.la.gp.1 M.la.gp.2 ["_law_tin_here", "_law_menu"] spPick := ok_pick M.la.lp.F M.la.b M.la.ls
  have LE : FnOk P w K mg base CX0 4 M.la.ge.1 M.la.ge.2 ["_law_tin_here", "_law_most"] spStep := ok_step M.la.le.F M.la.b M.la.ls M.la.lp M.la.lg M.la.lf M.la.ll
  have LO : FnOk P w K mg base CX0 2 M.la.ho.1 M.la.ho.2 ["_law_tin_here"] (spOdd K) := ok_odd M.la.lO.F M.la.b M.la.ls
  refine funG0 F scRight (fun vs H Q E h => ?_) (fun cdv A outer s H vs Q E hg hr h => ?_)
  · obtain ⟨t, rfl, _⟩ := h
    rfl
  · obtain ⟨t, rfl, T0, TT, q⟩ := h
    have hr2 : Room 2 _ := hr.mono (by decide)
    have hr4 : Room 4 _ := hr.mono (by decide)
    refine ⟨_, pss_cons (ps_for PassesOwn.never rfl (pi_range1 rfl M.la.range (pa_cons pe_int pa_nil)) (pg_name (i := 1) scRight.nd rfl (.inl rfl))
      (pss_cons (ps_set (i := 2) scRight.nd rfl (.inl rfl) (pe_call LP hr2 (by rfl) M.la.lp.g M.la.lp.F.kp M.la.lp.b .nil pass0 (pa_cons (pv 0) (pa_cons (pe_lst
          (pa_cons (pe_call LE hr4 (by rfl) M.la.le.g M.la.le.F.kp M.la.le.b .nil pass0 (pa_cons (pv 0) (pa_cons pe_int pa_nil)))
          (pa_cons (pe_call LE hr4 (by rfl) M.la.le.g M.la.le.F.kp M.la.le.b .nil pass0 (pa_cons (pv 0) (pa_cons (pe_op op_pow pe_int pe_int) pa_nil)))
          (pa_cons (pe_call LO hr2 (by rfl) M.la.lO.g M.la.lO.F.kp M.la.lO.b .nil pass0 (pa_cons (pv 0) pa_nil)) pa_nil)))) pa_nil))))
      (pss_cons (ps_set (i := 3) scRight.nd rfl (.inl rfl) (pe_call LP hr2 (by rfl) M.la.lp.g M.la.lp.F.kp M.la.lp.b .nil pass0 (pa_cons (pv 0) (pa_cons (pe_lst
          (pa_cons (pe_call LE hr4 (by rfl) M.la.le.g M.la.le.F.kp M.la.le.b .nil pass0 (pa_cons (pv 0) (pa_cons pe_int pa_nil)))
          (pa_cons (pe_tup (pa_cons pe_int (pa_cons pe_int pa_nil)))
          (pa_cons (pe_call LO hr2 (by rfl) M.la.lO.g M.la.lO.F.kp M.la.lO.b .nil pass0 (pa_cons (pv 0) pa_nil)) pa_nil)))) pa_nil))))
      (pss_one (ps_if (PW.pt (pw_or (pt_not (pt_val (pe_callG GS hg hr (by rfl) M.ds.g M.ds.F.kp M.ds.b .nil pass0 (pa_cons (pv 0) (pa_cons (pv 2) (pa_cons (pv 3) pa_nil))))))
        (pw_or1 (pt_not (pt_val (pe_callG GR hg hr (by rfl) M.dr.g M.dr.F.kp M.dr.b .nil pass0 (pa_cons (pv 0) (pa_cons (pv 2) (pa_cons (pv 3) pa_nil))))))))) (pss_one (ps_ret pe_bl)) pss_nil)))))
      (pss_one (ps_ret pe_bl)), ?_⟩
    refine ⟨7, rfl, by decide, by decide, for_range (lo := 0) (n := 7) (fun i σ H' => ∃ a b c, σ = [some (.ref t), a, b, c] ∧ Stp [(M.PS, qS), (M.PR, qR)] H H' t) ⟨none, none, none, rfl, Stp.refl T0 TT⟩ ?_ ?_⟩
    · rintro i σ H1 _ ⟨w1, w2, w3, rfl, S1⟩
      have h30 : ((10 : Int) ^ (30 : Int).toNat).natAbs < 2 ^ 100 := by decide
      -- x
      refine ⟨_, rfl, _, rfl, t, 9, rfl, S1.tin, by decide, by decide, fun x1 y1 q1 H2 st1 le1 s2 hq1 h1 => ?_⟩
      have S2 := S1.drawn s2
      refine ⟨_, rfl, _, _, rfl, rfl, ⟨by decide, by decide, by decide⟩, t, _, rfl, S2.tin, by decide, h30, fun x2 y2 q2 H3 st2 le2 s3 hq2 h2 => ?_⟩
      have S3 := S2.drawn s3
      refine ⟨_, rfl, t, rfl, S3.tin, fun vo dO H4 hO anO s4 => ?_⟩
      have S4 := S3.drawn s4
      refine ⟨(by show 3 ≤ sizeLine; decide), fun m hm => ?_⟩
      refine ⟨t, m, _, rfl, (S4.same (same_put hm)).tin, upd_same, S4.tin.not hm, by show 0 < 3; decide, by show 3 ≤ 1000; decide, fun vx H5 hv s5 => ?_⟩
      have N5 := ((Stp.refl S4.tin S4.tab).same (same_put hm)).drawn s5
      have N4 := ((Stp.refl S3.tin S3.tab).drawn s4).trans N5
      have N3 := ((Stp.refl S2.tin S2.tab).drawn s3).trans N4
      have S5 := S4.trans N5
      obtain ⟨dx, anx, ax⟩ : ∃ dx, An K H5 vx dx ∧ Ar dx := by
        rcases List.mem_cons.mp hv with rfl | hv
        · have a := ar_step st1 (Int.le_trans le1 (by decide))
          exact ⟨_, an_stp S2.tin N3 (.tup h1 (.cons (.int x1) (.cons (.int y1) .nil))) a.n3, a⟩
        · rcases List.mem_cons.mp hv with rfl | hv
          · have a := ar_step st2 le2
            exact ⟨_, an_stp S3.tin N4 (.tup h2 (.cons (.int x2) (.cons (.int y2) .nil))) a.n3, a⟩
          · rw [List.mem_singleton.mp hv]
            exact ⟨dO, an_stp S4.tin N5 anO (odds_ar dO hO).n3, odds_ar dO hO⟩
      clear hv N3 N4 N5
      -- y
      refine ⟨_, rfl, _, rfl, t, 9, rfl, S5.tin, by decide, by decide, fun x3 y3 q3 H6 st3 le3 s6 hq3 h3 => ?_⟩
      have S6 := S5.drawn s6
      refine ⟨(by show 2 ≤ sizeLine; decide), fun p0 hp0 => ?_⟩
      have e7 := same_put (o := HO.tup [.int 0, .int 1]) hp0
      have S7 := S6.same e7
      have N7 := (Stp.refl S6.tin S6.tab).same e7
      have g0 : upd H6 p0 (HO.tup [.int 0, .int 1]) p0 = some (.tup [.int 0, .int 1]) := upd_same
      generalize upd H6 p0 (HO.tup [.int 0, .int 1]) = H7 at *
      refine ⟨_, rfl, t, rfl, S7.tin, fun wo eO H8 hO2 anO2 s8 => ?_⟩
      have S8 := S7.drawn s8
      refine ⟨(by show 3 ≤ sizeLine; decide), fun m2 hm2 => ?_⟩
      refine ⟨t, m2, _, rfl, (S8.same (same_put hm2)).tin, upd_same, S8.tin.not hm2, by show 0 < 3; decide, by show 3 ≤ 1000; decide, fun vy H9 hv s9 => ?_⟩
      have N9 := ((Stp.refl S8.tin S8.tab).same (same_put hm2)).drawn s9
      have N8 := ((Stp.refl S7.tin S7.tab).drawn s8).trans N9
      have N6 := N7.trans N8
      have S9 := S8.trans N9
      have N5 := ((Stp.refl S5.tin S5.tab).drawn s6).trans N6
      obtain ⟨dy, any, ay⟩ : ∃ dy, An K H9 vy dy ∧ Ar dy := by
        rcases List.mem_cons.mp hv with rfl | hv
        · have a := ar_step st3 (Int.le_trans le3 (by decide))
          exact ⟨_, an_stp S6.tin N6 (.tup h3 (.cons (.int x3) (.cons (.int y3) .nil))) a.n3, a⟩
        · rcases List.mem_cons.mp hv with rfl | hv
          · exact ⟨_, an_stp S7.tin N8 (.tup g0 (.cons (.int 0) (.cons (.int 1) .nil))) ar01.n3, ar01⟩
          · rw [List.mem_singleton.mp hv]
            exact ⟨eO, an_stp S8.tin N9 anO2 (odds_ar eO hO2).n3, odds_ar eO hO2⟩
      have anx9 := an_stp S5.tin N5 anx ax.n3
      clear hv
      refine ⟨_, rfl, _, rfl, _, rfl, t, vx, vy, dx, dy, rfl, S9.tin, S9.tab, anx9, any, ax, ay, fun H10 S10 => ?_⟩
      refine ⟨_, rfl, iteF ⟨_, rfl, _, rfl, _, rfl, t, vx, vy, dx, dy, rfl, S10.tin, S10.tab, an_stp S9.tin S10 anx9 ax.n3, an_stp S9.tin S10 any ay.n3, ax, ay, fun H11 S11 => ?_⟩⟩
      exact ⟨_, rfl, iteF ⟨_, _, _, rfl, (S9.trans S10).trans S11⟩⟩
    · rintro σ H1 ⟨w1, w2, w3, rfl, S1⟩
      exact q _ S1
end
end My
set_option Elab.async false
set_option linter.all false
set_option maxRecDepth 100000
set_option maxHeartbeats 16000000
set_option exponentiation.threshold 2000
namespace My
open PySem PySem.Spec PyProof.Rows L2 L2H Gn Mt
theorem sqL_ext {K : PySem.W.Frag} {H H' : Hp} {a : Addr} {xs : List V} (h : SqL K H a xs) (e : LamX.ExtN H H') : SqL K H' a xs := by
  rcases h with (h | ⟨o, h⟩) | h
  · exact .inl (.inl (e _ _ h fun ps z => by cases z))
  · exact .inl (.inr ⟨o, e _ _ h fun ps z => by cases z⟩)
  · exact .inr h
def spLaw (K : PySem.W.Frag) (T : List (Addr × Str)) : Sp := fun vs H Q _ => ∃ (a : Addr) (ns : List Int), vs = [.ref a] ∧ SqL K H a (ns.map V.int) ∧ ns.length ≤ 63 ∧ LamX.Tabs T H ∧ ∀ H', Q (.bl true) H'
/-- what the law itself asks of the module -/
structure Lc (P : Program) (w : World) (K : PySem.W.Frag) (mg : Str → Option Value) (base : Heap) where
  lb : Lb P w K mg base
  max : mg "max" = none
  min : mg "min" = none
  gt : Addr × FuncData
  gr : Addr × FuncData
  lt : Df K mg "_law_tin" sTin ["_law_script", "_law_turn"] gt.1 gt.2
  dg : Df K mg "_law_right" sRight ["_law_tin_here"] gr.1 gr.2
section
variable {P : Program} {w : World} {K : PySem.W.Frag} {mg : Str → Option Value} {base : Heap}
theorem tabs_put {T : List (Addr × Str)} {G : Hp} {D : Addr} {xs : List V} {o : HO} (h : LamX.Tabs T G) (hD : G D = some (.lst xs)) : LamX.Tabs T (upd G D o) := fun p hp => by
  obtain ⟨ps, h1, h2, h3⟩ := h p hp
  have ne : p.1 ≠ D := fun z => by rw [z, hD] at h1; cases h1
  refine ⟨ps, by rw [upd_ne ne]; exact h1, h2, fun pos cv hc => ?_⟩
  obtain ⟨c0, e1, e2⟩ := h3 pos cv hc
  have ne2 : c0 ≠ D := fun z => by rw [z, hD] at e2; unfold LamX.CodeO at e2; cases e2
  exact ⟨c0, e1, by rw [upd_ne ne2]; exact e2⟩
theorem ok_law {f : Addr} {fd : FuncData} (F : Fun K "law" "law" sLaw f fd) (M : Lc P w K mg base) : FnG P w K mg base CX0 12 f fd ["_law_script"] (spLaw K [(M.lb.PS, qS), (M.lb.PR, qR)]) := by
  have LT : FnOk P w K mg base CX0 1 M.gt.1 M.gt.2 ["_law_script", "_law_turn"] (spTin K) := ok_tin M.lt.F M.lb.la.b
  have GR : FnG P w K mg base CX0 11 M.gr.1 M.gr.2 ["_law_tin_here"] (spRight [(M.lb.PS, qS), (M.lb.PR, qR)]) := ok_right M.dg.F M.lb
  refine funG0 F scLaw (fun vs H Q E h => ?_) (fun cdv A outer s H vs Q E hg hr h => ?_)
  · obtain ⟨a, ns, rfl, _⟩ := h
    rfl
  · obtain ⟨a, ns, rfl, hS, hlen, hT, q⟩ := h
    have hr1 : Room 1 _ := hr.mono (by decide)
    refine ⟨_, pss_one (ps_ret (pe_callB (cr_all rfl) (by rfl) M.lb.la.all (by decide +kernel) (pa_cons
        (pe_lc (te := tCall (spRight [(M.lb.PS, qS), (M.lb.PR, qR)]) [] E0 (tCons (tCall (spTin K) [] E0 (tCons (tVar 0) (tCons (tVar 1) tNil))) tNil)) (own := [("_law_turn", 1)]) (g := gName 1) (tt := tYes) rfl scLaw.nd
          (pi_range1 rfl M.lb.la.range (pa_cons (pe_callB (call_max2 rfl) (by rfl) M.max (by decide +kernel) (pa_cons pe_int (pa_cons (pe_callB (call_min2 rfl) (by rfl) M.min (by decide +kernel) (pa_cons (pe_callB call_len_seq (by rfl) M.lb.la.b.len PySem.boot_len (pa_cons (pv 0) pa_nil)) (pa_cons pe_int pa_nil))) pa_nil))) pa_nil))
          (blkOk_by (N := ["_law_script", "_law_turn"]) (sc := defScope sLaw) (by decide +kernel)) (fun _ _ _ _ _ => pg_name (i := 1) scLaw.nd rfl (.inl rfl)) (fun _ _ _ _ _ => pts_nil)
          (fun _ _ _ _ _ => pe_callG GR hg hr (by rfl) M.dg.g M.dg.F.kp M.dg.b .nil pass0 (pa_cons (pe_call LT hr1 (by rfl) M.lt.g M.lt.F.kp M.lt.b .nil pass0 (pa_cons (pv 0) (pa_cons (pv 1) pa_nil))) pa_nil))) pa_nil))), ?_⟩
    refine ⟨_, rfl, a, _, rfl, .inl hS, _, _, rfl, _, _, rfl, ?_⟩
    have hN : ∀ L : Int, 0 ≤ (if (if (6 : Int) < L then 6 else L) > 2 then (if (6 : Int) < L then 6 else L) else 2) ∧ (if (if (6 : Int) < L then 6 else L) > 2 then (if (6 : Int) < L then 6 else L) else 2) ≤ 6 := fun L => by
      split <;> split <;> omega
    have hN' := hN (((ns.map V.int).length : Nat) : Int)
    generalize (if (if (6 : Int) < (((ns.map V.int).length : Nat) : Int) then 6 else (((ns.map V.int).length : Nat) : Int)) > 2 then (if (6 : Int) < (((ns.map V.int).length : Nat) : Int) then 6 else (((ns.map V.int).length : Nat) : Int)) else 2) = N at hN' ⊢
    refine ⟨N, rfl, by omega, by omega, fun D hD => ?_⟩
    have s0 := same_put (o := HO.lst []) hD
    refine lc_range (lo := 0) (n := N.toNat) (fun i H2 => H2 D = some (.lst ((List.replicate i true).map V.bl)) ∧ LamX.ExtN H H2 ∧ LamX.Tabs [(M.lb.PS, qS), (M.lb.PR, qR)] H2) ⟨upd_same, LamX.ExtN.of s0, fun p hp => (hT p hp).ext s0⟩ ?_ ?_
    · rintro i H2 hi ⟨g1, g2, g3⟩
      rw [Int.zero_add]
      refine ⟨rfl, _, rfl, _, rfl, a, ns, _, rfl, sqL_ext hS g2, by omega, by omega, fun p H3 s3 hp T => ⟨p, rfl, T, fun q hq => (g3 q hq).ext s3, fun H4 S4 => ?_⟩⟩
      have nDp : D ≠ p := ne_of_none g1 hp
      have dl := S4.keep _ _ (s3 _ _ g1) nDp (fun ps z => by cases z)
      refine ⟨_, dl, ?_, ?_, fun b z e n => ?_, tabs_put S4.tab dl⟩
      · rw [List.length_map, List.length_replicate]
        exact small1000 (by omega)
      · rw [upd_same, List.replicate_succ', List.map_append]; rfl
      · rw [upd_ne (ne_of_none e hD)]
        have z2 := g2 _ _ e n
        exact S4.keep _ _ (s3 _ _ z2) (ne_of_none z2 hp) n
    · rintro H2 ⟨g1, g2, g3⟩
      refine ⟨D, List.replicate N.toNat true, rfl, SqL.of g1, ?_⟩
      rw [all_true]
      exact q _
end
end My
set_option Elab.async false
set_option linter.all false
set_option maxRecDepth 100000
set_option maxHeartbeats 8000000
namespace My
open PySem PySem.Spec PyProof.Rows L2 Gn Mt
/-- the first statement of a class -/
def inn : Stmt → Stmt
  | .ClassDef _ _ _ (s :: _) _ _ _ _ _ _ _ => s
  | s => s
/-- what the written part says of a class, its __init__ at f -/
structure CK (K : PySem.W.Frag) (nm : Str) (fl : List Str) (C R f : Addr) (fd : FuncData) (st : Stmt) (qi : Str) : Prop where
  g : PySem.W.nsIn K mainGlobals nm = some (some (.ref C))
  own : OwC K C
  ini : PySem.W.findIn K (.ref C) "__init__" = some (some (.ref f))
  ty : PySem.W.typeIn K (.ref f) = some (.type "function")
  xf : XfC K C
  ex : ExcC K C
  no : ∀ n ∈ fl, PySem.W.findIn K (.ref C) n = some none
  F : Fun K "__init__" qi st f fd
/-- what all of them share -/
structure Glob (K : PySem.W.Frag) : Prop where
  hn : PySem.W.specialIn K (.builtin "object.__class__") "__get__" = some (some (.builtin "getset_descriptor.__get__"))
  ht : PySem.W.takesIn K (.builtin "object.__class__") = some true
theorem ck_mk {K : PySem.W.Frag} {nm : Str} {fl : List Str} {C R f N : Addr} {st : Stmt} {qi : Str} {B nw it : String} {tl : List Value} {cn q : Str} {bs : List Value} {sn : List Str} {sub : List Value} {ab : Bool} {col : Option Bool} {dd : Option Addr} {k0 k1 k2 k3 k5 : Option Value}
    {od an : Option Addr} {sl : Array (Option Value)} {oc kV dc pm cd ct : Value} (G : Glob K) (T : Bas B nw it tl)
    (g : PySem.W.nsIn K mainGlobals nm = some (some (.ref C))) (xL : K.lookup C = some (excClassObj cn q C N bs (.ref R :: tl) true sn sub ab col dd k0 k1 k2 k3 k5 nw))
    (sa : PySem.W.findIn K (.ref C) "__setattr__" = some (some (.builtin "object.__setattr__"))) (ga : PySem.W.findIn K (.ref C) "__getattribute__" = some (some (.builtin "BaseException.__getattribute__"))) (gg : PySem.W.findIn K (.ref C) "__getattr__" = some none)
    (gc : PySem.W.findIn K (.ref C) "__class__" = some (some (.builtin "object.__class__")))
    (i : PySem.W.findIn K (.ref C) "__init__" = some (some (.ref f))) (ty : PySem.W.typeIn K (.ref f) = some (.type "function"))
    (l : K.lookup f = some ⟨oc, od, .func (PySem.W.fnOf "__init__" qi (defArgs st) (defBody st) (defScope st) .none kV dc pm an cd ct), sl⟩) (c : PySem.W.codeIn K cd qi = true) (kf : PySem.W.keepIn K (.ref f) = true)
    (kC : PySem.W.keepIn K (.ref C) = true) (eC : PySem.W.subIn K (.ref C) (.type "BaseException") = some true) (tC : PySem.W.typeIn K (.ref C) = some (.type "type")) (hC : PySem.W.hasDictIn K C = true) (mC : PySem.W.mroIn K C (.type "object") = some true)
    (no : ∀ n ∈ fl, PySem.W.findIn K (.ref C) n = some none) :
    CK K nm fl C R f (PySem.W.fnOf "__init__" qi (defArgs st) (defBody st) (defScope st) .none kV dc pm an cd ct) st qi :=
  ⟨g, ⟨⟨cn, q, N, bs, .ref R :: tl, sn, sub, ab, col, dd, k0, k1, k2, k3, k5, B, nw, it, tl, xL, .own .base, T⟩, sa, eC, tC, kC⟩, i, ty, ⟨ga, gg, eC, hC⟩, ⟨ga, gg, eC, hC, gc, G.hn, G.ht, mC⟩, no, fun_mk l c kf⟩
structure Kit (K : PySem.W.Frag) (R0 R1 R2 C : Addr) (b0 b1 b2 : Bool) : Prop where
  o0 : PySem.W.kitOne K (.ref C) (.ref R0) = some b0
  o1 : PySem.W.kitOne K (.ref C) (.ref R1) = some b1
  o2 : PySem.W.kitOne K (.ref C) (.ref R2) = some b2
  t0 : PySem.W.kitOne K (.ref C) (.type "ValueError") = some b0
  t1 : PySem.W.kitOne K (.ref C) (.type "LookupError") = some b1
  t2 : PySem.W.kitOne K (.ref C) (.type "ArithmeticError") = some b2
/-- the three roots -/
structure Rt (K : PySem.W.Frag) (R : Addr) : Prop where
  i : PySem.W.isClsIn K R = true
  t : PySem.W.typeIn K (.ref R) = some (.type "type")
  e : PySem.W.subIn K (.ref R) (.type "BaseException") = some true
theorem Rt.cls {K : PySem.W.Frag} {R : Addr} (T : Rt K R) {t : Value} {b : Bool} (s : PySem.W.subIn K t (.ref R) = some b) : PySem.W.kitCls K t (.ref R) = some b := by
  have h2' : (PySem.W.clsIn K R).isSome = true := T.i
  have e2 : ((PySem.W.clsIn K R).isSome && PySem.W.typeIn K (.ref R) == some (.type "type")) = true := by
    rw [h2', T.t] <;> rfl
  show (if ((PySem.W.clsIn K R).isSome && PySem.W.typeIn K (.ref R) == some (.type "type")) = true then PySem.W.subIn K t (.ref R) else none) = some b
  rw [if_pos e2]
  exact s
theorem Rt.exm {K : PySem.W.Frag} {R : Addr} (T : Rt K R) {t : Value} {b : Bool} (s : PySem.W.subIn K t (.ref R) = some b) : PySem.W.exmOne K t (.ref R) = some b := by
  have e1 : (PySem.W.subIn K (.ref R) (.type "BaseException") == some true) = true := by rw [T.e] <;> rfl
  unfold PySem.W.exmOne
  rw [if_pos e1]
  exact T.cls s
theorem Rt.one {K : PySem.W.Frag} {R : Addr} (T : Rt K R) {t : Value} {b : Bool} (n : (t == Value.ref R) = false) (s : PySem.W.subIn K t (.ref R) = some b) : PySem.W.kitOne K t (.ref R) = some b := by
  unfold PySem.W.kitOne
  rw [if_neg (by rw [n]; decide)]
  exact T.cls s
theorem one_ty {K : PySem.W.Frag} {C : Addr} {T : String} {b : Bool} (m : PySem.W.kitMeta T = true) (s : PySem.W.subIn K (.ref C) (.type T) = some b) : PySem.W.kitOne K (.ref C) (.type T) = some b := by
  unfold PySem.W.kitOne
  rw [if_neg (by intro z; cases z)]
  show (if PySem.W.kitMeta T = true then PySem.W.subIn K (.ref C) (.type T) else none) = some b
  rw [if_pos m]
  exact s
theorem kit_mk {K : PySem.W.Frag} {R0 R1 R2 C : Addr} {b0 b1 b2 : Bool} (T0 : Rt K R0) (T1 : Rt K R1) (T2 : Rt K R2) (n0 : (Value.ref C == Value.ref R0) = false) (n1 : (Value.ref C == Value.ref R1) = false) (n2 : (Value.ref C == Value.ref R2) = false)
    (s0 : PySem.W.subIn K (.ref C) (.ref R0) = some b0) (s1 : PySem.W.subIn K (.ref C) (.ref R1) = some b1) (s2 : PySem.W.subIn K (.ref C) (.ref R2) = some b2)
    (u0 : PySem.W.subIn K (.ref C) (.type "ValueError") = some b0) (u1 : PySem.W.subIn K (.ref C) (.type "LookupError") = some b1) (u2 : PySem.W.subIn K (.ref C) (.type "ArithmeticError") = some b2) : Kit K R0 R1 R2 C b0 b1 b2 :=
  ⟨T0.one n0 s0, T1.one n1 s1, T2.one n2 s2, one_ty (by decide +kernel) u0, one_ty (by decide +kernel) u1, one_ty (by decide +kernel) u2⟩
variable {P : Program} {w : World} {K : PySem.W.Frag} {mg : Str → Option Value} {base : Heap}
theorem cl1 {C R f : Addr} {fd : FuncData} {h : Heap} (X : K.In h) (G : h.Ns mainGlobals mg) (T : CK K "InvalidNumber" ["given"] C R f fd (inn (top 4)) "InvalidNumber.__init__") : OwE P w K mg base "InvalidNumber" ["given"] C f fd := by
  have S : FnScope ["self", "given"] ["self", "given"] (defScope (inn (top 4))) := ⟨rfl, rfl, rfl, by decide +kernel, rfl, by decide +kernel, by decide +kernel⟩
  exact ⟨T.own, T.ini, T.ty, T.xf, T.ex, T.no, PySem.W.mg_of X G T.g, ini1 T.F S rfl (Or.inl rfl) (Or.inl rfl) (by decide) (by decide), T.F.binds fun _ _ _ _ _ _ us hl => match us, hl with | [_, _], _ => rfl⟩
theorem cl2 {C R f : Addr} {fd : FuncData} {h : Heap} (X : K.In h) (G : h.Ns mainGlobals mg) (T : CK K "InvalidStep" ["given"] C R f fd (inn (top 6)) "InvalidStep.__init__") : OwE P w K mg base "InvalidStep" ["given"] C f fd := by
  have S : FnScope ["self", "given"] ["self", "given"] (defScope (inn (top 6))) := ⟨rfl, rfl, rfl, by decide +kernel, rfl, by decide +kernel, by decide +kernel⟩
  exact ⟨T.own, T.ini, T.ty, T.xf, T.ex, T.no, PySem.W.mg_of X G T.g, ini1 T.F S rfl (Or.inl rfl) (Or.inl rfl) (by decide) (by decide), T.F.binds fun _ _ _ _ _ _ us hl => match us, hl with | [_, _], _ => rfl⟩
theorem cl3 {C R f : Addr} {fd : FuncData} {h : Heap} (X : K.In h) (G : h.Ns mainGlobals mg) (T : CK K "InvalidArc" ["given"] C R f fd (inn (top 7)) "InvalidArc.__init__") : OwE P w K mg base "InvalidArc" ["given"] C f fd := by
  have S : FnScope ["self", "given"] ["self", "given"] (defScope (inn (top 7))) := ⟨rfl, rfl, rfl, by decide +kernel, rfl, by decide +kernel, by decide +kernel⟩
  exact ⟨T.own, T.ini, T.ty, T.xf, T.ex, T.no, PySem.W.mg_of X G T.g, ini1 T.F S rfl (Or.inl rfl) (Or.inl rfl) (by decide) (by decide), T.F.binds fun _ _ _ _ _ _ us hl => match us, hl with | [_, _], _ => rfl⟩
theorem ma_of {t c0 c1 c2 : Value} {b0 b1 b2 : Bool} (e0 : PySem.W.exmOne K t c0 = some b0) (e1 : PySem.W.exmOne K t c1 = some b1) (e2 : PySem.W.exmOne K t c2 = some b2) : PySem.W.exmAny K t [c0, c1, c2] = some (b0 || (b1 || (b2 || false))) := by
  simp only [PySem.W.exmAny, e0, e1, e2]
theorem tab_mk {x : Str} {f c P : Addr} {od d2 : Option Addr} {oc c2 : Value} {fd : FuncData} {sl s2 : Array (Option Value)} {vs : Array Value} (a : PySem.W.nsIn K mainGlobals x = some (some (.ref f))) (l : K.lookup f = some ⟨oc, od, .func fd, sl⟩) (e : fd.code = .ref c)
    (k : K.lookup c = some ⟨c2, d2, .fields vs, s2⟩) (v : vs[11]? = some (.ref P)) : PySem.W.tabIn K x = some (c, P) := by
  unfold PySem.W.tabIn
  simp only [a, l, e, k, v]
theorem one_self {C : Addr} : PySem.W.kitOne K (.ref C) (.ref C) = some true := by
  unfold PySem.W.kitOne
  rw [if_pos (by simp)]
theorem is2 {α : Type} {x a b : α} (h : x ∈ [a, b]) : x = a ∨ x = b := by simpa using h
theorem all_mk {l : PySem.W.OpenLaw} {q : Program} {w : World} {K : PySem.W.Frag} {h : Heap} {mg : Str → Option Value} {fa : Addr} {er0 : DefRec} {er1 : DefRec} (tabs : ∀ (y : Str) (e : DefRec) (c P : Addr), (recsOf q).find? (fun r => r.name == y) = some e → PySem.W.tabIn K y = some (c, P) → PySem.W.CodeHd h c P ∧ h.get? P = some tabO)
    (tr0 : (recsOf q).find? (fun r => r.name == ("_law_steps_right" : Str)) = some er0)
    (tr1 : (recsOf q).find? (fun r => r.name == ("_law_ranks_right" : Str)) = some er1)
    (X : K.In h) (G : h.Ns mainGlobals mg) (hfa : mg "law" = some (.ref fa))
    {R0 R1 R2 : Addr} {cc0 PP0 : Addr} {cc1 PP1 : Addr} {C0 : Addr} {C1 : Addr} {C2 : Addr} {C3 : Addr} {C4 : Addr} {C5 : Addr} {C6 : Addr} {C7 : Addr} {C8 : Addr} {C9 : Addr} {C10 : Addr} {C11 : Addr} {C12 : Addr} {eN1 : Addr} {kv1 dv1 pv1 cv1 tv1 : Value} {av1 : Option Addr} {eN2 : Addr} {kv2 dv2 pv2 cv2 tv2 : Value} {av2 : Option Addr} {eN3 : Addr} {kv3 dv3 pv3 cv3 tv3 : Value} {av3 : Option Addr}
    {f0 : Addr} {od0 an0 : Option Addr} {sl0 : Array (Option Value)} {oc0 kV0 dc0 pm0 cd0 ct0 : Value} {f1 : Addr} {od1 an1 : Option Addr} {sl1 : Array (Option Value)} {oc1 kV1 dc1 pm1 cd1 ct1 : Value} {f2 : Addr} {od2 an2 : Option Addr} {sl2 : Array (Option Value)} {oc2 kV2 dc2 pm2 cd2 ct2 : Value} {f3 : Addr} {od3 an3 : Option Addr} {sl3 : Array (Option Value)} {oc3 kV3 dc3 pm3 cd3 ct3 : Value} {f4 : Addr} {od4 an4 : Option Addr} {sl4 : Array (Option Value)} {oc4 kV4 dc4 pm4 cd4 ct4 : Value} {f5 : Addr} {od5 an5 : Option Addr} {sl5 : Array (Option Value)} {oc5 kV5 dc5 pm5 cd5 ct5 : Value} {f6 : Addr} {od6 an6 : Option Addr} {sl6 : Array (Option Value)} {oc6 kV6 dc6 pm6 cd6 ct6 : Value} {f7 : Addr} {od7 an7 : Option Addr} {sl7 : Array (Option Value)} {oc7 kV7 dc7 pm7 cd7 ct7 : Value} {f8 : Addr} {od8 an8 : Option Addr} {sl8 : Array (Option Value)} {oc8 kV8 dc8 pm8 cd8 ct8 : Value} {f9 : Addr} {od9 an9 : Option Addr} {sl9 : Array (Option Value)} {oc9 kV9 dc9 pm9 cd9 ct9 : Value} {f10 : Addr} {od10 an10 : Option Addr} {sl10 : Array (Option Value)} {oc10 kV10 dc10 pm10 cd10 ct10 : Value} {f11 : Addr} {od11 an11 : Option Addr} {sl11 : Array (Option Value)} {oc11 kV11 dc11 pm11 cd11 ct11 : Value} {f12 : Addr} {od12 an12 : Option Addr} {sl12 : Array (Option Value)} {oc12 kV12 dc12 pm12 cd12 ct12 : Value} {f13 : Addr} {od13 an13 : Option Addr} {sl13 : Array (Option Value)} {oc13 kV13 dc13 pm13 cd13 ct13 : Value} {f14 : Addr} {od14 an14 : Option Addr} {sl14 : Array (Option Value)} {oc14 kV14 dc14 pm14 cd14 ct14 : Value} {f15 : Addr} {od15 an15 : Option Addr} {sl15 : Array (Option Value)} {oc15 kV15 dc15 pm15 cd15 ct15 : Value} {f16 : Addr} {od16 an16 : Option Addr} {sl16 : Array (Option Value)} {oc16 kV16 dc16 pm16 cd16 ct16 : Value} {f17 : Addr} {od17 an17 : Option Addr} {sl17 : Array (Option Value)} {oc17 kV17 dc17 pm17 cd17 ct17 : Value} {f18 : Addr} {od18 an18 : Option Addr} {sl18 : Array (Option Value)} {oc18 kV18 dc18 pm18 cd18 ct18 : Value} {f19 : Addr} {od19 an19 : Option Addr} {sl19 : Array (Option Value)} {oc19 kV19 dc19 pm19 cd19 ct19 : Value} {f20 : Addr} {od20 an20 : Option Addr} {sl20 : Array (Option Value)} {oc20 kV20 dc20 pm20 cd20 ct20 : Value} {f21 : Addr} {od21 an21 : Option Addr} {sl21 : Array (Option Value)} {oc21 kV21 dc21 pm21 cd21 ct21 : Value} {f22 : Addr} {od22 an22 : Option Addr} {sl22 : Array (Option Value)} {oc22 kV22 dc22 pm22 cd22 ct22 : Value} {f23 : Addr} {od23 an23 : Option Addr} {sl23 : Array (Option Value)} {oc23 kV23 dc23 pm23 cd23 ct23 : Value} {f24 : Addr} {od24 an24 : Option Addr} {sl24 : Array (Option Value)} {oc24 kV24 dc24 pm24 cd24 ct24 : Value} {f25 : Addr} {od25 an25 : Option Addr} {sl25 : Array (Option Value)} {oc25 kV25 dc25 pm25 cd25 ct25 : Value} {f26 : Addr} {od26 an26 : Option Addr} {sl26 : Array (Option Value)} {oc26 kV26 dc26 pm26 cd26 ct26 : Value} {f27 : Addr} {od27 an27 : Option Addr} {sl27 : Array (Option Value)} {oc27 kV27 dc27 pm27 cd27 ct27 : Value} {f28 : Addr} {od28 an28 : Option Addr} {sl28 : Array (Option Value)} {oc28 kV28 dc28 pm28 cd28 ct28 : Value} {f29 : Addr} {od29 an29 : Option Addr} {sl29 : Array (Option Value)} {oc29 kV29 dc29 pm29 cd29 ct29 : Value} {f30 : Addr} {od30 an30 : Option Addr} {sl30 : Array (Option Value)} {oc30 kV30 dc30 pm30 cd30 ct30 : Value} {f31 : Addr} {od31 an31 : Option Addr} {sl31 : Array (Option Value)} {oc31 kV31 dc31 pm31 cd31 ct31 : Value} {f32 : Addr} {od32 an32 : Option Addr} {sl32 : Array (Option Value)} {oc32 kV32 dc32 pm32 cd32 ct32 : Value} {f33 : Addr} {od33 an33 : Option Addr} {sl33 : Array (Option Value)} {oc33 kV33 dc33 pm33 cd33 ct33 : Value} {f34 : Addr} {od34 an34 : Option Addr} {sl34 : Array (Option Value)} {oc34 kV34 dc34 pm34 cd34 ct34 : Value} {f35 : Addr} {od35 an35 : Option Addr} {sl35 : Array (Option Value)} {oc35 kV35 dc35 pm35 cd35 ct35 : Value} {f36 : Addr} {od36 an36 : Option Addr} {sl36 : Array (Option Value)} {oc36 kV36 dc36 pm36 cd36 ct36 : Value} {f37 : Addr} {od37 an37 : Option Addr} {sl37 : Array (Option Value)} {oc37 kV37 dc37 pm37 cd37 ct37 : Value} {f38 : Addr} {od38 an38 : Option Addr} {sl38 : Array (Option Value)} {oc38 kV38 dc38 pm38 cd38 ct38 : Value} {f39 : Addr} {od39 an39 : Option Addr} {sl39 : Array (Option Value)} {oc39 kV39 dc39 pm39 cd39 ct39 : Value} {f40 : Addr} {od40 an40 : Option Addr} {sl40 : Array (Option Value)} {oc40 kV40 dc40 pm40 cd40 ct40 : Value} {f41 : Addr} {od41 an41 : Option Addr} {sl41 : Array (Option Value)} {oc41 kV41 dc41 pm41 cd41 ct41 : Value} {f42 : Addr} {od42 an42 : Option Addr} {sl42 : Array (Option Value)} {oc42 kV42 dc42 pm42 cd42 ct42 : Value} {f43 : Addr} {od43 an43 : Option Addr} {sl43 : Array (Option Value)} {oc43 kV43 dc43 pm43 cd43 ct43 : Value} {f44 : Addr} {od44 an44 : Option Addr} {sl44 : Array (Option Value)} {oc44 kV44 dc44 pm44 cd44 ct44 : Value} {f45 : Addr} {od45 an45 : Option Addr} {sl45 : Array (Option Value)} {oc45 kV45 dc45 pm45 cd45 ct45 : Value} {f46 : Addr} {od46 an46 : Option Addr} {sl46 : Array (Option Value)} {oc46 kV46 dc46 pm46 cd46 ct46 : Value} {f47 : Addr} {od47 an47 : Option Addr} {sl47 : Array (Option Value)} {oc47 kV47 dc47 pm47 cd47 ct47 : Value} {f48 : Addr} {od48 an48 : Option Addr} {sl48 : Array (Option Value)} {oc48 kV48 dc48 pm48 cd48 ct48 : Value} {f49 : Addr} {od49 an49 : Option Addr} {sl49 : Array (Option Value)} {oc49 kV49 dc49 pm49 cd49 ct49 : Value} {f50 : Addr} {od50 an50 : Option Addr} {sl50 : Array (Option Value)} {oc50 kV50 dc50 pm50 cd50 ct50 : Value} {f51 : Addr} {od51 an51 : Option Addr} {sl51 : Array (Option Value)} {oc51 kV51 dc51 pm51 cd51 ct51 : Value} {f52 : Addr} {od52 an52 : Option Addr} {sl52 : Array (Option Value)} {oc52 kV52 dc52 pm52 cd52 ct52 : Value} {f53 : Addr} {od53 an53 : Option Addr} {sl53 : Array (Option Value)} {oc53 kV53 dc53 pm53 ct53 : Value} {f54 : Addr} {od54 an54 : Option Addr} {sl54 : Array (Option Value)} {oc54 kV54 dc54 pm54 ct54 : Value} {f55 : Addr} {od55 an55 : Option Addr} {sl55 : Array (Option Value)} {oc55 kV55 dc55 pm55 cd55 ct55 : Value} {f56 : Addr} {od56 an56 : Option Addr} {sl56 : Array (Option Value)} {oc56 kV56 dc56 pm56 cd56 ct56 : Value} {tk1 tk2 : Tok}
    (tb0 : PySem.W.tabIn K "_law_steps_right" = some (cc0, PP0)) (tn0 : K.lookup PP0 = none)
    (tb1 : PySem.W.tabIn K "_law_ranks_right" = some (cc1, PP1)) (tn1 : K.lookup PP1 = none)
    (npp : PP0 ≠ PP1)
    (r0 : PySem.W.nsIn K mainGlobals "NotRight" = some (some (.ref R0)))
    (r1 : PySem.W.nsIn K mainGlobals "NotKnown" = some (some (.ref R1)))
    (r2 : PySem.W.nsIn K mainGlobals "NotPossible" = some (some (.ref R2)))
    (g0 : PySem.W.nsIn K mainGlobals "InvalidText" = some (some (.ref C0)))
    (o1_0 : PySem.W.kitOne K (.ref C1) (.ref C0) = some false)
    (o2_0 : PySem.W.kitOne K (.ref C2) (.ref C0) = some false)
    (o3_0 : PySem.W.kitOne K (.ref C3) (.ref C0) = some false)
    (g1 : PySem.W.nsIn K mainGlobals "InvalidNumber" = some (some (.ref C1)))
    (o2_1 : PySem.W.kitOne K (.ref C2) (.ref C1) = some false)
    (o3_1 : PySem.W.kitOne K (.ref C3) (.ref C1) = some false)
    (g2 : PySem.W.nsIn K mainGlobals "InvalidStep" = some (some (.ref C2)))
    (o1_2 : PySem.W.kitOne K (.ref C1) (.ref C2) = some false)
    (o3_2 : PySem.W.kitOne K (.ref C3) (.ref C2) = some false)
    (g3 : PySem.W.nsIn K mainGlobals "InvalidArc" = some (some (.ref C3)))
    (o1_3 : PySem.W.kitOne K (.ref C1) (.ref C3) = some false)
    (o2_3 : PySem.W.kitOne K (.ref C2) (.ref C3) = some false)
    (g4 : PySem.W.nsIn K mainGlobals "InvalidSighting" = some (some (.ref C4)))
    (o1_4 : PySem.W.kitOne K (.ref C1) (.ref C4) = some false)
    (o2_4 : PySem.W.kitOne K (.ref C2) (.ref C4) = some false)
    (o3_4 : PySem.W.kitOne K (.ref C3) (.ref C4) = some false)
    (g5 : PySem.W.nsIn K mainGlobals "InvalidSightings" = some (some (.ref C5)))
    (o1_5 : PySem.W.kitOne K (.ref C1) (.ref C5) = some false)
    (o2_5 : PySem.W.kitOne K (.ref C2) (.ref C5) = some false)
    (o3_5 : PySem.W.kitOne K (.ref C3) (.ref C5) = some false)
    (g6 : PySem.W.nsIn K mainGlobals "NotALot" = some (some (.ref C6)))
    (o1_6 : PySem.W.kitOne K (.ref C1) (.ref C6) = some false)
    (o2_6 : PySem.W.kitOne K (.ref C2) (.ref C6) = some false)
    (o3_6 : PySem.W.kitOne K (.ref C3) (.ref C6) = some false)
    (g7 : PySem.W.nsIn K mainGlobals "InvalidPieces" = some (some (.ref C7)))
    (o1_7 : PySem.W.kitOne K (.ref C1) (.ref C7) = some false)
    (o2_7 : PySem.W.kitOne K (.ref C2) (.ref C7) = some false)
    (o3_7 : PySem.W.kitOne K (.ref C3) (.ref C7) = some false)
    (g8 : PySem.W.nsIn K mainGlobals "InvalidOrder" = some (some (.ref C8)))
    (o1_8 : PySem.W.kitOne K (.ref C1) (.ref C8) = some false)
    (o2_8 : PySem.W.kitOne K (.ref C2) (.ref C8) = some false)
    (o3_8 : PySem.W.kitOne K (.ref C3) (.ref C8) = some false)
    (g9 : PySem.W.nsIn K mainGlobals "InvalidIndex" = some (some (.ref C9)))
    (o1_9 : PySem.W.kitOne K (.ref C1) (.ref C9) = some false)
    (o2_9 : PySem.W.kitOne K (.ref C2) (.ref C9) = some false)
    (o3_9 : PySem.W.kitOne K (.ref C3) (.ref C9) = some false)
    (g10 : PySem.W.nsIn K mainGlobals "NoStep" = some (some (.ref C10)))
    (o1_10 : PySem.W.kitOne K (.ref C1) (.ref C10) = some false)
    (o2_10 : PySem.W.kitOne K (.ref C2) (.ref C10) = some false)
    (o3_10 : PySem.W.kitOne K (.ref C3) (.ref C10) = some false)
    (g11 : PySem.W.nsIn K mainGlobals "TooMany" = some (some (.ref C11)))
    (o1_11 : PySem.W.kitOne K (.ref C1) (.ref C11) = some false)
    (o2_11 : PySem.W.kitOne K (.ref C2) (.ref C11) = some false)
    (o3_11 : PySem.W.kitOne K (.ref C3) (.ref C11) = some false)
    (g12 : PySem.W.nsIn K mainGlobals "Broken" = some (some (.ref C12)))
    (o1_12 : PySem.W.kitOne K (.ref C1) (.ref C12) = some false)
    (o2_12 : PySem.W.kitOne K (.ref C2) (.ref C12) = some false)
    (o3_12 : PySem.W.kitOne K (.ref C3) (.ref C12) = some false)
    (T1 : CK K "InvalidNumber" ["given"] C1 R0 eN1 (PySem.W.fnOf "__init__" "InvalidNumber.__init__" (defArgs (inn (top 4))) (defBody (inn (top 4))) (defScope (inn (top 4))) .none kv1 dv1 pv1 av1 cv1 tv1) (inn (top 4)) "InvalidNumber.__init__") (HK1 : Kit K R0 R1 R2 C1 true false false)
    (x1_0 : PySem.W.exmOne K (.ref C1) (.ref R0) = some true) (x1_1 : PySem.W.exmOne K (.ref C1) (.ref R1) = some false) (x1_2 : PySem.W.exmOne K (.ref C1) (.ref R2) = some false)
    (T2 : CK K "InvalidStep" ["given"] C2 R0 eN2 (PySem.W.fnOf "__init__" "InvalidStep.__init__" (defArgs (inn (top 6))) (defBody (inn (top 6))) (defScope (inn (top 6))) .none kv2 dv2 pv2 av2 cv2 tv2) (inn (top 6)) "InvalidStep.__init__") (HK2 : Kit K R0 R1 R2 C2 true false false)
    (x2_0 : PySem.W.exmOne K (.ref C2) (.ref R0) = some true) (x2_1 : PySem.W.exmOne K (.ref C2) (.ref R1) = some false) (x2_2 : PySem.W.exmOne K (.ref C2) (.ref R2) = some false)
    (T3 : CK K "InvalidArc" ["given"] C3 R0 eN3 (PySem.W.fnOf "__init__" "InvalidArc.__init__" (defArgs (inn (top 7))) (defBody (inn (top 7))) (defScope (inn (top 7))) .none kv3 dv3 pv3 av3 cv3 tv3) (inn (top 7)) "InvalidArc.__init__") (HK3 : Kit K R0 R1 R2 C3 true false false)
    (x3_0 : PySem.W.exmOne K (.ref C3) (.ref R0) = some true) (x3_1 : PySem.W.exmOne K (.ref C3) (.ref R1) = some false) (x3_2 : PySem.W.exmOne K (.ref C3) (.ref R2) = some false)
    (a0 : PySem.W.nsIn K mainGlobals "is_integer" = some (some (.ref f0))) (l0 : K.lookup f0 = some ⟨oc0, od0, .func (PySem.W.fnOf "is_integer" "is_integer" (defArgs (top 19)) (defBody (top 19)) (defScope (top 19)) .none kV0 dc0 pm0 an0 cd0 ct0), sl0⟩) (c0 : PySem.W.codeIn K cd0 "is_integer" = true) (k0 : PySem.W.keepIn K (.ref f0) = true)
    (a1 : PySem.W.nsIn K mainGlobals "is_fraction" = some (some (.ref f1))) (l1 : K.lookup f1 = some ⟨oc1, od1, .func (PySem.W.fnOf "is_fraction" "is_fraction" (defArgs (top 20)) (defBody (top 20)) (defScope (top 20)) .none kV1 dc1 pm1 an1 cd1 ct1), sl1⟩) (c1 : PySem.W.codeIn K cd1 "is_fraction" = true) (k1 : PySem.W.keepIn K (.ref f1) = true)
    (a2 : PySem.W.nsIn K mainGlobals "is_step" = some (some (.ref f2))) (l2 : K.lookup f2 = some ⟨oc2, od2, .func (PySem.W.fnOf "is_step" "is_step" (defArgs (top 21)) (defBody (top 21)) (defScope (top 21)) .none kV2 dc2 pm2 an2 cd2 ct2), sl2⟩) (c2 : PySem.W.codeIn K cd2 "is_step" = true) (k2 : PySem.W.keepIn K (.ref f2) = true)
    (a3 : PySem.W.nsIn K mainGlobals "is_part" = some (some (.ref f3))) (l3 : K.lookup f3 = some ⟨oc3, od3, .func (PySem.W.fnOf "is_part" "is_part" (defArgs (top 22)) (defBody (top 22)) (defScope (top 22)) .none kV3 dc3 pm3 an3 cd3 ct3), sl3⟩) (c3 : PySem.W.codeIn K cd3 "is_part" = true) (k3 : PySem.W.keepIn K (.ref f3) = true)
    (a4 : PySem.W.nsIn K mainGlobals "is_less" = some (some (.ref f4))) (l4 : K.lookup f4 = some ⟨oc4, od4, .func (PySem.W.fnOf "is_less" "is_less" (defArgs (top 23)) (defBody (top 23)) (defScope (top 23)) .none kV4 dc4 pm4 an4 cd4 ct4), sl4⟩) (c4 : PySem.W.codeIn K cd4 "is_less" = true) (k4 : PySem.W.keepIn K (.ref f4) = true)
    (a5 : PySem.W.nsIn K mainGlobals "is_number" = some (some (.ref f5))) (l5 : K.lookup f5 = some ⟨oc5, od5, .func (PySem.W.fnOf "is_number" "is_number" (defArgs (top 24)) (defBody (top 24)) (defScope (top 24)) .none kV5 dc5 pm5 an5 cd5 ct5), sl5⟩) (c5 : PySem.W.codeIn K cd5 "is_number" = true) (k5 : PySem.W.keepIn K (.ref f5) = true)
    (a6 : PySem.W.nsIn K mainGlobals "check_step" = some (some (.ref f6))) (l6 : K.lookup f6 = some ⟨oc6, od6, .func (PySem.W.fnOf "check_step" "check_step" (defArgs (top 25)) (defBody (top 25)) (defScope (top 25)) .none kV6 dc6 pm6 an6 cd6 ct6), sl6⟩) (c6 : PySem.W.codeIn K cd6 "check_step" = true) (k6 : PySem.W.keepIn K (.ref f6) = true)
    (a7 : PySem.W.nsIn K mainGlobals "check_number" = some (some (.ref f7))) (l7 : K.lookup f7 = some ⟨oc7, od7, .func (PySem.W.fnOf "check_number" "check_number" (defArgs (top 26)) (defBody (top 26)) (defScope (top 26)) .none kV7 dc7 pm7 an7 cd7 ct7), sl7⟩) (c7 : PySem.W.codeIn K cd7 "check_number" = true) (k7 : PySem.W.keepIn K (.ref f7) = true)
    (a8 : PySem.W.nsIn K mainGlobals "next_mark" = some (some (.ref f8))) (l8 : K.lookup f8 = some ⟨oc8, od8, .func (PySem.W.fnOf "next_mark" "next_mark" (defArgs (top 29)) (defBody (top 29)) (defScope (top 29)) .none kV8 dc8 pm8 an8 cd8 ct8), sl8⟩) (c8 : PySem.W.codeIn K cd8 "next_mark" = true) (k8 : PySem.W.keepIn K (.ref f8) = true)
    (a9 : PySem.W.nsIn K mainGlobals "last_mark" = some (some (.ref f9))) (l9 : K.lookup f9 = some ⟨oc9, od9, .func (PySem.W.fnOf "last_mark" "last_mark" (defArgs (top 30)) (defBody (top 30)) (defScope (top 30)) .none kV9 dc9 pm9 an9 cd9 ct9), sl9⟩) (c9 : PySem.W.codeIn K cd9 "last_mark" = true) (k9 : PySem.W.keepIn K (.ref f9) = true)
    (a10 : PySem.W.nsIn K mainGlobals "rank" = some (some (.ref f10))) (l10 : K.lookup f10 = some ⟨oc10, od10, .func (PySem.W.fnOf "rank" "rank" (defArgs (top 31)) (defBody (top 31)) (defScope (top 31)) .none kV10 dc10 pm10 an10 cd10 ct10), sl10⟩) (c10 : PySem.W.codeIn K cd10 "rank" = true) (k10 : PySem.W.keepIn K (.ref f10) = true)
    (a11 : PySem.W.nsIn K mainGlobals "mark_of" = some (some (.ref f11))) (l11 : K.lookup f11 = some ⟨oc11, od11, .func (PySem.W.fnOf "mark_of" "mark_of" (defArgs (top 32)) (defBody (top 32)) (defScope (top 32)) .none kV11 dc11 pm11 an11 cd11 ct11), sl11⟩) (c11 : PySem.W.codeIn K cd11 "mark_of" = true) (k11 : PySem.W.keepIn K (.ref f11) = true)
    (a12 : PySem.W.nsIn K mainGlobals "how_many" = some (some (.ref f12))) (l12 : K.lookup f12 = some ⟨oc12, od12, .func (PySem.W.fnOf "how_many" "how_many" (defArgs (top 33)) (defBody (top 33)) (defScope (top 33)) .none kV12 dc12 pm12 an12 cd12 ct12), sl12⟩) (c12 : PySem.W.codeIn K cd12 "how_many" = true) (k12 : PySem.W.keepIn K (.ref f12) = true)
    (a13 : PySem.W.nsIn K mainGlobals "first_within" = some (some (.ref f13))) (l13 : K.lookup f13 = some ⟨oc13, od13, .func (PySem.W.fnOf "first_within" "first_within" (defArgs (top 34)) (defBody (top 34)) (defScope (top 34)) .none kV13 dc13 pm13 an13 cd13 ct13), sl13⟩) (c13 : PySem.W.codeIn K cd13 "first_within" = true) (k13 : PySem.W.keepIn K (.ref f13) = true)
    (a14 : PySem.W.nsIn K mainGlobals "mark_behind" = some (some (.ref f14))) (l14 : K.lookup f14 = some ⟨oc14, od14, .func (PySem.W.fnOf "mark_behind" "mark_behind" (defArgs (top 35)) (defBody (top 35)) (defScope (top 35)) .none kV14 dc14 pm14 an14 cd14 ct14), sl14⟩) (c14 : PySem.W.codeIn K cd14 "mark_behind" = true) (k14 : PySem.W.keepIn K (.ref f14) = true)
    (a15 : PySem.W.nsIn K mainGlobals "_check_count" = some (some (.ref f15))) (l15 : K.lookup f15 = some ⟨oc15, od15, .func (PySem.W.fnOf "_check_count" "_check_count" (defArgs (top 36)) (defBody (top 36)) (defScope (top 36)) .none kV15 dc15 pm15 an15 cd15 ct15), sl15⟩) (c15 : PySem.W.codeIn K cd15 "_check_count" = true) (k15 : PySem.W.keepIn K (.ref f15) = true)
    (a16 : PySem.W.nsIn K mainGlobals "_check_mark" = some (some (.ref f16))) (l16 : K.lookup f16 = some ⟨oc16, od16, .func (PySem.W.fnOf "_check_mark" "_check_mark" (defArgs (top 37)) (defBody (top 37)) (defScope (top 37)) .none kV16 dc16 pm16 an16 cd16 ct16), sl16⟩) (c16 : PySem.W.codeIn K cd16 "_check_mark" = true) (k16 : PySem.W.keepIn K (.ref f16) = true)
    (a17 : PySem.W.nsIn K mainGlobals "_check_arc" = some (some (.ref f17))) (l17 : K.lookup f17 = some ⟨oc17, od17, .func (PySem.W.fnOf "_check_arc" "_check_arc" (defArgs (top 38)) (defBody (top 38)) (defScope (top 38)) .none kV17 dc17 pm17 an17 cd17 ct17), sl17⟩) (c17 : PySem.W.codeIn K cd17 "_check_arc" = true) (k17 : PySem.W.keepIn K (.ref f17) = true)
    (a18 : PySem.W.nsIn K mainGlobals "_how_many_places" = some (some (.ref f18))) (l18 : K.lookup f18 = some ⟨oc18, od18, .func (PySem.W.fnOf "_how_many_places" "_how_many_places" (defArgs (top 39)) (defBody (top 39)) (defScope (top 39)) .none kV18 dc18 pm18 an18 cd18 ct18), sl18⟩) (c18 : PySem.W.codeIn K cd18 "_how_many_places" = true) (k18 : PySem.W.keepIn K (.ref f18) = true)
    (a19 : PySem.W.nsIn K mainGlobals "_beside_zero" = some (some (.ref f19))) (l19 : K.lookup f19 = some ⟨oc19, od19, .func (PySem.W.fnOf "_beside_zero" "_beside_zero" (defArgs (top 40)) (defBody (top 40)) (defScope (top 40)) .none kV19 dc19 pm19 an19 cd19 ct19), sl19⟩) (c19 : PySem.W.codeIn K cd19 "_beside_zero" = true) (k19 : PySem.W.keepIn K (.ref f19) = true)
    (a20 : PySem.W.nsIn K mainGlobals "_how_many_below" = some (some (.ref f20))) (l20 : K.lookup f20 = some ⟨oc20, od20, .func (PySem.W.fnOf "_how_many_below" "_how_many_below" (defArgs (top 41)) (defBody (top 41)) (defScope (top 41)) .none kV20 dc20 pm20 an20 cd20 ct20), sl20⟩) (c20 : PySem.W.codeIn K cd20 "_how_many_below" = true) (k20 : PySem.W.keepIn K (.ref f20) = true)
    (a21 : PySem.W.nsIn K mainGlobals "_sum_of_wholes" = some (some (.ref f21))) (l21 : K.lookup f21 = some ⟨oc21, od21, .func (PySem.W.fnOf "_sum_of_wholes" "_sum_of_wholes" (defArgs (top 42)) (defBody (top 42)) (defScope (top 42)) .none kV21 dc21 pm21 an21 cd21 ct21), sl21⟩) (c21 : PySem.W.codeIn K cd21 "_sum_of_wholes" = true) (k21 : PySem.W.keepIn K (.ref f21) = true)
    (a22 : PySem.W.nsIn K mainGlobals "_least_top" = some (some (.ref f22))) (l22 : K.lookup f22 = some ⟨oc22, od22, .func (PySem.W.fnOf "_least_top" "_least_top" (defArgs (top 43)) (defBody (top 43)) (defScope (top 43)) .none kV22 dc22 pm22 an22 cd22 ct22), sl22⟩) (c22 : PySem.W.codeIn K cd22 "_least_top" = true) (k22 : PySem.W.keepIn K (.ref f22) = true)
    (a23 : PySem.W.nsIn K mainGlobals "_first_from_to" = some (some (.ref f23))) (l23 : K.lookup f23 = some ⟨oc23, od23, .func (PySem.W.fnOf "_first_from_to" "_first_from_to" (defArgs (top 44)) (defBody (top 44)) (defScope (top 44)) .none kV23 dc23 pm23 an23 cd23 ct23), sl23⟩) (c23 : PySem.W.codeIn K cd23 "_first_from_to" = true) (k23 : PySem.W.keepIn K (.ref f23) = true)
    (a24 : PySem.W.nsIn K mainGlobals "_first_from" = some (some (.ref f24))) (l24 : K.lookup f24 = some ⟨oc24, od24, .func (PySem.W.fnOf "_first_from" "_first_from" (defArgs (top 45)) (defBody (top 45)) (defScope (top 45)) .none kV24 dc24 pm24 an24 cd24 ct24), sl24⟩) (c24 : PySem.W.codeIn K cd24 "_first_from" = true) (k24 : PySem.W.keepIn K (.ref f24) = true)
    (a25 : PySem.W.nsIn K mainGlobals "place" = some (some (.ref f25))) (l25 : K.lookup f25 = some ⟨oc25, od25, .func (PySem.W.fnOf "place" "place" (defArgs (top 48)) (defBody (top 48)) (defScope (top 48)) .none kV25 dc25 pm25 an25 cd25 ct25), sl25⟩) (c25 : PySem.W.codeIn K cd25 "place" = true) (k25 : PySem.W.keepIn K (.ref f25) = true)
    (a26 : PySem.W.nsIn K mainGlobals "order" = some (some (.ref f26))) (l26 : K.lookup f26 = some ⟨oc26, od26, .func (PySem.W.fnOf "order" "order" (defArgs (top 49)) (defBody (top 49)) (defScope (top 49)) .none kV26 dc26 pm26 an26 cd26 ct26), sl26⟩) (c26 : PySem.W.codeIn K cd26 "order" = true) (k26 : PySem.W.keepIn K (.ref f26) = true)
    (a27 : PySem.W.nsIn K mainGlobals "mirrored" = some (some (.ref f27))) (l27 : K.lookup f27 = some ⟨oc27, od27, .func (PySem.W.fnOf "mirrored" "mirrored" (defArgs (top 50)) (defBody (top 50)) (defScope (top 50)) .none kV27 dc27 pm27 an27 cd27 ct27), sl27⟩) (c27 : PySem.W.codeIn K cd27 "mirrored" = true) (k27 : PySem.W.keepIn K (.ref f27) = true)
    (a28 : PySem.W.nsIn K mainGlobals "parting" = some (some (.ref f28))) (l28 : K.lookup f28 = some ⟨oc28, od28, .func (PySem.W.fnOf "parting" "parting" (defArgs (top 51)) (defBody (top 51)) (defScope (top 51)) .none kV28 dc28 pm28 an28 cd28 ct28), sl28⟩) (c28 : PySem.W.codeIn K cd28 "parting" = true) (k28 : PySem.W.keepIn K (.ref f28) = true)
    (a29 : PySem.W.nsIn K mainGlobals "between" = some (some (.ref f29))) (l29 : K.lookup f29 = some ⟨oc29, od29, .func (PySem.W.fnOf "between" "between" (defArgs (top 52)) (defBody (top 52)) (defScope (top 52)) .none kV29 dc29 pm29 an29 cd29 ct29), sl29⟩) (c29 : PySem.W.codeIn K cd29 "between" = true) (k29 : PySem.W.keepIn K (.ref f29) = true)
    (a30 : PySem.W.nsIn K mainGlobals "lowest" = some (some (.ref f30))) (l30 : K.lookup f30 = some ⟨oc30, od30, .func (PySem.W.fnOf "lowest" "lowest" (defArgs (top 53)) (defBody (top 53)) (defScope (top 53)) .none kV30 dc30 pm30 an30 cd30 ct30), sl30⟩) (c30 : PySem.W.codeIn K cd30 "lowest" = true) (k30 : PySem.W.keepIn K (.ref f30) = true)
    (a31 : PySem.W.nsIn K mainGlobals "simplest_in" = some (some (.ref f31))) (l31 : K.lookup f31 = some ⟨oc31, od31, .func (PySem.W.fnOf "simplest_in" "simplest_in" (defArgs (top 54)) (defBody (top 54)) (defScope (top 54)) .none kV31 dc31 pm31 an31 cd31 ct31), sl31⟩) (c31 : PySem.W.codeIn K cd31 "simplest_in" = true) (k31 : PySem.W.keepIn K (.ref f31) = true)
    (a32 : PySem.W.nsIn K mainGlobals "_simplest_between" = some (some (.ref f32))) (l32 : K.lookup f32 = some ⟨oc32, od32, .func (PySem.W.fnOf "_simplest_between" "_simplest_between" (defArgs (top 55)) (defBody (top 55)) (defScope (top 55)) .none kV32 dc32 pm32 an32 cd32 ct32), sl32⟩) (c32 : PySem.W.codeIn K cd32 "_simplest_between" = true) (k32 : PySem.W.keepIn K (.ref f32) = true)
    (a33 : PySem.W.nsIn K mainGlobals "_least_whole" = some (some (.ref f33))) (l33 : K.lookup f33 = some ⟨oc33, od33, .func (PySem.W.fnOf "_least_whole" "_least_whole" (defArgs (top 56)) (defBody (top 56)) (defScope (top 56)) .none kV33 dc33 pm33 an33 cd33 ct33), sl33⟩) (c33 : PySem.W.codeIn K cd33 "_least_whole" = true) (k33 : PySem.W.keepIn K (.ref f33) = true)
    (a34 : PySem.W.nsIn K mainGlobals "_is_within" = some (some (.ref f34))) (l34 : K.lookup f34 = some ⟨oc34, od34, .func (PySem.W.fnOf "_is_within" "_is_within" (defArgs (top 57)) (defBody (top 57)) (defScope (top 57)) .none kV34 dc34 pm34 an34 cd34 ct34), sl34⟩) (c34 : PySem.W.codeIn K cd34 "_is_within" = true) (k34 : PySem.W.keepIn K (.ref f34) = true)
    (a35 : PySem.W.nsIn K mainGlobals "_turned" = some (some (.ref f35))) (l35 : K.lookup f35 = some ⟨oc35, od35, .func (PySem.W.fnOf "_turned" "_turned" (defArgs (top 58)) (defBody (top 58)) (defScope (top 58)) .none kV35 dc35 pm35 an35 cd35 ct35), sl35⟩) (c35 : PySem.W.codeIn K cd35 "_turned" = true) (k35 : PySem.W.keepIn K (.ref f35) = true)
    (a36 : PySem.W.nsIn K mainGlobals "_law_tin" = some (some (.ref f36))) (l36 : K.lookup f36 = some ⟨oc36, od36, .func (PySem.W.fnOf "_law_tin" "_law_tin" (defArgs (top 60)) (defBody (top 60)) (defScope (top 60)) .none kV36 dc36 pm36 an36 cd36 ct36), sl36⟩) (c36 : PySem.W.codeIn K cd36 "_law_tin" = true) (k36 : PySem.W.keepIn K (.ref f36) = true)
    (a37 : PySem.W.nsIn K mainGlobals "_law_sip" = some (some (.ref f37))) (l37 : K.lookup f37 = some ⟨oc37, od37, .func (PySem.W.fnOf "_law_sip" "_law_sip" (defArgs (top 61)) (defBody (top 61)) (defScope (top 61)) .none kV37 dc37 pm37 an37 cd37 ct37), sl37⟩) (c37 : PySem.W.codeIn K cd37 "_law_sip" = true) (k37 : PySem.W.keepIn K (.ref f37) = true)
    (a38 : PySem.W.nsIn K mainGlobals "_law_pick" = some (some (.ref f38))) (l38 : K.lookup f38 = some ⟨oc38, od38, .func (PySem.W.fnOf "_law_pick" "_law_pick" (defArgs (top 62)) (defBody (top 62)) (defScope (top 62)) .none kV38 dc38 pm38 an38 cd38 ct38), sl38⟩) (c38 : PySem.W.codeIn K cd38 "_law_pick" = true) (k38 : PySem.W.keepIn K (.ref f38) = true)
    (a39 : PySem.W.nsIn K mainGlobals "_law_far" = some (some (.ref f39))) (l39 : K.lookup f39 = some ⟨oc39, od39, .func (PySem.W.fnOf "_law_far" "_law_far" (defArgs (top 63)) (defBody (top 63)) (defScope (top 63)) .none kV39 dc39 pm39 an39 cd39 ct39), sl39⟩) (c39 : PySem.W.codeIn K cd39 "_law_far" = true) (k39 : PySem.W.keepIn K (.ref f39) = true)
    (a40 : PySem.W.nsIn K mainGlobals "_law_gcd" = some (some (.ref f40))) (l40 : K.lookup f40 = some ⟨oc40, od40, .func (PySem.W.fnOf "_law_gcd" "_law_gcd" (defArgs (top 64)) (defBody (top 64)) (defScope (top 64)) .none kV40 dc40 pm40 an40 cd40 ct40), sl40⟩) (c40 : PySem.W.codeIn K cd40 "_law_gcd" = true) (k40 : PySem.W.keepIn K (.ref f40) = true)
    (a41 : PySem.W.nsIn K mainGlobals "_law_low" = some (some (.ref f41))) (l41 : K.lookup f41 = some ⟨oc41, od41, .func (PySem.W.fnOf "_law_low" "_law_low" (defArgs (top 65)) (defBody (top 65)) (defScope (top 65)) .none kV41 dc41 pm41 an41 cd41 ct41), sl41⟩) (c41 : PySem.W.codeIn K cd41 "_law_low" = true) (k41 : PySem.W.keepIn K (.ref f41) = true)
    (a42 : PySem.W.nsIn K mainGlobals "_law_under" = some (some (.ref f42))) (l42 : K.lookup f42 = some ⟨oc42, od42, .func (PySem.W.fnOf "_law_under" "_law_under" (defArgs (top 66)) (defBody (top 66)) (defScope (top 66)) .none kV42 dc42 pm42 an42 cd42 ct42), sl42⟩) (c42 : PySem.W.codeIn K cd42 "_law_under" = true) (k42 : PySem.W.keepIn K (.ref f42) = true)
    (a43 : PySem.W.nsIn K mainGlobals "_law_step" = some (some (.ref f43))) (l43 : K.lookup f43 = some ⟨oc43, od43, .func (PySem.W.fnOf "_law_step" "_law_step" (defArgs (top 67)) (defBody (top 67)) (defScope (top 67)) .none kV43 dc43 pm43 an43 cd43 ct43), sl43⟩) (c43 : PySem.W.codeIn K cd43 "_law_step" = true) (k43 : PySem.W.keepIn K (.ref f43) = true)
    (a44 : PySem.W.nsIn K mainGlobals "_law_is_number" = some (some (.ref f44))) (l44 : K.lookup f44 = some ⟨oc44, od44, .func (PySem.W.fnOf "_law_is_number" "_law_is_number" (defArgs (top 68)) (defBody (top 68)) (defScope (top 68)) .none kV44 dc44 pm44 an44 cd44 ct44), sl44⟩) (c44 : PySem.W.codeIn K cd44 "_law_is_number" = true) (k44 : PySem.W.keepIn K (.ref f44) = true)
    (a45 : PySem.W.nsIn K mainGlobals "_law_is_part" = some (some (.ref f45))) (l45 : K.lookup f45 = some ⟨oc45, od45, .func (PySem.W.fnOf "_law_is_part" "_law_is_part" (defArgs (top 69)) (defBody (top 69)) (defScope (top 69)) .none kV45 dc45 pm45 an45 cd45 ct45), sl45⟩) (c45 : PySem.W.codeIn K cd45 "_law_is_part" = true) (k45 : PySem.W.keepIn K (.ref f45) = true)
    (a46 : PySem.W.nsIn K mainGlobals "_law_is_step" = some (some (.ref f46))) (l46 : K.lookup f46 = some ⟨oc46, od46, .func (PySem.W.fnOf "_law_is_step" "_law_is_step" (defArgs (top 70)) (defBody (top 70)) (defScope (top 70)) .none kV46 dc46 pm46 an46 cd46 ct46), sl46⟩) (c46 : PySem.W.codeIn K cd46 "_law_is_step" = true) (k46 : PySem.W.keepIn K (.ref f46) = true)
    (a47 : PySem.W.nsIn K mainGlobals "_law_odd" = some (some (.ref f47))) (l47 : K.lookup f47 = some ⟨oc47, od47, .func (PySem.W.fnOf "_law_odd" "_law_odd" (defArgs (top 71)) (defBody (top 71)) (defScope (top 71)) .none kV47 dc47 pm47 an47 cd47 ct47), sl47⟩) (c47 : PySem.W.codeIn K cd47 "_law_odd" = true) (k47 : PySem.W.keepIn K (.ref f47) = true)
    (a48 : PySem.W.nsIn K mainGlobals "_law_error" = some (some (.ref f48))) (l48 : K.lookup f48 = some ⟨oc48, od48, .func (PySem.W.fnOf "_law_error" "_law_error" (defArgs (top 72)) (defBody (top 72)) (defScope (top 72)) .none kV48 dc48 pm48 an48 cd48 ct48), sl48⟩) (c48 : PySem.W.codeIn K cd48 "_law_error" = true) (k48 : PySem.W.keepIn K (.ref f48) = true)
    (a49 : PySem.W.nsIn K mainGlobals "_law_class" = some (some (.ref f49))) (l49 : K.lookup f49 = some ⟨oc49, od49, .func (PySem.W.fnOf "_law_class" "_law_class" (defArgs (top 73)) (defBody (top 73)) (defScope (top 73)) .none kV49 dc49 pm49 an49 cd49 ct49), sl49⟩) (c49 : PySem.W.codeIn K cd49 "_law_class" = true) (k49 : PySem.W.keepIn K (.ref f49) = true)
    (a50 : PySem.W.nsIn K mainGlobals "_law_field" = some (some (.ref f50))) (l50 : K.lookup f50 = some ⟨oc50, od50, .func (PySem.W.fnOf "_law_field" "_law_field" (defArgs (top 74)) (defBody (top 74)) (defScope (top 74)) .none kV50 dc50 pm50 an50 cd50 ct50), sl50⟩) (c50 : PySem.W.codeIn K cd50 "_law_field" = true) (k50 : PySem.W.keepIn K (.ref f50) = true)
    (a51 : PySem.W.nsIn K mainGlobals "_law_ends_right" = some (some (.ref f51))) (l51 : K.lookup f51 = some ⟨oc51, od51, .func (PySem.W.fnOf "_law_ends_right" "_law_ends_right" (defArgs (top 75)) (defBody (top 75)) (defScope (top 75)) .none kV51 dc51 pm51 an51 cd51 ct51), sl51⟩) (c51 : PySem.W.codeIn K cd51 "_law_ends_right" = true) (k51 : PySem.W.keepIn K (.ref f51) = true)
    (a52 : PySem.W.nsIn K mainGlobals "_law_due" = some (some (.ref f52))) (l52 : K.lookup f52 = some ⟨oc52, od52, .func (PySem.W.fnOf "_law_due" "_law_due" (defArgs (top 76)) (defBody (top 76)) (defScope (top 76)) .none kV52 dc52 pm52 an52 cd52 ct52), sl52⟩) (c52 : PySem.W.codeIn K cd52 "_law_due" = true) (k52 : PySem.W.keepIn K (.ref f52) = true)
    (a53 : PySem.W.nsIn K mainGlobals "_law_steps_right" = some (some (.ref f53))) (l53 : K.lookup f53 = some ⟨oc53, od53, .func (PySem.W.fnOf "_law_steps_right" "_law_steps_right" (defArgs (top 77)) (defBody (top 77)) (defScope (top 77)) .none kV53 dc53 pm53 an53 (.ref cc0) ct53), sl53⟩) (c53 : PySem.W.codeIn K (.ref cc0) "_law_steps_right" = true) (k53 : PySem.W.keepIn K (.ref f53) = true)
    (a54 : PySem.W.nsIn K mainGlobals "_law_ranks_right" = some (some (.ref f54))) (l54 : K.lookup f54 = some ⟨oc54, od54, .func (PySem.W.fnOf "_law_ranks_right" "_law_ranks_right" (defArgs (top 78)) (defBody (top 78)) (defScope (top 78)) .none kV54 dc54 pm54 an54 (.ref cc1) ct54), sl54⟩) (c54 : PySem.W.codeIn K (.ref cc1) "_law_ranks_right" = true) (k54 : PySem.W.keepIn K (.ref f54) = true)
    (a55 : PySem.W.nsIn K mainGlobals "_law_right" = some (some (.ref f55))) (l55 : K.lookup f55 = some ⟨oc55, od55, .func (PySem.W.fnOf "_law_right" "_law_right" (defArgs (top 79)) (defBody (top 79)) (defScope (top 79)) .none kV55 dc55 pm55 an55 cd55 ct55), sl55⟩) (c55 : PySem.W.codeIn K cd55 "_law_right" = true) (k55 : PySem.W.keepIn K (.ref f55) = true)
    (a56 : PySem.W.nsIn K mainGlobals "law" = some (some (.ref f56))) (l56 : K.lookup f56 = some ⟨oc56, od56, .func (PySem.W.fnOf "law" "law" (defArgs (top 80)) (defBody (top 80)) (defScope (top 80)) .none kV56 dc56 pm56 an56 cd56 ct56), sl56⟩) (c56 : PySem.W.codeIn K cd56 "law" = true) (k56 : PySem.W.keepIn K (.ref f56) = true)
    (z0 : PySem.W.nsIn K mainGlobals "len" = some none)
    (z1 : PySem.W.nsIn K mainGlobals "int" = some none)
    (z2 : PySem.W.nsIn K mainGlobals "abs" = some none)
    (z3 : PySem.W.nsIn K mainGlobals "isinstance" = some none)
    (z4 : PySem.W.nsIn K mainGlobals "bool" = some none)
    (z5 : PySem.W.nsIn K mainGlobals "tuple" = some none)
    (z6 : PySem.W.nsIn K mainGlobals "range" = some none)
    (z7 : PySem.W.nsIn K mainGlobals "divmod" = some none)
    (z8 : PySem.W.nsIn K mainGlobals "reversed" = some none)
    (z9 : PySem.W.nsIn K mainGlobals "min" = some none)
    (z10 : PySem.W.nsIn K mainGlobals "max" = some none)
    (z11 : PySem.W.nsIn K mainGlobals "all" = some none)
    (z12 : PySem.W.nsIn K mainGlobals "sorted" = some none)
    (z13 : PySem.W.nsIn K mainGlobals "repr" = some none)
    (z14 : PySem.W.nsIn K mainGlobals "ValueError" = some none)
    (z15 : PySem.W.nsIn K mainGlobals "LookupError" = some none)
    (z16 : PySem.W.nsIn K mainGlobals "ArithmeticError" = some none)
    (m0 : PySem.W.nsIn K mainGlobals "gcd" = some (some (.builtin "math.gcd")))
    (m1 : PySem.W.nsIn K mainGlobals "MOST_COUNT" = some (some (.int (10 ^ 30) tk1)))
    (m2 : PySem.W.nsIn K mainGlobals "_MOST_ORDERED" = some (some (.int 60 tk2)))
    : LawAtG l w K CX0 12 63 "_law_script" mg fa h := by
  cases hfa.symm.trans (PySem.W.mg_of X G a56)
  have F0 := fun_mk (st := (top 19)) l0 c0 k0
  have d0 : Df K mg "is_integer" (top 19) ["given"] f0 _ := ⟨F0, PySem.W.mg_of X G a0, F0.binds fun _ _ _ _ _ _ us hl => match us, hl with | [_], _ => rfl⟩
  have F1 := fun_mk (st := (top 20)) l1 c1 k1
  have d1 : Df K mg "is_fraction" (top 20) ["given"] f1 _ := ⟨F1, PySem.W.mg_of X G a1, F1.binds fun _ _ _ _ _ _ us hl => match us, hl with | [_], _ => rfl⟩
  have F2 := fun_mk (st := (top 21)) l2 c2 k2
  have d2 : Df K mg "is_step" (top 21) ["given"] f2 _ := ⟨F2, PySem.W.mg_of X G a2, F2.binds fun _ _ _ _ _ _ us hl => match us, hl with | [_], _ => rfl⟩
  have F3 := fun_mk (st := (top 22)) l3 c3 k3
  have d3 : Df K mg "is_part" (top 22) ["given"] f3 _ := ⟨F3, PySem.W.mg_of X G a3, F3.binds fun _ _ _ _ _ _ us hl => match us, hl with | [_], _ => rfl⟩
  have F4 := fun_mk (st := (top 23)) l4 c4 k4
  have d4 : Df K mg "is_less" (top 23) ["one", "other"] f4 _ := ⟨F4, PySem.W.mg_of X G a4, F4.binds fun _ _ _ _ _ _ us hl => match us, hl with | [_, _], _ => rfl⟩
  have F5 := fun_mk (st := (top 24)) l5 c5 k5
  have d5 : Df K mg "is_number" (top 24) ["given", "least", "most"] f5 _ := ⟨F5, PySem.W.mg_of X G a5, F5.binds fun _ _ _ _ _ _ us hl => match us, hl with | [_, _, _], _ => rfl⟩
  have F6 := fun_mk (st := (top 25)) l6 c6 k6
  have d6 : Df K mg "check_step" (top 25) ["given"] f6 _ := ⟨F6, PySem.W.mg_of X G a6, F6.binds fun _ _ _ _ _ _ us hl => match us, hl with | [_], _ => rfl⟩
  have F7 := fun_mk (st := (top 26)) l7 c7 k7
  have d7 : Df K mg "check_number" (top 26) ["given", "least", "most"] f7 _ := ⟨F7, PySem.W.mg_of X G a7, F7.binds fun _ _ _ _ _ _ us hl => match us, hl with | [_, _, _], _ => rfl⟩
  have F8 := fun_mk (st := (top 29)) l8 c8 k8
  have d8 : Df K mg "next_mark" (top 29) ["step", "count", "mark"] f8 _ := ⟨F8, PySem.W.mg_of X G a8, F8.binds fun _ _ _ _ _ _ us hl => match us, hl with | [_, _, _], _ => rfl⟩
  have F9 := fun_mk (st := (top 30)) l9 c9 k9
  have d9 : Df K mg "last_mark" (top 30) ["step", "count", "mark"] f9 _ := ⟨F9, PySem.W.mg_of X G a9, F9.binds fun _ _ _ _ _ _ us hl => match us, hl with | [_, _, _], _ => rfl⟩
  have F10 := fun_mk (st := (top 31)) l10 c10 k10
  have d10 : Df K mg "rank" (top 31) ["step", "count", "mark"] f10 _ := ⟨F10, PySem.W.mg_of X G a10, F10.binds fun _ _ _ _ _ _ us hl => match us, hl with | [_, _, _], _ => rfl⟩
  have F11 := fun_mk (st := (top 32)) l11 c11 k11
  have d11 : Df K mg "mark_of" (top 32) ["step", "count", "rank"] f11 _ := ⟨F11, PySem.W.mg_of X G a11, F11.binds fun _ _ _ _ _ _ us hl => match us, hl with | [_, _, _], _ => rfl⟩
  have F12 := fun_mk (st := (top 33)) l12 c12 k12
  have d12 : Df K mg "how_many" (top 33) ["step", "count", "low", "high"] f12 _ := ⟨F12, PySem.W.mg_of X G a12, F12.binds fun _ _ _ _ _ _ us hl => match us, hl with | [_, _, _, _], _ => rfl⟩
  have F13 := fun_mk (st := (top 34)) l13 c13 k13
  have d13 : Df K mg "first_within" (top 34) ["step", "low", "high"] f13 _ := ⟨F13, PySem.W.mg_of X G a13, F13.binds fun _ _ _ _ _ _ us hl => match us, hl with | [_, _, _], _ => rfl⟩
  have F14 := fun_mk (st := (top 35)) l14 c14 k14
  have d14 : Df K mg "mark_behind" (top 35) ["mark", "many", "first", "last"] f14 _ := ⟨F14, PySem.W.mg_of X G a14, F14.binds fun _ _ _ _ _ _ us hl => match us, hl with | [_, _, _, _], _ => rfl⟩
  have F15 := fun_mk (st := (top 36)) l15 c15 k15
  have d15 : Df K mg "_check_count" (top 36) ["step", "count"] f15 _ := ⟨F15, PySem.W.mg_of X G a15, F15.binds fun _ _ _ _ _ _ us hl => match us, hl with | [_, _], _ => rfl⟩
  have F16 := fun_mk (st := (top 37)) l16 c16 k16
  have d16 : Df K mg "_check_mark" (top 37) ["step", "count", "mark"] f16 _ := ⟨F16, PySem.W.mg_of X G a16, F16.binds fun _ _ _ _ _ _ us hl => match us, hl with | [_, _, _], _ => rfl⟩
  have F17 := fun_mk (st := (top 38)) l17 c17 k17
  have d17 : Df K mg "_check_arc" (top 38) ["low", "high"] f17 _ := ⟨F17, PySem.W.mg_of X G a17, F17.binds fun _ _ _ _ _ _ us hl => match us, hl with | [_, _], _ => rfl⟩
  have F18 := fun_mk (st := (top 39)) l18 c18 k18
  have d18 : Df K mg "_how_many_places" (top 39) ["step", "count"] f18 _ := ⟨F18, PySem.W.mg_of X G a18, F18.binds fun _ _ _ _ _ _ us hl => match us, hl with | [_, _], _ => rfl⟩
  have F19 := fun_mk (st := (top 40)) l19 c19 k19
  have d19 : Df K mg "_beside_zero" (top 40) ["step", "many"] f19 _ := ⟨F19, PySem.W.mg_of X G a19, F19.binds fun _ _ _ _ _ _ us hl => match us, hl with | [_, _], _ => rfl⟩
  have F20 := fun_mk (st := (top 41)) l20 c20 k20
  have d20 : Df K mg "_how_many_below" (top 41) ["step", "count", "most"] f20 _ := ⟨F20, PySem.W.mg_of X G a20, F20.binds fun _ _ _ _ _ _ us hl => match us, hl with | [_, _, _], _ => rfl⟩
  have F21 := fun_mk (st := (top 42)) l21 c21 k21
  have d21 : Df K mg "_sum_of_wholes" (top 42) ["count", "bottom", "slope", "shift"] f21 _ := ⟨F21, PySem.W.mg_of X G a21, F21.binds fun _ _ _ _ _ _ us hl => match us, hl with | [_, _, _, _], _ => rfl⟩
  have F22 := fun_mk (st := (top 43)) l22 c22 k22
  have d22 : Df K mg "_least_top" (top 43) ["fraction", "bottom"] f22 _ := ⟨F22, PySem.W.mg_of X G a22, F22.binds fun _ _ _ _ _ _ us hl => match us, hl with | [_, _], _ => rfl⟩
  have F23 := fun_mk (st := (top 44)) l23 c23 k23
  have d23 : Df K mg "_first_from_to" (top 44) ["step", "least", "most"] f23 _ := ⟨F23, PySem.W.mg_of X G a23, F23.binds fun _ _ _ _ _ _ us hl => match us, hl with | [_, _, _], _ => rfl⟩
  have F24 := fun_mk (st := (top 45)) l24 c24 k24
  have d24 : Df K mg "_first_from" (top 45) ["slope", "least"] f24 _ := ⟨F24, PySem.W.mg_of X G a24, F24.binds fun _ _ _ _ _ _ us hl => match us, hl with | [_, _], _ => rfl⟩
  have F25 := fun_mk (st := (top 48)) l25 c25 k25
  have d25 : Df K mg "place" (top 48) ["step", "mark"] f25 _ := ⟨F25, PySem.W.mg_of X G a25, F25.binds fun _ _ _ _ _ _ us hl => match us, hl with | [_, _], _ => rfl⟩
  have F26 := fun_mk (st := (top 49)) l26 c26 k26
  have d26 : Df K mg "order" (top 49) ["step", "count"] f26 _ := ⟨F26, PySem.W.mg_of X G a26, F26.binds fun _ _ _ _ _ _ us hl => match us, hl with | [_, _], _ => rfl⟩
  have F27 := fun_mk (st := (top 50)) l27 c27 k27
  have d27 : Df K mg "mirrored" (top 50) ["step"] f27 _ := ⟨F27, PySem.W.mg_of X G a27, F27.binds fun _ _ _ _ _ _ us hl => match us, hl with | [_], _ => rfl⟩
  have F28 := fun_mk (st := (top 51)) l28 c28 k28
  have d28 : Df K mg "parting" (top 51) ["one", "other"] f28 _ := ⟨F28, PySem.W.mg_of X G a28, F28.binds fun _ _ _ _ _ _ us hl => match us, hl with | [_, _], _ => rfl⟩
  have F29 := fun_mk (st := (top 52)) l29 c29 k29
  have d29 : Df K mg "between" (top 52) ["one", "other"] f29 _ := ⟨F29, PySem.W.mg_of X G a29, F29.binds fun _ _ _ _ _ _ us hl => match us, hl with | [_, _], _ => rfl⟩
  have F30 := fun_mk (st := (top 53)) l30 c30 k30
  have d30 : Df K mg "lowest" (top 53) ["top", "bottom"] f30 _ := ⟨F30, PySem.W.mg_of X G a30, F30.binds fun _ _ _ _ _ _ us hl => match us, hl with | [_, _], _ => rfl⟩
  have F31 := fun_mk (st := (top 54)) l31 c31 k31
  have d31 : Df K mg "simplest_in" (top 54) ["low", "high", "first", "last"] f31 _ := ⟨F31, PySem.W.mg_of X G a31, F31.binds fun _ _ _ _ _ _ us hl => match us, hl with | [_, _, _, _], _ => rfl⟩
  have F32 := fun_mk (st := (top 55)) l32 c32 k32
  have d32 : Df K mg "_simplest_between" (top 55) ["one", "other"] f32 _ := ⟨F32, PySem.W.mg_of X G a32, F32.binds fun _ _ _ _ _ _ us hl => match us, hl with | [_, _], _ => rfl⟩
  have F33 := fun_mk (st := (top 56)) l33 c33 k33
  have d33 : Df K mg "_least_whole" (top 56) ["low", "first"] f33 _ := ⟨F33, PySem.W.mg_of X G a33, F33.binds fun _ _ _ _ _ _ us hl => match us, hl with | [_, _], _ => rfl⟩
  have F34 := fun_mk (st := (top 57)) l34 c34 k34
  have d34 : Df K mg "_is_within" (top 57) ["whole", "high", "last"] f34 _ := ⟨F34, PySem.W.mg_of X G a34, F34.binds fun _ _ _ _ _ _ us hl => match us, hl with | [_, _, _], _ => rfl⟩
  have F35 := fun_mk (st := (top 58)) l35 c35 k35
  have d35 : Df K mg "_turned" (top 58) ["fraction", "whole"] f35 _ := ⟨F35, PySem.W.mg_of X G a35, F35.binds fun _ _ _ _ _ _ us hl => match us, hl with | [_, _], _ => rfl⟩
  have F36 := fun_mk (st := (top 60)) l36 c36 k36
  have d36 : Df K mg "_law_tin" (top 60) ["_law_script", "_law_turn"] f36 _ := ⟨F36, PySem.W.mg_of X G a36, F36.binds fun _ _ _ _ _ _ us hl => match us, hl with | [_, _], _ => rfl⟩
  have F37 := fun_mk (st := (top 61)) l37 c37 k37
  have d37 : Df K mg "_law_sip" (top 61) ["_law_tin_here", "_law_top"] f37 _ := ⟨F37, PySem.W.mg_of X G a37, F37.binds fun _ _ _ _ _ _ us hl => match us, hl with | [_, _], _ => rfl⟩
  have F38 := fun_mk (st := (top 62)) l38 c38 k38
  have d38 : Df K mg "_law_pick" (top 62) ["_law_tin_here", "_law_menu"] f38 _ := ⟨F38, PySem.W.mg_of X G a38, F38.binds fun _ _ _ _ _ _ us hl => match us, hl with | [_, _], _ => rfl⟩
  have F39 := fun_mk (st := (top 63)) l39 c39 k39
  have d39 : Df K mg "_law_far" (top 63) ["_law_tin_here", "_law_most"] f39 _ := ⟨F39, PySem.W.mg_of X G a39, F39.binds fun _ _ _ _ _ _ us hl => match us, hl with | [_, _], _ => rfl⟩
  have F40 := fun_mk (st := (top 64)) l40 c40 k40
  have d40 : Df K mg "_law_gcd" (top 64) ["_law_one", "_law_two"] f40 _ := ⟨F40, PySem.W.mg_of X G a40, F40.binds fun _ _ _ _ _ _ us hl => match us, hl with | [_, _], _ => rfl⟩
  have F41 := fun_mk (st := (top 65)) l41 c41 k41
  have d41 : Df K mg "_law_low" (top 65) ["_law_top", "_law_bottom"] f41 _ := ⟨F41, PySem.W.mg_of X G a41, F41.binds fun _ _ _ _ _ _ us hl => match us, hl with | [_, _], _ => rfl⟩
  have F42 := fun_mk (st := (top 66)) l42 c42 k42
  have d42 : Df K mg "_law_under" (top 66) ["_law_one", "_law_two"] f42 _ := ⟨F42, PySem.W.mg_of X G a42, F42.binds fun _ _ _ _ _ _ us hl => match us, hl with | [_, _], _ => rfl⟩
  have F43 := fun_mk (st := (top 67)) l43 c43 k43
  have d43 : Df K mg "_law_step" (top 67) ["_law_tin_here", "_law_most"] f43 _ := ⟨F43, PySem.W.mg_of X G a43, F43.binds fun _ _ _ _ _ _ us hl => match us, hl with | [_, _], _ => rfl⟩
  have F44 := fun_mk (st := (top 68)) l44 c44 k44
  have d44 : Df K mg "_law_is_number" (top 68) ["_law_thing", "_law_low_here", "_law_high"] f44 _ := ⟨F44, PySem.W.mg_of X G a44, F44.binds fun _ _ _ _ _ _ us hl => match us, hl with | [_, _, _], _ => rfl⟩
  have F45 := fun_mk (st := (top 69)) l45 c45 k45
  have d45 : Df K mg "_law_is_part" (top 69) ["_law_thing"] f45 _ := ⟨F45, PySem.W.mg_of X G a45, F45.binds fun _ _ _ _ _ _ us hl => match us, hl with | [_], _ => rfl⟩
  have F46 := fun_mk (st := (top 70)) l46 c46 k46
  have d46 : Df K mg "_law_is_step" (top 70) ["_law_thing"] f46 _ := ⟨F46, PySem.W.mg_of X G a46, F46.binds fun _ _ _ _ _ _ us hl => match us, hl with | [_], _ => rfl⟩
  have F47 := fun_mk (st := (top 71)) l47 c47 k47
  have d47 : Df K mg "_law_odd" (top 71) ["_law_tin_here"] f47 _ := ⟨F47, PySem.W.mg_of X G a47, F47.binds fun _ _ _ _ _ _ us hl => match us, hl with | [_], _ => rfl⟩
  have F48 := fun_mk (st := (top 72)) l48 c48 k48
  have d48 : Df K mg "_law_error" (top 72) ["_law_act"] f48 _ := ⟨F48, PySem.W.mg_of X G a48, F48.binds fun _ _ _ _ _ _ us hl => match us, hl with | [_], _ => rfl⟩
  have F49 := fun_mk (st := (top 73)) l49 c49 k49
  have d49 : Df K mg "_law_class" (top 73) ["_law_e"] f49 _ := ⟨F49, PySem.W.mg_of X G a49, F49.binds fun _ _ _ _ _ _ us hl => match us, hl with | [_], _ => rfl⟩
  have F50 := fun_mk (st := (top 74)) l50 c50 k50
  have d50 : Df K mg "_law_field" (top 74) ["_law_e"] f50 _ := ⟨F50, PySem.W.mg_of X G a50, F50.binds fun _ _ _ _ _ _ us hl => match us, hl with | [_], _ => rfl⟩
  have F51 := fun_mk (st := (top 75)) l51 c51 k51
  have d51 : Df K mg "_law_ends_right" (top 75) ["_law_found", "_law_dues"] f51 _ := ⟨F51, PySem.W.mg_of X G a51, F51.binds fun _ _ _ _ _ _ us hl => match us, hl with | [_, _], _ => rfl⟩
  have F52 := fun_mk (st := (top 76)) l52 c52 k52
  have d52 : Df K mg "_law_due" (top 76) ["_law_word", "_law_thing", "_law_is_good"] f52 _ := ⟨F52, PySem.W.mg_of X G a52, F52.binds fun _ _ _ _ _ _ us hl => match us, hl with | [_, _, _], _ => rfl⟩
  have F53 := fun_mk (st := (top 77)) l53 c53 k53
  have d53 : Df K mg "_law_steps_right" (top 77) ["_law_tin_here", "_law_x", "_law_y"] f53 _ := ⟨F53, PySem.W.mg_of X G a53, F53.binds fun _ _ _ _ _ _ us hl => match us, hl with | [_, _, _], _ => rfl⟩
  have F54 := fun_mk (st := (top 78)) l54 c54 k54
  have d54 : Df K mg "_law_ranks_right" (top 78) ["_law_tin_here", "_law_x", "_law_y"] f54 _ := ⟨F54, PySem.W.mg_of X G a54, F54.binds fun _ _ _ _ _ _ us hl => match us, hl with | [_, _, _], _ => rfl⟩
  have F55 := fun_mk (st := (top 79)) l55 c55 k55
  have d55 : Df K mg "_law_right" (top 79) ["_law_tin_here"] f55 _ := ⟨F55, PySem.W.mg_of X G a55, F55.binds fun _ _ _ _ _ _ us hl => match us, hl with | [_], _ => rfl⟩
  have F56 := fun_mk (st := (top 80)) l56 c56 k56
  have n0 := PySem.W.mg_none_of X G z0
  have n1 := PySem.W.mg_none_of X G z1
  have n2 := PySem.W.mg_none_of X G z2
  have n3 := PySem.W.mg_none_of X G z3
  have n4 := PySem.W.mg_none_of X G z4
  have n5 := PySem.W.mg_none_of X G z5
  have n6 := PySem.W.mg_none_of X G z6
  have n7 := PySem.W.mg_none_of X G z7
  have n8 := PySem.W.mg_none_of X G z8
  have n9 := PySem.W.mg_none_of X G z9
  have n10 := PySem.W.mg_none_of X G z10
  have n11 := PySem.W.mg_none_of X G z11
  have n12 := PySem.W.mg_none_of X G z12
  have n13 := PySem.W.mg_none_of X G z13
  have n14 := PySem.W.mg_none_of X G z14
  have n15 := PySem.W.mg_none_of X G z15
  have n16 := PySem.W.mg_none_of X G z16
  have v0 := PySem.W.mg_of X G m0
  have v1 := PySem.W.mg_of X G m1
  have v2 := PySem.W.mg_of X G m2
  obtain ⟨t1_0, t2_0⟩ := tabs _ _ _ _ tr0 tb0
  obtain ⟨t1_1, t2_1⟩ := tabs _ _ _ _ tr1 tb1
  refine ⟨(PySem.W.fnOf "law" "law" (defArgs sLaw) (defBody sLaw) (defScope sLaw) .none kV56 dc56 pm56 an56 cd56 ct56), [(cc0, PP0), (cc1, PP1)], spLaw K [(PP0, qS), (PP1, qR)], fun p hp => ?_, fun s v => .of_eq rfl, fun H a ns hl ht hS => ⟨a, ns, rfl, hS, hl, fun p hp => ?_, fun _ => rfl⟩, fun base _ _ TB => ?_⟩
  · rcases is2 hp with rfl | rfl
    · exact ⟨t2_0, tn0, t1_0⟩
    · exact ⟨t2_1, tn1, t1_1⟩
  · rcases is2 hp with rfl | rfl
    · exact LamX.TabS.nil (ht (cc0, PP0) List.mem_cons_self)
    · exact LamX.TabS.nil (ht (cc1, PP1) (List.mem_cons_of_mem _ List.mem_cons_self))
  let er : Er mg := { c := fun i => match i with | 0 => C0 | 1 => C1 | 2 => C2 | 3 => C3 | 4 => C4 | 5 => C5 | 6 => C6 | 7 => C7 | 8 => C8 | 9 => C9 | 10 => C10 | 11 => C11 | _ => C12, R0 := R0, R1 := R1, R2 := R2, g := fun i hi => match i, hi with | 0, _ => PySem.W.mg_of X G g0 | 1, _ => PySem.W.mg_of X G g1 | 2, _ => PySem.W.mg_of X G g2 | 3, _ => PySem.W.mg_of X G g3 | 4, _ => PySem.W.mg_of X G g4 | 5, _ => PySem.W.mg_of X G g5 | 6, _ => PySem.W.mg_of X G g6 | 7, _ => PySem.W.mg_of X G g7 | 8, _ => PySem.W.mg_of X G g8 | 9, _ => PySem.W.mg_of X G g9 | 10, _ => PySem.W.mg_of X G g10 | 11, _ => PySem.W.mg_of X G g11 | 12, _ => PySem.W.mg_of X G g12 | i + 13, z => absurd z (by omega), g0 := PySem.W.mg_of X G r0, g1 := PySem.W.mg_of X G r1, g2 := PySem.W.mg_of X G r2, v0 := n14, v1 := n15, v2 := n16, isi := n3, len := n0 }
  have one1 : ∀ i, i < 13 → PySem.W.kitOne K (.ref C1) (.ref (er.c i)) = some (decide (i = 1)) := fun i hi => match i, hi with | 0, _ => o1_0 | 1, _ => one_self | 2, _ => o1_2 | 3, _ => o1_3 | 4, _ => o1_4 | 5, _ => o1_5 | 6, _ => o1_6 | 7, _ => o1_7 | 8, _ => o1_8 | 9, _ => o1_9 | 10, _ => o1_10 | 11, _ => o1_11 | 12, _ => o1_12 | i + 13, z => absurd z (by omega)
  have held1 : Held K er C1 1 := { ex := T1.ex, xf := T1.xf, lt := by decide, one := one1, no := fun n e => by cases e; exact T1.no _ (by simp), bs := ⟨true, false, false, rfl, HK1.o0, HK1.o1, HK1.o2, HK1.t0, HK1.t1, HK1.t2⟩, ma := ma_of x1_0 x1_1 x1_2 }
  have one2 : ∀ i, i < 13 → PySem.W.kitOne K (.ref C2) (.ref (er.c i)) = some (decide (i = 2)) := fun i hi => match i, hi with | 0, _ => o2_0 | 1, _ => o2_1 | 2, _ => one_self | 3, _ => o2_3 | 4, _ => o2_4 | 5, _ => o2_5 | 6, _ => o2_6 | 7, _ => o2_7 | 8, _ => o2_8 | 9, _ => o2_9 | 10, _ => o2_10 | 11, _ => o2_11 | 12, _ => o2_12 | i + 13, z => absurd z (by omega)
  have held2 : Held K er C2 2 := { ex := T2.ex, xf := T2.xf, lt := by decide, one := one2, no := fun n e => by cases e; exact T2.no _ (by simp), bs := ⟨true, false, false, rfl, HK2.o0, HK2.o1, HK2.o2, HK2.t0, HK2.t1, HK2.t2⟩, ma := ma_of x2_0 x2_1 x2_2 }
  have one3 : ∀ i, i < 13 → PySem.W.kitOne K (.ref C3) (.ref (er.c i)) = some (decide (i = 3)) := fun i hi => match i, hi with | 0, _ => o3_0 | 1, _ => o3_1 | 2, _ => o3_2 | 3, _ => one_self | 4, _ => o3_4 | 5, _ => o3_5 | 6, _ => o3_6 | 7, _ => o3_7 | 8, _ => o3_8 | 9, _ => o3_9 | 10, _ => o3_10 | 11, _ => o3_11 | 12, _ => o3_12 | i + 13, z => absurd z (by omega)
  have held3 : Held K er C3 3 := { ex := T3.ex, xf := T3.xf, lt := by decide, one := one3, no := fun n e => by cases e; exact T3.no _ (by simp), bs := ⟨true, false, false, rfl, HK3.o0, HK3.o1, HK3.o2, HK3.t0, HK3.t1, HK3.t2⟩, ma := ma_of x3_0 x3_1 x3_2 }
  have bl : Bl mg := ⟨n0, n1, n2⟩
  have bc : Bc mg := ⟨n3, n1, n4, n5, n0, v0⟩
  let ck : Ck l.prog w K mg base := { c := bc, mc := ⟨_, v1⟩, fi := ⟨f0, _⟩, di := d0, fr := ⟨f1, _⟩, dr := d1, fs := ⟨f2, _⟩, ds := d2, fc := ⟨f6, _⟩, dc := d6, fm := ⟨f5, _⟩, dm := d5, fn := ⟨f7, _⟩, dn := d7, fp := ⟨f3, _⟩, dp := d3, fl := ⟨f4, _⟩, dl := d4, gc := ⟨f15, _⟩, ec := d15, CS := C2, eS := ⟨eN2, _⟩, tS := cl2 X G T2, CN := C1, eN := ⟨eN1, _⟩, tN := cl1 X G T1, CA := C3, eA := ⟨eN3, _⟩, tA := cl3 X G T3 }
  have bo : O.Bo mg := ⟨bc, n6, n12, _, v2⟩
  let si : B.Si K mg := { rv := n8, fm := ⟨f31, _⟩, m := d31, fa := ⟨f33, _⟩, lw := d33, fb := ⟨f34, _⟩, iw := d34, ft := ⟨f35, _⟩, tu := d35, fl := ⟨f4, _⟩, il := d4 }
  let rk : R.Rk K mg := { c := bc, min := n9, mc := ⟨_, v1⟩, fi := ⟨f0, _⟩, di := d0, fr := ⟨f1, _⟩, dr := d1, fs := ⟨f2, _⟩, ds := d2, fc := ⟨f6, _⟩, dc := d6, fm := ⟨f5, _⟩, dm := d5, fn := ⟨f7, _⟩, dn := d7, gb := ⟨f14, _⟩, eb := d14, gc := ⟨f15, _⟩, ec := d15, gk := ⟨f16, _⟩, ek := d16, gm := ⟨f18, _⟩, em := d18, gz := ⟨f19, _⟩, ez := d19 }
  let rs : R.Rs K mg := { rk := rk, dv := n7, rv := n8, hb := ⟨f20, _⟩, lb := d20, hs := ⟨f21, _⟩, ls := d21, hf := ⟨f23, _⟩, lf := d23, hg := ⟨f24, _⟩, lg := d24 }
  let cn : W.Cn K mg := { c := bc, dv := n7, rv := n8, mc := ⟨_, v1⟩, fi := ⟨f0, _⟩, di := d0, fr := ⟨f1, _⟩, dr := d1, fs := ⟨f2, _⟩, ds := d2, fc := ⟨f6, _⟩, dc := d6, fm := ⟨f5, _⟩, dm := d5, fn := ⟨f7, _⟩, dn := d7, fp := ⟨f3, _⟩, dp := d3, fl := ⟨f4, _⟩, dl := d4, gc := ⟨f15, _⟩, ec := d15, ga := ⟨f17, _⟩, ea := d17, gb := ⟨f20, _⟩, eb := d20, gs := ⟨f21, _⟩, es := d21, gt := ⟨f22, _⟩, et := d22, gf := ⟨f23, _⟩, ef := d23, gg := ⟨f24, _⟩, eg := d24 }
  let fs : Fs l.prog w K mg base := { ck := ck, bo := bo, si := si, rs := rs, cn := cn, fo := ⟨f30, _⟩, lo := d30, fb := ⟨f32, _⟩, sb := d32, pl := ⟨f25, _⟩, dpl := d25, od := ⟨f26, _⟩, dod := d26, mi := ⟨f27, _⟩, dmi := d27, pa := ⟨f28, _⟩, dpa := d28, be := ⟨f29, _⟩, dbe := d29, nx := ⟨f8, _⟩, dnx := d8, la := ⟨f9, _⟩, dla := d9, ra := ⟨f10, _⟩, dra := d10, mo := ⟨f11, _⟩, dmo := d11, hm := ⟨f12, _⟩, dhm := d12, fw := ⟨f13, _⟩, dfw := d13 }
  let la : La l.prog w K mg base := { fs := fs, er := er, hS := held2, hN := held1, hA := held3, b := bl, rp := n13, range := n6, all := n11, gs := ⟨f37, _⟩, ls := d37, gp := ⟨f38, _⟩, lp := d38, gf := ⟨f39, _⟩, lf := d39, gg := ⟨f40, _⟩, lg := d40, gl := ⟨f41, _⟩, ll := d41, ge := ⟨f43, _⟩, le := d43, gu := ⟨f42, _⟩, lu := d42, hn := ⟨f44, _⟩, lN := d44, hp := ⟨f45, _⟩, lP := d45, hi := ⟨f46, _⟩, lI := d46, ho := ⟨f47, _⟩, lO := d47, he := ⟨f48, _⟩, lE := d48, hc := ⟨f49, _⟩, lC := d49, hf := ⟨f50, _⟩, lF := d50, hx := ⟨f51, _⟩, lX := d51, hd := ⟨f52, _⟩, lD := d52, plk := kwOf2s F25 fun _ _ _ _ _ _ _ _ => rfl, bek := kwOf2s F29 fun _ _ _ _ _ _ _ _ => rfl, lak := kwOfR F9 rfl (by decide) fun _ _ _ _ _ _ ws hl => match ws, hl with | [_, _, _], _ => rfl, fwk := kwOfR F13 rfl (by decide) fun _ _ _ _ _ _ ws hl => match ws, hl with | [_, _, _], _ => rfl }
  let lb : Lb l.prog w K mg base := { la := la, sr := ⟨f53, _⟩, rr := ⟨f54, _⟩, ds := d53, dr := d54, cs := cc0, cr := cc1, PS := PP0, PR := PP1, es := rfl, er := rfl, ts := TB (cc0, PP0) List.mem_cons_self, tr := TB (cc1, PP1) (List.mem_cons_of_mem _ List.mem_cons_self), ne := npp }
  let lc : Lc l.prog w K mg base := { lb := lb, max := n10, min := n9, gt := ⟨f36, _⟩, lt := d36, gr := ⟨f55, _⟩, dg := d55 }
  exact ok_law F56 lc
end My
open PySem PySem.W PyProof.Rows
set_option maxRecDepth 100000 in
set_option maxHeartbeats 0 in
theorem PySem.Challenge.cw_rimorders_k08_steps_and_ranks_refused_holds : PySem.Challenge.rw_rimorders_k08_steps_and_ranks_refused.Holds := by
  w_on; o_law; k_head; (case hw => w_witness2)
  k_fill
  refine Gn.walkGT (l := PySem.Challenge.rw_rimorders_k08_steps_and_ranks_refused) (n := 63) (k := 12) (x := "_law_script") (CX := fun _ => L2.CX0) rfl (by decide) rfl ⟨rfl, by decide, by decide⟩ (fun w h Y => PySem.W.km_in_of Y) ?F fun _ _ _ _ _ z => z
  case F =>
    intro w mg fa h tabs KX G hmg
    refine' My.all_mk tabs rfl rfl KX G hmg ?tb0 ?tn0 ?tb1 ?tn1 ?npp ?r0 ?r1 ?r2 ?cg0 ?co1_0 ?co2_0 ?co3_0 ?cg1 ?co2_1 ?co3_1 ?cg2 ?co1_2 ?co3_2 ?cg3 ?co1_3 ?co2_3 ?cg4 ?co1_4 ?co2_4 ?co3_4 ?cg5 ?co1_5 ?co2_5 ?co3_5 ?cg6 ?co1_6 ?co2_6 ?co3_6 ?cg7 ?co1_7 ?co2_7 ?co3_7 ?cg8 ?co1_8 ?co2_8 ?co3_8 ?cg9 ?co1_9 ?co2_9 ?co3_9 ?cg10 ?co1_10 ?co2_10 ?co3_10 ?cg11 ?co1_11 ?co2_11 ?co3_11 ?cg12 ?co1_12 ?co2_12 ?co3_12 ?T1 ?HK1 ?x1_0 ?x1_1 ?x1_2 ?T2 ?HK2 ?x2_0 ?x2_1 ?x2_2 ?T3 ?HK3 ?x3_0 ?x3_1 ?x3_2 ?a0 ?l0 ?c0 ?k0 ?a1 ?l1 ?c1 ?k1 ?a2 ?l2 ?c2 ?k2 ?a3 ?l3 ?c3 ?k3 ?a4 ?l4 ?c4 ?k4 ?a5 ?l5 ?c5 ?k5 ?a6 ?l6 ?c6 ?k6 ?a7 ?l7 ?c7 ?k7 ?a8 ?l8 ?c8 ?k8 ?a9 ?l9 ?c9 ?k9 ?a10 ?l10 ?c10 ?k10 ?a11 ?l11 ?c11 ?k11 ?a12 ?l12 ?c12 ?k12 ?a13 ?l13 ?c13 ?k13 ?a14 ?l14 ?c14 ?k14 ?a15 ?l15 ?c15 ?k15 ?a16 ?l16 ?c16 ?k16 ?a17 ?l17 ?c17 ?k17 ?a18 ?l18 ?c18 ?k18 ?a19 ?l19 ?c19 ?k19 ?a20 ?l20 ?c20 ?k20 ?a21 ?l21 ?c21 ?k21 ?a22 ?l22 ?c22 ?k22 ?a23 ?l23 ?c23 ?k23 ?a24 ?l24 ?c24 ?k24 ?a25 ?l25 ?c25 ?k25 ?a26 ?l26 ?c26 ?k26 ?a27 ?l27 ?c27 ?k27 ?a28 ?l28 ?c28 ?k28 ?a29 ?l29 ?c29 ?k29 ?a30 ?l30 ?c30 ?k30 ?a31 ?l31 ?c31 ?k31 ?a32 ?l32 ?c32 ?k32 ?a33 ?l33 ?c33 ?k33 ?a34 ?l34 ?c34 ?k34 ?a35 ?l35 ?c35 ?k35 ?a36 ?l36 ?c36 ?k36 ?a37 ?l37 ?c37 ?k37 ?a38 ?l38 ?c38 ?k38 ?a39 ?l39 ?c39 ?k39 ?a40 ?l40 ?c40 ?k40 ?a41 ?l41 ?c41 ?k41 ?a42 ?l42 ?c42 ?k42 ?a43 ?l43 ?c43 ?k43 ?a44 ?l44 ?c44 ?k44 ?a45 ?l45 ?c45 ?k45 ?a46 ?l46 ?c46 ?k46 ?a47 ?l47 ?c47 ?k47 ?a48 ?l48 ?c48 ?k48 ?a49 ?l49 ?c49 ?k49 ?a50 ?l50 ?c50 ?k50 ?a51 ?l51 ?c51 ?k51 ?a52 ?l52 ?c52 ?k52 ?a53 ?l53 ?c53 ?k53 ?a54 ?l54 ?c54 ?k54 ?a55 ?l55 ?c55 ?k55 ?a56 ?l56 ?c56 ?k56 ?z0 ?z1 ?z2 ?z3 ?z4 ?z5 ?z6 ?z7 ?z8 ?z9 ?z10 ?z11 ?z12 ?z13 ?z14 ?z15 ?z16 ?m0 ?m1 ?m2
    (case a53 => k_is)
    (case l53 => k_is)
    (case a54 => k_is)
    (case l54 => k_is)
    case tb0 =>
      refine' My.tab_mk ?ta0 ?tl0 ?te0 ?tc0 ?tv0
      (case ta0 => k_is)
      (case tl0 => k_is)
      (case te0 => rfl)
      (case tc0 => k_is)
      (case tv0 => rfl)
    (case tn0 => first | kernel_rfl | rfl)
    case tb1 =>
      refine' My.tab_mk ?ta1 ?tl1 ?te1 ?tc1 ?tv1
      (case ta1 => k_is)
      (case tl1 => k_is)
      (case te1 => rfl)
      (case tc1 => k_is)
      (case tv1 => rfl)
    (case tn1 => first | kernel_rfl | rfl)
    (case npp => decide)
    (case r0 => k_is)
    (case r1 => k_is)
    (case r2 => k_is)
    (case cg0 => k_is)
    (case cg1 => k_is)
    (case cg2 => k_is)
    (case cg3 => k_is)
    (case cg4 => k_is)
    (case cg5 => k_is)
    (case cg6 => k_is)
    (case cg7 => k_is)
    (case cg8 => k_is)
    (case cg9 => k_is)
    (case cg10 => k_is)
    (case cg11 => k_is)
    (case cg12 => k_is)
    case co1_0 =>
      refine' My.Rt.one ⟨?y1_0i, ?y1_0t, ?y1_0e⟩ ?y1_0n ?y1_0s
      (case y1_0i => k_is)
      (case y1_0t => k_is)
      (case y1_0e => k_is)
      (case y1_0s => k_is)
      (case y1_0n => decide)
    case co1_2 =>
      refine' My.Rt.one ⟨?y1_2i, ?y1_2t, ?y1_2e⟩ ?y1_2n ?y1_2s
      (case y1_2i => k_is)
      (case y1_2t => k_is)
      (case y1_2e => k_is)
      (case y1_2s => k_is)
      (case y1_2n => decide)
    case co1_3 =>
      refine' My.Rt.one ⟨?y1_3i, ?y1_3t, ?y1_3e⟩ ?y1_3n ?y1_3s
      (case y1_3i => k_is)
      (case y1_3t => k_is)
      (case y1_3e => k_is)
      (case y1_3s => k_is)
      (case y1_3n => decide)
    case co1_4 =>
      refine' My.Rt.one ⟨?y1_4i, ?y1_4t, ?y1_4e⟩ ?y1_4n ?y1_4s
      (case y1_4i => k_is)
      (case y1_4t => k_is)
      (case y1_4e => k_is)
      (case y1_4s => k_is)
      (case y1_4n => decide)
    case co1_5 =>
      refine' My.Rt.one ⟨?y1_5i, ?y1_5t, ?y1_5e⟩ ?y1_5n ?y1_5s
      (case y1_5i => k_is)
      (case y1_5t => k_is)
      (case y1_5e => k_is)
      (case y1_5s => k_is)
      (case y1_5n => decide)
    case co1_6 =>
      refine' My.Rt.one ⟨?y1_6i, ?y1_6t, ?y1_6e⟩ ?y1_6n ?y1_6s
      (case y1_6i => k_is)
      (case y1_6t => k_is)
      (case y1_6e => k_is)
      (case y1_6s => k_is)
      (case y1_6n => decide)
    case co1_7 =>
      refine' My.Rt.one ⟨?y1_7i, ?y1_7t, ?y1_7e⟩ ?y1_7n ?y1_7s
      (case y1_7i => k_is)
      (case y1_7t => k_is)
      (case y1_7e => k_is)
      (case y1_7s => k_is)
      (case y1_7n => decide)
    case co1_8 =>
      refine' My.Rt.one ⟨?y1_8i, ?y1_8t, ?y1_8e⟩ ?y1_8n ?y1_8s
      (case y1_8i => k_is)
      (case y1_8t => k_is)
      (case y1_8e => k_is)
      (case y1_8s => k_is)
      (case y1_8n => decide)
    case co1_9 =>
      refine' My.Rt.one ⟨?y1_9i, ?y1_9t, ?y1_9e⟩ ?y1_9n ?y1_9s
      (case y1_9i => k_is)
      (case y1_9t => k_is)
      (case y1_9e => k_is)
      (case y1_9s => k_is)
      (case y1_9n => decide)
    case co1_10 =>
      refine' My.Rt.one ⟨?y1_10i, ?y1_10t, ?y1_10e⟩ ?y1_10n ?y1_10s
      (case y1_10i => k_is)
      (case y1_10t => k_is)
      (case y1_10e => k_is)
      (case y1_10s => k_is)
      (case y1_10n => decide)
    case co1_11 =>
      refine' My.Rt.one ⟨?y1_11i, ?y1_11t, ?y1_11e⟩ ?y1_11n ?y1_11s
      (case y1_11i => k_is)
      (case y1_11t => k_is)
      (case y1_11e => k_is)
      (case y1_11s => k_is)
      (case y1_11n => decide)
    case co1_12 =>
      refine' My.Rt.one ⟨?y1_12i, ?y1_12t, ?y1_12e⟩ ?y1_12n ?y1_12s
      (case y1_12i => k_is)
      (case y1_12t => k_is)
      (case y1_12e => k_is)
      (case y1_12s => k_is)
      (case y1_12n => decide)
    case co2_0 =>
      refine' My.Rt.one ⟨?y2_0i, ?y2_0t, ?y2_0e⟩ ?y2_0n ?y2_0s
      (case y2_0i => k_is)
      (case y2_0t => k_is)
      (case y2_0e => k_is)
      (case y2_0s => k_is)
      (case y2_0n => decide)
    case co2_1 =>
      refine' My.Rt.one ⟨?y2_1i, ?y2_1t, ?y2_1e⟩ ?y2_1n ?y2_1s
      (case y2_1i => k_is)
      (case y2_1t => k_is)
      (case y2_1e => k_is)
      (case y2_1s => k_is)
      (case y2_1n => decide)
    case co2_3 =>
      refine' My.Rt.one ⟨?y2_3i, ?y2_3t, ?y2_3e⟩ ?y2_3n ?y2_3s
      (case y2_3i => k_is)
      (case y2_3t => k_is)
      (case y2_3e => k_is)
      (case y2_3s => k_is)
      (case y2_3n => decide)
    case co2_4 =>
      refine' My.Rt.one ⟨?y2_4i, ?y2_4t, ?y2_4e⟩ ?y2_4n ?y2_4s
      (case y2_4i => k_is)
      (case y2_4t => k_is)
      (case y2_4e => k_is)
      (case y2_4s => k_is)
      (case y2_4n => decide)
    case co2_5 =>
      refine' My.Rt.one ⟨?y2_5i, ?y2_5t, ?y2_5e⟩ ?y2_5n ?y2_5s
      (case y2_5i => k_is)
      (case y2_5t => k_is)
      (case y2_5e => k_is)
      (case y2_5s => k_is)
      (case y2_5n => decide)
    case co2_6 =>
      refine' My.Rt.one ⟨?y2_6i, ?y2_6t, ?y2_6e⟩ ?y2_6n ?y2_6s
      (case y2_6i => k_is)
      (case y2_6t => k_is)
      (case y2_6e => k_is)
      (case y2_6s => k_is)
      (case y2_6n => decide)
    case co2_7 =>
      refine' My.Rt.one ⟨?y2_7i, ?y2_7t, ?y2_7e⟩ ?y2_7n ?y2_7s
      (case y2_7i => k_is)
      (case y2_7t => k_is)
      (case y2_7e => k_is)
      (case y2_7s => k_is)
      (case y2_7n => decide)
    case co2_8 =>
      refine' My.Rt.one ⟨?y2_8i, ?y2_8t, ?y2_8e⟩ ?y2_8n ?y2_8s
      (case y2_8i => k_is)
      (case y2_8t => k_is)
      (case y2_8e => k_is)
      (case y2_8s => k_is)
      (case y2_8n => decide)
    case co2_9 =>
      refine' My.Rt.one ⟨?y2_9i, ?y2_9t, ?y2_9e⟩ ?y2_9n ?y2_9s
      (case y2_9i => k_is)
      (case y2_9t => k_is)
      (case y2_9e => k_is)
      (case y2_9s => k_is)
      (case y2_9n => decide)
    case co2_10 =>
      refine' My.Rt.one ⟨?y2_10i, ?y2_10t, ?y2_10e⟩ ?y2_10n ?y2_10s
      (case y2_10i => k_is)
      (case y2_10t => k_is)
      (case y2_10e => k_is)
      (case y2_10s => k_is)
      (case y2_10n => decide)
    case co2_11 =>
      refine' My.Rt.one ⟨?y2_11i, ?y2_11t, ?y2_11e⟩ ?y2_11n ?y2_11s
      (case y2_11i => k_is)
      (case y2_11t => k_is)
      (case y2_11e => k_is)
      (case y2_11s => k_is)
      (case y2_11n => decide)
    case co2_12 =>
      refine' My.Rt.one ⟨?y2_12i, ?y2_12t, ?y2_12e⟩ ?y2_12n ?y2_12s
      (case y2_12i => k_is)
      (case y2_12t => k_is)
      (case y2_12e => k_is)
      (case y2_12s => k_is)
      (case y2_12n => decide)
    case co3_0 =>
      refine' My.Rt.one ⟨?y3_0i, ?y3_0t, ?y3_0e⟩ ?y3_0n ?y3_0s
      (case y3_0i => k_is)
      (case y3_0t => k_is)
      (case y3_0e => k_is)
      (case y3_0s => k_is)
      (case y3_0n => decide)
    case co3_1 =>
      refine' My.Rt.one ⟨?y3_1i, ?y3_1t, ?y3_1e⟩ ?y3_1n ?y3_1s
      (case y3_1i => k_is)
      (case y3_1t => k_is)
      (case y3_1e => k_is)
      (case y3_1s => k_is)
      (case y3_1n => decide)
    case co3_2 =>
      refine' My.Rt.one ⟨?y3_2i, ?y3_2t, ?y3_2e⟩ ?y3_2n ?y3_2s
      (case y3_2i => k_is)
      (case y3_2t => k_is)
      (case y3_2e => k_is)
      (case y3_2s => k_is)
      (case y3_2n => decide)
    case co3_4 =>
      refine' My.Rt.one ⟨?y3_4i, ?y3_4t, ?y3_4e⟩ ?y3_4n ?y3_4s
      (case y3_4i => k_is)
      (case y3_4t => k_is)
      (case y3_4e => k_is)
      (case y3_4s => k_is)
      (case y3_4n => decide)
    case co3_5 =>
      refine' My.Rt.one ⟨?y3_5i, ?y3_5t, ?y3_5e⟩ ?y3_5n ?y3_5s
      (case y3_5i => k_is)
      (case y3_5t => k_is)
      (case y3_5e => k_is)
      (case y3_5s => k_is)
      (case y3_5n => decide)
    case co3_6 =>
      refine' My.Rt.one ⟨?y3_6i, ?y3_6t, ?y3_6e⟩ ?y3_6n ?y3_6s
      (case y3_6i => k_is)
      (case y3_6t => k_is)
      (case y3_6e => k_is)
      (case y3_6s => k_is)
      (case y3_6n => decide)
    case co3_7 =>
      refine' My.Rt.one ⟨?y3_7i, ?y3_7t, ?y3_7e⟩ ?y3_7n ?y3_7s
      (case y3_7i => k_is)
      (case y3_7t => k_is)
      (case y3_7e => k_is)
      (case y3_7s => k_is)
      (case y3_7n => decide)
    case co3_8 =>
      refine' My.Rt.one ⟨?y3_8i, ?y3_8t, ?y3_8e⟩ ?y3_8n ?y3_8s
      (case y3_8i => k_is)
      (case y3_8t => k_is)
      (case y3_8e => k_is)
      (case y3_8s => k_is)
      (case y3_8n => decide)
    case co3_9 =>
      refine' My.Rt.one ⟨?y3_9i, ?y3_9t, ?y3_9e⟩ ?y3_9n ?y3_9s
      (case y3_9i => k_is)
      (case y3_9t => k_is)
      (case y3_9e => k_is)
      (case y3_9s => k_is)
      (case y3_9n => decide)
    case co3_10 =>
      refine' My.Rt.one ⟨?y3_10i, ?y3_10t, ?y3_10e⟩ ?y3_10n ?y3_10s
      (case y3_10i => k_is)
      (case y3_10t => k_is)
      (case y3_10e => k_is)
      (case y3_10s => k_is)
      (case y3_10n => decide)
    case co3_11 =>
      refine' My.Rt.one ⟨?y3_11i, ?y3_11t, ?y3_11e⟩ ?y3_11n ?y3_11s
      (case y3_11i => k_is)
      (case y3_11t => k_is)
      (case y3_11e => k_is)
      (case y3_11s => k_is)
      (case y3_11n => decide)
    case co3_12 =>
      refine' My.Rt.one ⟨?y3_12i, ?y3_12t, ?y3_12e⟩ ?y3_12n ?y3_12s
      (case y3_12i => k_is)
      (case y3_12t => k_is)
      (case y3_12e => k_is)
      (case y3_12s => k_is)
      (case y3_12n => decide)
    case T1 =>
      refine' My.ck_mk (My.Glob.mk ?w1hn ?w1ht) Gn.basV ?w1g ?w1xL ?w1sa ?w1ga ?w1gg ?w1gc ?w1i ?w1ty ?w1l ?w1c ?w1kf ?w1kC ?w1eC ?w1tC ?w1hC ?w1mC (List.forall_mem_singleton.mpr ?w1n0)
      (case w1hn => k_is); (case w1ht => k_is)
      (case w1g => k_is)
      (case w1xL => k_is)
      (case w1sa => k_is)
      (case w1ga => k_is)
      (case w1gg => k_is)
      (case w1gc => k_is)
      (case w1i => k_is)
      (case w1ty => k_is)
      (case w1l => k_is)
      (case w1c => k_is)
      (case w1kf => k_is)
      (case w1kC => k_is)
      (case w1eC => k_is)
      (case w1tC => k_is)
      (case w1hC => k_is)
      (case w1mC => k_is)
      (case w1n0 => k_is)
    case HK1 =>
      refine' My.kit_mk ⟨?v1a0, ?v1a1, ?v1a2⟩ ⟨?v1b0, ?v1b1, ?v1b2⟩ ⟨?v1c0, ?v1c1, ?v1c2⟩ ?v1n0 ?v1n1 ?v1n2 ?v1s0 ?v1s1 ?v1s2 ?v1u0 ?v1u1 ?v1u2
      (case v1a0 => k_is)
      (case v1a1 => k_is)
      (case v1a2 => k_is)
      (case v1b0 => k_is)
      (case v1b1 => k_is)
      (case v1b2 => k_is)
      (case v1c0 => k_is)
      (case v1c1 => k_is)
      (case v1c2 => k_is)
      (case v1s0 => k_is)
      (case v1s1 => k_is)
      (case v1s2 => k_is)
      (case v1u0 => k_is)
      (case v1u1 => k_is)
      (case v1u2 => k_is)
      (case v1n0 => decide)
      (case v1n1 => decide)
      (case v1n2 => decide)
    case x1_0 =>
      refine' My.Rt.exm ⟨?x1_0a0, ?x1_0a1, ?x1_0a2⟩ ?x1_0s
      (case x1_0a0 => k_is)
      (case x1_0a1 => k_is)
      (case x1_0a2 => k_is)
      (case x1_0s => k_is)
    case x1_1 =>
      refine' My.Rt.exm ⟨?x1_1a0, ?x1_1a1, ?x1_1a2⟩ ?x1_1s
      (case x1_1a0 => k_is)
      (case x1_1a1 => k_is)
      (case x1_1a2 => k_is)
      (case x1_1s => k_is)
    case x1_2 =>
      refine' My.Rt.exm ⟨?x1_2a0, ?x1_2a1, ?x1_2a2⟩ ?x1_2s
      (case x1_2a0 => k_is)
      (case x1_2a1 => k_is)
      (case x1_2a2 => k_is)
      (case x1_2s => k_is)
    case T2 =>
      refine' My.ck_mk (My.Glob.mk ?w2hn ?w2ht) Gn.basV ?w2g ?w2xL ?w2sa ?w2ga ?w2gg ?w2gc ?w2i ?w2ty ?w2l ?w2c ?w2kf ?w2kC ?w2eC ?w2tC ?w2hC ?w2mC (List.forall_mem_singleton.mpr ?w2n0)
      (case w2hn => k_is); (case w2ht => k_is)
      (case w2g => k_is)
      (case w2xL => k_is)
      (case w2sa => k_is)
      (case w2ga => k_is)
      (case w2gg => k_is)
      (case w2gc => k_is)
      (case w2i => k_is)
      (case w2ty => k_is)
      (case w2l => k_is)
      (case w2c => k_is)
      (case w2kf => k_is)
      (case w2kC => k_is)
      (case w2eC => k_is)
      (case w2tC => k_is)
      (case w2hC => k_is)
      (case w2mC => k_is)
      (case w2n0 => k_is)
    case HK2 =>
      refine' My.kit_mk ⟨?v2a0, ?v2a1, ?v2a2⟩ ⟨?v2b0, ?v2b1, ?v2b2⟩ ⟨?v2c0, ?v2c1, ?v2c2⟩ ?v2n0 ?v2n1 ?v2n2 ?v2s0 ?v2s1 ?v2s2 ?v2u0 ?v2u1 ?v2u2
      (case v2a0 => k_is)
      (case v2a1 => k_is)
      (case v2a2 => k_is)
      (case v2b0 => k_is)
      (case v2b1 => k_is)
      (case v2b2 => k_is)
      (case v2c0 => k_is)
      (case v2c1 => k_is)
      (case v2c2 => k_is)
      (case v2s0 => k_is)
      (case v2s1 => k_is)
      (case v2s2 => k_is)
      (case v2u0 => k_is)
      (case v2u1 => k_is)
      (case v2u2 => k_is)
      (case v2n0 => decide)
      (case v2n1 => decide)
      (case v2n2 => decide)
    case x2_0 =>
      refine' My.Rt.exm ⟨?x2_0a0, ?x2_0a1, ?x2_0a2⟩ ?x2_0s
      (case x2_0a0 => k_is)
      (case x2_0a1 => k_is)
      (case x2_0a2 => k_is)
      (case x2_0s => k_is)
    case x2_1 =>
      refine' My.Rt.exm ⟨?x2_1a0, ?x2_1a1, ?x2_1a2⟩ ?x2_1s
      (case x2_1a0 => k_is)
      (case x2_1a1 => k_is)
      (case x2_1a2 => k_is)
      (case x2_1s => k_is)
    case x2_2 =>
      refine' My.Rt.exm ⟨?x2_2a0, ?x2_2a1, ?x2_2a2⟩ ?x2_2s
      (case x2_2a0 => k_is)
      (case x2_2a1 => k_is)
      (case x2_2a2 => k_is)
      (case x2_2s => k_is)
    case T3 =>
      refine' My.ck_mk (My.Glob.mk ?w3hn ?w3ht) Gn.basV ?w3g ?w3xL ?w3sa ?w3ga ?w3gg ?w3gc ?w3i ?w3ty ?w3l ?w3c ?w3kf ?w3kC ?w3eC ?w3tC ?w3hC ?w3mC (List.forall_mem_singleton.mpr ?w3n0)
      (case w3hn => k_is); (case w3ht => k_is)
      (case w3g => k_is)
      (case w3xL => k_is)
      (case w3sa => k_is)
      (case w3ga => k_is)
      (case w3gg => k_is)
      (case w3gc => k_is)
      (case w3i => k_is)
      (case w3ty => k_is)
      (case w3l => k_is)
      (case w3c => k_is)
      (case w3kf => k_is)
      (case w3kC => k_is)
      (case w3eC => k_is)
      (case w3tC => k_is)
      (case w3hC => k_is)
      (case w3mC => k_is)
      (case w3n0 => k_is)
    case HK3 =>
      refine' My.kit_mk ⟨?v3a0, ?v3a1, ?v3a2⟩ ⟨?v3b0, ?v3b1, ?v3b2⟩ ⟨?v3c0, ?v3c1, ?v3c2⟩ ?v3n0 ?v3n1 ?v3n2 ?v3s0 ?v3s1 ?v3s2 ?v3u0 ?v3u1 ?v3u2
      (case v3a0 => k_is)
      (case v3a1 => k_is)
      (case v3a2 => k_is)
      (case v3b0 => k_is)
      (case v3b1 => k_is)
      (case v3b2 => k_is)
      (case v3c0 => k_is)
      (case v3c1 => k_is)
      (case v3c2 => k_is)
      (case v3s0 => k_is)
      (case v3s1 => k_is)
      (case v3s2 => k_is)
      (case v3u0 => k_is)
      (case v3u1 => k_is)
      (case v3u2 => k_is)
      (case v3n0 => decide)
      (case v3n1 => decide)
      (case v3n2 => decide)
    case x3_0 =>
      refine' My.Rt.exm ⟨?x3_0a0, ?x3_0a1, ?x3_0a2⟩ ?x3_0s
      (case x3_0a0 => k_is)
      (case x3_0a1 => k_is)
      (case x3_0a2 => k_is)
      (case x3_0s => k_is)
    case x3_1 =>
      refine' My.Rt.exm ⟨?x3_1a0, ?x3_1a1, ?x3_1a2⟩ ?x3_1s
      (case x3_1a0 => k_is)
      (case x3_1a1 => k_is)
      (case x3_1a2 => k_is)
      (case x3_1s => k_is)
    case x3_2 =>
      refine' My.Rt.exm ⟨?x3_2a0, ?x3_2a1, ?x3_2a2⟩ ?x3_2s
      (case x3_2a0 => k_is)
      (case x3_2a1 => k_is)
      (case x3_2a2 => k_is)
      (case x3_2s => k_is)
    (case a0 => k_is)
    (case l0 => k_is)
    (case c0 => k_is)
    (case k0 => k_is)
    (case a1 => k_is)
    (case l1 => k_is)
    (case c1 => k_is)
    (case k1 => k_is)
    (case a2 => k_is)
    (case l2 => k_is)
    (case c2 => k_is)
    (case k2 => k_is)
    (case a3 => k_is)
    (case l3 => k_is)
    (case c3 => k_is)
    (case k3 => k_is)
    (case a4 => k_is)
    (case l4 => k_is)
    (case c4 => k_is)
    (case k4 => k_is)
    (case a5 => k_is)
    (case l5 => k_is)
    (case c5 => k_is)
    (case k5 => k_is)
    (case a6 => k_is)
    (case l6 => k_is)
    (case c6 => k_is)
    (case k6 => k_is)
    (case a7 => k_is)
    (case l7 => k_is)
    (case c7 => k_is)
    (case k7 => k_is)
    (case a8 => k_is)
    (case l8 => k_is)
    (case c8 => k_is)
    (case k8 => k_is)
    (case a9 => k_is)
    (case l9 => k_is)
    (case c9 => k_is)
    (case k9 => k_is)
    (case a10 => k_is)
    (case l10 => k_is)
    (case c10 => k_is)
    (case k10 => k_is)
    (case a11 => k_is)
    (case l11 => k_is)
    (case c11 => k_is)
    (case k11 => k_is)
    (case a12 => k_is)
    (case l12 => k_is)
    (case c12 => k_is)
    (case k12 => k_is)
    (case a13 => k_is)
    (case l13 => k_is)
    (case c13 => k_is)
    (case k13 => k_is)
    (case a14 => k_is)
    (case l14 => k_is)
    (case c14 => k_is)
    (case k14 => k_is)
    (case a15 => k_is)
    (case l15 => k_is)
    (case c15 => k_is)
    (case k15 => k_is)
    (case a16 => k_is)
    (case l16 => k_is)
    (case c16 => k_is)
    (case k16 => k_is)
    (case a17 => k_is)
    (case l17 => k_is)
    (case c17 => k_is)
    (case k17 => k_is)
    (case a18 => k_is)
    (case l18 => k_is)
    (case c18 => k_is)
    (case k18 => k_is)
    (case a19 => k_is)
    (case l19 => k_is)
    (case c19 => k_is)
    (case k19 => k_is)
    (case a20 => k_is)
    (case l20 => k_is)
    (case c20 => k_is)
    (case k20 => k_is)
    (case a21 => k_is)
    (case l21 => k_is)
    (case c21 => k_is)
    (case k21 => k_is)
    (case a22 => k_is)
    (case l22 => k_is)
    (case c22 => k_is)
    (case k22 => k_is)
    (case a23 => k_is)
    (case l23 => k_is)
    (case c23 => k_is)
    (case k23 => k_is)
    (case a24 => k_is)
    (case l24 => k_is)
    (case c24 => k_is)
    (case k24 => k_is)
    (case a25 => k_is)
    (case l25 => k_is)
    (case c25 => k_is)
    (case k25 => k_is)
    (case a26 => k_is)
    (case l26 => k_is)
    (case c26 => k_is)
    (case k26 => k_is)
    (case a27 => k_is)
    (case l27 => k_is)
    (case c27 => k_is)
    (case k27 => k_is)
    (case a28 => k_is)
    (case l28 => k_is)
    (case c28 => k_is)
    (case k28 => k_is)
    (case a29 => k_is)
    (case l29 => k_is)
    (case c29 => k_is)
    (case k29 => k_is)
    (case a30 => k_is)
    (case l30 => k_is)
    (case c30 => k_is)
    (case k30 => k_is)
    (case a31 => k_is)
    (case l31 => k_is)
    (case c31 => k_is)
    (case k31 => k_is)
    (case a32 => k_is)
    (case l32 => k_is)
    (case c32 => k_is)
    (case k32 => k_is)
    (case a33 => k_is)
    (case l33 => k_is)
    (case c33 => k_is)
    (case k33 => k_is)
    (case a34 => k_is)
    (case l34 => k_is)
    (case c34 => k_is)
    (case k34 => k_is)
    (case a35 => k_is)
    (case l35 => k_is)
    (case c35 => k_is)
    (case k35 => k_is)
    (case a36 => k_is)
    (case l36 => k_is)
    (case c36 => k_is)
    (case k36 => k_is)
    (case a37 => k_is)
    (case l37 => k_is)
    (case c37 => k_is)
    (case k37 => k_is)
    (case a38 => k_is)
    (case l38 => k_is)
    (case c38 => k_is)
    (case k38 => k_is)
    (case a39 => k_is)
    (case l39 => k_is)
    (case c39 => k_is)
    (case k39 => k_is)
    (case a40 => k_is)
    (case l40 => k_is)
    (case c40 => k_is)
    (case k40 => k_is)
    (case a41 => k_is)
    (case l41 => k_is)
    (case c41 => k_is)
    (case k41 => k_is)
    (case a42 => k_is)
    (case l42 => k_is)
    (case c42 => k_is)
    (case k42 => k_is)
    (case a43 => k_is)
    (case l43 => k_is)
    (case c43 => k_is)
    (case k43 => k_is)
    (case a44 => k_is)
    (case l44 => k_is)
    (case c44 => k_is)
    (case k44 => k_is)
    (case a45 => k_is)
    (case l45 => k_is)
    (case c45 => k_is)
    (case k45 => k_is)
    (case a46 => k_is)
    (case l46 => k_is)
    (case c46 => k_is)
    (case k46 => k_is)
    (case a47 => k_is)
    (case l47 => k_is)
    (case c47 => k_is)
    (case k47 => k_is)
    (case a48 => k_is)
    (case l48 => k_is)
    (case c48 => k_is)
    (case k48 => k_is)
    (case a49 => k_is)
    (case l49 => k_is)
    (case c49 => k_is)
    (case k49 => k_is)
    (case a50 => k_is)
    (case l50 => k_is)
    (case c50 => k_is)
    (case k50 => k_is)
    (case a51 => k_is)
    (case l51 => k_is)
    (case c51 => k_is)
    (case k51 => k_is)
    (case a52 => k_is)
    (case l52 => k_is)
    (case c52 => k_is)
    (case k52 => k_is)
    (case c53 => k_is)
    (case k53 => k_is)
    (case c54 => k_is)
    (case k54 => k_is)
    (case a55 => k_is)
    (case l55 => k_is)
    (case c55 => k_is)
    (case k55 => k_is)
    (case a56 => k_is)
    (case l56 => k_is)
    (case c56 => k_is)
    (case k56 => k_is)
    (case z0 => k_is)
    (case z1 => k_is)
    (case z2 => k_is)
    (case z3 => k_is)
    (case z4 => k_is)
    (case z5 => k_is)
    (case z6 => k_is)
    (case z7 => k_is)
    (case z8 => k_is)
    (case z9 => k_is)
    (case z10 => k_is)
    (case z11 => k_is)
    (case z12 => k_is)
    (case z13 => k_is)
    (case z14 => k_is)
    (case z15 => k_is)
    (case z16 => k_is)
    (case m0 => k_is)
    (case m1 => k_is)
    (case m2 => k_is)
