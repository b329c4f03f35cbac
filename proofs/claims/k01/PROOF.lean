import PyProof.Rows.All
import Wide.All
import OpenK.AllK
import Wide.FinOn
import HandS.ForMost
import HandS.ForExc
import HandS.Strs
import HandS.SetFor
import HandS.SetKeys
import HandS.TupAny
import HandS.Style
import HandS.Gcd
import HandS.Wide
import HandS.IsInst
import HandS.Conv
import HandS.Flow
import PyProof.ReprRoads
import HandS.More
import PyProof.ReprLen
import HandS.ExcInit
import HandS.ExcField
import HandS.ExcIs
import KE.KExcInit
import HandS.MakeKw
import PyProof.CallFns
import HandS.WordsExc
import PySem.Challenge.RW_rimorders_k01_limits_and_errors
set_option Elab.async false
set_option linter.all false
set_option maxRecDepth 100000
set_option maxHeartbeats 4000000
/-! general rules of mine: repr of data, set of a list of ints, t[:0:-1] -/
namespace Gn
open PySem PySem.Spec PyProof.Rows L2
section
variable {X : Cx}
/-! repr of lists and tuples -/
mutual
theorem dp_nodict {K : PySem.W.Frag} {H : Hp} : ∀ (d : PyData) (v : V), Dp K H v d → d.hasDict = false
  | .none, _, _ => by simp only [PyData.hasDict]
  | .bool _, _, _ => by simp only [PyData.hasDict]
  | .int _, _, _ => by simp only [PyData.hasDict]
  | .str _, _, _ => by simp only [PyData.hasDict]
  | .list ds, _, h => by
    cases h with
    | lst _ ha => simp only [PyData.hasDict]; exact dps_nodict ds _ ha
  | .tuple ds, _, h => by
    cases h with
    | tup _ ha => simp only [PyData.hasDict]; exact dps_nodict ds _ ha
  | .dict _, _, h => by cases h
theorem dps_nodict {K : PySem.W.Frag} {H : Hp} : ∀ (ds : List PyData) (vs : List V), DpAll K H vs ds → PyData.hasDictAll ds = false
  | [], _, _ => by simp only [PyData.hasDictAll]
  | d :: ds, _, h => by
    cases h with
    | cons h1 h2 => simp only [PyData.hasDictAll, dp_nodict d _ h1, dps_nodict ds _ h2, Bool.or_self]
end
/-- repr(x), x a list or a tuple of data -/
def rRepr (K : PySem.W.Frag) : List V → Hp → VK → Prop := fun xs H Q => ∃ a d, xs = [V.ref a] ∧ Dp K H (.ref a) d ∧ d.showable = true ∧ d.depth < 60 ∧ d.shown.length ≤ sizeLine ∧ Q (.str d.shown) H
theorem cr_repr (hg : X.A.guards = some []) (hu : X.A.units + 64 < cLine) : CallR X (.builtin "repr") (rRepr X.K) := by
  intro pins s σ H xs us Q I r h
  obtain ⟨a, d, rfl, hd, hs, hdp, hz, q⟩ := h
  rw [Vals.ref1 r]
  obtain ⟨as, rd⟩ := Dp.reads I d _ _ hd rfl
  exact repr_of_reads' rd hs (PySem.PyData.noDict_hsm (dp_nodict d _ hd)) hg (by omega) (fun _ _ e => e) (fun h' u tk k => ⟨.str d.shown, H, I.kept (t' := tk) k, ⟨u, rfl⟩, q⟩) hz
end
end Gn
set_option Elab.async false
set_option linter.all false
set_option maxRecDepth 100000
set_option maxHeartbeats 4000000
namespace Gn
open PySem PySem.Spec PyProof.Rows L2
/-- the empty set object as the machine lays it -/
abbrev eSet (w : World) : Obj := { cls := .type "set", dict := none, data := .set #[] 0 (.fresh 0 0 (!w.params.followText "set-order")) }
section
variable {P : Program} {w : World} {A : Around} {E : Value → Shared → Prop} {s : Shared}
/-- what the init leaves: a set of the ints ns at S, no older object changed -/
abbrev Filled (w : World) (ns : List Int) (s0 : Shared) (S : Addr) (s2 : Shared) : Prop := ∃ (h' : Heap) (tk c : Nat), s2 = { s0 with heap := h', toks := tk } ∧ SetR w h' S (fun j => decide (j ∈ ns)) c ∧ c ≤ ns.length ∧ ∀ b o, s0.heap.get? b = some o → h'.get? b = some o
set_option maxHeartbeats 6000000 in
/-- set(l), l a list of ints -/
theorem set_of_ints {l : Addr} {its : Array Value} (ns : List Int) {Q : Value → Shared → Prop} (hh : A.handled = none) (hl : s.heap.IsList l its) (hi : IntsAre its.toList ns) (hb : ns.length + 1 < scanBound)
    (h : ∀ s2, Filled w ns s s.heap.objs.size s2 → Q (.ref s.heap.objs.size) s2) : wpAny (model P w) A (call (.type "set") [.ref l]) Q E s := by
  have hN : its.size = ns.length := by have q := IntsAre.length hi; rw [Array.length_toList] at q; exact q
  obtain ⟨c, tl, hmro⟩ := F.called_set.mro; have hmade := F.called_set.made; have hsub := F.called_set.sub
  refine wpAny_call (codeAny_of_tree ?_); show wpAny _ _ (callAny (.type "set") _) _ _ _
  refine wpAny_pure ⟨Code.quiet_builtin _ (by decide +kernel), codeAny_builtin F.entry_type_call ?_⟩; rw [Around.under_plain (weight_type_call_type "set" [.ref l] []) rfl]
  have h1 := F.called_set.notType; have h2 := F.called_set.canCreate; have hct := F.typeCall_set_1 (.ref l)
  repeat (any_goals (first | assumption | wp_step))
  refine codeAny_mono (code_set_led1 (.ref l) (E := E) (Q₁ := fun v z => v = .ref s.heap.objs.size ∧ z = { s with heap := s.heap.push (eSet w) }) ⟨rfl, rfl⟩) fun r z hr => ?_
  cases r with
  | error e => exact hr
  | ok fl =>
    cases fl with
    | ret obj =>
      obtain ⟨rfl, rfl⟩ := hr
      have hS : (s.heap.push (eSet w)).get? s.heap.objs.size = some (eSet w) := Heap.get?_push_size _ rfl
      have hT : Shared.TypeIs { s with heap := s.heap.push (eSet w) } (.ref s.heap.objs.size) "set" := ⟨_, hS, rfl⟩
      have hli := F.called_set.init.lookup; have hbi := F.called_set.init.bind (.ref s.heap.objs.size)
      repeat (any_goals (first | assumption | wp_step))
      refine codeAny_mono (codeAny_call_builtin (R := wants (fun r z => r = .none ∧ Filled w ns s s.heap.objs.size z) E) F.called_set.init.plain F.entry_set_init (check_set_init_1 hT ?_)) fun r2 z2 hr2 => ?_
      · obtain ⟨⟨lc, ld, lx, ls⟩, hol, hcl, nl, hdl⟩ := hl
        simp only at hcl hdl
        subst hcl; subst hdl
        have hol' : (s.heap.push (eSet w)).get? l = some { cls := .type "list", dict := ld, data := .seq its nl, slots := ls } := Heap.get?_push_of_some _ hol
        have hsls := F.sub_list_set; have hslf := F.sub_list_frozenset; have hne : (Value.type "list" == Value.type "dict") = false := by decide
        have hl1 : (s.heap.push (eSet w)).IsList l its := ⟨_, hol', rfl, nl, rfl⟩
        unfold Builtin.«set.__init__» noKeywords Builtin.Frozenset.updateFrom
        generalize hPI : pyIter = PI
        wp_walk
        subst hPI
        refine wpAny_pyIter_list hl1 (wpAny_bind (wpAny_runValue ?_))
        have hlS : l < s.heap.objs.size := Heap.lt_size hol
        have h3 : A.in1.in1.in1.handled = none := by simp [hh]
        have z1 : (s.heap.push (eSet w)).objs.size = s.heap.objs.size + 1 := Heap.size_push ..
        have nI : l ≠ (s.heap.push (eSet w)).objs.size := by rw [z1]; exact Nat.ne_of_lt (Nat.lt_succ_of_lt hlS)
        have nF : s.heap.objs.size ∉ [(s.heap.push (eSet w)).objs.size, l] := by
          rw [z1]; intro q; rcases List.mem_cons.mp q with q | q
          · exact Nat.succ_ne_self _ q.symm
          · exact Nat.ne_of_gt hlS (List.mem_singleton.mp q)
        have hval : ∀ (i : Nat) (v : Value), its[i]? = some v → ∃ k t, ns[i]? = some k ∧ v = .int k t := fun i v hv => by
          have hil : i < ns.length := by rw [← hN]; exact (Array.getElem?_eq_some_iff.mp hv).1
          obtain ⟨t, e⟩ := IntsAre.int_at hi i v (by rw [Array.getElem?_toList]; exact hv)
          exact ⟨ns[i], t, List.getElem?_eq_getElem hil, by rw [e, List.getD_eq_getElem?_getD, List.getElem?_eq_getElem hil] <;> rfl⟩
        refine set_update_ints ((Walks.list h3 _ l nI its).toS) s.heap.objs.size nF ns hN hb hval (its.size - 0) 0 _ (by omega) (Nat.zero_le _) ⟨⟨_, Heap.get?_push_size _ rfl, rfl, rfl⟩, (hl1.push _)⟩ ⟨0, Nat.le_refl 0, setR_new_at (Heap.get?_push_of_some _ hS)⟩ ?_
        intro z' c' hm hc' hS'
        obtain ⟨h', g2, d', tk', os'⟩ := z'
        obtain rfl : g2 = s.gens := hm.gens
        obtain rfl : d' = s.drawn := hm.drawn
        obtain rfl : os' = s.os := hm.os
        show wpAny _ _ _ _ _ _
        refine wpAny_pure ?_; show wpAny _ _ (ret Value.none) _ _ _; rw [hN] at hc'
        refine wpAny_pure ⟨rfl, h', tk', c', rfl, hS', hc', fun b o e => ?_⟩
        have hb0 : b < s.heap.objs.size := Heap.lt_size e
        refine hm.heap b o (fun q => ?_) (Heap.get?_push_of_some _ (Heap.get?_push_of_some _ e))
        rcases List.mem_cons.mp q with q | q
        · exact Nat.ne_of_lt hb0 q
        · exact Nat.ne_of_lt (Nat.lt_succ_of_lt hb0) ((List.mem_singleton.mp q).trans z1)
      · cases r2 with
        | error e => exact hr2
        | ok fl2 =>
          cases fl2 with
          | ret r =>
            obtain ⟨rfl, h', tk, c', rfl, hS', hc', hk'⟩ := hr2
            repeat (any_goals (first | assumption | wp_step))
            exact h _ ⟨_, _, _, rfl, hS', hc', hk'⟩
          | _ => exact hr2.elim
    | _ => exact hr.elim
end
section
variable {X : Cx}
/-- set(l) of a list of fewer than 64 ints -/
def rSetI (K : PySem.W.Frag) (w : World) : List V → Hp → VK → Prop := fun xs H Q => ∃ (l : Addr) (ns : List Int), xs = [.ref l] ∧ SqL K H l (ns.map V.int) ∧ ns.length < 64 ∧ ∀ p c, H p = none → c ≤ ns.length → Q (.ref p) (upd H p (SetO w p (fun j => decide (j ∈ ns)) c))
theorem cr_setI (hc : X.calm = true) : CallR X (.type "set") (rSetI X.K X.w) := by
  intro pins s σ H xs us Q I r h
  obtain ⟨l, ns, rfl, hl, hf, q⟩ := h
  rw [Vals.ref1 r]
  obtain ⟨its, rv, pl, hz⟩ := I.list hl
  refine set_of_ints ns (I.ok.hd hc) pl.isList (by simpa using intsAre_of rv) (by unfold scanBound; omega) fun s2 hs => ?_
  obtain ⟨h', tk, c, rfl, hS, hcn, k⟩ := hs
  exact ⟨.ref s.heap.objs.size, _, I.laid (t' := tk) k (Nat.le_refl _) (setO_new hS), rfl, q _ c (I.hok.fresh (Nat.le_refl _)) hcn⟩
end
end Gn
set_option Elab.async false
set_option linter.all false
set_option maxRecDepth 100000
set_option maxHeartbeats 4000000
namespace Gn
open PySem PySem.Spec PyProof.Rows L2
/-! t[:0:-1], t a tuple -/
theorem back_adjust (n : Nat) : Builtin.Slice.slicePlaces (Builtin.Slice.sliceAdjust none (some 0) (-1) (n : Int)).1 (Builtin.Slice.sliceAdjust none (some 0) (-1) (n : Int)).2 (-1) = n - 1 ∧ (Builtin.Slice.sliceAdjust none (some 0) (-1) (n : Int)).1 = (n : Int) - 1 := by
  have a : (Builtin.Slice.sliceAdjust none (some 0) (-1) (n : Int)) = ((n : Int) - 1, min 0 ((n : Int) - 1)) := by
    simp only [Builtin.Slice.sliceAdjust, show ((-1 : Int) < 0) = True by decide, show ((0 : Int) < 0) = False by decide, if_true, if_false]
  rw [a]
  refine ⟨?_, rfl⟩
  unfold Builtin.Slice.slicePlaces
  simp only [show ((-1 : Int) > 0) = False by decide, if_false, show (-(-1) : Int) = 1 by decide, Int.ediv_one]
  split <;> omega
theorem back_pick (xs : Array Value) : ((List.range (xs.size - 1)).filterMap fun (m : Nat) => xs[(((xs.size : Nat) : Int) - 1 + (m : Int) * (-1)).toNat]?).toArray = (xs.toList.drop 1).reverse.toArray := by
  congr 1
  have g : ∀ k, k ≤ xs.size - 1 → ((List.range k).filterMap fun (m : Nat) => xs[(((xs.size : Nat) : Int) - 1 + (m : Int) * (-1)).toNat]?) = ((xs.toList.drop 1).reverse).take k := by
    intro k
    induction k with
    | zero => intro _; rfl
    | succ k ih =>
      intro hk
      have i1 : (((xs.size : Nat) : Int) - 1 + (k : Int) * (-1)).toNat = xs.size - 1 - k := by omega
      have i2 : xs.size - 1 - k < xs.size := by omega
      have hl : k < (xs.toList.drop 1).reverse.length := by rw [List.length_reverse, List.length_drop, Array.length_toList]; omega
      rw [List.range_succ, List.filterMap_append, ih (by omega), List.take_add_one, List.getElem?_eq_getElem hl]
      congr 1
      simp only [List.filterMap_cons, List.filterMap_nil, i1, Array.getElem?_eq_getElem i2, Option.toList]
      congr 1
      rw [List.getElem_reverse, List.getElem_drop]
      simp only [List.length_drop, Array.length_toList, Array.getElem_toList]
      congr 1
      omega
  rw [g _ (Nat.le_refl _)]
  refine List.take_of_length_le ?_
  rw [List.length_reverse, List.length_drop, Array.length_toList]
  exact Nat.le_refl _
section
variable {prog : Program} {w : World} {A : Around} {E : Value → Shared → Prop} {s : Shared}
theorem back_item {t sl : Addr} {its : Array Value} {vl vu vs : Value} {Q : Value → Shared → Prop} (ht : IsTup s.heap t its) (hs : s.heap.IsSliceOf sl vl vu vs) (pl : IsPart vl none) (pu : IsPart vu (some 0)) (ps : IsPart vs (some (-1)))
    (h : Q (.ref s.heap.objs.size) { s with heap := s.heap.push { cls := .type "tuple", data := .seq (its.toList.drop 1).reverse.toArray } }) (hz : its.size ≤ sizeLine) : wpAny (model prog w) A (getItem (.ref t) (.ref sl)) Q E s := by
  have hfit : sizeOk (.seq (its.toList.drop 1).reverse.toArray) := by
    show ((its.toList.drop 1).reverse).toArray.size ≤ sizeLine
    rw [List.size_toArray, List.length_reverse, List.length_drop, Array.length_toList]; omega
  obtain ⟨os, hos, hcs, hds⟩ := id hs
  unfold getItem
  try with_reducible refine wpAny_holding ?_
  first | refine wpAny_bind (wpAny_pure ?_) | skip
  refine wpAny_bind (wpAny_sequenceKey ht.typeIs (by decide) (wpAny_bind (wpAny_callSpecial?_slot (name := Str.ofString "__getitem__") ht.typeIs PyProof.Rows.slot_tuple_getitem (wpAny_call_entry PyProof.Rows.slot_tuple_getitem ht.typeIs PyProof.Rows.entry_tuple_getitem ?_ (PyProof.Rows.args_tuple_getitem _ _)))))
  show wpAny _ _ (Builtin.Tuple.tupleItemsOf (.ref t) >>= _) _ _ s
  refine wpAny_bind (PyProof.Rows.tupleItemsOf_ ht (wpAny_bind (wpAny_typeOf (show s.TypeIs (.ref sl) "slice" from ⟨os, hos, hcs⟩) ?_)))
  rw [if_pos (by decide)]
  refine wpAny_bind ?_
  unfold Builtin.Slice.sliceApplied Builtin.Slice.sliceFields
  refine wpAny_bind (wpAny_bind (wpAny_field hos hds (x := vl) rfl (wpAny_bind (wpAny_field hos hds (x := vu) rfl (wpAny_bind (wpAny_field hos hds (x := vs) rfl (wpAny_pure (wpAny_bind (HT.slicePart_ ps ?_)))))))))
  show wpAny _ _ (if ((-1 : Int) == 0) = true then _ else _) _ _ s
  rw [if_neg (by decide)]
  refine wpAny_bind (HT.slicePart_ pl (wpAny_bind (HT.slicePart_ pu (wpAny_bind (wpAny_pure ?_)))))
  have e1 := (back_adjust its.size).1
  have e2 := (back_adjust its.size).2
  show wpAny _ _ (pure ((Builtin.Slice.sliceAdjust none (some 0) (-1) (its.size : Int)).1, (-1 : Int), Builtin.Slice.slicePlaces (Builtin.Slice.sliceAdjust none (some 0) (-1) (its.size : Int)).1 (Builtin.Slice.sliceAdjust none (some 0) (-1) (its.size : Int)).2 (-1))) _ _ s
  rw [e1, e2]
  refine wpAny_pure ?_
  have no : ¬ ((((its.size : Nat) : Int) - 1 == 0 && (-1 : Int) == 1 && (its.size - 1) == its.size) = true) := by
    rw [show ((-1 : Int) == 1) = false by decide]; simp
  show wpAny _ _ (if ((((its.size : Nat) : Int) - 1 == 0 && (-1 : Int) == 1 && (its.size - 1) == its.size) = true) then _ else _) _ _ s
  rw [if_neg no, back_pick]
  first
    | exact wpAny_bind (m := Builtin.Tuple.tupleExact _) (wpAny_newObj_type (wpAny_pure ⟨_, rfl, wpAny_pure h⟩) hfit)
    | exact wpAny_bind (wpAny_bind (m := Builtin.Tuple.tupleExact _) (wpAny_newObj_type (wpAny_pure ⟨_, rfl, wpAny_pure h⟩) hfit))
    | exact wpAny_bind (wpAny_bind (m := Builtin.Tuple.tupleExact _) (wpAny_newObj_type (wpAny_pure (wpAny_pure ⟨_, rfl, wpAny_pure h⟩)) hfit))
end
def tBack (K : PySem.W.Frag) (te : TE) : TE := fun σ H Q => te σ H fun x H1 => ∃ a xs, x = .ref a ∧ SqT K H1 a xs ∧ ∀ p, H1 p = none → Q (.ref p) (upd H1 p (.tup (xs.drop 1).reverse))
section
variable {X : Cx}
theorem pe_back {e : Expr} {te : TE} {k k0 : Nat} {p0 p1 p2 p3 pos : Pos} (he : PE X e te) : PE X (.Subscript e (.Slice none (some (.Constant (.int 0) k0 p0)) (some (.UnaryOp .USub (.Constant (.int 1) k p1) p2)) p3) pos) (tBack X.K te) := by
  refine ⟨fun pins s σ H Q I h => ?_⟩
  refine Subscript_ (thn (he.run pins s σ H _ I h) fun v s1 ⟨x, H1, I1, r1, q1⟩ => ?_)
  obtain ⟨a, xs, ex, hx, q⟩ := q1
  subst ex
  cases r1
  have hup : PO X (some (.Constant (.int 0) k0 p0)) (tPart (tC (.int 0))) := po_some pe_int
  have hst : PO X (some (.UnaryOp .USub (.Constant (.int 1) k p1) p2)) (tPart (tUn (rU fun i => .int (-i)) (tC (.int 1)))) := po_some (pe_un un_neg pe_int)
  refine wpAny_Slice (thn (po_none.run pins s1 σ H1 (fun o H2 => o = none ∧ H2 = H1) I1 ⟨rfl, rfl⟩) fun vl s2 ⟨l, H2, I2, pl, el, e2⟩ => ?_)
  subst el e2
  refine thn (hup.run pins s2 σ H2 (fun o H3 => o = some 0 ∧ H3 = H2) I2 ⟨0, rfl, rfl, rfl⟩) fun vu s3 ⟨u, H3, I3, pu, eu, e3⟩ => ?_
  subst eu e3
  refine thn (hst.run pins s3 σ H3 (fun o H4 => o = some (-1) ∧ H4 = H3) I3 ⟨1, rfl, -1, rfl, rfl, rfl⟩) fun vs s4 ⟨o, H4, I4, ps, eo, e4⟩ => ?_
  subst eo e4
  have I5 : Inv X pins σ H4 { s4 with heap := s4.heap.push { cls := .type "slice", data := .fields #[vl, vu, vs] } } := I4.kept (t' := s4.toks) fun b ob q => Heap.get?_push_of_some _ q
  obtain ⟨its, r, ht, hz⟩ := I5.tuple hx
  have hlen := r.length
  show wpAny (model X.prog X.w) X.A (subscriptTail e (.Slice none (some (.Constant (.int 0) k0 p0)) (some (.UnaryOp .USub (.Constant (.int 1) k p1) p2)) p3) (.ref a) (.ref s4.heap.objs.size)) (EP X pins σ Q) X.xe { s4 with heap := s4.heap.push { cls := .type "slice", data := .fields #[vl, vu, vs] } }
  refine tail_any (ops := [.ref a, .ref s4.heap.objs.size]) ht.typeIs (PyProof.Rows.slot_tuple_getitem.lookup) ?_ (by with_unfolding_all rfl)
  refine back_item ht (Heap.IsSliceOf.new _ vl vu vs) pl pu ps ?_ (by rw [List.size_toArray]; omega)
  refine ⟨.ref _, _, I5.laid (t' := s4.toks) (o := .tup (xs.drop 1).reverse) (fun b ob q => Heap.get?_push_of_some _ q) (Nat.le_refl _) ?_, rfl, q _ (I5.hok.fresh (Nat.le_refl _))⟩
  exact ⟨by rw [List.length_reverse, List.length_drop]; omega, _, (Vals.drop 1 r).reverse, ⟨_, Heap.get?_push_size _ rfl, rfl, _, rfl⟩⟩
end
end Gn
set_option Elab.async false
set_option linter.all false
set_option maxRecDepth 100000
set_option maxHeartbeats 4000000
namespace Gn
open PySem PySem.Spec PyProof.Rows L2
/-- a def's promise where no repr runs around (the guards are known to be none) -/
structure FnG (P : Program) (w : World) (K : PySem.W.Frag) (mg : Str → Option Value) (base : Heap) (CX : CXT) (k : Nat) (f : Addr) (fd : FuncData) (ps : List Str) (sp : Sp) : Prop where
  len : ∀ vs H Q E, sp vs H Q E → vs.length = ps.length
  run : ∀ (A : Around) (outer : List Env) (s : Shared) (H : Hp) (args : Args) (us : List Value) (vs : List V) (Q : VK) (E : XK), A.guards = some [] → Room k A → Env0 P w K mg base A outer s H → BindsTo s fd args (ps.zip us) → Vals vs us → sp vs H Q E →
    codeAny (model P w) A (.call (.ref f) args) (CR CX outer P w H s Q E) s
section
variable {P : Program} {w : World} {K : PySem.W.Frag} {mg : Str → Option Value} {base : Heap}
theorem FnG.of {CX : CXT} {k : Nat} {f : Addr} {fd : FuncData} {ps : List Str} {sp : Sp} (F : FnOk P w K mg base CX k f fd ps sp) : FnG P w K mg base CX k f fd ps sp := ⟨F.len, fun A o s H a us vs Q E _ => F.run A o s H a us vs Q E⟩
theorem funG {CX : CXT} {x qual : Str} {st : Stmt} {f : Addr} {fd : FuncData} {N ps : List Str} {k : Nat} {sp : Sp} (F : Fun K x qual st f fd) (S : FnScope N ps (defScope st)) (len : ∀ vs H Q E, sp vs H Q E → vs.length = ps.length)
    (hbody : ∀ (cdv : Value) (A : Around) (outer : List Env) (s : Shared) (H : Hp) (vs : List V) (Q : VK) (E : XK), (A.deeper (envOfC qual (defScope st) s.heap.objs.size f cdv)).guards = some [] → Room k (A.deeper (envOfC qual (defScope st) s.heap.objs.size f cdv)) → sp vs H Q E →
      ∃ t, PSs (cxOf CX P w K mg base N qual (defScope st) f cdv A outer s H E) (defBody st) t ∧ t { nx := fun _ H' => Q .non H', rt := Q } (start N vs) H) : FnG P w K mg base CX (k + 1) f fd ps sp := by
  obtain ⟨oc, od, kV, doc, pm, an, cdv, ct, osl, rfl, lk, hcd⟩ := F.ex
  refine ⟨len, fun A outer s H args us vs Q E hg hr e0 hb r hsp => ?_⟩
  have KX : K.In s.heap := e0.mod.kin.keeps fun b o e => (e0.bs b o e).1
  have hkind : ∀ y ∈ ps.zip us, (defScope st).names.lookup y.1 = some .local ∨ ((defScope st).names.lookup y.1 = some .cell ∧ ((cellsFrom (s.heap.objs.size + 1) (defScope st).names []).lookup y.1).isSome = true) := fun y hy =>
    (S.par y.1 (List.of_mem_zip hy).1).elim .inl fun q => .inr ⟨q, PySem.W.cellsFrom_some _ _ _ (.inl q)⟩
  refine codeAny_call_function hr.depth (KX _ _ lk) rfl S.co S.gen rfl (PySem.W.codeRec_of KX hcd) (hb _ _ _ _ (wpAny_newFunctionEnv_cells S.kind hkind fun env he s1 x => ?_))
  subst he
  refine ⟨(e0.mod.nolimit.keeps fun b o e => (e0.bs b o e).1).keeps x.toInCall.keep, codeAny_func ?_⟩
  obtain ⟨t, ht, hq⟩ := hbody cdv A outer s H vs Q E hg (hr.deeper _) hsp
  have I : Inv (cxOf CX P w K mg base N qual (defScope st) f cdv A outer s H E) [] (start N vs) H s1 := inv_start S hr.hd e0 (len _ _ _ _ hsp) r x
  refine wpAny_mono (ht.run [] s1 (start N vs) H _ I hq) (fun fl s' hs => ?_) fun _ _ hs => hs
  cases fl with
  | ret u => obtain ⟨v, σ', H', J, rv, q⟩ := hs; exact ⟨v, H', J.os, J.bare, J.base, J.hok, rv, q⟩
  | next => obtain ⟨σ', H', J, q⟩ := hs; exact ⟨V.non, H', J.os, J.bare, J.base, J.hok, rfl, q⟩
  | brk => obtain ⟨_, _, _, q⟩ := hs; exact False.elim q
  | cont => obtain ⟨_, _, _, q⟩ := hs; exact False.elim q
/-- as Fun.ok: nothing leaves the def -/
theorem funG0 {x qual : Str} {st : Stmt} {f : Addr} {fd : FuncData} {N ps : List Str} {k : Nat} {sp : Sp} (F : Fun K x qual st f fd) (S : FnScope N ps (defScope st)) (len : ∀ vs H Q E, sp vs H Q E → vs.length = ps.length)
    (hbody : ∀ (cdv : Value) (A : Around) (outer : List Env) (s : Shared) (H : Hp) (vs : List V) (Q : VK) (E : XK), (A.deeper (envOfC qual (defScope st) s.heap.objs.size f cdv)).guards = some [] → Room k (A.deeper (envOfC qual (defScope st) s.heap.objs.size f cdv)) → sp vs H Q E →
      ∃ t, PSs (cxOf CX0 P w K mg base N qual (defScope st) f cdv A outer s H E).nox (defBody st) t ∧ t { nx := fun _ H' => Q .non H', rt := Q } (start N vs) H) : FnG P w K mg base CX0 (k + 1) f fd ps sp :=
  funG F S len fun cdv A outer s H vs Q E hg hr hsp => by
    obtain ⟨t, h, q⟩ := hbody cdv A outer s H vs Q E hg hr hsp
    exact ⟨t, h.nox, q⟩
end
section
variable {X : Cx} {CX : CXT} {k : Nat} {f : Addr} {fd : FuncData} {ps ks : List Str} {sp : Sp} {dvs : List V} {ds : List Value} {E : XK} {x : Str} {p pos : Pos} {e : Expr} {es : List Expr} {kws : List Keyword} {t tk : TA}
theorem back_of {pins : List (Addr × Obj)} {σ : L2.St} {H : Hp} {s s' : Shared} {Q : VK} (hx : Passes CX X E) (I : Inv X pins σ H s) {r : Result} (h : CR CX X.stack X.prog X.w H s Q E r s') :
    match r with | .ok (.ret u) => EP X pins σ Q u s' | .ok _ => False | .error e => X.xe e s' := by
  cases r with
  | error e => exact hx pins σ H s e s' I h
  | ok fl => cases fl with
    | ret u => exact I.after h
    | next => exact h
    | brk => exact h
    | cont => exact h
theorem run_fnG {pins : List (Addr × Obj)} {σ : L2.St} {H : Hp} {s : Shared} {Q : VK} {us : List Value} {vs : List V} (F : FnG X.prog X.w X.K X.mg X.base CX k f fd ps sp) (hg : X.A.guards = some []) (hr : Room k X.A) (hb : Binds X.K fd ps ds) (hd : Vals dvs ds) (hx : Passes CX X E)
    (I : Inv X pins σ H s) (r : Vals vs us) (h : sp (vs ++ dvs) H Q E) : wpAny (model X.prog X.w) X.A (call (.ref f) us) (EP X pins σ Q) X.xe s := by
  have r2 : Vals (vs ++ dvs) (us ++ ds) := r.append hd
  refine wpAny_call (codeAny_mono (F.run X.A X.stack s H ⟨us, []⟩ (us ++ ds) (vs ++ dvs) Q E hg hr I.env0 (hb s us I.kIn (by rw [← r2.length]; exact F.len _ _ _ _ h)) r2 h) fun r s' hq => ?_)
  have z := back_of hx I hq
  cases r with
  | error e => exact z
  | ok fl => cases fl with
    | ret u => exact z
    | next => exact z.elim
    | brk => exact z.elim
    | cont => exact z.elim
theorem pe_callG (F : FnG X.prog X.w X.K X.mg X.base CX k f fd ps sp) (hgu : X.A.guards = some []) (hr : Room k X.A) (hg : Gl X x) (hm : X.mg x = some (.ref f)) (hk : PySem.W.keepIn X.K (.ref f) = true) (hb : Binds X.K fd ps ds) (hd : Vals dvs ds) (hx : Passes CX X E)
    (ha : PA X (e :: es) t) (hdb : (x == ("__debug__" : Str)) = false := by decide) (he : starEach (e :: es) X.env = (false, eval e X.env) :: starEach es X.env := by rfl) (hpl : (backTo pos (starEach es X.env)).any (·.1) = false := by rfl) :
    PE X (.Call (.Name x p) (e :: es) [] pos) (tCall sp dvs E t) := ⟨fun pins s σ H Q I h =>
  wpAny_Call_Name_kw (ld_glob I hg hm (PySem.W.callWith_K (h₀ := X.base) I.ok.mod.kin hk (thn (ha.run pos pins s σ H _ I h) fun us s1 ⟨vs, H1, I1, r, q⟩ => ⟨I1.kIn, run_fnG F hgu hr hb hd hx I1 r q⟩) he hpl) hdb)⟩
end
/-! the end of a law -/
section
variable {P : Program} {w : World} {K : PySem.W.Frag} {mg mb : Str → Option Value}
theorem lawG {CX : CXT} {k : Nat} {fa a : Addr} {fd : FuncData} {x : Str} {sp : Sp} {s₁ : Shared} {vs : List Value} {ns : List Int}
    (KX : K.In s₁.heap) (hns : s₁.heap.Ns mainGlobals mg) (hb : s₁.heap.Ns builtinsNs mb) (hbb : ∀ x : Str, x ≠ "__name__" → mb x = bootBuiltins x) (hlim : s₁.heap.NoLimit) (hg : s₁.gens = #[])
    (ha : s₁.heap.get? a = some { cls := .type "list", data := .seq vs.toArray }) (hi : IntsAre vs ns) (hl : ns.length ≤ sizeLine) (hr : Room k callerA)
    (F : ∀ base : Heap, K.In base → base.Ns mainGlobals mg → FnG P w K mg base CX k fa fd [x] sp) (hbind : ∀ (s : Shared) (u : Value), BindsTo s fd ⟨[u], []⟩ [(x, u)])
    (hsp : ∀ H : Hp, Only H → SqL K H a (ns.map V.int) → sp [.ref a] H (fun v _ => v = .bl true) fun _ _ _ => False) (hCX : ∀ H e s', CX [] H s₁ (fun _ _ _ => False) e s' → False) :
    codeAny (model P w) callerA (.call (.ref fa) ⟨[.ref a], []⟩) (fun r s' => r = .ok (.ret (.bool true)) ∧ OldK s₁.heap s'.heap ∧ s'.os = s₁.os ∧ AllBare s'.gens) s₁ := by
  have rv := vals_ints hi
  have main : ∀ H : Hp, Only H → SqL K H a (ns.map V.int) → HOk P w H s₁.heap → (∀ b, H b ≠ none → b = a ∧ K.lookup a = none) →
      codeAny (model P w) callerA (.call (.ref fa) ⟨[.ref a], []⟩) (fun r s' => r = .ok (.ret (.bool true)) ∧ OldK s₁.heap s'.heap ∧ s'.os = s₁.os ∧ AllBare s'.gens) s₁ := by
    intro H hO hS hok hA
    have untr : ∀ {b : Addr}, b ≠ a ∨ K.lookup a ≠ none → H b = none := fun {b} h => by
      cases q : H b with
      | none => rfl
      | some u => have z := hA b (by rw [q]; simp); exact (h.elim (fun n => n z.1) fun n => n z.2).elim
    have ns_of : ∀ {b : Addr} {m : Str → Option Value}, s₁.heap.Ns b m → (hidT s₁.heap H).Ns b m := fun {b m} ⟨o, es, ep, e, d, r⟩ => ⟨o, es, ep, hidT_get e (untr (.inl fun z => by
      subst z
      rw [ha] at e
      cases e
      exact absurd (show Data.seq vs.toArray _ = Data.dict es ep from d) (fun z => by cases z))), d, r⟩
    have kb : K.In (hidT s₁.heap H) := fun b o e => hidT_get (KX b o e) (by
      by_cases z : b = a
      · exact untr (.inr fun y => by subst z; rw [y] at e; cases e)
      · exact untr (.inl z))
    have md : Mod K mg (hidT s₁.heap H) := ⟨kb, ns_of hns, ⟨mb, ns_of hb, hbb⟩, let ⟨mc, h1, h2⟩ := hlim; ⟨mc, ns_of h1, h2⟩⟩
    have e0 : Env0 P w K mg (hidT s₁.heap H) callerA [] s₁ H := ⟨rfl, md, fun b o e => of_hidT e, Nat.le_of_eq (hidT_size _ _), trivial, fun b hb => absurd (show b ∈ ([] : List Addr) from hb) (by simp), hok, .of_eq hg⟩
    refine codeAny_mono ((F _ kb (ns_of hns)).run callerA [] s₁ H ⟨[.ref a], []⟩ [.ref a] [.ref a] _ _ rfl hr e0 (hbind s₁ (.ref a)) (.cons rfl .nil) (hsp H hO hS)) fun r s' h => ?_
    cases r with
    | error e => exact (hCX H e s' h).elim
    | ok fl => cases fl with
      | next => exact False.elim h
      | brk => exact False.elim h
      | cont => exact False.elim h
      | ret u =>
        obtain ⟨v, H', os, bare, un, hok', r', q⟩ := h
        obtain rfl : v = .bl true := q
        obtain rfl : u = Value.bool true := r'
        refine ⟨rfl, OldK.of_keep fun b o e => ?_, os, bare⟩
        rcases hO b with z | ⟨ob, xs, z⟩
        · exact un.keep b o e z (fun y => nomatch y) (fun y => nomatch y)
        · obtain ⟨e1, _⟩ := hok b _ z
          obtain ⟨e2, _⟩ := hok' b _ (un.frzs b ob _ z)
          exact e2.trans (e1.symm.trans e)
  cases hk : K.lookup a with
  | some o =>
    have e := KX a o hk
    rw [ha] at e
    cases e
    exact main (fun _ => none) (fun _ => .inl rfl) (.inr ⟨_, vs.toArray, _, hk, rfl, rfl, rfl, by rw [List.size_toArray, hi.length]; exact hl, by simpa using rv⟩) (fun b u z => by cases (show (none : Option HO) = some u from z)) fun b z => absurd rfl z
  | none =>
    have at_ : ∀ {b : Addr} {u : HO}, (if b = a then some (HO.frz { cls := .type "list", data := .seq vs.toArray } (.lst (ns.map V.int))) else none) = some u → b = a ∧ u = .frz { cls := .type "list", data := .seq vs.toArray } (.lst (ns.map V.int)) := fun {b u} z => by
      by_cases y : b = a
      · rw [if_pos y] at z; exact ⟨y, (Option.some.inj z).symm⟩
      · rw [if_neg y] at z; cases z
    refine main (fun b => if b = a then some (.frz { cls := .type "list", data := .seq vs.toArray } (.lst (ns.map V.int))) else none) (fun b => ?_) (.inl (.inr ⟨{ cls := .type "list", data := .seq vs.toArray }, if_pos rfl⟩)) (fun b u z => ?_) fun b z => ⟨?_, hk⟩
    · by_cases y : b = a
      · exact .inr ⟨_, _, if_pos y⟩
      · exact .inl (if_neg y)
    · obtain ⟨rfl, rfl⟩ := at_ z
      exact ⟨ha, by rw [List.length_map]; exact hl, vs, _, rv, ha⟩
    · by_cases y : b = a
      · exact y
      · exact absurd (if_neg y) z
theorem walkG {l : PySem.W.OpenLaw} {n k : Nat} {q : Program} {loose : List Str} {XP : (Str → Option Value) → Heap → Prop} {YP : World → Heap → Prop} {d : DefRec} {K : Params → PySem.W.Frag} {CX : World → CXT} {sp : World → Sp} {x : Str}
    (hn : l.most = some n) (hn2 : n ≤ sizeLine) (hdf : d.params.defaults = []) (hr : Room k callerA) (hY : ∀ (w : World) (h : Heap), YP w h → (K w.params).In h)
    (F : ∀ (w : World) (mg : Str → Option Value) (fa : Addr) (h : Heap), (K w.params).In h → h.Ns mainGlobals mg → mg d.name = some (.ref fa) →
      ∃ fd : FuncData, (∀ (s : Shared) (u : Value), BindsTo s fd ⟨[u], []⟩ [(x, u)]) ∧ ∀ base : Heap, (K w.params).In base → base.Ns mainGlobals mg → FnG l.prog w (K w.params) mg base (CX w) k fa fd [x] (sp w))
    (hsp : ∀ (w : World) (H : Hp) (a : Addr) (ns : List Int), ns.length ≤ n → Only H → SqL (K w.params) H a (ns.map V.int) → sp w [.ref a] H (fun v _ => v = .bl true) fun _ _ _ => False)
    (hCX : ∀ (w : World) (H : Hp) (s : Shared) (e : Value) (s' : Shared), CX w [] H s (fun _ _ _ => False) e s' → False) : PySem.W.WalkO q loose XP YP l.row.toRowW d [] (fun f vs => PySem.call f vs) :=
  Att.attach_call hn hdf fun w s₀ s₁ mg mb fa o pm cd doc a vs ns G Y ho hd hcd hmg hobj hints hlen hg => by
    obtain ⟨fd, hb, hF⟩ := F w mg fa _ (hY w _ Y) G.T.g hmg
    exact lawG (hY w _ Y) G.T.g G.T.b G.T.builtins G.T.nolimit hg hobj hints (Nat.le_trans hlen hn2) hr hF hb (fun H hO hS => hsp w H a ns hlen hO hS) fun H e s' => hCX w H s₁ e s'
end
end Gn
set_option Elab.async false
set_option linter.all false
set_option maxRecDepth 100000
set_option maxHeartbeats 4000000
namespace Gn
open PySem PySem.Spec PyProof.Rows L2
section
variable {X : Cx} {CX : CXT} {k : Nat} {f : Addr} {fd : FuncData} {ps ks : List Str} {sp : Sp} {E : XK} {x : Str} {p pos : Pos} {kws : List Keyword} {tk : TA} {g : List Value → List Value → List Value} {gV : List V → List V → List V}
/-- f(k = v, ..): keywords alone -/
theorem pe_callK0 (F : FnOk X.prog X.w X.K X.mg X.base CX k f fd ps sp) (hr : Room k X.A) (hg : Gl X x) (hm : X.mg x = some (.ref f)) (hk : PySem.W.keepIn X.K (.ref f) = true) (hb : KBinds X.K fd ps ks g gV) (hx : Passes CX X E) (hkw : PK X kws tk)
    (hall : (backToKw pos (keywordEach kws X.env)).all (·.1.isSome) = true := by rfl) (hks : (backToKw pos (keywordEach kws X.env)).filterMap (·.1) = ks := by rfl) (hdb : (x == ("__debug__" : Str)) = false := by decide)
    (hpl : ((backTo pos (starEach [] X.env)).any (·.1) || (backToKw pos (keywordEach kws X.env)).any (·.1.isNone)) = false := by rfl) : PE X (.Call (.Name x p) [] kws pos) (tCallK sp gV E tNil tk) := ⟨fun pins s σ H Q I h =>
  wpAny_Call_Name_kw (ld_glob I hg hm (PySem.W.callWith_KW0 (h₀ := X.base) I.ok.mod.kin hk hall (thn (hkw.run pos pins s σ H _ I h) fun ws s2 ⟨zs, H2, I2, rz, q2⟩ => ⟨I2.kIn, by
    rw [hks]
    exact run_fnk (us := []) (vs := []) F hr hb hx I2 .nil rz q2⟩) hpl) hdb)⟩
end
/-! keywords in the parameters' order, and two the other way round -/
def kw1 {α : Type} : List α → List α → List α
  | [], [a] => [a]
  | _, _ => []
def kw2 {α : Type} : List α → List α → List α
  | [], [a, b] => [a, b]
  | _, _ => []
def kw2s {α : Type} : List α → List α → List α
  | [], [a, b] => [b, a]
  | _, _ => []
section
variable {K : PySem.W.Frag} {fd : FuncData} {ps ks : List Str}
theorem kb1 {p : Str} (h : ∀ a : Value, bindArgs fd ⟨[], [(p, a)]⟩ = pure [(p, a)]) : KBinds K fd [p] [p] kw1 kw1 :=
  ⟨fun s us ws _ hl => match us, ws, hl with
    | [], [a], _ => .of_eq (h a)
    | [], [], z => (nomatch z)
    | [], _ :: _ :: _, z => (nomatch z)
    | _ :: _, _, z => (nomatch z), fun {vs us zs ws} r rz => by
    cases r with
    | nil => cases rz with
      | nil => exact .nil
      | cons a b => cases b with
        | nil => exact .cons a .nil
        | cons _ _ => exact .nil
    | cons _ _ => exact .nil⟩
theorem kb2 {p q : Str} (h : ∀ a b : Value, bindArgs fd ⟨[], [(p, a), (q, b)]⟩ = pure [(p, a), (q, b)]) : KBinds K fd [p, q] [p, q] kw2 kw2 :=
  ⟨fun s us ws _ hl => match us, ws, hl with
    | [], [a, b], _ => .of_eq (h a b)
    | [], [], z => (nomatch z)
    | [], [_], z => (nomatch z)
    | [], _ :: _ :: _ :: _, z => (nomatch z)
    | _ :: _, _, z => (nomatch z), fun {vs us zs ws} r rz => by
    cases r with
    | nil => cases rz with
      | nil => exact .nil
      | cons a b => cases b with
        | nil => exact .nil
        | cons c d => cases d with
          | nil => exact .cons a (.cons c .nil)
          | cons _ _ => exact .nil
    | cons _ _ => exact .nil⟩
theorem kb2s {p q : Str} (h : ∀ a b : Value, bindArgs fd ⟨[], [(q, b), (p, a)]⟩ = pure [(p, a), (q, b)]) : KBinds K fd [p, q] [q, p] kw2s kw2s :=
  ⟨fun s us ws _ hl => match us, ws, hl with
    | [], [b, a], _ => .of_eq (h a b)
    | [], [], z => (nomatch z)
    | [], [_], z => (nomatch z)
    | [], _ :: _ :: _ :: _, z => (nomatch z)
    | _ :: _, _, z => (nomatch z), fun {vs us zs ws} r rz => by
    cases r with
    | nil => cases rz with
      | nil => exact .nil
      | cons a b => cases b with
        | nil => exact .nil
        | cons c d => cases d with
          | nil => exact .cons c (.cons a .nil)
          | cons _ _ => exact .nil
    | cons _ _ => exact .nil⟩
end
end Gn
namespace Gn
open PySem PySem.Spec PyProof.Rows L2
/-- a conditional expression whose two ways change nothing -/
theorem tif {c : Bool} {ta tb : TE} {σ : L2.St} {H : Hp} {Q : VK} (v1 v2 : V) (h1 : c = true → ∀ R : VK, R v1 H → ta σ H R) (h2 : c = false → ∀ R : VK, R v2 H → tb σ H R) (k : ∀ v, (c = true → v = v1) → (c = false → v = v2) → Q v H) : if c = true then ta σ H Q else tb σ H Q := by
  cases c with
  | true => exact iteT (h1 rfl Q (k v1 (fun _ => rfl) (fun z => nomatch z)))
  | false => exact iteF (h2 rfl Q (k v2 (fun z => nomatch z) (fun _ => rfl)))
theorem cut_mem {xs : List V} {lo hi : Option Int} {x : V} (h : x ∈ cutV xs lo hi) : x ∈ xs := by
  unfold cutV at h
  exact List.mem_of_mem_drop (List.mem_of_mem_take h)
theorem int_at {ns : List Int} {x : V} (h : x ∈ ns.map V.int) : ∃ z, x = V.int z := by
  obtain ⟨z, _, e⟩ := List.mem_map.mp h
  exact ⟨z, e.symm⟩
theorem same_put {H : Hp} {p : Addr} {o : HO} (h : H p = none) : Same H (upd H p o) := fun b x e => by
  rw [upd_ne (ne_of_none e h)]
  exact e
theorem fmod_ge {a b : Int} (h : 0 < b) : 0 ≤ a.fmod b := by
  rw [Int.fmod_eq_emod_of_nonneg _ (by omega)]; exact Int.emod_nonneg _ (by omega)
theorem fmod_lt {a b : Int} (h : 0 < b) : a.fmod b < b := by
  rw [Int.fmod_eq_emod_of_nonneg _ (by omega)]; exact Int.emod_lt_of_pos _ h
end Gn
set_option Elab.async false
set_option linter.all false
set_option maxRecDepth 100000
set_option maxHeartbeats 4000000
namespace Gn
open PySem PySem.Spec PyProof.Rows L2
/-- tuple(xs) of a list: a new tuple -/
def rTupL (K : PySem.W.Frag) : List V → Hp → VK → Prop := fun xs H Q => ∃ p ys, xs = [V.ref p] ∧ SqL K H p ys ∧ ∀ l, H l = none → Q (.ref l) (upd H l (.tup ys))
theorem cr_tupL {X : Cx} : CallR X (.type "tuple") (rTupL X.K) := by
  intro pins s σ H xs us Q I r h
  obtain ⟨p, ys, e, h1, h2⟩ := h
  exact call_tuple_of pins s σ H xs us Q I r ⟨p, ys, e, .inl ⟨h1, h2⟩⟩
end Gn
set_option Elab.async false
set_option linter.all false
set_option maxRecDepth 100000
set_option maxHeartbeats 4000000
namespace Gn
open PySem PySem.Spec PyProof.Rows L2
/-- small data: may be shown, may be compared; its text has at most c signs, its depth is at most e -/
structure Sm (c e : Nat) (d : PyData) : Prop where
  sh : d.showable = true
  ln : d.shown.length ≤ c
  dp : d.depth ≤ e
  cl : d.canLay0 = true
theorem sum_le {c : Nat} : ∀ {ts : List Str}, (∀ t ∈ ts, t.length ≤ c) → (ts.map (·.length)).sum ≤ ts.length * c
  | [], _ => by simp
  | t :: ts, h => by
    have h1 := h t List.mem_cons_self
    have h2 := sum_le fun x hx => h x (List.mem_cons_of_mem t hx)
    rw [List.map_cons, List.sum_cons, List.length_cons, Nat.succ_mul]
    omega
theorem Sm.all {c e : Nat} : ∀ {ds : List PyData}, (∀ d ∈ ds, Sm c e d) → PyData.showableAll ds = true ∧ (∀ t ∈ PyData.shownAll ds, t.length ≤ c) ∧ (PyData.shownAll ds).length = ds.length ∧ PyData.depthAll ds ≤ e ∧ PyData.canLayAll0 ds = true
  | [], _ => ⟨rfl, (fun t h => by simp [PyData.shownAll] at h), rfl, Nat.zero_le _, rfl⟩
  | d :: ds, h => by
    have a := h d List.mem_cons_self
    obtain ⟨b1, b2, b3, b4, b5⟩ := Sm.all fun x hx => h x (List.mem_cons_of_mem d hx)
    refine ⟨by simp only [PyData.showableAll, a.sh, b1, Bool.and_self], fun t ht => ?_, by simp only [PyData.shownAll, List.length_cons, b3], by simp only [PyData.depthAll]; exact Nat.max_le.mpr ⟨a.dp, b4⟩, by simp only [PyData.canLayAll0, a.cl, b5, Bool.and_self]⟩
    simp only [PyData.shownAll] at ht
    rcases List.mem_cons.mp ht with rfl | ht
    · exact a.ln
    · exact b2 t ht
theorem Sm.tup {c e n : Nat} {ds : List PyData} (h : ∀ d ∈ ds, Sm c e d) (hn : ds.length ≤ n) : Sm (n * (c + 2) + 3) (e + 1) (.tuple ds) := by
  obtain ⟨b1, b2, b3, b4, b5⟩ := Sm.all h
  refine ⟨by simpa only [PyData.showable] using b1, ?_, by simp only [PyData.depth]; omega, by simpa only [PyData.canLay0] using b5⟩
  simp only [PyData.shown]
  have z := tupleText_len_le (PyData.shownAll ds)
  have y := sum_le b2
  rw [b3] at z y
  have w := Nat.mul_le_mul_right (c + 2) hn
  rw [Nat.mul_add] at w
  omega
theorem Sm.lst {c e n : Nat} {ds : List PyData} (h : ∀ d ∈ ds, Sm c e d) (hn : ds.length ≤ n) : Sm (n * (c + 2) + 3) (e + 1) (.list ds) := by
  obtain ⟨b1, b2, b3, b4, b5⟩ := Sm.all h
  refine ⟨by simpa only [PyData.showable] using b1, ?_, by simp only [PyData.depth]; omega, by simpa only [PyData.canLay0] using b5⟩
  simp only [PyData.shown]
  have z := listText_len_le (PyData.shownAll ds)
  have y := sum_le b2
  rw [b3] at z y
  have w := Nat.mul_le_mul_right (c + 2) hn
  rw [Nat.mul_add] at w
  omega
theorem Sm.int {i : Int} (h : i.natAbs < 2 ^ 1000) : Sm 1921 0 (.int i) := by
  have hl : i.natAbs.log2 < 1920 := Nat.lt_trans (PySem.Flt.log2_lt_of (by decide) h) (by decide)
  exact ⟨by simp only [PyData.showable, hl, decide_true], by simp only [PyData.shown]; exact int_text_len_1921 hl, by simp only [PyData.depth]; exact Nat.le_refl 0, rfl⟩
theorem Sm.shaped {c e : Nat} {d : PyData} (h : Sm c e d) (he : e ≤ 64) : SeqAt.shaped d = true := by
  unfold SeqAt.shaped
  rw [h.cl, decide_eq_true (Nat.le_trans h.dp he)]; rfl
theorem Sm.ints {n : Nat} {ns : List Int} (h : ∀ i ∈ ns, i.natAbs < 2 ^ 1000) (hn : ns.length ≤ n) : Sm (n * 1923 + 3) 1 (.tuple (ns.map PyData.int)) :=
  Sm.tup (c := 1921) (e := 0) (fun d hd => by
    obtain ⟨i, hi, rfl⟩ := List.mem_map.mp hd
    exact Sm.int (h i hi)) (by rw [List.length_map]; exact hn)
end Gn
set_option Elab.async false
set_option linter.all false
set_option maxRecDepth 100000
set_option maxHeartbeats 4000000
namespace Gn
open PySem PySem.Spec PyProof.Rows L2
/-- a conditional expression whose two ways give the same data -/
theorem tIf_dp {tt : TT} {ta tb : TE} {σ : L2.St} {H : Hp} {Q : VK} {K : PySem.W.Frag} {d : PyData} (c : Bool) (ht : ∀ R : Bool → Hp → Prop, R c H → tt σ H R)
    (h1 : c = true → ∀ R : VK, (∀ v H', Same H H' → Dp K H' v d → R v H') → ta σ H R) (h2 : c = false → ∀ R : VK, (∀ v H', Same H H' → Dp K H' v d → R v H') → tb σ H R)
    (k : ∀ v H', Same H H' → Dp K H' v d → Q v H') : tIf tt ta tb σ H Q := by
  refine ht _ ?_
  cases c with
  | true => exact iteT (h1 rfl Q k)
  | false => exact iteF (h2 rfl Q k)
/-- t[lo:hi], whether it is all of t or not -/
theorem slA_of {K : PySem.W.Frag} {a : Addr} {xs : List V} {lo hi : Option Int} {H : Hp} {Q : VK} (h : SqT K H a xs) (k : ∀ b H', Same H H' → SqT K H' b (cutV xs lo hi) → Q (.ref b) H') : rSlA K (.ref a) lo hi H Q := by
  refine ⟨a, xs, rfl, h, fun hw => k a H (Same.refl H) ?_, fun _ p hp => k p _ (same_put hp) (SqT.of upd_same)⟩
  have e : cutV xs lo hi = xs := by
    unfold cutV
    rw [hw.1, hw.2, List.drop_zero, Nat.sub_zero, List.take_length]
  rw [e]; exact h
/-- t + u, whether one of them is empty or not -/
theorem catA_of {K : PySem.W.Frag} {a b : Addr} {xs ys : List V} {H : Hp} {Q : VK} (h1 : SqT K H a xs) (h2 : SqT K H b ys) (hz : xs.length + ys.length ≤ sizeLine) (k : ∀ c H', Same H H' → SqT K H' c (xs ++ ys) → Q (.ref c) H') : rCatA K (.ref a) (.ref b) H Q := by
  refine ⟨a, b, xs, ys, rfl, rfl, h1, h2, hz, fun e => k b H (Same.refl H) ?_, fun _ e => k a H (Same.refl H) ?_, fun _ _ p hp => k p _ (same_put hp) (SqT.of upd_same)⟩
  · rw [e]; exact h2
  · rw [e, List.append_nil]; exact h1
theorem cut_one (xs : List V) : cutV xs none (some 1) = xs.take 1 := by
  unfold cutV
  rw [show HT.sIx xs.length 0 none = 0 from HT.sIx_none .., show HT.sIx xs.length xs.length (some 1) = min 1 xs.length from HT.sIx_nat xs.length xs.length 1, List.drop_zero, Nat.sub_zero]
  cases xs with
  | nil => rfl
  | cons x r => rw [show min 1 (x :: r).length = 1 by rw [List.length_cons]; omega]
/-- keywords of a def of the text -/
theorem kwOf1 {K : PySem.W.Frag} {x qual : Str} {st : Stmt} {f : Addr} {fd : FuncData} {p : Str} (F : Fun K x qual st f fd)
    (h : ∀ (kV doc pm : Value) (an : Option Addr) (cdv ct a : Value), bindArgs (PySem.W.fnOf x qual (defArgs st) (defBody st) (defScope st) .none kV doc pm an cdv ct) ⟨[], [(p, a)]⟩ = pure [(p, a)]) : KBinds K fd [p] [p] kw1 kw1 := by
  obtain ⟨oc, od, kV, doc, pm, an, cdv, ct, osl, rfl, lk, hcd⟩ := F.ex
  exact kb1 fun a => h kV doc pm an cdv ct a
theorem kwOf2 {K : PySem.W.Frag} {x qual : Str} {st : Stmt} {f : Addr} {fd : FuncData} {p q : Str} (F : Fun K x qual st f fd)
    (h : ∀ (kV doc pm : Value) (an : Option Addr) (cdv ct a b : Value), bindArgs (PySem.W.fnOf x qual (defArgs st) (defBody st) (defScope st) .none kV doc pm an cdv ct) ⟨[], [(p, a), (q, b)]⟩ = pure [(p, a), (q, b)]) : KBinds K fd [p, q] [p, q] kw2 kw2 := by
  obtain ⟨oc, od, kV, doc, pm, an, cdv, ct, osl, rfl, lk, hcd⟩ := F.ex
  exact kb2 fun a b => h kV doc pm an cdv ct a b
theorem kwOf2s {K : PySem.W.Frag} {x qual : Str} {st : Stmt} {f : Addr} {fd : FuncData} {p q : Str} (F : Fun K x qual st f fd)
    (h : ∀ (kV doc pm : Value) (an : Option Addr) (cdv ct a b : Value), bindArgs (PySem.W.fnOf x qual (defArgs st) (defBody st) (defScope st) .none kV doc pm an cdv ct) ⟨[], [(q, b), (p, a)]⟩ = pure [(p, a), (q, b)]) : KBinds K fd [p, q] [q, p] kw2s kw2s := by
  obtain ⟨oc, od, kV, doc, pm, an, cdv, ct, osl, rfl, lk, hcd⟩ := F.ex
  exact kb2s fun a b => h kV doc pm an cdv ct a b
end Gn
set_option Elab.async false
set_option linter.all false
set_option maxRecDepth 100000
set_option maxHeartbeats 4000000
namespace Gn
open PySem PySem.Spec PyProof.Rows L2
/-- for x in reversed(xs): what holds behind i turns -/
theorem for_rv {K : PySem.W.Frag} {a : Addr} {xs : List V} {g : TG} {tb : TS} {D : Ends} {σ : L2.St} {H : Hp} (Pv : Nat → L2.St → Hp → Prop) (h0 : Pv 0 σ H) (hl : ∀ i σ H, i ≤ xs.length → Pv i σ H → SqL K H a xs)
    (hs : ∀ i x σ H, i < xs.length → xs[xs.length - 1 - i]? = some x → Pv i σ H → g x σ H fun σ2 H2 => tb { D with nx := Pv (i + 1), ct := Pv (i + 1), bk := D.nx } σ2 H2) (hd : ∀ σ H, Pv xs.length σ H → D.nx σ H) :
    ∃ W : Nat → Nat → L2.St → Hp → Prop, (∃ m, W 0 m σ H) ∧ ∀ i m σ H, W i m σ H →
      ((Itv K a xs.length).stop i H ∧ D.nx σ H) ∨ ((Itv K a xs.length).go i H ∧ ∃ N : L2.St → Hp → Prop, (∀ σ' H', N σ' H' → ∃ m', m' < m ∧ W (i + 1) m' σ' H') ∧ ∀ x H', (Itv K a xs.length).yld i H x H' → g x σ H' fun σ2 H2 => tb { D with nx := N, ct := N, bk := D.nx } σ2 H2) := by
  refine ⟨fun i m σ H => m = xs.length - i ∧ i ≤ xs.length ∧ Pv i σ H, ⟨xs.length, by simp, Nat.zero_le _, h0⟩, fun i m σ H ⟨em, hi, p⟩ => ?_⟩
  subst em
  have q := hl i σ H hi p
  rcases Nat.lt_or_ge i xs.length with c | c
  · have c2 : xs.length - 1 - i < xs.length := by omega
    refine .inr ⟨⟨c, xs, xs[xs.length - 1 - i], q, List.getElem?_eq_getElem c2⟩, Pv (i + 1), fun σ' H' p' => ⟨xs.length - (i + 1), by omega, rfl, c, p'⟩, fun x H' y => ?_⟩
    obtain ⟨rfl, y⟩ := y
    exact hs i x σ _ c (y xs q) p
  · obtain rfl : i = xs.length := by omega
    exact .inl ⟨Nat.le_refl _, hd σ H p⟩
end Gn
namespace Gn
open PySem PySem.Spec PyProof.Rows L2
/-- a test and a second one, their answers as one -/
theorem and_join {c : Bool} {t : TT} {σ : L2.St} {H : Hp} {Q : Bool → Hp → Prop} (e : Bool) (h1 : c = true → ∀ R : Bool → Hp → Prop, R e H → t σ H R) (h2 : c = false → e = false) (k : Q e H) : if c = true then t σ H Q else Q false H := by
  cases c with
  | true => exact iteT (h1 rfl Q k)
  | false => rw [h2 rfl] at k; exact iteF k
end Gn
set_option Elab.async false
set_option linter.all false
set_option maxRecDepth 100000
set_option maxHeartbeats 4000000
/-! own exceptions over any built-in base: kept as values -/
namespace Gn
open PySem PySem.Spec PyProof.Rows L2
/-- own classes, then a tail -/
inductive Past (t : List Value) : List Value → Prop
  | base : Past t t
  | own {c : Addr} {r : List Value} : Past t r → Past t (.ref c :: r)
section
variable {t l : List Value}
theorem Past.has (h : Past t l) (n : String) : l.contains (.type n) = t.contains (.type n) := by
  induction h with
  | base => rfl
  | own _ ih =>
    rw [List.contains_cons, ih]
    rfl
theorem Past.pass (h : Past t l) {u : Value} {x : Str} (ht : refuseLoop u x t = pure ()) : refuseLoop u x l = pure () := by
  induction h with
  | base => exact ht
  | own _ ih => exact (refuseLoop_ref u x _ _).trans ih
end
/-- what is built in of a base class -/
structure Bas (B nw it : String) (t : List Value) : Prop where
  ex : ExcBaseFacts B nw it t
  st : StoreFacts B t "object.__setattr__" "object"
theorem basV : Bas "ValueError" "ValueError.__new__" "ValueError.__init__" [.type "ValueError", .type "Exception", .type "BaseException", .type "object"] := ⟨F.excBase_ValueError, F.store_ValueError⟩
theorem basL : Bas "LookupError" "LookupError.__new__" "LookupError.__init__" [.type "LookupError", .type "Exception", .type "BaseException", .type "object"] := ⟨F.excBase_LookupError, F.store_LookupError⟩
theorem basA : Bas "ArithmeticError" "ArithmeticError.__new__" "ArithmeticError.__init__" [.type "ArithmeticError", .type "Exception", .type "BaseException", .type "object"] := ⟨F.excBase_ArithmeticError, F.store_ArithmeticError⟩
/-- what the written part says of an own class over such a base -/
structure OwC (K : PySem.W.Frag) (C : Addr) : Prop where
  cls : ∃ (nm q : Str) (N : Addr) (bs bm : List Value) (sn : List Str) (sub : List Value) (ab : Bool) (col : Option Bool) (dd : Option Addr) (k0 k1 k2 k3 k5 : Option Value) (B nw it : String) (tl : List Value),
    K.lookup C = some (excClassObj nm q C N bs bm true sn sub ab col dd k0 k1 k2 k3 k5 nw) ∧ Past tl bm ∧ Bas B nw it tl
  sa : PySem.W.findIn K (.ref C) "__setattr__" = some (some (.builtin "object.__setattr__"))
  exC : PySem.W.subIn K (.ref C) (.type "BaseException") = some true
  tyC : PySem.W.typeIn K (.ref C) = some (.type "type")
  kC : PySem.W.keepIn K (.ref C) = true
section
open Builtin Builtin.ObjectAttr
variable {P : Program} {w : World} {A : Around} {R : Result → Shared → Prop} {hp : Heap} {g : Array GenState} {d : Drawn} {t : Nat} {os : OsState} {K : PySem.W.Frag}
  {f : Str} {tk : Tok} {v : Value} {x C dx : Addr} {fv : Array Value} {cd : ClassData} {m0 : Str → Option Value} {nl : List Str} {tl : List Value} {B nw it : String}
theorem hasO (T : Bas B nw it tl) : tl.contains (.type "object") = true := T.st.hasOwner
/-- x.f = v, x without a dict -/
theorem own_put (T : Bas B nw it tl) (KX : K.In hp) (ox : hp.get? x = some { cls := .ref C, data := .fields fv }) (oc : PySem.W.clsIn K C = some cd)
    (om : Past tl cd.mro) (od : cd.hasDict = true) (on : PySem.W.findIn K (.ref C) f = some none)
    (fin : ∀ h' k' dx, (∀ b o, b ≠ x → hp.get? b = some o → h'.get? b = some o) → hp.objs.size ≤ dx → dx ≠ x →
      h'.get? x = some { cls := .ref C, dict := some dx, data := .fields fv } → h'.Ns1 dx (fun y => if y = f then some v else none) → R (.ok (.ret .none)) ⟨h', g, d, k', os⟩) :
    codeAny (model P w) A (.call (.builtin "object.__setattr__") ⟨[.ref x, .str f tk, v], []⟩) R ⟨hp, g, d, t, os⟩ := by
  have J : PySem.W.InstAt hp x { cls := .ref C, data := .fields fv } C none := ⟨ox, rfl, rfl, trivial⟩
  have S0 := F.store_object
  have hob : cd.mro.contains (.type "object") = true := (om.has "object").trans (hasO T)
  have nem : cd.mro.isEmpty = false := by
    cases e : cd.mro with
    | nil =>
      rw [e] at hob
      cases hob
    | cons _ _ => rfl
  have xs : x ≠ hp.objs.size := Nat.ne_of_lt (Heap.lt_size ox)
  have isO : PySem.W.Looks (model P w) hp (isInstance (.ref x) (.type "object")) true := J.type.andThen (PySem.W.looks_mroIn KX (by
    unfold PySem.W.mroIn
    rw [oc, Option.bind_some, if_neg (by rw [nem]; decide), hob]))
  refine codeAny_call_builtin S0.slot.plain S0.entry (@PySem.W.check_slot (model P w) _ _ ⟨hp, g, d, t, os⟩ "object.__setattr__" "object" "__setattr__"
    (.ref x) [.str f tk, v] [] _ S0.kind S0.split isO (S0.args (.ref x) (.str f tk) v) ?_)
  have l1 : PySem.W.Looks (model P w) hp (mroOf (.ref C)) cd.mro := (PySem.W.looks_clsIn KX oc).andThen .now
  have l2 : PySem.W.Looks (model P w) hp (storeTaker? none) none := .now
  have l3 : PySem.W.Looks (model P w) hp (classData C) cd := PySem.W.looks_clsIn KX oc
  rw [PySem.W.osa_eq, refuse_eq]
  refine wpAny_bind (wpAny_bind (J.type.at (wpAny_bind (l1.at ?_))))
  rw [om.pass (T.st.passes _)]
  refine wpAny_pure (wpAny_bind (J.type.at (wpAny_bind ((PySem.W.looks_findIn KX on).at (wpAny_bind (l2.at ?_))))))
  show wpAny _ _ (storeInOwnDict (.ref x) (.ref C) (.str f tk) f v false) _ _ _
  obtain ⟨c1, c2, c3, c4, c5, c6, c7, c8, c9, c10, c11⟩ := cd
  dsimp only at od
  subst od
  unfold storeInOwnDict ownDictForStores
  repeat (first
    | with_reducible refine PySem.HandSPX.store_in_new ?_ ?_
    | with_reducible refine wpAny_loadPart_at ox ?_
    | with_reducible refine l3.at ?_
    | wp_step)
  · exact ⟨_, #[], _, (Heap.get?_update_ne _ _ _ _ xs.symm).trans (Heap.get?_push_at rfl rfl), rfl, fun e z => absurd z (by simp), fun _ => rfl⟩
  · intro h' k' hn hs
    have ox1 : (hp.push { cls := .type "dict", data := .dict #[] }).get? x = some { cls := .ref C, data := .fields fv } := Heap.get?_push_of_some _ ox
    refine fin h' k' hp.objs.size (fun b o hb q => ?_) (Nat.le_refl _) xs.symm ?_ hn
    · exact (hs.2 b (Nat.ne_of_lt (Heap.lt_size q))).trans ((Heap.get?_update_ne _ _ _ _ hb).trans (Heap.get?_push_of_some _ q))
    · exact (hs.2 x xs).trans (Heap.get?_update_self _ ox1 rfl)
/-- x.f = v, x with its dict -/
theorem own_put2 (T : Bas B nw it tl) (KX : K.In hp) (ox : hp.get? x = some { cls := .ref C, dict := some dx, data := .fields fv }) (hns : hp.Ns1 dx m0) (hw : Within m0 nl) (hz : nl.length ≤ 1000)
    (oc : PySem.W.clsIn K C = some cd) (om : Past tl cd.mro) (od : cd.hasDict = true) (on : PySem.W.findIn K (.ref C) f = some none)
    (fin : ∀ h' k', (∀ b o, b ≠ dx → hp.get? b = some o → h'.get? b = some o) → h'.Ns1 dx (fun y => if y = f then some v else m0 y) → R (.ok (.ret .none)) ⟨h', g, d, k', os⟩) :
    codeAny (model P w) A (.call (.builtin "object.__setattr__") ⟨[.ref x, .str f tk, v], []⟩) R ⟨hp, g, d, t, os⟩ := by
  obtain ⟨oD, _, _, qD, _, _⟩ := hns.count hw
  have J : PySem.W.InstAt hp x { cls := .ref C, dict := some dx, data := .fields fv } C (some oD) := ⟨ox, rfl, rfl, qD⟩
  have S0 := F.store_object
  have hob : cd.mro.contains (.type "object") = true := (om.has "object").trans (hasO T)
  have nem : cd.mro.isEmpty = false := by
    cases e : cd.mro with
    | nil =>
      rw [e] at hob
      cases hob
    | cons _ _ => rfl
  have isO : PySem.W.Looks (model P w) hp (isInstance (.ref x) (.type "object")) true := J.type.andThen (PySem.W.looks_mroIn KX (by
    unfold PySem.W.mroIn
    rw [oc, Option.bind_some, if_neg (by rw [nem]; decide), hob]))
  refine codeAny_call_builtin S0.slot.plain S0.entry (@PySem.W.check_slot (model P w) _ _ ⟨hp, g, d, t, os⟩ "object.__setattr__" "object" "__setattr__"
    (.ref x) [.str f tk, v] [] _ S0.kind S0.split isO (S0.args (.ref x) (.str f tk) v) ?_)
  have l1 : PySem.W.Looks (model P w) hp (mroOf (.ref C)) cd.mro := (PySem.W.looks_clsIn KX oc).andThen .now
  have l2 : PySem.W.Looks (model P w) hp (storeTaker? none) none := .now
  have l3 : PySem.W.Looks (model P w) hp (classData C) cd := PySem.W.looks_clsIn KX oc
  rw [PySem.W.osa_eq, refuse_eq]
  refine wpAny_bind (wpAny_bind (J.type.at (wpAny_bind (l1.at ?_))))
  rw [om.pass (T.st.passes _)]
  refine wpAny_pure (wpAny_bind (J.type.at (wpAny_bind ((PySem.W.looks_findIn KX on).at (wpAny_bind (l2.at ?_))))))
  show wpAny _ _ (storeInOwnDict (.ref x) (.ref C) (.str f tk) f v false) _ _ _
  obtain ⟨c1, c2, c3, c4, c5, c6, c7, c8, c9, c10, c11⟩ := cd
  dsimp only at od
  subst od
  unfold storeInOwnDict ownDictForStores
  repeat (first
    | with_reducible refine PySem.OEX.store_in_old hns hw hz ?_
    | with_reducible refine wpAny_loadPart_at ox ?_
    | with_reducible refine l3.at ?_
    | wp_step)
  intro h' k' hn hs
  exact fin h' k' (fun b o hb q => (hs.2 b hb).trans q) hn
end
end Gn
set_option Elab.async false
set_option linter.all false
set_option maxRecDepth 100000
set_option maxHeartbeats 4000000
namespace Gn
open PySem PySem.Spec PyProof.Rows L2
section
variable {X : Cx} {pins : List (Addr × Obj)} {σ : L2.St} {H : Hp} {s : Shared} {a C dx : Addr} {f : Str} {y : V} {u : Value} {fs : List (Str × V)} {Q : Unit → Shared → Prop} {E : Value → Shared → Prop} {A : Around}
theorem put_new (T : OwC X.K C) (I : Inv X pins σ H s) (ea : H a = some (exo a C none)) (on : PySem.W.findIn X.K (.ref C) f = some none) (ry : RelV y u)
    (fin : ∀ dx s', H dx = none → dx ≠ a → Inv X pins σ (upd (upd H dx (exd dx [(f, y)])) a (exo a C (some dx))) s' → Q () s') : wpAny (model X.prog X.w) A (setAttr (.ref a) f u) Q E s := by
  obtain ⟨nm, q, N, bs, bm, sn, sub, ab, col, dd, k0, k1, k2, k3, k5, B, nw, it, tl, lk, pt, TB⟩ := T.cls
  have oc : PySem.W.clsIn X.K C = some { name := nm, bases := bs, mro := .ref C :: bm, ns := N, qualname := q, hasDict := true, slotNames := sn, subclasses := sub, abstract := ab, collection := col, hasDel := false } := by
    unfold PySem.W.clsIn
    rw [lk] <;> rfl
  obtain ⟨t1, ho⟩ := exo_at I.hok ea
  obtain ⟨hp, g, d, t, os⟩ := s
  refine PySem.W.set_plain I.kIn (ox := { cls := .ref C, dict := none, data := .fields #[.ref t1, .none, .none, .none, .bool false, .none] }) (od := none) ⟨ho, rfl, rfl, trivial⟩ T.sa ?_
  refine own_put TB I.kIn ho oc (.own pt) rfl on fun h' t' dx kp dn dne hx hn => ?_
  have fd : H dx = none := I.hok.fresh dn
  have old : ∀ {b : Addr} {o : Obj}, hp.get? b = some o → b ≠ dx := fun {b o} z => Nat.ne_of_lt (Nat.lt_of_lt_of_le (Heap.lt_size z) dn)
  have noa : ∀ {b : Addr}, H b = none → b ≠ a := fun {b} n z => by
    rw [z, ea] at n
    cases n
  have U : Un X.fs [] H (upd (upd H dx (exd dx [(f, y)])) a (exo a C (some dx))) hp h' := {
    keep := fun b o z n _ _ => kp b o (noa n) z
    slot := fun b o z n _ _ => ⟨o.slots, kp b o (noa n) z⟩
    free := fun b o z n _ => by
      rw [upd_ne (noa n), upd_ne (old z)]
      exact n
    there := fun b o z _ => by
      by_cases hb : b = a
      · exact ⟨_, by rw [hb]; exact hx⟩
      · exact ⟨o, kp b o hb z⟩
    tups := fun b xs z => by
      rw [upd_ne (at_ne ea z exo_tup), upd_ne (ne_of_none z fd)]
      exact z
    frzs := fun b o v z => by
      rw [upd_ne (at_ne ea z exo_frz), upd_ne (ne_of_none z fd)]
      exact z
    tbls := fun b ps z => ⟨#[], by
      rw [upd_ne (at_ne ea z exo_tbl), upd_ne (ne_of_none z fd), z]
      simp⟩ }
  refine fin dx _ fd dne (I.un (t' := t') U fun b o z => ?_)
  by_cases ba : b = a
  · subst ba
    rw [upd_same] at z
    cases z
    exact exo_ok hx
  · rw [upd_ne ba] at z
    by_cases bd : b = dx
    · subst bd
      rw [upd_same] at z
      cases z
      exact exd_ok hn (relO_put (fs := []) ry fun g => True.intro)
    · rw [upd_ne bd] at z
      refine (I.hok b o z).stay (fun c v hc q => kp c v ?_ q) (fun c hc => ?_) fun c xs hc => ?_
      · rcases hc with hc | hc
        · rw [hc]
          exact ba
        · exact at_ne ea hc exo_own
      · rw [upd_ne (at_ne ea hc exo_own), upd_ne (ne_of_none hc fd)]
        exact hc
      · rw [upd_ne (at_ne ea hc exo_tup), upd_ne (ne_of_none hc fd)]
        exact hc
theorem put_old (T : OwC X.K C) (I : Inv X pins σ H s) (ea : H a = some (exo a C (some dx))) (ed : H dx = some (exd dx fs)) (hl : fs.length ≤ 900) (on : PySem.W.findIn X.K (.ref C) f = some none) (ry : RelV y u)
    (fin : ∀ s', Inv X pins σ (upd H dx (exd dx ((f, y) :: fs))) s' → Q () s') : wpAny (model X.prog X.w) A (setAttr (.ref a) f u) Q E s := by
  obtain ⟨nm, q, N, bs, bm, sn, sub, ab, col, dd, k0, k1, k2, k3, k5, B, nw, it, tl, lk, pt, TB⟩ := T.cls
  have oc : PySem.W.clsIn X.K C = some { name := nm, bases := bs, mro := .ref C :: bm, ns := N, qualname := q, hasDict := true, slotNames := sn, subclasses := sub, abstract := ab, collection := col, hasDel := false } := by
    unfold PySem.W.clsIn
    rw [lk] <;> rfl
  obtain ⟨t1, ho⟩ := exo_at I.hok ea
  obtain ⟨mA, hns, rel⟩ := exd_at I.hok ed
  have hw := within_of rel
  obtain ⟨hp, g, d, t, os⟩ := s
  obtain ⟨oD, _, _, qD, _, _⟩ := hns.count hw
  refine PySem.W.set_plain I.kIn (ox := { cls := .ref C, dict := some dx, data := .fields #[.ref t1, .none, .none, .none, .bool false, .none] }) (od := some oD) ⟨ho, rfl, rfl, qD⟩ T.sa ?_
  have small : (fs.map (·.1)).length ≤ 1000 := by
    rw [List.length_map]
    omega
  refine own_put2 TB I.kIn ho hns hw small oc (.own pt) rfl on fun h' t' kp hn => ?_
  have hd : ∃ o, h'.get? dx = some o := by
    obtain ⟨o, _, _, z, _⟩ := hn
    exact ⟨o, z⟩
  exact fin _ (I.write (t' := t') (x := dx) (e := dx) (o := exd dx ((f, y) :: fs)) (by rw [ed]; exact True.intro) (.inl rfl) kp hd (exd_ok hn (relO_put ry rel)))
end
/-- self.f = e -/
def tPut (K : PySem.W.Frag) (f : Str) (to te : TE) : TS := fun D σ H => te σ H fun y H1 => to σ H1 fun x H2 => ∃ a C : Addr, x = .ref a ∧ OwC K C ∧ PySem.W.findIn K (.ref C) f = some none ∧
  ((H2 a = some (exo a C none) ∧ ∀ d, H2 d = none → d ≠ a → D.nx σ (upd (upd H2 d (exd d [(f, y)])) a (exo a C (some d)))) ∨
    ∃ (d : Addr) (fs : List (Str × V)), H2 a = some (exo a C (some d)) ∧ H2 d = some (exd d fs) ∧ fs.length ≤ 900 ∧ D.nx σ (upd H2 d (exd d ((f, y) :: fs))))
/-- C(e, ..) kept -/
def tOwn (C : Addr) (sp : Sp) (dvs : List V) (ta : TA) : TE := fun σ H Q => ta σ H fun vs H1 => vs.length ≤ 1000 ∧ ∀ a, H1 a = none →
  sp (.ref a :: (vs ++ dvs)) (upd H1 a (exo a C none)) (fun v H2 => v = .non ∧ Q (.ref a) H2) (fun _ _ _ => False)
section
variable {X : Cx} {o e : Expr} {es : List Expr} {to te : TE} {ta : TA} {f : Str} {p p' pos : Pos}
theorem ps_put (ho : PE X o to) (he : PE X e te) (hs : swapsWith e (some (.Attribute o f p')) pos.line X.env = pure false := by rfl) : PS X (.Assign [.Attribute o f p'] e pos) (tPut X.K f to te) := by
  refine ⟨fun pins s σ H D I h => ?_⟩
  refine plainObj_wpAny_Assign_Attribute (thn (he.run pins s σ H _ I h) fun v s1 ⟨y, H1, I1, r1, q1⟩ => ?_) hs
  refine thn (ho.run pins s1 σ H1 _ I1 q1) fun u s2 ⟨x, H2, I2, r2, a, C, ex, T, on, q⟩ => ?_
  subst ex
  obtain rfl : u = Value.ref a := r2
  rcases q with ⟨ea, q⟩ | ⟨dx, fs, ea, ed, hl, q⟩
  · exact put_new T I2 ea on r1 fun dx s' n ne J => ⟨σ, _, J, q dx n ne⟩
  · exact put_old T I2 ea ed hl on r1 fun s' J => ⟨σ, _, J, q⟩
theorem own_made {CX : CXT} {C fI : Addr} {k : Nat} {fd : FuncData} {ps : List Str} {sp : Sp} {ds us : List Value} {dvs vs : List V} {pins : List (Addr × Obj)} {σ : L2.St} {H1 : Hp} {s1 : Shared} {Q : VK} (T : OwC X.K C)
    (iC : PySem.W.findIn X.K (.ref C) "__init__" = some (some (.ref fI))) (tI : PySem.W.typeIn X.K (.ref fI) = some (.type "function")) (F1 : FnOk X.prog X.w X.K X.mg X.base CX k fI fd ps sp) (hr : Room (k + 1) X.A) (hb : Binds X.K fd ps ds) (hd : Vals dvs ds)
    (hx : Passes CX X (fun _ _ _ => False)) (I1 : Inv X pins σ H1 s1) (r1 : Vals vs us) (q1 : ∀ a, H1 a = none → sp (.ref a :: (vs ++ dvs)) (upd H1 a (exo a C none)) (fun v H2 => v = .non ∧ Q (.ref a) H2) (fun _ _ _ => False)) (hz : vs.length ≤ 1000) :
    wpAny (model X.prog X.w) X.A (call (.ref C) us) (EP X pins σ Q) X.xe s1 := by
  obtain ⟨nm, q, N, bs, bm, sn, sub, ab, col, dd, k0, k1, k2, k3, k5, B, nw, it, tl, lk, pt, TB⟩ := T.cls
  obtain ⟨hp, g, dr, tk, os⟩ := s1
  have up : hp.objs.size ≤ hp.objs.size + 1 := Nat.le_succ _
  have hn : H1 (hp.objs.size + 1) = none := I1.hok.fresh up
  have hq := q1 (hp.objs.size + 1) hn
  have kk : ∀ b o, hp.get? b = some o → ((hp.push (PySem.W.kdv_tup us)).push (PySem.HandSPX.excO C hp.objs.size)).get? b = some o := fun b o z =>
    Heap.get?_push_of_some _ (Heap.get?_push_of_some _ z)
  have got : ((hp.push (PySem.W.kdv_tup us)).push (PySem.HandSPX.excO C hp.objs.size)).get? (hp.objs.size + 1) = some (PySem.HandSPX.excO C hp.objs.size) := by heap_get
  have I2 := I1.laid (t' := tk) (a := hp.objs.size + 1) (o := exo (hp.objs.size + 1) C none) kk up (exo_ok got)
  have r2 : Vals (V.ref (hp.objs.size + 1) :: (vs ++ dvs)) (Value.ref (hp.objs.size + 1) :: (us ++ ds)) := .cons rfl (r1.append hd)
  have hl : (Value.ref (hp.objs.size + 1) :: us ++ ds).length = ps.length := by
    have z := r2.length
    rw [F1.len _ _ _ _ hq] at z
    exact z.symm
  have few : us.length ≤ sizeLine := by
    rw [← Paired.length r1, sizeLine_eq]
    omega
  refine wpAny_call (PySem.HandSPX.call_own TB.ex (fun n => pt.has n) (I1.kIn _ _ lk) (PySem.W.looks_findIn I1.kIn iC) (fun me => PySem.W.bind_fn I1.kIn me tI) few (codeAny_mono
    (F1.run _ X.stack _ _ ⟨Value.ref (hp.objs.size + 1) :: us, []⟩ (Value.ref (hp.objs.size + 1) :: (us ++ ds)) _ _ (fun _ _ _ => False) (hr.make C us []) (I2.env0.make C us []) (hb _ (Value.ref (hp.objs.size + 1) :: us) I2.kIn hl) r2 hq) fun r s' z => ?_))
  cases r with
  | error er => exact hx pins σ _ _ er s' I2 z
  | ok fl =>
    cases fl with
    | ret u =>
      obtain ⟨v, H2, os2, bare2, un2, hok2, rv, ev, q2⟩ := z
      subst ev
      obtain ⟨h2, g2, d2, t2, os'⟩ := s'
      exact ⟨rv, .ref (hp.objs.size + 1), H2, I1.call' (ch := []) os2 ((Un.laid kk up hn).trans un2) hok2 bare2 (fun b y => absurd y (by simp)), rfl, q2⟩
    | next => exact False.elim z
    | brk => exact False.elim z
    | cont => exact False.elim z
theorem pe_own {CX : CXT} {x : Str} {C fI : Addr} {k : Nat} {fd : FuncData} {ps : List Str} {sp : Sp} {ds : List Value} {dvs : List V} (T : OwC X.K C) (iC : PySem.W.findIn X.K (.ref C) "__init__" = some (some (.ref fI)))
    (tI : PySem.W.typeIn X.K (.ref fI) = some (.type "function")) (F1 : FnOk X.prog X.w X.K X.mg X.base CX k fI fd ps sp) (hr : Room (k + 1) X.A) (hb : Binds X.K fd ps ds) (hd : Vals dvs ds) (hx : Passes CX X (fun _ _ _ => False)) (hg : Gl X x)
    (hm : X.mg x = some (.ref C)) (ha : PA X (e :: es) ta) (hdb : (x == ("__debug__" : Str)) = false := by decide) (he : starEach (e :: es) X.env = (false, eval e X.env) :: starEach es X.env := by rfl) (hpl : (backTo pos (starEach es X.env)).any (·.1) = false := by rfl) :
    PE X (.Call (.Name x p) (e :: es) [] pos) (tOwn C sp dvs ta) := ⟨fun pins s σ H Q I h =>
  wpAny_Call_Name_kw (ld_glob I hg hm (PySem.W.callWith_K (h₀ := X.base) I.ok.mod.kin T.kC (thn (ha.run pos pins s σ H _ I h) fun us s1 ⟨vs, H1, I1, r1, hz, q1⟩ => ⟨I1.kIn, own_made T iC tI F1 hr hb hd hx I1 r1 q1 hz⟩) he hpl) hdb)⟩
theorem pe_own0 {CX : CXT} {x : Str} {C fI : Addr} {k : Nat} {fd : FuncData} {ps : List Str} {sp : Sp} {ds : List Value} {dvs : List V} (T : OwC X.K C) (iC : PySem.W.findIn X.K (.ref C) "__init__" = some (some (.ref fI)))
    (tI : PySem.W.typeIn X.K (.ref fI) = some (.type "function")) (F1 : FnOk X.prog X.w X.K X.mg X.base CX k fI fd ps sp) (hr : Room (k + 1) X.A) (hb : Binds X.K fd ps ds) (hd : Vals dvs ds) (hx : Passes CX X (fun _ _ _ => False)) (hg : Gl X x)
    (hm : X.mg x = some (.ref C)) (hdb : (x == ("__debug__" : Str)) = false := by decide) : PE X (.Call (.Name x p) [] [] pos) (tOwn C sp dvs tNil) := ⟨fun pins s σ H Q I h =>
  wpAny_Call_Name_kw (ld_glob I hg hm (PySem.W.callWith_K0 I.kIn T.kC (own_made (us := []) (vs := []) T iC tI F1 hr hb hd hx I .nil h.2 h.1)) hdb)⟩
end
end Gn
set_option Elab.async false
set_option linter.all false
set_option maxRecDepth 100000
set_option maxHeartbeats 4000000
namespace Gn
open PySem PySem.Spec PyProof.Rows L2
section
variable {X : Cx} {e : Expr} {es : List Expr} {ta : TA} {p pos : Pos}
/-- the exception without a dict is let go -/
theorem bare_gone {pins : List (Addr × Obj)} {σ : L2.St} {H1 H2 : Hp} {Q : XK} {hp hp2 h2 : Heap} {g1 g2 : Array GenState} {d1 d2 : Drawn} {t1 t2 : Nat} {os1 os2 : OsState} {a C : Addr} (T : Raises X (.ref C)) (I1 : Inv X pins σ H1 ⟨hp, g1, d1, t1, os1⟩)
    (ha : hp.objs.size ≤ a) (kp : ∀ b o, hp.get? b = some o → hp2.get? b = some o) (un : Un (frs X.stack) [] (upd H1 a (exo a C none)) H2 hp2 h2) (hok : HOk X.prog X.w H2 h2) (ho : os2 = os1) (hb : AllBare g2)
    (ea : H2 a = some (exo a C none)) (q : Q (.ref C) none (del H2 a)) : MkP X pins σ Q (.ref a) ⟨h2, g2, d2, t2, os2⟩ := by
  obtain ⟨t0, hoe⟩ := exo_at hok ea
  have hn : H1 a = none := I1.hok.fresh ha
  obtain ⟨G, y1, y2⟩ := restrict h2 fun b => decide (b ≠ a)
  have gk : ∀ b, b ≠ a → G.get? b = h2.get? b := fun b z => y1 b (decide_eq_true z)
  have ge : G.get? a = none := y2 a (by simp)
  have old : ∀ {b : Addr} {o : Obj}, hp.get? b = some o → b ≠ a := fun {b o} z => Nat.ne_of_lt (Nat.lt_of_lt_of_le (Heap.lt_size z) ha)
  have fr : ∀ {b : Addr}, b ≠ a → H1 b = none → upd H1 a (exo a C none) b = none := fun {b} z n => (upd_ne z).trans n
  have U : Un (frs X.stack) [] H1 (del H2 a) hp G := {
    keep := fun b o z n hf hx => (gk b (old z)).trans (un.keep b o (kp b o z) (fr (old z) n) hf hx)
    slot := fun b o z n hf hx => by
      rw [gk b (old z)]
      exact un.slot b o (kp b o z) (fr (old z) n) hf hx
    free := fun b o z n hx => (del_ne (old z)).trans (un.free b o (kp b o z) (fr (old z) n) hx)
    there := fun b o z hx => by
      rw [gk b (old z)]
      exact un.there b o (kp b o z) hx
    tups := fun b xs z => (del_ne (ne_of_none z hn)).trans (un.tups b xs ((upd_ne (ne_of_none z hn)).trans z))
    frzs := fun b o v z => (del_ne (ne_of_none z hn)).trans (un.frzs b o v ((upd_ne (ne_of_none z hn)).trans z))
    tbls := fun b ps z => by
      rw [del_ne (ne_of_none z hn)]
      exact un.tbls b ps ((upd_ne (ne_of_none z hn)).trans z) }
  have hok3 : HOk X.prog X.w (del H2 a) G := fun b o z => by
    have ba : b ≠ a := fun e => by
      rw [e, del_same] at z
      cases z
    rw [del_ne ba] at z
    have noa : ∀ {c : Addr}, H2 c = some (.own b) → c ≠ a := fun {c} hc => at_ne ea hc exo_own
    refine (hok b o z).stay (fun c v hc y => ?_) (fun c hc => (del_ne (noa hc)).trans hc) fun c xs hc => (del_ne (at_ne ea hc exo_tup)).trans hc
    have ca : c ≠ a := by
      rcases hc with hc | hc
      · rw [hc]
        exact ba
      · exact noa hc
    exact (gk c ca).trans y
  have J : Inv X pins σ (del H2 a) ⟨G, g2, d2, t2, os2⟩ := I1.call' (ch := []) ho U hok3 hb (fun b z => absurd z (by simp))
  refine ⟨a, _, _, ⟨G, g2, d2, t2, os2⟩, _, .ref C, none, rfl, J, fun b o z => ?_, ge, hoe, ⟨rfl, rfl⟩, rfl, rfl, del_same, rfl, hb, T, q⟩
  by_cases ba : b = a
  · rw [ba, ge] at z
    cases z
  · exact (gk b ba).symm.trans z
/-- C(e, ..) raised -/
def tThr (C : Addr) (sp : Sp) (dvs : List V) (ta : TA) : L2.St → Hp → XK → Prop := fun σ H Q => ta σ H fun vs H1 => vs.length ≤ 1000 ∧ ∀ a, H1 a = none →
  sp (.ref a :: (vs ++ dvs)) (upd H1 a (exo a C none)) (fun v H2 => v = .non ∧
    ((∃ (d : Addr) (fs : List (Str × V)), H2 a = some (exo a C (some d)) ∧ H2 d = some (exd d fs) ∧ H1 d = none ∧ Q (.ref C) (some d) (upd (del H2 a) d (.xd fs))) ∨ (H2 a = some (exo a C none) ∧ Q (.ref C) none (del H2 a)))) (fun _ _ _ => False)
theorem own_thrown {CX : CXT} {C fI : Addr} {k : Nat} {fd : FuncData} {ps : List Str} {sp : Sp} {ds us : List Value} {dvs vs : List V} {pins : List (Addr × Obj)} {σ : L2.St} {H1 : Hp} {s1 : Shared} {Q : XK} (T : OwC X.K C)
    (iC : PySem.W.findIn X.K (.ref C) "__init__" = some (some (.ref fI))) (tI : PySem.W.typeIn X.K (.ref fI) = some (.type "function")) (F1 : FnOk X.prog X.w X.K X.mg X.base CX k fI fd ps sp) (hr : Room (k + 1) X.A) (hb : Binds X.K fd ps ds) (hd : Vals dvs ds)
    (hx : Passes CX X (fun _ _ _ => False)) (I1 : Inv X pins σ H1 s1) (r1 : Vals vs us) (hz : vs.length ≤ 1000)
    (q1 : ∀ a, H1 a = none → sp (.ref a :: (vs ++ dvs)) (upd H1 a (exo a C none)) (fun v H2 => v = .non ∧
      ((∃ (d : Addr) (fs : List (Str × V)), H2 a = some (exo a C (some d)) ∧ H2 d = some (exd d fs) ∧ H1 d = none ∧ Q (.ref C) (some d) (upd (del H2 a) d (.xd fs))) ∨ (H2 a = some (exo a C none) ∧ Q (.ref C) none (del H2 a)))) (fun _ _ _ => False)) :
    wpAny (model X.prog X.w) X.A (call (.ref C) us) (MkP X pins σ Q) X.xe s1 := by
  obtain ⟨nm, q, N, bs, bm, sn, sub, ab, col, dd, k0, k1, k2, k3, k5, B, nw, it, tl, lk, pt, TB⟩ := T.cls
  obtain ⟨hp, g, dr, tk, os⟩ := s1
  have up : hp.objs.size ≤ hp.objs.size + 1 := Nat.le_succ _
  have hn : H1 (hp.objs.size + 1) = none := I1.hok.fresh up
  have hq := q1 (hp.objs.size + 1) hn
  have kk : ∀ b o, hp.get? b = some o → ((hp.push (PySem.W.kdv_tup us)).push (PySem.HandSPX.excO C hp.objs.size)).get? b = some o := fun b o z =>
    Heap.get?_push_of_some _ (Heap.get?_push_of_some _ z)
  have got : ((hp.push (PySem.W.kdv_tup us)).push (PySem.HandSPX.excO C hp.objs.size)).get? (hp.objs.size + 1) = some (PySem.HandSPX.excO C hp.objs.size) := by heap_get
  have I2 := I1.laid (t' := tk) (a := hp.objs.size + 1) (o := exo (hp.objs.size + 1) C none) kk up (exo_ok got)
  have r2 : Vals (V.ref (hp.objs.size + 1) :: (vs ++ dvs)) (Value.ref (hp.objs.size + 1) :: (us ++ ds)) := .cons rfl (r1.append hd)
  have hl : (Value.ref (hp.objs.size + 1) :: us ++ ds).length = ps.length := by
    have z := r2.length
    rw [F1.len _ _ _ _ hq] at z
    exact z.symm
  have few : us.length ≤ sizeLine := by
    rw [← Paired.length r1, sizeLine_eq]
    omega
  refine wpAny_call (PySem.HandSPX.call_own TB.ex (fun n => pt.has n) (I1.kIn _ _ lk) (PySem.W.looks_findIn I1.kIn iC) (fun me => PySem.W.bind_fn I1.kIn me tI) few (codeAny_mono
    (F1.run _ X.stack _ _ ⟨Value.ref (hp.objs.size + 1) :: us, []⟩ (Value.ref (hp.objs.size + 1) :: (us ++ ds)) _ _ (fun _ _ _ => False) (hr.make C us []) (I2.env0.make C us []) (hb _ (Value.ref (hp.objs.size + 1) :: us) I2.kIn hl) r2 hq) fun r s' z => ?_))
  cases r with
  | error er => exact hx pins σ _ _ er s' I2 z
  | ok fl =>
    cases fl with
    | ret u =>
      obtain ⟨v, H2, os2, bare2, un2, hok2, rv, ev, z2⟩ := z
      subst ev
      obtain ⟨h2, g2, d2, t2, os'⟩ := s'
      rcases z2 with ⟨dq, fs, ea, ed, hd1, q2⟩ | ⟨ea, q2⟩
      · exact ⟨rv, mk_end (raises_own T.exC T.tyC) I1 up kk un2 hok2 os2 bare2 ea ed hd1 q2⟩
      · exact ⟨rv, bare_gone (raises_own T.exC T.tyC) I1 up kk un2 hok2 os2 bare2 ea q2⟩
    | next => exact False.elim z
    | brk => exact False.elim z
    | cont => exact False.elim z
/-- raise C(e, ..) -/
theorem pmk_exo {CX : CXT} {x : Str} {C fI : Addr} {k : Nat} {fd : FuncData} {ps : List Str} {sp : Sp} {ds : List Value} {dvs : List V} (T : OwC X.K C) (iC : PySem.W.findIn X.K (.ref C) "__init__" = some (some (.ref fI)))
    (tI : PySem.W.typeIn X.K (.ref fI) = some (.type "function")) (F1 : FnOk X.prog X.w X.K X.mg X.base CX k fI fd ps sp) (hr : Room (k + 1) X.A) (hb : Binds X.K fd ps ds) (hd : Vals dvs ds) (hx : Passes CX X (fun _ _ _ => False)) (hg : Gl X x)
    (hm : X.mg x = some (.ref C)) (ha : PA X (e :: es) ta) (hdb : (x == ("__debug__" : Str)) = false := by decide) (he : starEach (e :: es) X.env = (false, eval e X.env) :: starEach es X.env := by rfl) (hpl : (backTo pos (starEach es X.env)).any (·.1) = false := by rfl) :
    PMk X (.Call (.Name x p) (e :: es) [] pos) (tThr C sp dvs ta) := fun pins s σ H Q I h =>
  wpAny_Call_Name_kw (ld_glob I hg hm (PySem.W.callWith_K (h₀ := X.base) I.ok.mod.kin T.kC (thn (ha.run pos pins s σ H _ I h) fun us s1 ⟨vs, H1, I1, r1, hz, q1⟩ => ⟨I1.kIn, own_thrown T iC tI F1 hr hb hd hx I1 r1 hz q1⟩) he hpl) hdb)
/-- raise C() -/
theorem pmk_exo0 {CX : CXT} {x : Str} {C fI : Addr} {k : Nat} {fd : FuncData} {ps : List Str} {sp : Sp} {ds : List Value} {dvs : List V} (T : OwC X.K C) (iC : PySem.W.findIn X.K (.ref C) "__init__" = some (some (.ref fI)))
    (tI : PySem.W.typeIn X.K (.ref fI) = some (.type "function")) (F1 : FnOk X.prog X.w X.K X.mg X.base CX k fI fd ps sp) (hr : Room (k + 1) X.A) (hb : Binds X.K fd ps ds) (hd : Vals dvs ds) (hx : Passes CX X (fun _ _ _ => False)) (hg : Gl X x)
    (hm : X.mg x = some (.ref C)) (hdb : (x == ("__debug__" : Str)) = false := by decide) : PMk X (.Call (.Name x p) [] [] pos) (tThr C sp dvs tNil) := fun pins s σ H Q I h =>
  wpAny_Call_Name_kw (ld_glob I hg hm (PySem.W.callWith_K0 I.kIn T.kC (own_thrown (us := []) (vs := []) T iC tI F1 hr hb hd hx I .nil h.1 h.2)) hdb)
end
/-! ### such a value: its fields, and of which classes it is -/
/-- e.f -/
def tFld (K : PySem.W.Frag) (f : Str) (te : TE) : TE := fun σ H Q => te σ H fun x H1 => ∃ (a C d : Addr) (fs : List (Str × V)) (v : V), x = .ref a ∧ H1 a = some (exo a C (some d)) ∧ H1 d = some (exd d fs) ∧ XfC K C ∧ PySem.W.findIn K (.ref C) f = some none ∧ fs.lookup f = some v ∧ Q v H1
theorem inst_at {X : Cx} {pins : List (Addr × Obj)} {σ : L2.St} {H : Hp} {s : Shared} {a C d : Addr} (I : Inv X pins σ H s) (ea : H a = some (exo a C (some d))) {fs : List (Str × V)} (ed : H d = some (exd d fs)) :
    ∃ (ox od : Obj), PySem.W.InstAt s.heap a ox C (some od) ∧ ∀ n, ∃ o, PySem.W.lookIn n od = some o ∧ RelO (fs.lookup n) o := by
  obtain ⟨t1, ho⟩ := exo_at I.hok ea
  obtain ⟨mA, hns, rel⟩ := exd_at I.hok ed
  obtain ⟨od, hd, hl⟩ := lookIn_ns hns
  exact ⟨_, od, ⟨ho, rfl, rfl, hd⟩, fun n => ⟨_, hl n, rel n⟩⟩
theorem pe_fld {X : Cx} {e : Expr} {te : TE} {pos : Pos} {f : Str} (he : PE X e te) (hb : attributeBase e f X.env (eval e X.env) = eval e X.env := by rfl) : PE X (.Attribute e f pos) (tFld X.K f te) := by
  refine ⟨fun pins s σ H Q I h => ?_⟩
  refine attr_of hb (thn (he.run pins s σ H _ I h) fun u s1 ⟨x, H1, I1, rx, a, C, d, fs, v, ex, ea, ed, T, on, lf, q⟩ => ?_)
  subst ex
  obtain rfl : u = Value.ref a := rx
  obtain ⟨ox, od, J, rel⟩ := inst_at I1 ea ed
  obtain ⟨o1, l1, r1⟩ := rel f
  obtain ⟨y, hy, ry⟩ := RelO.some_of (v := v) (o := o1) (by rw [← lf]; exact r1)
  subst hy
  exact HandSPX.exc_get I1.kIn J T.ga T.gg T.exC (PySem.W.findObj_own T.hdC on rfl l1) (handed_of ry) ⟨v, H1, I1.tok _, ry, q⟩
end Gn
set_option Elab.async false
set_option linter.all false
set_option maxRecDepth 100000
set_option maxHeartbeats 4000000
/-! isinstance of such a value, with a dict or none -/
namespace PySem.W
open PySem PySem.Spec PySem.Calls PyProof.Rows
section
variable {P : Program} {w : World} {A : Around} {E : Value → Shared → Prop} {s : Shared} {K : Frag} {x D : Addr} {ox : Obj} {od : Option Obj}
theorem gn_found {C : Addr} {n : Str} {a g : Value} (hc : (clsIn K C).isSome = true) (ha : findIn K (.ref C) n = some (some a)) (hg : specialIn K a "__get__" = some (some g)) (ht : takesIn K a = some true) : findObj K C od n = some (.bind g a) := by
  obtain ⟨cd, hc⟩ := Option.isSome_iff_exists.mp hc
  unfold findObj
  simp [hc, ha, hg, ht]
theorem gn_class {Q : Option Value → Shared → Prop} (C : L2.ExcC K D) (X : K.In s.heap) (I : InstAt s.heap x ox D od) (h : Q (some (.ref D)) { s with toks := s.toks + 1 }) : wpAny (model P w) A (getAttr? (.ref x) "__class__") Q E s := by
  obtain ⟨hga, hgt, hsub, hdct, ha, hn, htk, hm⟩ := C
  have fd : findObj K D od "__class__" = some (.bind (.builtin "getset_descriptor.__get__") (.builtin "object.__class__")) :=
    gn_found (by
      obtain ⟨cd, z, _⟩ := any_some hdct
      rw [z]
      rfl) ha hn htk
  obtain ⟨hp, g, d, t, os⟩ := s
  have T0 := I.type (M := model P w)
  have T1 := looks_findIn (M := model P w) X hga
  have T2 := looks_findIn (M := model P w) X hgt
  have T3 := looks_find (M := model P w) X I fd
  have isB : Looks (model P w) hp (isInstance (.ref x) (.type "BaseException")) true := T0.andThen (looks_subIn X hsub)
  have n0 : (false && onTheHeap (Value.builtin "BaseException.__getattribute__")) = false := rfl
  have n2 : (Value.builtin "BaseException.__getattribute__" == Value.builtin "object.__getattribute__") = false := by decide +kernel
  have n1 : (onTheHeap (Value.ref D) && Value.builtin "BaseException.__getattribute__" == Value.builtin "object.__getattribute__") = false := by
    rw [n2]
    rfl
  unfold getAttr? getAttrBy? getAttrBy
  refine wpAny_bind (wpAny_mkText (wpAny_bind (wpAny_attempt (wpAny_holding (wpAny_bind (T0.at (wpAny_bind (T1.at ?_))))))))
  show wpAny _ _ (if (onTheHeap (Value.ref D) && Value.builtin "BaseException.__getattribute__" == Value.builtin "object.__getattribute__") = true then _ else _) _ _ _
  rw [n1, if_neg Bool.false_ne_true]
  unfold getAttrByItsOwn hookBefore
  refine wpAny_bind ?_
  rw [if_pos (show onTheHeap (Value.ref D) = true from rfl)]
  refine T2.at ?_
  refine wpAny_bind (wpAny_attempt (wpAny_holding ?_))
  unfold callGetattribute
  rw [n0, if_neg Bool.false_ne_true]
  unfold boundAndCalled
  rw [PySem.F.excAttr_ValueError.ga.bind (.ref x)]
  refine wpAny_bind (wpAny_pure ?_)
  show wpAny _ _ (call (.builtin "BaseException.__getattribute__") [.ref x, .str "__class__" t]) _ _ _
  refine wpAny_call (codeAny_call_builtin PySem.F.excAttr_ValueError.ga.plain PySem.F.entry_bexc_ga ?_)
  refine @check_slot (model P w) _ _ ⟨hp, g, d, t + 1, os⟩ "BaseException.__getattribute__" "BaseException" "__getattribute__" (.ref x)
    [.str "__class__" t] [] _ (by decide +kernel) (by decide +kernel) isB (PySem.F.args_bexc_ga (.ref x) (.str "__class__" t)) ?_
  unfold Builtin.«object.__getattribute__»
  refine wpAny_bind (wpAny_of_eq (a := ((Value.ref x : Value), [Value.str "__class__" t])) (by first
    | rfl
    | (simp only [slotArgs]; rfl)) ?_)
  refine wpAny_bind (wpAny_pure (wpAny_bind (T0.at (wpAny_bind (T3.at ?_)))))
  show wpAny _ _ (holding [Value.builtin "object.__class__"] (call (.builtin "getset_descriptor.__get__") [.builtin "object.__class__", .ref x, .ref D]) >>= ret) _ _ _
  refine wpAny_bind (wpAny_holding (wpAny_call (class_get (s := ⟨hp, g, d, t + 1, os⟩) (ox := ox) (od := od) X I hm ?_)))
  refine wpAny_pure ?_
  show wpAny _ _ (handedOut (.ref D)) _ _ _
  rw [handedOut_of (v := .ref D) rfl]
  first
    | exact wpAny_pure (wpAny_pure h)
    | exact wpAny_pure h
    | exact wpAny_pure (wpAny_bind (wpAny_pure (wpAny_pure h)))
theorem gn_kit (C : L2.ExcC K D) : KitX K (.ref x) (.ref D) (fun h => ∃ ox od, InstAt h x ox D od) where
  ty := fun _ _ _ ⟨_, _, I⟩ => I.type
  it := fun _ _ X _ => by
    obtain ⟨cdD, z, _⟩ := any_some C.hd
    unfold clsIn at z
    split at z
    · rename_i c' d' cd' sl' ho
      intro A' Q' E' s' k q
      unfold isType loadHead
      exact wpAny_bind (wpAny_loadPart (k _ _ (X _ _ ho)) (wpAny_pure q))
    · cases z
  ne := fun h tp dd its n sl X htp => by
    obtain ⟨cdD, z, _⟩ := any_some C.hd
    refine Bool.eq_false_iff.mpr fun q => ?_
    have e : D = tp := Value.ref.inj (beq_iff_eq.mp q)
    subst e
    unfold clsIn at z
    split at z
    · rename_i c' d' cd' sl' ho
      have y := (X _ _ ho).symm.trans htp
      cases y
    · cases z
  ca := fun X ⟨_, _, I⟩ k => gn_class C X I k
end
end PySem.W
namespace Gn
open PySem PySem.Spec PyProof.Rows L2
theorem inst_any {X : Cx} {pins : List (Addr × Obj)} {σ : L2.St} {H : Hp} {s : Shared} {a C : Addr} {d : Option Addr} (I : Inv X pins σ H s) (ea : H a = some (exo a C d)) (hd : ∀ y, d = some y → ∃ fs, H y = some (exd y fs)) :
    ∃ ox od, PySem.W.InstAt s.heap a ox C od := by
  cases d with
  | none =>
    obtain ⟨t1, ho⟩ := exo_at I.hok ea
    exact ⟨_, none, ho, rfl, rfl, trivial⟩
  | some y =>
    obtain ⟨fs, ed⟩ := hd y rfl
    obtain ⟨ox, od, J, _⟩ := inst_at I ea ed
    exact ⟨ox, _, J⟩
/-- isinstance(e, c), e an own exception that is kept -/
def rIsO (K : PySem.W.Frag) : List V → Hp → VK → Prop := fun xs H Q => ∃ (a D : Addr) (d : Option Addr) (c : V) (cv : Value) (b : Bool), xs = [.ref a, c] ∧ ExcC K D ∧ H a = some (exo a D d) ∧ (∀ y, d = some y → ∃ fs, H y = some (exd y fs)) ∧
  (∀ u, RelV c u → u = cv) ∧ PySem.W.kitOne K (.ref D) cv = some b ∧ Q (.bl b) H
theorem cr_isO {X : Cx} : CallR X (.builtin "isinstance") (rIsO X.K) := by
  intro pins s σ H xs us Q I r h
  obtain ⟨a, D, d, c, cv, b, rfl, C, ea, hd, hcv, e, q⟩ := h
  cases r with
  | cons rx rr =>
    cases rr with
    | cons rt rr =>
      cases rr
      cases rx
      have ec := hcv _ rt
      subst ec
      exact PySem.W.kia_one (PySem.W.gn_kit C) I.kIn (inst_any I ea hd) e (fun z => nomatch z) fun tk => ⟨.bl b, H, I.kept (t' := tk) fun _ _ z => z, rfl, q⟩
/-- isinstance(e, c), e the exception that the suite holds, with a dict or none -/
def rIsH (K : PySem.W.Frag) (D a : Addr) (d : Option Addr) : List V → Hp → VK → Prop := fun xs H Q => ∃ (c : V) (cv : Value) (b : Bool), xs = [.ref a, c] ∧ (∀ y, d = some y → ∃ fs, H y = some (.xd fs)) ∧ (∀ u, RelV c u → u = cv) ∧ PySem.W.kitOne K (.ref D) cv = some b ∧ Q (.bl b) H
theorem cr_isH {X : Cx} {a D : Addr} {d : Option Addr} {oe : Obj} {pn : List (Addr × Obj)} (C : ExcC X.K D) (hz : Zc (.ref D) d oe) (hf : ∃ vs, oe.data = .fields vs) : CallR (X.suite a ((a, oe) :: pn)) (.builtin "isinstance") (rIsH X.K D a d) := by
  intro pins s σ H xs us Q I r h
  obtain ⟨c, cv, b, rfl, hd, hcv, e, q⟩ := h
  cases r with
  | cons rx rr =>
    cases rr with
    | cons rt rr =>
      cases rr
      cases rx
      have ec := hcv _ rt
      subst ec
      obtain ⟨at0, _⟩ := I.pin (a, oe) (List.mem_append.mpr (.inl List.mem_cons_self))
      obtain ⟨vs, hv⟩ := hf
      have J : ∃ ox od, PySem.W.InstAt s.heap a ox D od := by
        obtain ⟨oc, dd, oda, osl⟩ := oe
        obtain ⟨h1, h2⟩ := hz
        dsimp only at h1 h2 hv
        subst h1 h2 hv
        cases dd with
        | none => exact ⟨_, none, at0, rfl, rfl, trivial⟩
        | some y =>
          obtain ⟨fs, ed⟩ := hd y rfl
          obtain ⟨mA, hns, _⟩ := (show ObjOk X.prog X.w H s.heap y (.xd fs) from I.hok y _ ed)
          obtain ⟨od, ho, _⟩ := lookIn_ns hns
          exact ⟨_, some od, at0, rfl, rfl, ho⟩
      exact PySem.W.kia_one (PySem.W.gn_kit C) I.kIn J e (fun z => nomatch z) fun tk => ⟨.bl b, H, I.kept (t' := tk) fun _ _ z => z, rfl, q⟩
end Gn
set_option Elab.async false
set_option linter.all false
set_option maxRecDepth 100000
set_option maxHeartbeats 4000000
/-! the same made by keywords -/
namespace Gn
open PySem PySem.Spec PyProof.Rows L2
section
variable {M : Model} {A : Around} {E : Value → Shared → Prop} {h : Heap} {g : Array GenState} {d : Drawn} {t : Nat} {os : OsState}
variable {nm q : Str} {C N : Addr} {bs bm tl : List Value} {hd : Bool} {sn : List Str} {sub : List Value} {ab : Bool} {col : Option Bool} {dd : Option Addr} {k0 k1 k2 k3 k5 : Option Value} {B nw it : String} {rest : List Value} {kw : List (Str × Value)}
theorem kw_new_check (T : ExcBaseFacts B nw it tl) (pt : ∀ n : String, bm.contains (.type n) = tl.contains (.type n)) {Q : Unit → Shared → Prop}
    (lk : h.get? C = some (excClassObj nm q C N bs bm hd sn sub ab col dd k0 k1 k2 k3 k5 nw)) (fin : Q () ⟨h, g, d, t, os⟩) : wpAny M A (checkBuiltinCall nw ⟨.ref C :: rest, kw⟩) Q E ⟨h, g, d, t, os⟩ := by
  have inB : (Value.ref C :: bm).contains (.type B) = true := by
    rw [List.contains_cons, pt, T.hasB, Bool.or_true]
  have ns := T.noStar
  simp only [checkBuiltinCall, T.newKind, T.newSplit, T.newRow]
  repeat (first
    | refine wpAny_loadPart_at lk ?_
    | (refine wpAny_isSubtype_exc lk ?_; rw [inB])
    | refine wpAny_staticBase_exc lk ?_
    | refine wpAny_madeBy_exc lk ?_
    | simp only [bne_self_eq_false, Bool.false_eq_true, if_false]
    | wp_step)
  exact fin
end
section
variable {P : Program} {w : World} {A : Around} {E : Value → Shared → Prop} {R : Result → Shared → Prop} {h : Heap} {g : Array GenState} {d : Drawn} {t : Nat} {os : OsState}
variable {nm q : Str} {C N : Addr} {bs bm tl : List Value} {hd : Bool} {sn : List Str} {sub : List Value} {ab : Bool} {col : Option Bool} {dd : Option Addr} {k0 k1 k2 k3 k5 : Option Value} {B nw it : String} {rest : List Value} {kw : List (Str × Value)} {fI : Addr}
theorem kw_new (T : ExcBaseFacts B nw it tl) (pt : ∀ n : String, bm.contains (.type n) = tl.contains (.type n)) (lk : h.get? C = some (excClassObj nm q C N bs bm hd sn sub ab col dd k0 k1 k2 k3 k5 nw))
    (fin : R (.ok (.ret (.ref (h.objs.size + 1)))) ⟨(h.push (PySem.W.kdv_tup rest)).push (PySem.HandSPX.excO C h.objs.size), g, d, t, os⟩) (few : rest.length ≤ sizeLine) : codeAny (model P w) A (.builtin nw ⟨.ref C :: rest, kw⟩) R ⟨h, g, d, t, os⟩ := by
  have y0 := T.ends
  have y1 : (Value.ref C :: bm).contains (.type B) = true := by
    rw [List.contains_cons, pt, T.hasB, Bool.or_true]
  have y2 : (Value.ref C :: bm).contains (.type "AttributeError") = false := by
    rw [List.contains_cons, pt, T.noAttr]
    rfl
  have y3 : (Value.ref C :: bm).contains (.type "NameError") = false := by
    rw [List.contains_cons, pt, T.noName]
    rfl
  refine codeAny_builtinAt T.entry ?_
  unfold Builtin.«BaseException.__new__»
  refine PySem.wpAt_bind ?_
  show PySem.wpAt _ _ _ (stack >>= _) _ _ _
  refine PySem.wpAt_bind (PySem.wpAt_stack fun p below => PySem.wpAt_of_wpAny ?_)
  wp_walk
  refine PySem.wpAt_of_wpAny ?_
  rw [T.owner]
  repeat (first
    | with_reducible refine wpAny_madeHere_exc T.canon lk ?_
    | with_reducible refine wpAny_loadPart_at lk ?_
    | (with_reducible refine wpAny_isSubtype_exc lk ?_; first | rw [y1] | rw [y2] | rw [y3])
    | wp_step)
  show R _ _
  rw [Heap.size_push]
  exact fin
theorem kw_type_call (T : ExcBaseFacts B nw it tl) (pt : ∀ n : String, bm.contains (.type n) = tl.contains (.type n)) {Q : Fin → Shared → Prop} (lk : h.get? C = some (excClassObj nm q C N bs bm hd sn sub ab col dd k0 k1 k2 k3 k5 nw))
    (li : PySem.W.Looks (model P w) h (typeLookup (.ref C) "__init__") (some (.ref fI))) (lb : ∀ me, PySem.W.Looks (model P w) h (bindSpecial (.ref fI) me) (.ref fI, [me])) (few : rest.length ≤ sizeLine)
    (fin : codeAny (model P w) A (.call (.ref fI) ⟨.ref (h.objs.size + 1) :: rest, kw⟩) (fun r s' => match r with | .ok (.ret v) => v = .none ∧ Q (.done (.ret (.ref (h.objs.size + 1)))) s' | .ok _ => False | .error e => E e s')
      ⟨(h.push (PySem.W.kdv_tup rest)).push (PySem.HandSPX.excO C h.objs.size), g, d, t, os⟩) : wpAny (model P w) A (Builtin.«type.__call__» ⟨.ref C :: rest, kw⟩) Q E ⟨h, g, d, t, os⟩ := by
  repeat (first
    | with_reducible refine wpAny_loadPart_at lk ?_
    | with_reducible refine wpAny_madeBy_exc lk ?_
    | wp_step)
  refine codeAny_call_builtin_code (Code.quiet_builtin _ T.quiet) (kw_new_check T pt lk ?_)
  refine kw_new T pt lk ?_ few
  show wpAny _ _ _ _ _ _
  have kp : ∀ b o, h.get? b = some o → ((h.push (PySem.W.kdv_tup rest)).push (PySem.HandSPX.excO C h.objs.size)).get? b = some o := fun b o z =>
    Heap.get?_push_of_some _ (Heap.get?_push_of_some _ z)
  have lk1 := kp _ _ lk
  have at1 : ((h.push (PySem.W.kdv_tup rest)).push (PySem.HandSPX.excO C h.objs.size)).get? (h.objs.size + 1) = some (PySem.HandSPX.excO C h.objs.size) := by heap_get
  have inC : (Value.ref C :: bm).contains (.ref C) = true := by simp
  have i1 := li.keeps kp
  have b1 := (lb (.ref (h.objs.size + 1))).keeps kp
  unfold isInstance
  repeat (first
    | with_reducible refine wpAny_loadPart_at at1 ?_
    | (with_reducible refine wpAny_isSubtype_exc lk1 ?_; rw [inC])
    | wp_step)
  show wpAny _ _ (typeLookup (.ref C) _) _ _ _
  refine i1.at ?_
  refine wpAny_holding (wpAny_bind (b1.at ?_))
  refine wpAny_bind (wpAny_call (codeAny_mono fin fun r s' z => ?_))
  rcases r with e | (v | _ | _ | _)
  · exact z
  all_goals first
    | exact False.elim z
    | skip
  obtain ⟨rfl, z⟩ := z
  first
    | exact wpAny_pure (wpAny_pure z)
    | (wp_walk; exact z)
theorem kw_call (T : ExcBaseFacts B nw it tl) (pt : ∀ n : String, bm.contains (.type n) = tl.contains (.type n)) (lk : h.get? C = some (excClassObj nm q C N bs bm hd sn sub ab col dd k0 k1 k2 k3 k5 nw))
    (li : PySem.W.Looks (model P w) h (typeLookup (.ref C) "__init__") (some (.ref fI))) (lb : ∀ me, PySem.W.Looks (model P w) h (bindSpecial (.ref fI) me) (.ref fI, [me])) (few : rest.length ≤ sizeLine)
    (fin : codeAny (model P w) (A.under (.builtin "type.__call__" ⟨.ref C :: rest, kw⟩)) (.call (.ref fI) ⟨.ref (h.objs.size + 1) :: rest, kw⟩) (PySem.W.InitBack (h.objs.size + 1) R) ⟨(h.push (PySem.W.kdv_tup rest)).push (PySem.HandSPX.excO C h.objs.size), g, d, t, os⟩) :
    codeAny (model P w) A (.call (.ref C) ⟨rest, kw⟩) R ⟨h, g, d, t, os⟩ := by
  have f1 := tc_lookup
  have f2 := tc_bind (.ref C)
  have ty : (⟨h, g, d, t, os⟩ : Shared).TypeIs (.ref C) "type" := ⟨_, lk, rfl⟩
  have isT : PySem.W.Looks (model P w) h (isInstance (.ref C) (.type "type")) true := by
    intro A' Q' E' s' k q
    have lk2 := k _ _ lk
    have f3 := tc_sub
    unfold isInstance
    obtain ⟨h', g', d', t', os'⟩ := s'
    repeat (first
      | assumption
      | with_reducible refine wpAny_loadPart_at lk2 ?_
      | wp_step)
  refine codeAny_of_tree ?_
  show wpAny _ _ (callAny (.ref C) _) _ _ _
  repeat (any_goals (first
    | assumption
    | with_reducible refine wpAny_loadPart_at lk ?_
    | wp_step))
  refine ⟨rfl, ?_⟩
  refine codeAny_call_builtin_at (Code.quiet_builtin _ (by decide +kernel)) entry_typeCall (@PySem.W.check_slot (model P w) _ _ _ "type.__call__" "type" "__call__" (.ref C) rest kw _ tc_kind tc_split isT (PySem.W.tc_args _ _ _) (kw_type_call T pt lk li lb few ?_))
  refine codeAny_mono fin fun r s' z => ?_
  rcases r with e | (v | _ | _ | _) <;> exact z
end
end Gn
set_option Elab.async false
set_option linter.all false
set_option maxRecDepth 100000
set_option maxHeartbeats 4000000
namespace Gn
open PySem PySem.Spec PyProof.Rows L2
/-- C(k = e, ..) kept -/
def tOwnK (C : Addr) (m : Nat) (sp : Sp) (gV : List V → List V → List V) (tk : TA) : TE := fun σ H Q => tk σ H fun zs H1 => zs.length = m ∧ ∀ a, H1 a = none →
  sp (gV [.ref a] zs) (upd H1 a (exo a C none)) (fun v H2 => v = .non ∧ Q (.ref a) H2) (fun _ _ _ => False)
section
variable {X : Cx} {tk : TA} {kws : List Keyword} {p pos : Pos}
theorem own_madeK {CX : CXT} {C fI : Addr} {k : Nat} {fd : FuncData} {ps ks : List Str} {sp : Sp} {ws : List Value} {zs : List V} {g : List Value → List Value → List Value} {gV : List V → List V → List V} {pins : List (Addr × Obj)} {σ : L2.St} {H1 : Hp} {s1 : Shared} {Q : VK} (T : OwC X.K C)
    (iC : PySem.W.findIn X.K (.ref C) "__init__" = some (some (.ref fI))) (tI : PySem.W.typeIn X.K (.ref fI) = some (.type "function")) (F1 : FnOk X.prog X.w X.K X.mg X.base CX k fI fd ps sp) (hr : Room (k + 1) X.A) (hb : KBn X.K fd ps 1 ks g gV)
    (hx : Passes CX X (fun _ _ _ => False)) (I1 : Inv X pins σ H1 s1) (rz : Vals zs ws) (lz : zs.length = ks.length) (q1 : ∀ a, H1 a = none → sp (gV [.ref a] zs) (upd H1 a (exo a C none)) (fun v H2 => v = .non ∧ Q (.ref a) H2) (fun _ _ _ => False)) :
    wpAny (model X.prog X.w) X.A (call (.ref C) [] (ks.zip ws)) (EP X pins σ Q) X.xe s1 := by
  obtain ⟨nm, q, N, bs, bm, sn, sub, ab, col, dd, k0, k1, k2, k3, k5, B, nw, it, tl, lk, pt, TB⟩ := T.cls
  obtain ⟨hp, gg, dr, tok, os⟩ := s1
  have up : hp.objs.size ≤ hp.objs.size + 1 := Nat.le_succ _
  have hn : H1 (hp.objs.size + 1) = none := I1.hok.fresh up
  have hq := q1 (hp.objs.size + 1) hn
  have kk : ∀ b o, hp.get? b = some o → ((hp.push (PySem.W.kdv_tup [])).push (PySem.HandSPX.excO C hp.objs.size)).get? b = some o := fun b o z =>
    Heap.get?_push_of_some _ (Heap.get?_push_of_some _ z)
  have got : ((hp.push (PySem.W.kdv_tup [])).push (PySem.HandSPX.excO C hp.objs.size)).get? (hp.objs.size + 1) = some (PySem.HandSPX.excO C hp.objs.size) := by heap_get
  have I2 := I1.laid (t' := tok) (a := hp.objs.size + 1) (o := exo (hp.objs.size + 1) C none) kk up (exo_ok got)
  have rs : Vals [V.ref (hp.objs.size + 1)] [Value.ref (hp.objs.size + 1)] := .cons rfl .nil
  have r2 := hb.rel rs rz
  have l2 : ws.length = ks.length := rz.length.symm.trans lz
  refine wpAny_call (kw_call TB.ex (fun n => pt.has n) (I1.kIn _ _ lk) (PySem.W.looks_findIn I1.kIn iC) (fun me => PySem.W.bind_fn I1.kIn me tI) (by rw [sizeLine_eq]; decide) (codeAny_mono
    (F1.run _ X.stack _ _ ⟨[Value.ref (hp.objs.size + 1)], ks.zip ws⟩ (g [Value.ref (hp.objs.size + 1)] ws) _ _ (fun _ _ _ => False) (hr.make C [] (ks.zip ws)) (I2.env0.make C [] (ks.zip ws)) (hb.to _ [Value.ref (hp.objs.size + 1)] ws I2.kIn rfl l2) r2 hq) fun r s' z => ?_))
  cases r with
  | error er => exact hx pins σ _ _ er s' I2 z
  | ok fl =>
    cases fl with
    | ret u =>
      obtain ⟨v, H2, os2, bare2, un2, hok2, rv, ev, q2⟩ := z
      subst ev
      obtain ⟨h2, g2, d2, t2, os'⟩ := s'
      exact ⟨rv, .ref (hp.objs.size + 1), H2, I1.call' (ch := []) os2 ((Un.laid kk up hn).trans un2) hok2 bare2 (fun b y => absurd y (by simp)), rfl, q2⟩
    | next => exact False.elim z
    | brk => exact False.elim z
    | cont => exact False.elim z
theorem pe_ownK {CX : CXT} {x : Str} {C fI : Addr} {k : Nat} {fd : FuncData} {ps ks : List Str} {sp : Sp} {g : List Value → List Value → List Value} {gV : List V → List V → List V} (T : OwC X.K C) (iC : PySem.W.findIn X.K (.ref C) "__init__" = some (some (.ref fI)))
    (tI : PySem.W.typeIn X.K (.ref fI) = some (.type "function")) (F1 : FnOk X.prog X.w X.K X.mg X.base CX k fI fd ps sp) (hr : Room (k + 1) X.A) (hb : KBn X.K fd ps 1 ks g gV) (hx : Passes CX X (fun _ _ _ => False)) (hg : Gl X x)
    (hm : X.mg x = some (.ref C)) (hkw : PK X kws tk) (hall : (backToKw pos (keywordEach kws X.env)).all (·.1.isSome) = true := by rfl) (hks : (backToKw pos (keywordEach kws X.env)).filterMap (·.1) = ks := by rfl) (hdb : (x == ("__debug__" : Str)) = false := by decide)
    (hpl : ((backTo pos (starEach [] X.env)).any (·.1) || (backToKw pos (keywordEach kws X.env)).any (·.1.isNone)) = false := by rfl) :
    PE X (.Call (.Name x p) [] kws pos) (tOwnK C ks.length sp gV tk) := ⟨fun pins s σ H Q I h =>
  wpAny_Call_Name_kw (ld_glob I hg hm (PySem.W.callWith_KW0 (h₀ := X.base) I.ok.mod.kin T.kC hall (thn (hkw.run pos pins s σ H _ I h) fun ws s2 ⟨zs, H2, I2, rz, lz, q2⟩ => ⟨I2.kIn, by
    rw [hks]
    exact own_madeK T iC tI F1 hr hb hx I2 rz lz q2⟩) hpl) hdb)⟩
end
/-! one keyword, and two the other way round, behind the object itself -/
def kq1 {α : Type} : List α → List α → List α
  | [s], [a] => [s, a]
  | _, _ => []
def kq2s {α : Type} : List α → List α → List α
  | [s], [a, b] => [s, b, a]
  | _, _ => []
section
variable {K : PySem.W.Frag} {fd : FuncData}
theorem kn1 {p0 p : Str} (h : ∀ s a : Value, bindArgs fd ⟨[s], [(p, a)]⟩ = pure [(p0, s), (p, a)]) : KBn K fd [p0, p] 1 [p] kq1 kq1 :=
  ⟨fun s us ws _ l1 l2 => match us, ws, l1, l2 with
    | [x], [a], _, _ => .of_eq (h x a), fun {vs us zs ws} r rz => by
    cases r with
    | nil => exact .nil
    | cons a b => cases b with
      | nil => cases rz with
        | nil => exact .nil
        | cons c d => cases d with
          | nil => exact .cons a (.cons c .nil)
          | cons _ _ => exact .nil
      | cons _ _ => exact .nil⟩
theorem kn2s {p0 p q : Str} (h : ∀ s a b : Value, bindArgs fd ⟨[s], [(q, b), (p, a)]⟩ = pure [(p0, s), (p, a), (q, b)]) : KBn K fd [p0, p, q] 1 [q, p] kq2s kq2s :=
  ⟨fun s us ws _ l1 l2 => match us, ws, l1, l2 with
    | [x], [b, a], _, _ => .of_eq (h x a b), fun {vs us zs ws} r rz => by
    cases r with
    | nil => exact .nil
    | cons a b => cases b with
      | nil => cases rz with
        | nil => exact .nil
        | cons c d => cases d with
          | nil => exact .nil
          | cons e f => cases f with
            | nil => exact .cons a (.cons e (.cons c .nil))
            | cons _ _ => exact .nil
      | cons _ _ => exact .nil⟩
end
end Gn
set_option Elab.async false
set_option linter.all false
set_option maxRecDepth 100000
set_option maxHeartbeats 4000000
/-! own exceptions whose __init__ keeps what is passed -/
namespace Gn
open PySem PySem.Spec PyProof.Rows L2
/-- at a: an exception of the class at C that has these fields -/
def Kept (H : Hp) (a C : Addr) (fs : List (Str × V)) : Prop := (fs = [] ∧ H a = some (exo a C none)) ∨ ∃ d, H a = some (exo a C (some d)) ∧ H d = some (exd d fs)
theorem Kept.same {H H' : Hp} {a C : Addr} {fs : List (Str × V)} (h : Kept H a C fs) (e : Same H H') : Kept H' a C fs := by
  rcases h with ⟨z, h⟩ | ⟨d, h1, h2⟩
  · exact .inl ⟨z, e _ _ h⟩
  · exact .inr ⟨d, e _ _ h1, e _ _ h2⟩
/-- the same, its dict new -/
def NewE (H H' : Hp) (a C : Addr) (fs : List (Str × V)) : Prop := (fs = [] ∧ H' a = some (exo a C none)) ∨ ∃ d, H d = none ∧ H' a = some (exo a C (some d)) ∧ H' d = some (exd d fs)
theorem NewE.kept {H H' : Hp} {a C : Addr} {fs : List (Str × V)} (h : NewE H H' a C fs) : Kept H' a C fs := by
  rcases h with h | ⟨d, _, h⟩
  · exact .inl h
  · exact .inr ⟨d, h⟩
/-- all but a is as it was -/
def But (H H' : Hp) (a : Addr) : Prop := ∀ b o, b ≠ a → H b = some o → H' b = some o
def spIni (K : PySem.W.Frag) (fl : List Str) : Sp := fun vs H Q _ => ∃ (a C : Addr) (xs : List V), vs = .ref a :: xs ∧ xs.length = fl.length ∧ OwC K C ∧ (∀ f ∈ fl, PySem.W.findIn K (.ref C) f = some none) ∧ H a = some (exo a C none) ∧
  ∀ H', But H H' a → NewE H H' a C (fl.zip xs).reverse → Q .non H'
section
variable {P : Program} {w : World} {K : PySem.W.Frag} {mg : Str → Option Value} {base : Heap} {f : Addr} {fd : FuncData} {qual : Str} {st : Stmt}
theorem but_put {H : Hp} {a d : Addr} {o o' : HO} (hd : H d = none) : But H (upd (upd H d o) a o') a := fun b u hb z => by
  rw [upd_ne hb, upd_ne (ne_of_none z hd)]
  exact z
theorem ini0 {pos : Pos} (F : Fun K "__init__" qual st f fd) (S : FnScope ["self"] ["self"] (defScope st)) (hb : defBody st = [.Pass pos]) : FnOk P w K mg base CX0 1 f fd ["self"] (spIni K []) := by
  refine F.ok S (fun vs H Q E h => ?_) (fun cdv A outer s H vs Q E hr h => ?_)
  · obtain ⟨a, C, xs, rfl, l, _⟩ := h
    cases xs with
    | nil => rfl
    | cons _ _ => cases l
  · obtain ⟨a, C, xs, rfl, l, _, _, ea, q⟩ := h
    rw [hb]
    match xs, l with
    | [], _ => exact ⟨_, pss_one ps_pass, q H (fun b o _ z => z) (.inl ⟨rfl, ea⟩)⟩
theorem ini1 {n : Str} {p1 p2 p3 pos : Pos} (F : Fun K "__init__" qual st f fd) (S : FnScope ["self", n] ["self", n] (defScope st)) (hb : defBody st = [.Assign [.Attribute (.Name "self" p1) n p2] (.Name n p3) pos])
    (v0 : Vis (defScope st) "self") (v1 : Vis (defScope st) n) (d1 : (n == ("__debug__" : Str)) = false) (c1 : (n == ("__classdict__" : Str)) = false) :
    FnOk P w K mg base CX0 1 f fd ["self", n] (spIni K [n]) := by
  refine F.ok S (fun vs H Q E h => ?_) (fun cdv A outer s H vs Q E hr h => ?_)
  · obtain ⟨a, C, xs, rfl, l, _⟩ := h
    rw [List.length_cons, l]
    rfl
  · obtain ⟨a, C, xs, rfl, l, T, no, ea, q⟩ := h
    rw [hb]
    match xs, l with
    | [x], _ =>
      refine ⟨_, pss_one (ps_put (pv 0 rfl v0) (pv 1 rfl v1 d1 c1)), ?_⟩
      exact ⟨_, rfl, _, rfl, a, C, rfl, T, no n (List.mem_singleton.mpr rfl), .inl ⟨ea, fun d hd ne => q _ (but_put hd) (.inr ⟨d, hd, upd_same, by rw [upd_ne ne, upd_same]; rfl⟩)⟩⟩
theorem ini2 {n m : Str} {p1 p2 p3 p4 p5 p6 pos pos' : Pos} (F : Fun K "__init__" qual st f fd) (S : FnScope ["self", n, m] ["self", n, m] (defScope st))
    (hb : defBody st = [.Assign [.Attribute (.Name "self" p1) n p2] (.Name n p3) pos, .Assign [.Attribute (.Name "self" p4) m p5] (.Name m p6) pos'])
    (v0 : Vis (defScope st) "self") (v1 : Vis (defScope st) n) (d1 : (n == ("__debug__" : Str)) = false) (c1 : (n == ("__classdict__" : Str)) = false) (v2 : Vis (defScope st) m) (d2 : (m == ("__debug__" : Str)) = false) (c2 : (m == ("__classdict__" : Str)) = false) :
    FnOk P w K mg base CX0 1 f fd ["self", n, m] (spIni K [n, m]) := by
  refine F.ok S (fun vs H Q E h => ?_) (fun cdv A outer s H vs Q E hr h => ?_)
  · obtain ⟨a, C, xs, rfl, l, _⟩ := h
    rw [List.length_cons, l]
    rfl
  · obtain ⟨a, C, xs, rfl, l, T, no, ea, q⟩ := h
    rw [hb]
    match xs, l with
    | [x, y], _ =>
      refine ⟨_, pss_cons (ps_put (pv 0 rfl v0) (pv 1 rfl v1 d1 c1)) (pss_one (ps_put (pv 0 rfl v0) (pv 2 rfl v2 d2 c2))), ?_⟩
      refine ⟨_, rfl, _, rfl, a, C, rfl, T, no n (by simp), .inl ⟨ea, fun d hd ne => ?_⟩⟩
      refine ⟨_, rfl, _, rfl, a, C, rfl, T, no m (by simp), .inr ⟨d, _, upd_same, by rw [upd_ne ne, upd_same], by show 1 ≤ 900; decide, ?_⟩⟩
      refine q _ (fun b o hb z => ?_) (.inr ⟨d, hd, by rw [upd_ne (Ne.symm ne), upd_same], upd_same⟩)
      rw [upd_ne (ne_of_none z hd), upd_ne hb, upd_ne (ne_of_none z hd)]
      exact z
end
/-- such a class of the text: its name, the fields in the order of its parameters -/
structure OwE (P : Program) (w : World) (K : PySem.W.Frag) (mg : Str → Option Value) (base : Heap) (nm : Str) (fl : List Str) (C f : Addr) (fd : FuncData) : Prop where
  own : OwC K C
  ini : PySem.W.findIn K (.ref C) "__init__" = some (some (.ref f))
  ty : PySem.W.typeIn K (.ref f) = some (.type "function")
  xf : XfC K C
  ex : ExcC K C
  no : ∀ n ∈ fl, PySem.W.findIn K (.ref C) n = some none
  g : mg nm = some (.ref C)
  run : FnOk P w K mg base CX0 1 f fd ("self" :: fl) (spIni K fl)
  b : Binds K fd ("self" :: fl) []
def tMk (C : Addr) (fl : List Str) (ta : TA) : TE := fun σ H Q => ta σ H fun vs H1 => vs.length = fl.length ∧ ∀ a H2, Same H1 H2 → Kept H2 a C (fl.zip vs).reverse → Q (.ref a) H2
def tMkK (C : Addr) (fl : List Str) (gV : List V → List V) (n : Nat) (ta : TA) : TE := fun σ H Q => ta σ H fun zs H1 => zs.length = n ∧ ∀ a H2, Same H1 H2 → Kept H2 a C (fl.zip (gV zs)).reverse → Q (.ref a) H2
theorem PE.imp {X : Cx} {e : Expr} {t t' : TE} (h : PE X e t) (k : ∀ σ H Q, t' σ H Q → t σ H Q) : PE X e t' := ⟨fun pins s σ H Q I z => h.run pins s σ H Q I (k σ H Q z)⟩
theorem same_but {H H2 : Hp} {a : Addr} {o : HO} (ha : H a = none) (h : But (upd H a o) H2 a) : Same H H2 := fun b u z => h b u (ne_of_none z ha) (by rw [upd_ne (ne_of_none z ha)]; exact z)
section
variable {X : Cx} {nm : Str} {fl : List Str} {C f : Addr} {fd : FuncData} {e : Expr} {es : List Expr} {ta : TA} {p pos : Pos}
theorem pe_mk (T : OwE X.prog X.w X.K X.mg X.base nm fl C f fd) (hl : fl.length ≤ 1000) (hr : Room 2 X.A) (hg : Gl X nm) (hx : Passes CX0 X (fun _ _ _ => False)) (ha : PA X (e :: es) ta) (hdb : (nm == ("__debug__" : Str)) = false := by decide)
    (he : starEach (e :: es) X.env = (false, eval e X.env) :: starEach es X.env := by rfl) (hpl : (backTo pos (starEach es X.env)).any (·.1) = false := by rfl) : PE X (.Call (.Name nm p) (e :: es) [] pos) (tMk C fl ta) :=
  ⟨fun pins s σ H Q I h => wpAny_Call_Name_kw (ld_glob I hg T.g (PySem.W.callWith_K (h₀ := X.base) I.ok.mod.kin T.own.kC (thn (ha.run pos pins s σ H _ I h) fun us s1 ⟨vs, H1, I1, r1, l, k⟩ => ⟨I1.kIn,
    own_made (dvs := []) T.own T.ini T.ty T.run hr T.b .nil hx I1 r1 (fun a n => ⟨a, C, vs, by rw [List.append_nil], l, T.own, T.no, upd_same, fun H2 bt kt => ⟨rfl, k a H2 (same_but n bt) kt.kept⟩⟩) (by omega)⟩) he hpl) hdb)⟩
theorem pe_mk0 (T : OwE X.prog X.w X.K X.mg X.base nm [] C f fd) (hr : Room 2 X.A) (hg : Gl X nm) (hx : Passes CX0 X (fun _ _ _ => False)) (hdb : (nm == ("__debug__" : Str)) = false := by decide) :
    PE X (.Call (.Name nm p) [] [] pos) (tMk C [] tNil) :=
  ⟨fun pins s σ H Q I h => wpAny_Call_Name_kw (ld_glob I hg T.g (PySem.W.callWith_K0 I.kIn T.own.kC
    (own_made (us := []) (vs := []) (dvs := []) T.own T.ini T.ty T.run hr T.b .nil hx I .nil (fun a n => ⟨a, C, [], rfl, rfl, T.own, T.no, upd_same, fun H2 bt kt => ⟨rfl, h.2 a H2 (same_but n bt) kt.kept⟩⟩) (by decide))) hdb)⟩
theorem pe_mkK {kws : List Keyword} {tk : TA} {ks : List Str} {g : List Value → List Value → List Value} {gV : List V → List V → List V} (T : OwE X.prog X.w X.K X.mg X.base nm fl C f fd) (hb : KBn X.K fd ("self" :: fl) 1 ks g gV) (hr : Room 2 X.A) (hg : Gl X nm)
    (hgV : ∀ (s : V) (zs : List V), zs.length = ks.length → ∃ ys, gV [s] zs = s :: ys ∧ ys.length = fl.length ∧ ∀ s', gV [s'] zs = s' :: ys) (hx : Passes CX0 X (fun _ _ _ => False)) (hkw : PK X kws tk)
    (hall : (backToKw pos (keywordEach kws X.env)).all (·.1.isSome) = true := by rfl) (hks : (backToKw pos (keywordEach kws X.env)).filterMap (·.1) = ks := by rfl) (hdb : (nm == ("__debug__" : Str)) = false := by decide)
    (hpl : ((backTo pos (starEach [] X.env)).any (·.1) || (backToKw pos (keywordEach kws X.env)).any (·.1.isNone)) = false := by rfl) :
    PE X (.Call (.Name nm p) [] kws pos) (tMkK C fl (fun zs => (gV [.non] zs).tail) ks.length tk) :=
  ⟨fun pins s σ H Q I h => wpAny_Call_Name_kw (ld_glob I hg T.g (PySem.W.callWith_KW0 (h₀ := X.base) I.ok.mod.kin T.own.kC hall (thn (hkw.run pos pins s σ H _ I h) fun ws s2 ⟨zs, H2, I2, rz, lz, q2⟩ => ⟨I2.kIn, by
    rw [hks]
    obtain ⟨ys, e0, l0, e1⟩ := hgV .non zs lz
    exact own_madeK T.own T.ini T.ty T.run hr hb hx I2 rz lz fun a n => ⟨a, C, ys, e1 _, l0, T.own, T.no, upd_same, fun H3 bt kt => ⟨rfl, q2 a H3 (same_but n bt) (by show Kept H3 a C (fl.zip (gV [V.non] zs).tail).reverse; rw [e0]; exact kt.kept)⟩⟩⟩) hpl) hdb)⟩
/-- the rest of what is asked of such a value -/
theorem Kept.at {H : Hp} {a C : Addr} {fs : List (Str × V)} (h : Kept H a C fs) : ∃ d, H a = some (exo a C d) ∧ ∀ y, d = some y → ∃ fs, H y = some (exd y fs) := by
  rcases h with ⟨_, h⟩ | ⟨d, h1, h2⟩
  · exact ⟨none, h, fun y z => nomatch z⟩
  · exact ⟨some d, h1, fun y z => by cases z; exact ⟨_, h2⟩⟩
end
/-- such a one raised: what a handler gets -/
theorem thr_of {K : PySem.W.Frag} {C : Addr} {n : Str} {i : Nat} {x : V} {σ : L2.St} {H : Hp} {Q : XK} (T : OwC K C) (no : PySem.W.findIn K (.ref C) n = some none) (hs : σ[i]? = some (some x))
    (k : ∀ d H', Same H H' → H d = none → H' d = some (.xd [(n, x)]) → Q (.ref C) (some d) H') : tThr C (spIni K [n]) [] (tCons (tVar i) tNil) σ H Q := by
  refine ⟨x, hs, Nat.le_of_ble_eq_true rfl, fun a ha => ⟨a, C, [x], rfl, rfl, T, fun f hf => by rw [List.mem_singleton.mp hf]; exact no, upd_same, fun H2 bt kt => ⟨rfl, .inl ?_⟩⟩⟩
  rcases kt with ⟨z, _⟩ | ⟨d, hd, h1, h2⟩
  · cases z
  · have da : d ≠ a := fun z => by
      rw [z, upd_same] at hd
      cases hd
    have hd1 : H d = none := by
      rw [upd_ne da] at hd
      exact hd
    refine ⟨d, _, h1, h2, hd1, k d _ (fun b o z => ?_) hd1 upd_same⟩
    rw [upd_ne (ne_of_none z hd1), del_ne (ne_of_none z ha)]
    exact bt b o (ne_of_none z ha) (by rw [upd_ne (ne_of_none z ha)]; exact z)
end Gn
set_option Elab.async false
set_option linter.all false
set_option maxRecDepth 100000
set_option maxHeartbeats 4000000
/-! what a term makes, told by what holds of its value whatever is made behind it -/
namespace Gn
open PySem PySem.Spec PyProof.Rows L2
abbrev Fact := Hp → V → Prop
def Lasts (R : Fact) : Prop := ∀ H H' v, Same H H' → R H v → R H' v
def Fm (te : TE) (σ : L2.St) (H : Hp) (R : Fact) : Prop := ∀ H1, Same H H1 → ∀ Q : VK, (∀ v H2, Same H1 H2 → R H2 v → Q v H2) → te σ H1 Q
/-- facts of a row of values -/
def AllF : List Fact → Hp → List V → Prop
  | [], _, vs => vs = []
  | R :: Rs, H, v :: vs => R H v ∧ AllF Rs H vs
  | _ :: _, _, [] => False
def LastsAll (Rs : List Fact) : Prop := ∀ R ∈ Rs, Lasts R
def FmA (ta : TA) (σ : L2.St) (H : Hp) (Rs : List Fact) : Prop := ∀ H1, Same H H1 → ∀ Q : List V → Hp → Prop, (∀ vs H2, Same H1 H2 → AllF Rs H2 vs → Q vs H2) → ta σ H1 Q
theorem AllF.lasts : ∀ {Rs : List Fact} {H H' : Hp} {vs : List V}, LastsAll Rs → Same H H' → AllF Rs H vs → AllF Rs H' vs
  | [], _, _, _, _, _, h => h
  | R :: Rs, H, H', v :: vs, m, e, ⟨h, hs⟩ => ⟨m R (List.mem_cons_self ..) H H' v e h, AllF.lasts (fun q z => m q (List.mem_cons_of_mem _ z)) e hs⟩
  | _ :: _, _, _, [], _, _, h => h
theorem AllF.len : ∀ {Rs : List Fact} {H : Hp} {vs : List V}, AllF Rs H vs → vs.length = Rs.length
  | [], _, vs, h => by
    rw [show vs = [] from h]
    rfl
  | R :: Rs, H, v :: vs, ⟨_, hs⟩ => by rw [List.length_cons, hs.len, List.length_cons]
  | _ :: _, _, [], h => h.elim
theorem AllF.app : ∀ {Rs Ss : List Fact} {H : Hp} {vs us : List V}, AllF Rs H vs → AllF Ss H us → AllF (Rs ++ Ss) H (vs ++ us)
  | [], _, _, vs, us, h, g => by
    rw [show vs = [] from h]
    exact g
  | R :: Rs, _, _, v :: vs, us, ⟨h, hs⟩, g => ⟨h, hs.app g⟩
  | _ :: _, _, _, [], _, h, _ => h.elim
theorem AllF.at : ∀ {Rs : List Fact} {H : Hp} {vs : List V} {i : Nat}, AllF Rs H vs → ∀ R, Rs[i]? = some R → ∃ v, vs[i]? = some v ∧ R H v
  | [], _, _, i, _, R, e => by cases e
  | R :: Rs, _, v :: vs, 0, ⟨h, _⟩, R', e => by
    cases e
    exact ⟨v, rfl, h⟩
  | R :: Rs, _, v :: vs, i + 1, ⟨_, hs⟩, R', e => hs.at (i := i) R' e
  | _ :: _, _, [], _, h, _, _ => h.elim
theorem lastsAll_nil : LastsAll [] := fun _ z => nomatch z
theorem lastsAll_cons {R : Fact} {Rs : List Fact} (h : Lasts R) (hs : LastsAll Rs) : LastsAll (R :: Rs) := fun q z => by
  rcases List.mem_cons.mp z with z | z
  · rw [z]
    exact h
  · exact hs q z
theorem lastsAll_app {Rs Ss : List Fact} (h : LastsAll Rs) (g : LastsAll Ss) : LastsAll (Rs ++ Ss) := fun q z => (List.mem_append.mp z).elim (h q) (g q)
section
variable {K : PySem.W.Frag} {σ : L2.St} {H : Hp} {te tb : TE} {ta : TA} {R S : Fact} {Rs Ss : List Fact}
/-- it is this value -/
def isV (v : V) : Fact := fun _ u => u = v
theorem lasts_is {v : V} : Lasts (isV v) := fun _ _ _ _ h => h
theorem fm_c {v : V} : Fm (tC v) σ H (isV v) := fun H1 _ Q q => q v H1 (Same.refl _) rfl
theorem fm_var {i : Nat} {v : V} (h : σ[i]? = some (some v)) : Fm (tVar i) σ H (isV v) := fun H1 _ Q q => ⟨v, h, q v H1 (Same.refl _) rfl⟩
theorem fmA_nil : FmA tNil σ H [] := fun H1 _ Q q => q [] H1 (Same.refl _) rfl
theorem fmA_cons (m : Lasts R) (h : Fm te σ H R) (hs : FmA ta σ H Rs) : FmA (tCons te ta) σ H (R :: Rs) := fun H1 e Q q =>
  h H1 e _ fun v H2 e2 r => hs H2 (e.trans e2) _ fun vs H3 e3 rs => q (v :: vs) H3 (e2.trans e3) ⟨m _ _ _ e3 r, rs⟩
/-- a list of these -/
def isL (Rs : List Fact) : Fact := fun H u => ∃ p vs, u = .ref p ∧ H p = some (.lst vs) ∧ AllF Rs H vs
theorem lasts_L (m : LastsAll Rs) : Lasts (isL Rs) := fun H H' v e ⟨p, vs, q, h, hs⟩ => ⟨p, vs, q, e _ _ h, hs.lasts m e⟩
theorem fm_lst (m : LastsAll Rs) (hl : Rs.length ≤ 1000) (hs : FmA ta σ H Rs) : Fm (tLst ta) σ H (isL Rs) := fun H1 e Q q => hs H1 e _ fun vs H2 e2 rs =>
  ⟨by rw [rs.len, sizeLine_eq]; omega, fun p hp => q _ _ (e2.trans (same_put hp)) ⟨p, vs, rfl, upd_same, rs.lasts m (same_put hp)⟩⟩
theorem fm_cat (m : LastsAll Rs) (n : LastsAll Ss) (hl : Rs.length + Ss.length ≤ 1000) (h : Fm te σ H (isL Rs)) (g : Fm tb σ H (isL Ss)) : Fm (tOp rCat te tb) σ H (isL (Rs ++ Ss)) := fun H1 e Q q =>
  h H1 e _ fun u H2 e2 ⟨p, vs, eu, hp, rs⟩ => g H2 (e.trans e2) _ fun y H3 e3 ⟨p', us, ey, hp', ss⟩ => by
    subst eu ey
    have l1 := rs.len
    have l2 := ss.len
    refine ⟨p, p', vs, us, rfl, rfl, e3 _ _ hp, hp', by rw [l1, l2, sizeLine_eq]; omega, fun r hr => ?_⟩
    exact q _ _ ((e2.trans e3).trans (same_put hr)) ⟨r, vs ++ us, rfl, upd_same, ((rs.lasts m e3).app ss).lasts (lastsAll_app m n) (same_put hr)⟩
/-- an exception of the class at C -/
def isE (C : Addr) (fs : List (Str × V)) : Fact := fun H u => ∃ a, u = .ref a ∧ Kept H a C fs
theorem lasts_E {C : Addr} {fs : List (Str × V)} : Lasts (isE C fs) := fun H H' v e ⟨a, q, h⟩ => ⟨a, q, h.same e⟩
theorem same_all {v : List V} {H : Hp} : AllF (v.map isV) H v := by
  induction v with
  | nil => rfl
  | cons x r ih => exact ⟨rfl, ih⟩
theorem allF_is : ∀ {xs vs : List V} {H : Hp}, AllF (xs.map isV) H vs → vs = xs
  | [], _, _, h => h
  | x :: xs, v :: vs, H, ⟨h, hs⟩ => by rw [show v = x from h, allF_is hs]
  | _ :: _, [], _, h => h.elim
theorem fm_mk {C : Addr} {fl : List Str} {xs : List V} (h : FmA ta σ H (xs.map isV)) (hl : xs.length = fl.length) : Fm (tMk C fl ta) σ H (isE C (fl.zip xs).reverse) := fun H1 e Q q =>
  h H1 e _ fun vs H2 e2 rs => by
    have z := allF_is rs
    subst z
    exact ⟨hl, fun a H3 e3 k => q _ _ (e2.trans e3) ⟨a, rfl, k⟩⟩
theorem fm_mkK {C : Addr} {fl : List Str} {xs : List V} {gV : List V → List V} {n : Nat} (h : FmA ta σ H (xs.map isV)) (hl : xs.length = n) : Fm (tMkK C fl gV n ta) σ H (isE C (fl.zip (gV xs)).reverse) := fun H1 e Q q =>
  h H1 e _ fun vs H2 e2 rs => by
    have z := allF_is rs
    subst z
    exact ⟨hl, fun a H3 e3 k => q _ _ (e2.trans e3) ⟨a, rfl, k⟩⟩
end
end Gn
set_option Elab.async false
set_option linter.all false
set_option maxRecDepth 100000
set_option maxHeartbeats 4000000
namespace Gn
open PySem PySem.Spec PyProof.Rows L2
/-- repr(x), x any data -/
def rReprV (K : PySem.W.Frag) : List V → Hp → VK → Prop := fun xs H Q => ∃ v d, xs = [v] ∧ Dp K H v d ∧ d.showable = true ∧ d.depth < 60 ∧ d.shown.length ≤ sizeLine ∧ Q (.str d.shown) H
theorem cr_reprV {X : Cx} (hg : X.A.guards = some []) (hu : X.A.units + 64 < cLine) : CallR X (.builtin "repr") (rReprV X.K) := by
  intro pins s σ H xs us Q I r h
  obtain ⟨v, d, rfl, hd, hs, hdp, hz, q⟩ := h
  cases hd with
  | non =>
    cases r with
    | cons rx rr =>
      cases rr
      cases (show _ = Value.none from rx)
      exact PySem.P.repr_of_none ⟨.str "None", H, I.kept (t' := _) fun _ _ z => z, ⟨_, rfl⟩, q⟩
  | bl b =>
    cases r with
    | cons rx rr =>
      cases rr
      cases (show _ = Value.bool b from rx)
      exact PySem.P.repr_of_bool ⟨.str (if b then "True" else "False"), H, I.kept (t' := _) fun _ _ z => z, ⟨_, rfl⟩, by cases b <;> exact q⟩
  | int i =>
    cases r with
    | cons rx rr =>
      cases rr
      obtain ⟨t, rfl⟩ := (show ∃ t, _ = Value.int i t from rx)
      exact PySem.P.repr_of_int (by simpa [PyData.showable] using hs) ⟨.str (toString i), H, I.kept (t' := _) fun _ _ z => z, ⟨_, rfl⟩, q⟩
  | str x =>
    cases r with
    | cons rx rr =>
      cases rr
      obtain ⟨t, rfl⟩ := (show ∃ t, _ = Value.str x t from rx)
      exact PySem.P.repr_of_str ⟨.str (reprText x), H, I.kept (t' := _) fun _ _ z => z, ⟨_, rfl⟩, q⟩ hz
  | lst h1 h2 => exact cr_repr hg hu _ _ _ _ _ _ _ I r ⟨_, _, rfl, .lst h1 h2, hs, hdp, hz, q⟩
  | tup h1 h2 => exact cr_repr hg hu _ _ _ _ _ _ _ I r ⟨_, _, rfl, .tup h1 h2, hs, hdp, hz, q⟩
end Gn
set_option Elab.async false
set_option linter.all false
set_option maxRecDepth 100000
set_option maxHeartbeats 4000000
/-! k01: the classes, and the two rows of errors -/
namespace My
open PySem PySem.Spec PyProof.Rows L2 Gn
def top (i : Nat) : Stmt := PySem.Challenge.pw_rimorders_k01_limits_and_errors.main.body.getD i (.Pass ⟨0, 0, 0, 0⟩)
/-- the first statement of a class -/
def inn : Stmt → Stmt
  | .ClassDef _ _ _ (s :: _) _ _ _ _ _ _ _ => s
  | s => s
abbrev sEvery : Stmt := top 30
abbrev sNamed : Stmt := top 31
abbrev sHas : Stmt := top 32
abbrev sBases : Stmt := top 33
abbrev sCaught : Stmt := top 34
abbrev sRight : Stmt := top 35
abbrev sLaw : Stmt := top 36
theorem scEvery : FnScope ["_law_thing", "_law_other_thing", "_law_found"] ["_law_thing", "_law_other_thing"] (defScope sEvery) := ⟨rfl, rfl, rfl, by decide +kernel, rfl, by decide +kernel, by decide +kernel⟩
theorem scNamed : FnScope ["_law_thing", "_law_other_thing", "_law_found"] ["_law_thing", "_law_other_thing"] (defScope sNamed) := ⟨rfl, rfl, rfl, by decide +kernel, rfl, by decide +kernel, by decide +kernel⟩
/-- a class of the text with all that is asked of it -/
structure Cl (P : Program) (w : World) (K : PySem.W.Frag) (mg : Str → Option Value) (base : Heap) (nm : Str) (fl : List Str) where
  C : Addr
  f : Addr
  fd : FuncData
  T : OwE P w K mg base nm fl C f fd
structure Cls (P : Program) (w : World) (K : PySem.W.Frag) (mg : Str → Option Value) (base : Heap) where
  c0 : Cl P w K mg base "InvalidText" ["given"]
  c1 : Cl P w K mg base "InvalidNumber" ["given"]
  c2 : Cl P w K mg base "InvalidName" ["given"]
  c3 : Cl P w K mg base "InvalidIndex" ["given"]
  c4 : Cl P w K mg base "InvalidStep" ["given"]
  c5 : Cl P w K mg base "InvalidArc" ["given"]
  c6 : Cl P w K mg base "InvalidSighting" ["given"]
  c7 : Cl P w K mg base "InvalidClaim" ["given"]
  c8 : Cl P w K mg base "InvalidCommand" ["given"]
  c9 : Cl P w K mg base "NotALot" ["given"]
  c10 : Cl P w K mg base "InvalidPieces" ["index"]
  c11 : Cl P w K mg base "InvalidOrder" ["index"]
  c12 : Cl P w K mg base "InvalidSightings" ["index"]
  c13 : Cl P w K mg base "UnknownName" ["given"]
  c14 : Cl P w K mg base "InUse" ["index"]
  c15 : Cl P w K mg base "NothingToUndo" []
  c16 : Cl P w K mg base "NoStep" []
  c17 : Cl P w K mg base "TooMany" ["most"]
  c18 : Cl P w K mg base "Broken" ["index", "shown"]
  k0 : KBn K c0.fd ["self", "given"] 1 ["given"] kq1 kq1
  k1 : KBn K c1.fd ["self", "given"] 1 ["given"] kq1 kq1
  k2 : KBn K c2.fd ["self", "given"] 1 ["given"] kq1 kq1
  k3 : KBn K c3.fd ["self", "given"] 1 ["given"] kq1 kq1
  k4 : KBn K c4.fd ["self", "given"] 1 ["given"] kq1 kq1
  k5 : KBn K c5.fd ["self", "given"] 1 ["given"] kq1 kq1
  k6 : KBn K c6.fd ["self", "given"] 1 ["given"] kq1 kq1
  k7 : KBn K c7.fd ["self", "given"] 1 ["given"] kq1 kq1
  k8 : KBn K c8.fd ["self", "given"] 1 ["given"] kq1 kq1
  k9 : KBn K c9.fd ["self", "given"] 1 ["given"] kq1 kq1
  k10 : KBn K c10.fd ["self", "index"] 1 ["index"] kq1 kq1
  k11 : KBn K c11.fd ["self", "index"] 1 ["index"] kq1 kq1
  k12 : KBn K c12.fd ["self", "index"] 1 ["index"] kq1 kq1
  k13 : KBn K c13.fd ["self", "given"] 1 ["given"] kq1 kq1
  k14 : KBn K c14.fd ["self", "index"] 1 ["index"] kq1 kq1
  k17 : KBn K c17.fd ["self", "most"] 1 ["most"] kq1 kq1
  k18 : KBn K c18.fd ["self", "index", "shown"] 1 ["shown", "index"] kq2s kq2s
variable {P : Program} {w : World} {K : PySem.W.Frag} {mg : Str → Option Value} {base : Heap}
def fsOf (x y : V) : Nat → List (Str × V)
  | 0 => [("given", x)]
  | 1 => [("given", x)]
  | 2 => [("given", x)]
  | 3 => [("given", x)]
  | 4 => [("given", x)]
  | 5 => [("given", x)]
  | 6 => [("given", x)]
  | 7 => [("given", x)]
  | 8 => [("given", x)]
  | 9 => [("given", x)]
  | 10 => [("index", x)]
  | 11 => [("index", x)]
  | 12 => [("index", x)]
  | 13 => [("given", x)]
  | 14 => [("index", x)]
  | 15 => []
  | 16 => []
  | 17 => [("most", x)]
  | _ => [("shown", y), ("index", x)]
def wordOf : Nat → Str
  | 0 => "given"
  | 1 => "given"
  | 2 => "given"
  | 3 => "given"
  | 4 => "given"
  | 5 => "given"
  | 6 => "given"
  | 7 => "given"
  | 8 => "given"
  | 9 => "given"
  | 10 => "index"
  | 11 => "index"
  | 12 => "index"
  | 13 => "given"
  | 14 => "index"
  | 15 => ""
  | 16 => ""
  | 17 => "most"
  | _ => "index"
def Cls.at (M : Cls P w K mg base) : Nat → Addr
  | 0 => M.c0.C
  | 1 => M.c1.C
  | 2 => M.c2.C
  | 3 => M.c3.C
  | 4 => M.c4.C
  | 5 => M.c5.C
  | 6 => M.c6.C
  | 7 => M.c7.C
  | 8 => M.c8.C
  | 9 => M.c9.C
  | 10 => M.c10.C
  | 11 => M.c11.C
  | 12 => M.c12.C
  | 13 => M.c13.C
  | 14 => M.c14.C
  | 15 => M.c15.C
  | 16 => M.c16.C
  | 17 => M.c17.C
  | _ => M.c18.C
def isP (C : Addr) (fs : List (Str × V)) (d : Str) : Fact := isL [isE C fs, isV (.str d)]
def everyF (M : Cls P w K mg base) (x y : V) : List Fact := (List.range 19).map fun i => isP (M.at i) (fsOf x y i) (wordOf i)
def namedF (M : Cls P w K mg base) (x y : V) : List Fact := (List.range 19).map fun i => isE (M.at i) (fsOf x y i)
def spEvery (M : Cls P w K mg base) : Sp := fun vs H Q _ => ∃ x y : V, vs = [x, y] ∧ ∀ v H', Same H H' → isL (everyF M x y) H' v → Q v H'
def spNamed (M : Cls P w K mg base) : Sp := fun vs H Q _ => ∃ x y : V, vs = [x, y] ∧ ∀ v H', Same H H' → isL (namedF M x y) H' v → Q v H'
section
variable {σ : L2.St} {H : Hp}
theorem mk0 {C : Addr} : Fm (tMk C [] tNil) σ H (isE C []) := fm_mk (xs := []) fmA_nil rfl
theorem mk1 {C : Addr} {n : Str} {i : Nat} {x : V} (h : σ[i]? = some (some x)) : Fm (tMk C [n] (tCons (tVar i) tNil)) σ H (isE C [(n, x)]) := fm_mk (xs := [x]) (fmA_cons lasts_is (fm_var h) fmA_nil) rfl
theorem mk2 {C : Addr} {n m : Str} {i j : Nat} {x y : V} (h : σ[i]? = some (some x)) (h' : σ[j]? = some (some y)) : Fm (tMk C [n, m] (tCons (tVar i) (tCons (tVar j) tNil))) σ H (isE C [(m, y), (n, x)]) :=
  fm_mk (xs := [x, y]) (fmA_cons lasts_is (fm_var h) (fmA_cons lasts_is (fm_var h') fmA_nil)) rfl
theorem mkK1 {C : Addr} {n : Str} {i : Nat} {x : V} (h : σ[i]? = some (some x)) : Fm (tMkK C [n] (fun zs => (kq1 [.non] zs).tail) 1 (tCons (tVar i) tNil)) σ H (isE C [(n, x)]) := fm_mkK (xs := [x]) (fmA_cons lasts_is (fm_var h) fmA_nil) rfl
theorem mkK2 {C : Addr} {n m : Str} {i j : Nat} {x y : V} (h : σ[i]? = some (some x)) (h' : σ[j]? = some (some y)) : Fm (tMkK C [n, m] (fun zs => (kq2s [.non] zs).tail) 2 (tCons (tVar j) (tCons (tVar i) tNil))) σ H (isE C [(m, y), (n, x)]) :=
  fm_mkK (xs := [y, x]) (fmA_cons lasts_is (fm_var h') (fmA_cons lasts_is (fm_var h) fmA_nil)) rfl
theorem pair1 {C : Addr} {fs : List (Str × V)} {d : Str} {te : TE} (h : Fm te σ H (isE C fs)) : Fm (tLst (tCons te (tCons (tC (.str d)) tNil))) σ H (isP C fs d) :=
  fm_lst (lastsAll_cons lasts_E (lastsAll_cons lasts_is lastsAll_nil)) (by show 2 ≤ 1000; decide) (fmA_cons lasts_E h (fmA_cons lasts_is fm_c fmA_nil))
theorem fm_old {Rs : List Fact} {v : V} {i : Nat} (r : isL Rs H v) (w : LastsAll Rs) (h : σ[i]? = some (some v)) : Fm (tVar i) σ H (isL Rs) := fun G1 a1 Q1 q1 => ⟨v, h, q1 _ G1 (Same.refl _) (lasts_L w _ _ _ a1 r)⟩
end
theorem fm_go {te : TE} {σ : L2.St} {H : Hp} {R : Fact} {Q : VK} (h : Fm te σ H R) (k : ∀ v H', Same H H' → R H' v → Q v H') : te σ H Q := h H (Same.refl H) Q k
theorem lasts_P {C : Addr} {fs : List (Str × V)} {d : Str} : Lasts (isP C fs d) := lasts_L (lastsAll_cons lasts_E (lastsAll_cons lasts_is lastsAll_nil))
theorem ok_every {f : Addr} {fd : FuncData} (M : Cls P w K mg base) (F : Fun K "_law_every" "_law_every" sEvery f fd) : FnOk P w K mg base CX0 3 f fd ["_law_thing", "_law_other_thing"] (spEvery M) := by
  refine F.ok scEvery (fun vs H Q E h => ?_) (fun cdv A outer s H vs Q E hr h => ?_)
  · obtain ⟨x, y, rfl, _⟩ := h
    rfl
  · obtain ⟨x, y, rfl, q⟩ := h
    have hr2 : Room 2 _ := hr
    refine ⟨_, pss_cons (ps_set (i := 2) scEvery.nd rfl (.inl rfl) (pe_lst (pa_cons (pe_lst (pa_cons (pe_mk M.c0.T (by decide) hr2 (by rfl) pass0 (pa_cons (pv 0) pa_nil)) (pa_cons pe_str pa_nil))) (pa_cons (pe_lst (pa_cons (pe_mk M.c1.T (by decide) hr2 (by rfl) pass0 (pa_cons (pv 0) pa_nil)) (pa_cons pe_str pa_nil))) (pa_cons (pe_lst (pa_cons (pe_mk M.c2.T (by decide) hr2 (by rfl) pass0 (pa_cons (pv 0) pa_nil)) (pa_cons pe_str pa_nil))) pa_nil)))))
      (pss_cons (ps_set (i := 2) scEvery.nd rfl (.inl rfl) (pe_op op_cat (pv 2) (pe_lst (pa_cons (pe_lst (pa_cons (pe_mk M.c3.T (by decide) hr2 (by rfl) pass0 (pa_cons (pv 0) pa_nil)) (pa_cons pe_str pa_nil))) (pa_cons (pe_lst (pa_cons (pe_mk M.c4.T (by decide) hr2 (by rfl) pass0 (pa_cons (pv 0) pa_nil)) (pa_cons pe_str pa_nil))) (pa_cons (pe_lst (pa_cons (pe_mk M.c5.T (by decide) hr2 (by rfl) pass0 (pa_cons (pv 0) pa_nil)) (pa_cons pe_str pa_nil))) pa_nil))))))
      (pss_cons (ps_set (i := 2) scEvery.nd rfl (.inl rfl) (pe_op op_cat (pv 2) (pe_lst (pa_cons (pe_lst (pa_cons (pe_mk M.c6.T (by decide) hr2 (by rfl) pass0 (pa_cons (pv 0) pa_nil)) (pa_cons pe_str pa_nil))) (pa_cons (pe_lst (pa_cons (pe_mk M.c7.T (by decide) hr2 (by rfl) pass0 (pa_cons (pv 0) pa_nil)) (pa_cons pe_str pa_nil))) (pa_cons (pe_lst (pa_cons (pe_mk M.c8.T (by decide) hr2 (by rfl) pass0 (pa_cons (pv 0) pa_nil)) (pa_cons pe_str pa_nil))) pa_nil))))))
      (pss_cons (ps_set (i := 2) scEvery.nd rfl (.inl rfl) (pe_op op_cat (pv 2) (pe_lst (pa_cons (pe_lst (pa_cons (pe_mk M.c9.T (by decide) hr2 (by rfl) pass0 (pa_cons (pv 0) pa_nil)) (pa_cons pe_str pa_nil))) (pa_cons (pe_lst (pa_cons (pe_mk M.c10.T (by decide) hr2 (by rfl) pass0 (pa_cons (pv 0) pa_nil)) (pa_cons pe_str pa_nil))) (pa_cons (pe_lst (pa_cons (pe_mk M.c11.T (by decide) hr2 (by rfl) pass0 (pa_cons (pv 0) pa_nil)) (pa_cons pe_str pa_nil))) pa_nil))))))
      (pss_cons (ps_set (i := 2) scEvery.nd rfl (.inl rfl) (pe_op op_cat (pv 2) (pe_lst (pa_cons (pe_lst (pa_cons (pe_mk M.c12.T (by decide) hr2 (by rfl) pass0 (pa_cons (pv 0) pa_nil)) (pa_cons pe_str pa_nil))) (pa_cons (pe_lst (pa_cons (pe_mk M.c13.T (by decide) hr2 (by rfl) pass0 (pa_cons (pv 0) pa_nil)) (pa_cons pe_str pa_nil))) (pa_cons (pe_lst (pa_cons (pe_mk M.c14.T (by decide) hr2 (by rfl) pass0 (pa_cons (pv 0) pa_nil)) (pa_cons pe_str pa_nil))) pa_nil))))))
      (pss_cons (ps_set (i := 2) scEvery.nd rfl (.inl rfl) (pe_op op_cat (pv 2) (pe_lst (pa_cons (pe_lst (pa_cons (pe_mk0 M.c15.T hr2 (by rfl) pass0) (pa_cons pe_str pa_nil))) (pa_cons (pe_lst (pa_cons (pe_mk0 M.c16.T hr2 (by rfl) pass0) (pa_cons pe_str pa_nil))) (pa_cons (pe_lst (pa_cons (pe_mk M.c17.T (by decide) hr2 (by rfl) pass0 (pa_cons (pv 0) pa_nil)) (pa_cons pe_str pa_nil))) pa_nil))))))
      (pss_one (ps_ret (pe_op op_cat (pv 2) (pe_lst (pa_cons (pe_lst (pa_cons (pe_mk M.c18.T (by decide) hr2 (by rfl) pass0 (pa_cons (pv 0) (pa_cons (pv 1) pa_nil))) (pa_cons pe_str pa_nil))) pa_nil)))))))))), ?_⟩
    dsimp only [gName, tSeq, tAsg, tRet]
    refine fm_go (R := isL [isP M.c0.C [("given", x)] "given", isP M.c1.C [("given", x)] "given", isP M.c2.C [("given", x)] "given"]) (by (refine fm_lst (by repeat (first | exact lastsAll_nil | refine lastsAll_cons lasts_P ?_)) (Nat.le_of_ble_eq_true rfl) ?_; repeat (first | exact fmA_nil | refine fmA_cons lasts_P (pair1 (by first | exact mk1 rfl | exact mk0 | exact mk2 rfl rfl)) ?_))) fun v0 H0 e0 r0 => ?_
    have w1 : LastsAll [isP M.c0.C [("given", x)] "given", isP M.c1.C [("given", x)] "given", isP M.c2.C [("given", x)] "given"] := (lastsAll_cons lasts_P (lastsAll_cons lasts_P (lastsAll_cons lasts_P lastsAll_nil)))
    have u1 : LastsAll [isP M.c3.C [("given", x)] "given", isP M.c4.C [("given", x)] "given", isP M.c5.C [("given", x)] "given"] := (lastsAll_cons lasts_P (lastsAll_cons lasts_P (lastsAll_cons lasts_P lastsAll_nil)))
    refine fm_go (R := isL (_ ++ [isP M.c3.C [("given", x)] "given", isP M.c4.C [("given", x)] "given", isP M.c5.C [("given", x)] "given"])) (fm_cat w1 u1 (Nat.le_of_ble_eq_true rfl) (fm_old r0 w1 rfl) (by (refine fm_lst (by repeat (first | exact lastsAll_nil | refine lastsAll_cons lasts_P ?_)) (Nat.le_of_ble_eq_true rfl) ?_; repeat (first | exact fmA_nil | refine fmA_cons lasts_P (pair1 (by first | exact mk1 rfl | exact mk0 | exact mk2 rfl rfl)) ?_)))) fun v1 H1 e1 r1 => ?_
    have w2 := lastsAll_app w1 u1
    have u2 : LastsAll [isP M.c6.C [("given", x)] "given", isP M.c7.C [("given", x)] "given", isP M.c8.C [("given", x)] "given"] := (lastsAll_cons lasts_P (lastsAll_cons lasts_P (lastsAll_cons lasts_P lastsAll_nil)))
    refine fm_go (R := isL (_ ++ [isP M.c6.C [("given", x)] "given", isP M.c7.C [("given", x)] "given", isP M.c8.C [("given", x)] "given"])) (fm_cat w2 u2 (Nat.le_of_ble_eq_true rfl) (fm_old r1 w2 rfl) (by (refine fm_lst (by repeat (first | exact lastsAll_nil | refine lastsAll_cons lasts_P ?_)) (Nat.le_of_ble_eq_true rfl) ?_; repeat (first | exact fmA_nil | refine fmA_cons lasts_P (pair1 (by first | exact mk1 rfl | exact mk0 | exact mk2 rfl rfl)) ?_)))) fun v2 H2 e2 r2 => ?_
    have w3 := lastsAll_app w2 u2
    have u3 : LastsAll [isP M.c9.C [("given", x)] "given", isP M.c10.C [("index", x)] "index", isP M.c11.C [("index", x)] "index"] := (lastsAll_cons lasts_P (lastsAll_cons lasts_P (lastsAll_cons lasts_P lastsAll_nil)))
    refine fm_go (R := isL (_ ++ [isP M.c9.C [("given", x)] "given", isP M.c10.C [("index", x)] "index", isP M.c11.C [("index", x)] "index"])) (fm_cat w3 u3 (Nat.le_of_ble_eq_true rfl) (fm_old r2 w3 rfl) (by (refine fm_lst (by repeat (first | exact lastsAll_nil | refine lastsAll_cons lasts_P ?_)) (Nat.le_of_ble_eq_true rfl) ?_; repeat (first | exact fmA_nil | refine fmA_cons lasts_P (pair1 (by first | exact mk1 rfl | exact mk0 | exact mk2 rfl rfl)) ?_)))) fun v3 H3 e3 r3 => ?_
    have w4 := lastsAll_app w3 u3
    have u4 : LastsAll [isP M.c12.C [("index", x)] "index", isP M.c13.C [("given", x)] "given", isP M.c14.C [("index", x)] "index"] := (lastsAll_cons lasts_P (lastsAll_cons lasts_P (lastsAll_cons lasts_P lastsAll_nil)))
    refine fm_go (R := isL (_ ++ [isP M.c12.C [("index", x)] "index", isP M.c13.C [("given", x)] "given", isP M.c14.C [("index", x)] "index"])) (fm_cat w4 u4 (Nat.le_of_ble_eq_true rfl) (fm_old r3 w4 rfl) (by (refine fm_lst (by repeat (first | exact lastsAll_nil | refine lastsAll_cons lasts_P ?_)) (Nat.le_of_ble_eq_true rfl) ?_; repeat (first | exact fmA_nil | refine fmA_cons lasts_P (pair1 (by first | exact mk1 rfl | exact mk0 | exact mk2 rfl rfl)) ?_)))) fun v4 H4 e4 r4 => ?_
    have w5 := lastsAll_app w4 u4
    have u5 : LastsAll [isP M.c15.C [] "", isP M.c16.C [] "", isP M.c17.C [("most", x)] "most"] := (lastsAll_cons lasts_P (lastsAll_cons lasts_P (lastsAll_cons lasts_P lastsAll_nil)))
    refine fm_go (R := isL (_ ++ [isP M.c15.C [] "", isP M.c16.C [] "", isP M.c17.C [("most", x)] "most"])) (fm_cat w5 u5 (Nat.le_of_ble_eq_true rfl) (fm_old r4 w5 rfl) (by (refine fm_lst (by repeat (first | exact lastsAll_nil | refine lastsAll_cons lasts_P ?_)) (Nat.le_of_ble_eq_true rfl) ?_; repeat (first | exact fmA_nil | refine fmA_cons lasts_P (pair1 (by first | exact mk1 rfl | exact mk0 | exact mk2 rfl rfl)) ?_)))) fun v5 H5 e5 r5 => ?_
    have w6 := lastsAll_app w5 u5
    have u6 : LastsAll [isP M.c18.C [("shown", y), ("index", x)] "index"] := (lastsAll_cons lasts_P lastsAll_nil)
    refine fm_go (R := isL (_ ++ [isP M.c18.C [("shown", y), ("index", x)] "index"])) (fm_cat w6 u6 (Nat.le_of_ble_eq_true rfl) (fm_old r5 w6 rfl) (by (refine fm_lst (by repeat (first | exact lastsAll_nil | refine lastsAll_cons lasts_P ?_)) (Nat.le_of_ble_eq_true rfl) ?_; repeat (first | exact fmA_nil | refine fmA_cons lasts_P (pair1 (by first | exact mk1 rfl | exact mk0 | exact mk2 rfl rfl)) ?_)))) fun v6 H6 e6 r6 => ?_
    exact q v6 H6 ((((((e0.trans e1).trans e2).trans e3).trans e4).trans e5).trans e6) r6
theorem hk1 : ∀ (s : V) (zs : List V), zs.length = 1 → ∃ ys, kq1 [s] zs = s :: ys ∧ ys.length = 1 ∧ ∀ s', kq1 [s'] zs = s' :: ys := fun s zs l => match zs, l with
  | [a], _ => ⟨[a], rfl, rfl, fun _ => rfl⟩
theorem hk2 : ∀ (s : V) (zs : List V), zs.length = 2 → ∃ ys, kq2s [s] zs = s :: ys ∧ ys.length = 2 ∧ ∀ s', kq2s [s'] zs = s' :: ys := fun s zs l => match zs, l with
  | [a, b], _ => ⟨[b, a], rfl, rfl, fun _ => rfl⟩
theorem ok_named {f : Addr} {fd : FuncData} (M : Cls P w K mg base) (F : Fun K "_law_named" "_law_named" sNamed f fd) : FnOk P w K mg base CX0 3 f fd ["_law_thing", "_law_other_thing"] (spNamed M) := by
  refine F.ok scNamed (fun vs H Q E h => ?_) (fun cdv A outer s H vs Q E hr h => ?_)
  · obtain ⟨x, y, rfl, _⟩ := h
    rfl
  · obtain ⟨x, y, rfl, q⟩ := h
    have hr2 : Room 2 _ := hr
    refine ⟨_, pss_cons (ps_set (i := 2) scNamed.nd rfl (.inl rfl) (pe_lst (pa_cons (pe_mkK M.c0.T M.k0 hr2 (by rfl) hk1 pass0 (pk_cons (pv 0) pk_nil)) (pa_cons (pe_mkK M.c1.T M.k1 hr2 (by rfl) hk1 pass0 (pk_cons (pv 0) pk_nil)) (pa_cons (pe_mkK M.c2.T M.k2 hr2 (by rfl) hk1 pass0 (pk_cons (pv 0) pk_nil)) (pa_cons (pe_mkK M.c3.T M.k3 hr2 (by rfl) hk1 pass0 (pk_cons (pv 0) pk_nil)) pa_nil))))))
      (pss_cons (ps_set (i := 2) scNamed.nd rfl (.inl rfl) (pe_op op_cat (pv 2) (pe_lst (pa_cons (pe_mkK M.c4.T M.k4 hr2 (by rfl) hk1 pass0 (pk_cons (pv 0) pk_nil)) (pa_cons (pe_mkK M.c5.T M.k5 hr2 (by rfl) hk1 pass0 (pk_cons (pv 0) pk_nil)) (pa_cons (pe_mkK M.c6.T M.k6 hr2 (by rfl) hk1 pass0 (pk_cons (pv 0) pk_nil)) pa_nil))))))
      (pss_cons (ps_set (i := 2) scNamed.nd rfl (.inl rfl) (pe_op op_cat (pv 2) (pe_lst (pa_cons (pe_mkK M.c7.T M.k7 hr2 (by rfl) hk1 pass0 (pk_cons (pv 0) pk_nil)) (pa_cons (pe_mkK M.c8.T M.k8 hr2 (by rfl) hk1 pass0 (pk_cons (pv 0) pk_nil)) (pa_cons (pe_mkK M.c9.T M.k9 hr2 (by rfl) hk1 pass0 (pk_cons (pv 0) pk_nil)) pa_nil))))))
      (pss_cons (ps_set (i := 2) scNamed.nd rfl (.inl rfl) (pe_op op_cat (pv 2) (pe_lst (pa_cons (pe_mkK M.c10.T M.k10 hr2 (by rfl) hk1 pass0 (pk_cons (pv 0) pk_nil)) (pa_cons (pe_mkK M.c11.T M.k11 hr2 (by rfl) hk1 pass0 (pk_cons (pv 0) pk_nil)) (pa_cons (pe_mkK M.c12.T M.k12 hr2 (by rfl) hk1 pass0 (pk_cons (pv 0) pk_nil)) pa_nil))))))
      (pss_cons (ps_set (i := 2) scNamed.nd rfl (.inl rfl) (pe_op op_cat (pv 2) (pe_lst (pa_cons (pe_mkK M.c13.T M.k13 hr2 (by rfl) hk1 pass0 (pk_cons (pv 0) pk_nil)) (pa_cons (pe_mkK M.c14.T M.k14 hr2 (by rfl) hk1 pass0 (pk_cons (pv 0) pk_nil)) (pa_cons (pe_mk0 M.c15.T hr2 (by rfl) pass0) (pa_cons (pe_mk0 M.c16.T hr2 (by rfl) pass0) (pa_cons (pe_mkK M.c17.T M.k17 hr2 (by rfl) hk1 pass0 (pk_cons (pv 0) pk_nil)) pa_nil))))))))
      (pss_one (ps_ret (pe_op op_cat (pv 2) (pe_lst (pa_cons (pe_mkK M.c18.T M.k18 hr2 (by rfl) hk2 pass0 (pk_cons (pv 1) (pk_cons (pv 0) pk_nil))) pa_nil))))))))), ?_⟩
    dsimp only [gName, tSeq, tAsg, tRet]
    refine fm_go (R := isL [isE M.c0.C [("given", x)], isE M.c1.C [("given", x)], isE M.c2.C [("given", x)], isE M.c3.C [("given", x)]]) (by (refine fm_lst (by repeat (first | exact lastsAll_nil | refine lastsAll_cons lasts_E ?_)) (Nat.le_of_ble_eq_true rfl) ?_; repeat (first | exact fmA_nil | refine fmA_cons lasts_E (by first | exact mkK1 rfl | exact mk0 | exact mkK2 rfl rfl) ?_))) fun v0 H0 e0 r0 => ?_
    have w1 : LastsAll [isE M.c0.C [("given", x)], isE M.c1.C [("given", x)], isE M.c2.C [("given", x)], isE M.c3.C [("given", x)]] := (lastsAll_cons lasts_E (lastsAll_cons lasts_E (lastsAll_cons lasts_E (lastsAll_cons lasts_E lastsAll_nil))))
    have u1 : LastsAll [isE M.c4.C [("given", x)], isE M.c5.C [("given", x)], isE M.c6.C [("given", x)]] := (lastsAll_cons lasts_E (lastsAll_cons lasts_E (lastsAll_cons lasts_E lastsAll_nil)))
    refine fm_go (R := isL (_ ++ [isE M.c4.C [("given", x)], isE M.c5.C [("given", x)], isE M.c6.C [("given", x)]])) (fm_cat w1 u1 (Nat.le_of_ble_eq_true rfl) (fm_old r0 w1 rfl) (by (refine fm_lst (by repeat (first | exact lastsAll_nil | refine lastsAll_cons lasts_E ?_)) (Nat.le_of_ble_eq_true rfl) ?_; repeat (first | exact fmA_nil | refine fmA_cons lasts_E (by first | exact mkK1 rfl | exact mk0 | exact mkK2 rfl rfl) ?_)))) fun v1 H1 e1 r1 => ?_
    have w2 := lastsAll_app w1 u1
    have u2 : LastsAll [isE M.c7.C [("given", x)], isE M.c8.C [("given", x)], isE M.c9.C [("given", x)]] := (lastsAll_cons lasts_E (lastsAll_cons lasts_E (lastsAll_cons lasts_E lastsAll_nil)))
    refine fm_go (R := isL (_ ++ [isE M.c7.C [("given", x)], isE M.c8.C [("given", x)], isE M.c9.C [("given", x)]])) (fm_cat w2 u2 (Nat.le_of_ble_eq_true rfl) (fm_old r1 w2 rfl) (by (refine fm_lst (by repeat (first | exact lastsAll_nil | refine lastsAll_cons lasts_E ?_)) (Nat.le_of_ble_eq_true rfl) ?_; repeat (first | exact fmA_nil | refine fmA_cons lasts_E (by first | exact mkK1 rfl | exact mk0 | exact mkK2 rfl rfl) ?_)))) fun v2 H2 e2 r2 => ?_
    have w3 := lastsAll_app w2 u2
    have u3 : LastsAll [isE M.c10.C [("index", x)], isE M.c11.C [("index", x)], isE M.c12.C [("index", x)]] := (lastsAll_cons lasts_E (lastsAll_cons lasts_E (lastsAll_cons lasts_E lastsAll_nil)))
    refine fm_go (R := isL (_ ++ [isE M.c10.C [("index", x)], isE M.c11.C [("index", x)], isE M.c12.C [("index", x)]])) (fm_cat w3 u3 (Nat.le_of_ble_eq_true rfl) (fm_old r2 w3 rfl) (by (refine fm_lst (by repeat (first | exact lastsAll_nil | refine lastsAll_cons lasts_E ?_)) (Nat.le_of_ble_eq_true rfl) ?_; repeat (first | exact fmA_nil | refine fmA_cons lasts_E (by first | exact mkK1 rfl | exact mk0 | exact mkK2 rfl rfl) ?_)))) fun v3 H3 e3 r3 => ?_
    have w4 := lastsAll_app w3 u3
    have u4 : LastsAll [isE M.c13.C [("given", x)], isE M.c14.C [("index", x)], isE M.c15.C [], isE M.c16.C [], isE M.c17.C [("most", x)]] := (lastsAll_cons lasts_E (lastsAll_cons lasts_E (lastsAll_cons lasts_E (lastsAll_cons lasts_E (lastsAll_cons lasts_E lastsAll_nil)))))
    refine fm_go (R := isL (_ ++ [isE M.c13.C [("given", x)], isE M.c14.C [("index", x)], isE M.c15.C [], isE M.c16.C [], isE M.c17.C [("most", x)]])) (fm_cat w4 u4 (Nat.le_of_ble_eq_true rfl) (fm_old r3 w4 rfl) (by (refine fm_lst (by repeat (first | exact lastsAll_nil | refine lastsAll_cons lasts_E ?_)) (Nat.le_of_ble_eq_true rfl) ?_; repeat (first | exact fmA_nil | refine fmA_cons lasts_E (by first | exact mkK1 rfl | exact mk0 | exact mkK2 rfl rfl) ?_)))) fun v4 H4 e4 r4 => ?_
    have w5 := lastsAll_app w4 u4
    have u5 : LastsAll [isE M.c18.C [("shown", y), ("index", x)]] := (lastsAll_cons lasts_E lastsAll_nil)
    refine fm_go (R := isL (_ ++ [isE M.c18.C [("shown", y), ("index", x)]])) (fm_cat w5 u5 (Nat.le_of_ble_eq_true rfl) (fm_old r4 w5 rfl) (by (refine fm_lst (by repeat (first | exact lastsAll_nil | refine lastsAll_cons lasts_E ?_)) (Nat.le_of_ble_eq_true rfl) ?_; repeat (first | exact fmA_nil | refine fmA_cons lasts_E (by first | exact mkK1 rfl | exact mk0 | exact mkK2 rfl rfl) ?_)))) fun v5 H5 e5 r5 => ?_
    exact q v5 H5 (((((e0.trans e1).trans e2).trans e3).trans e4).trans e5) r5
end My
set_option Elab.async false
set_option linter.all false
set_option maxRecDepth 100000
set_option maxHeartbeats 4000000
namespace My
open PySem PySem.Spec PyProof.Rows L2 Gn
variable {P : Program} {w : World} {K : PySem.W.Frag} {mg : Str → Option Value} {base : Heap}
theorem scHas : FnScope ["_law_e", "_law_field"] ["_law_e", "_law_field"] (defScope sHas) := ⟨rfl, rfl, rfl, by decide +kernel, rfl, by decide +kernel, by decide +kernel⟩
theorem scBases : FnScope ["_law_e", "_law_own"] ["_law_e"] (defScope sBases) := ⟨rfl, rfl, rfl, by decide +kernel, rfl, by decide +kernel, by decide +kernel⟩
/-- what it has under a word -/
def Has (K : PySem.W.Frag) (C : Addr) (fs : List (Str × V)) (d : Str) (r : V) : Prop := (d = "" ∧ r = .str "nothing") ∨
  ((d = "given" ∨ d = "index" ∨ d = "most") ∧ XfC K C ∧ PySem.W.findIn K (.ref C) d = some none ∧ fs ≠ [] ∧ fs.lookup d = some r)
def spHas (K : PySem.W.Frag) : Sp := fun vs H Q _ => ∃ (e C : Addr) (fs : List (Str × V)) (d : Str) (r : V), vs = [.ref e, .str d] ∧ Kept H e C fs ∧ Has K C fs d r ∧ Q r H
theorem fld_of {C e : Addr} {fs : List (Str × V)} {d : Str} {r : V} {σ : L2.St} {H : Hp} {Q : VK} {i : Nat} (hs : σ[i]? = some (some (.ref e))) (k : Kept H e C fs) (T : XfC K C) (no : PySem.W.findIn K (.ref C) d = some none) (ne : fs ≠ []) (l : fs.lookup d = some r) (q : Q r H) :
    tFld K d (tVar i) σ H Q := by
  rcases k with ⟨z, _⟩ | ⟨y, h1, h2⟩
  · exact absurd z ne
  · exact ⟨_, hs, e, C, y, fs, r, rfl, h1, h2, T, no, l, q⟩
theorem ok_has {f : Addr} {fd : FuncData} (F : Fun K "_law_has" "_law_has" sHas f fd) : FnOk P w K mg base CX0 1 f fd ["_law_e", "_law_field"] (spHas K) := by
  refine F.ok scHas (fun vs H Q E h => ?_) (fun cdv A outer s H vs Q E hr h => ?_)
  · obtain ⟨e, C, fs, d, r, rfl, _⟩ := h
    rfl
  · obtain ⟨e, C, fs, d, r, rfl, k, hh, q⟩ := h
    refine ⟨_, pss_cons (ps_if (pt_cmpR op_eq (pv 1) pe_str (nomark _)) (pss_one (ps_ret pe_str)) pss_nil)
      (pss_cons (ps_if (pt_cmpR op_eq (pv 1) pe_str (nomark _)) (pss_one (ps_ret (pe_fld (pv 0)))) pss_nil)
      (pss_one (ps_ret (pe_ifExp (pt_cmpR op_eq (pv 1) pe_str (nomark _)) (pe_fld (pv 0)) (pe_fld (pv 0)))))), ?_⟩
    rcases hh with ⟨rfl, rfl⟩ | ⟨hd, T, no, ne, l⟩
    · exact ⟨_, rfl, rfl, _, rfl, ite2 (fun _ => q) (fun hc => absurd (decide_eq_true rfl) hc)⟩
    · rcases hd with rfl | rfl | rfl
      · refine ⟨_, rfl, rfl, _, rfl, ?_⟩
        refine ite2 (fun hc => absurd (of_decide_eq_true hc) (by decide)) (fun _ => ?_)
        refine ⟨_, rfl, rfl, _, rfl, ?_⟩
        exact ite2 (fun _ => fld_of rfl k T no ne l q) (fun hc => absurd (decide_eq_true rfl) hc)
      · refine ⟨_, rfl, rfl, _, rfl, ?_⟩
        refine ite2 (fun hc => absurd (of_decide_eq_true hc) (by decide)) (fun _ => ?_)
        refine ⟨_, rfl, rfl, _, rfl, ?_⟩
        refine ite2 (fun hc => absurd (of_decide_eq_true hc) (by decide)) (fun _ => ?_)
        refine ⟨_, rfl, rfl, _, rfl, ?_⟩
        exact ite2 (fun _ => fld_of rfl k T no ne l q) (fun hc => absurd (decide_eq_true rfl) hc)
      · refine ⟨_, rfl, rfl, _, rfl, ?_⟩
        refine ite2 (fun hc => absurd (of_decide_eq_true hc) (by decide)) (fun _ => ?_)
        refine ⟨_, rfl, rfl, _, rfl, ?_⟩
        refine ite2 (fun hc => absurd (of_decide_eq_true hc) (by decide)) (fun _ => ?_)
        refine ⟨_, rfl, rfl, _, rfl, ?_⟩
        exact ite2 (fun hc => absurd (of_decide_eq_true hc) (by decide)) (fun _ => fld_of rfl k T no ne l q)
end My
set_option Elab.async false
set_option linter.all false
set_option maxRecDepth 100000
set_option maxHeartbeats 4000000
namespace My
open PySem PySem.Spec PyProof.Rows L2 Gn
variable {P : Program} {w : World} {K : PySem.W.Frag} {mg : Str → Option Value} {base : Heap}
/-- the base classes, own and built-in -/
structure Bs (mg : Str → Option Value) where
  R0 : Addr
  R1 : Addr
  R2 : Addr
  g0 : mg "NotRight" = some (.ref R0)
  g1 : mg "NotKnown" = some (.ref R1)
  g2 : mg "NotPossible" = some (.ref R2)
  v0 : mg "ValueError" = none
  v1 : mg "LookupError" = none
  v2 : mg "ArithmeticError" = none
  isi : mg "isinstance" = none
/-- of which of the three a class is -/
structure Of (K : PySem.W.Frag) (B : Bs mg) (C : Addr) (b0 b1 b2 : Bool) : Prop where
  o0 : PySem.W.kitOne K (.ref C) (.ref B.R0) = some b0
  o1 : PySem.W.kitOne K (.ref C) (.ref B.R1) = some b1
  o2 : PySem.W.kitOne K (.ref C) (.ref B.R2) = some b2
  t0 : PySem.W.kitOne K (.ref C) (.type "ValueError") = some b0
  t1 : PySem.W.kitOne K (.ref C) (.type "LookupError") = some b1
  t2 : PySem.W.kitOne K (.ref C) (.type "ArithmeticError") = some b2
def spBases (K : PySem.W.Frag) (B : Bs mg) : Sp := fun vs H Q _ => ∃ (e C : Addr) (fs : List (Str × V)) (b0 b1 b2 : Bool), vs = [.ref e] ∧ Kept H e C fs ∧ ExcC K C ∧ Of K B C b0 b1 b2 ∧
  ∀ p H', Same H H' → H' p = some (.lst [.bl b0, .bl b1, .bl b2, .bl b0, .bl b1, .bl b2]) → Q (.ref p) H'
theorem isO_of {e C D : Addr} {fs : List (Str × V)} {b : Bool} {H : Hp} {Q : VK} (k : Kept H e C fs) (X : ExcC K C) (o : PySem.W.kitOne K (.ref C) (.ref D) = some b) (q : Q (.bl b) H) : rIsO K [.ref e, .ref D] H Q := by
  obtain ⟨d, h1, h2⟩ := k.at
  exact ⟨e, C, d, .ref D, .ref D, b, rfl, X, h1, h2, fun u r => r, o, q⟩
theorem isT_of {e C : Addr} {n : String} {fs : List (Str × V)} {b : Bool} {H : Hp} {Q : VK} (k : Kept H e C fs) (X : ExcC K C) (o : PySem.W.kitOne K (.ref C) (.type n) = some b) (q : Q (.bl b) H) : rIsO K [.ref e, .ty n] H Q := by
  obtain ⟨d, h1, h2⟩ := k.at
  exact ⟨e, C, d, .ty n, .type n, b, rfl, X, h1, h2, fun u r => r, o, q⟩
theorem ok_bases {f : Addr} {fd : FuncData} (F : Fun K "_law_bases" "_law_bases" sBases f fd) (B : Bs mg) : FnOk P w K mg base CX0 1 f fd ["_law_e"] (spBases K B) := by
  refine F.ok scBases (fun vs H Q E h => ?_) (fun cdv A outer s H vs Q E hr h => ?_)
  · obtain ⟨e, C, fs, b0, b1, b2, rfl, _⟩ := h
    rfl
  · obtain ⟨e, C, fs, b0, b1, b2, rfl, k, X, o, q⟩ := h
    refine ⟨_, pss_cons (ps_set (i := 1) scBases.nd rfl (.inl rfl) (pe_lst
        (pa_cons (pe_callB cr_isO (by rfl) B.isi (by decide +kernel) (pa_cons (pv 0) (pa_cons (pe_glob (v := .ref B.R0) rfl B.g0 rfl) pa_nil)))
        (pa_cons (pe_callB cr_isO (by rfl) B.isi (by decide +kernel) (pa_cons (pv 0) (pa_cons (pe_glob (v := .ref B.R1) rfl B.g1 rfl) pa_nil)))
        (pa_cons (pe_callB cr_isO (by rfl) B.isi (by decide +kernel) (pa_cons (pv 0) (pa_cons (pe_glob (v := .ref B.R2) rfl B.g2 rfl) pa_nil))) pa_nil)))))
      (pss_one (ps_ret (pe_op op_cat (pv 1) (pe_lst
        (pa_cons (pe_callB cr_isO (by rfl) B.isi (by decide +kernel) (pa_cons (pv 0) (pa_cons (pe_bltn (v := .ty "ValueError") (by rfl) B.v0 (by decide +kernel) rfl) pa_nil)))
        (pa_cons (pe_callB cr_isO (by rfl) B.isi (by decide +kernel) (pa_cons (pv 0) (pa_cons (pe_bltn (v := .ty "LookupError") (by rfl) B.v1 (by decide +kernel) rfl) pa_nil)))
        (pa_cons (pe_callB cr_isO (by rfl) B.isi (by decide +kernel) (pa_cons (pv 0) (pa_cons (pe_bltn (v := .ty "ArithmeticError") (by rfl) B.v2 (by decide +kernel) rfl) pa_nil))) pa_nil))))))), ?_⟩
    refine ⟨_, rfl, ?_⟩
    dsimp only [tCB, tCons, tC, tNil]
    refine isO_of k X o.o0 ?_
    refine ⟨_, rfl, ?_⟩
    dsimp only [tCB, tCons, tC, tNil]
    refine isO_of k X o.o1 ?_
    refine ⟨_, rfl, ?_⟩
    dsimp only [tCB, tCons, tC, tNil]
    refine isO_of k X o.o2 ?_
    refine ⟨(by show 3 ≤ sizeLine; decide), fun p1 h1 => ?_⟩
    have a1 := same_put (o := HO.lst [.bl b0, .bl b1, .bl b2]) h1
    have k1 := k.same a1
    refine ⟨_, rfl, ?_⟩
    refine ⟨_, rfl, ?_⟩
    dsimp only [tCB, tCons, tC, tNil]
    refine isT_of k1 X o.t0 ?_
    refine ⟨_, rfl, ?_⟩
    dsimp only [tCB, tCons, tC, tNil]
    refine isT_of k1 X o.t1 ?_
    refine ⟨_, rfl, ?_⟩
    dsimp only [tCB, tCons, tC, tNil]
    refine isT_of k1 X o.t2 ?_
    refine ⟨(by show 3 ≤ sizeLine; decide), fun p2 h2 => ?_⟩
    have a2 := same_put (o := HO.lst [.bl b0, .bl b1, .bl b2]) h2
    refine ⟨p1, p2, _, _, rfl, rfl, a2 _ _ upd_same, upd_same, (by show 6 ≤ sizeLine; decide), fun p3 h3 => ?_⟩
    exact q p3 _ ((a1.trans a2).trans (same_put h3)) upd_same
end My
set_option Elab.async false
set_option linter.all false
set_option maxRecDepth 100000
set_option maxHeartbeats 4000000
namespace My
open PySem PySem.Spec PyProof.Rows L2 Gn
variable {P : Program} {w : World} {K : PySem.W.Frag} {mg : Str → Option Value} {base : Heap}
theorem scCaught : FnScope ["_law_thing", "_law_found", "_law_e"] ["_law_thing"] (defScope sCaught) := ⟨rfl, rfl, rfl, by decide +kernel, rfl, by decide +kernel, by decide +kernel⟩
def spCaught : Sp := fun vs H Q _ => ∃ x : V, vs = [x] ∧ ∀ p H', Same H H' → H' p = some (.lst [x, x, x]) → Q (.ref p) H'
theorem same_mut {H H' : Hp} {p : Addr} {o : HO} (e : Same H H') (h : H p = none) : Same H (upd H' p o) := fun a u z => by
  rw [upd_ne (ne_of_none z h)]
  exact e a u z
/-- what is tried, and what the handler does -/
def bod : Stmt → List Stmt
  | .Try b _ _ _ _ => b
  | _ => []
def hnd : Stmt → List Stmt
  | .Try _ (.ExceptHandler _ _ b _ :: _) _ _ _ => b
  | _ => []
theorem ok_caught {f : Addr} {fd : FuncData} (F : Fun K "_law_caught" "_law_caught" sCaught f fd) (M : Cls P w K mg base) (B : Bs mg) (x10 : PySem.W.exmOne K (.ref M.c10.C) (.ref B.R0) = some true)
    (x13 : PySem.W.exmOne K (.ref M.c13.C) (.ref B.R1) = some true) (x17 : PySem.W.exmOne K (.ref M.c17.C) (.ref B.R2) = some true) : FnOk P w K mg base CX0 3 f fd ["_law_thing"] spCaught := by
  refine F.ok scCaught (fun vs H Q E h => ?_) (fun cdv A outer s H vs Q E hr h => ?_)
  · obtain ⟨x, rfl, _⟩ := h
    rfl
  · obtain ⟨x, rfl, q⟩ := h
    have hr2 : Room 2 _ := hr
    have su1 : ∀ (a : Addr) (oe : Obj) (cls : Value) (d : Option Addr) (pn : List (Addr × Obj)), Zc cls d oe → (∃ vs, oe.data = .fields vs) →
        PSs ((cxOf CX0 P w K mg base ["_law_thing", "_law_found", "_law_e"] "_law_caught" (defScope sCaught) f cdv A outer s H E).nox.suite a ((a, oe) :: pn)) (hnd ((defBody sCaught).getD 1 (.Pass ⟨0, 0, 0, 0⟩))) (tDrop (tBM K "list" rAppend (tVar 1) (tCons (tXf a cls d M.c10.C "index" (tVar 2)) tNil))) := fun a oe cls d pn hz hf =>
      pss_one (ps_expr (pe_bm PySem.F.plainAttrs_list PySem.F.slot_list_append PySem.F.type_list_append mt_append (pv 1) (pa_cons (pe_xf M.c10.T.xf (M.c10.T.no "index" (by simp)) hz hf (pv 2)) pa_nil)))
    have su2 : ∀ (a : Addr) (oe : Obj) (cls : Value) (d : Option Addr) (pn : List (Addr × Obj)), Zc cls d oe → (∃ vs, oe.data = .fields vs) →
        PSs ((cxOf CX0 P w K mg base ["_law_thing", "_law_found", "_law_e"] "_law_caught" (defScope sCaught) f cdv A outer s H E).nox.suite a ((a, oe) :: pn)) (hnd ((defBody sCaught).getD 2 (.Pass ⟨0, 0, 0, 0⟩))) (tDrop (tBM K "list" rAppend (tVar 1) (tCons (tXf a cls d M.c13.C "given" (tVar 2)) tNil))) := fun a oe cls d pn hz hf =>
      pss_one (ps_expr (pe_bm PySem.F.plainAttrs_list PySem.F.slot_list_append PySem.F.type_list_append mt_append (pv 1) (pa_cons (pe_xf M.c13.T.xf (M.c13.T.no "given" (by simp)) hz hf (pv 2)) pa_nil)))
    have su3 : ∀ (a : Addr) (oe : Obj) (cls : Value) (d : Option Addr) (pn : List (Addr × Obj)), Zc cls d oe → (∃ vs, oe.data = .fields vs) →
        PSs ((cxOf CX0 P w K mg base ["_law_thing", "_law_found", "_law_e"] "_law_caught" (defScope sCaught) f cdv A outer s H E).nox.suite a ((a, oe) :: pn)) (hnd ((defBody sCaught).getD 3 (.Pass ⟨0, 0, 0, 0⟩))) (tDrop (tBM K "list" rAppend (tVar 1) (tCons (tXf a cls d M.c17.C "most" (tVar 2)) tNil))) := fun a oe cls d pn hz hf =>
      pss_one (ps_expr (pe_bm PySem.F.plainAttrs_list PySem.F.slot_list_append PySem.F.type_list_append mt_append (pv 1) (pa_cons (pe_xf M.c17.T.xf (M.c17.T.no "most" (by simp)) hz hf (pv 2)) pa_nil)))
    have su1 : ∀ (a : Addr) (oe : Obj) (cls : Value) (d : Option Addr) (pn : List (Addr × Obj)), Zc cls d oe → (∃ vs, oe.data = .fields vs) →
        PSs ((cxOf CX0 P w K mg base ["_law_thing", "_law_found", "_law_e"] "_law_caught" (defScope sCaught) f cdv A outer s H E).nox.suite a ((a, oe) :: pn)) (hnd ((defBody sCaught).getD 1 (.Pass ⟨0, 0, 0, 0⟩))) (tDrop (tBM K "list" rAppend (tVar 1) (tCons (tXf a cls d M.c10.C "index" (tVar 2)) tNil))) := fun a oe cls d pn hz hf =>
      pss_one (ps_expr (pe_bm PySem.F.plainAttrs_list PySem.F.slot_list_append PySem.F.type_list_append mt_append (pv 1) (pa_cons (pe_xf M.c10.T.xf (M.c10.T.no "index" (by simp)) hz hf (pv 2)) pa_nil)))
    have su2 : ∀ (a : Addr) (oe : Obj) (cls : Value) (d : Option Addr) (pn : List (Addr × Obj)), Zc cls d oe → (∃ vs, oe.data = .fields vs) →
        PSs ((cxOf CX0 P w K mg base ["_law_thing", "_law_found", "_law_e"] "_law_caught" (defScope sCaught) f cdv A outer s H E).nox.suite a ((a, oe) :: pn)) (hnd ((defBody sCaught).getD 2 (.Pass ⟨0, 0, 0, 0⟩))) (tDrop (tBM K "list" rAppend (tVar 1) (tCons (tXf a cls d M.c13.C "given" (tVar 2)) tNil))) := fun a oe cls d pn hz hf =>
      pss_one (ps_expr (pe_bm PySem.F.plainAttrs_list PySem.F.slot_list_append PySem.F.type_list_append mt_append (pv 1) (pa_cons (pe_xf M.c13.T.xf (M.c13.T.no "given" (by simp)) hz hf (pv 2)) pa_nil)))
    have su3 : ∀ (a : Addr) (oe : Obj) (cls : Value) (d : Option Addr) (pn : List (Addr × Obj)), Zc cls d oe → (∃ vs, oe.data = .fields vs) →
        PSs ((cxOf CX0 P w K mg base ["_law_thing", "_law_found", "_law_e"] "_law_caught" (defScope sCaught) f cdv A outer s H E).nox.suite a ((a, oe) :: pn)) (hnd ((defBody sCaught).getD 3 (.Pass ⟨0, 0, 0, 0⟩))) (tDrop (tBM K "list" rAppend (tVar 1) (tCons (tXf a cls d M.c17.C "most" (tVar 2)) tNil))) := fun a oe cls d pn hz hf =>
      pss_one (ps_expr (pe_bm PySem.F.plainAttrs_list PySem.F.slot_list_append PySem.F.type_list_append mt_append (pv 1) (pa_cons (pe_xf M.c17.T.xf (M.c17.T.no "most" (by simp)) hz hf (pv 2)) pa_nil)))
    have su1 : ∀ (a : Addr) (oe : Obj) (cls : Value) (d : Option Addr) (pn : List (Addr × Obj)), Zc cls d oe → (∃ vs, oe.data = .fields vs) →
        PSs ((cxOf CX0 P w K mg base ["_law_thing", "_law_found", "_law_e"] "_law_caught" (defScope sCaught) f cdv A outer s H E).nox.suite a ((a, oe) :: pn)) (hnd ((defBody sCaught).getD 1 (.Pass ⟨0, 0, 0, 0⟩))) (tDrop (tBM K "list" rAppend (tVar 1) (tCons (tXf a cls d M.c10.C "index" (tVar 2)) tNil))) := fun a oe cls d pn hz hf =>
      pss_one (ps_expr (pe_bm PySem.F.plainAttrs_list PySem.F.slot_list_append PySem.F.type_list_append mt_append (pv 1) (pa_cons (pe_xf M.c10.T.xf (M.c10.T.no "index" (by simp)) hz hf (pv 2)) pa_nil)))
    have su2 : ∀ (a : Addr) (oe : Obj) (cls : Value) (d : Option Addr) (pn : List (Addr × Obj)), Zc cls d oe → (∃ vs, oe.data = .fields vs) →
        PSs ((cxOf CX0 P w K mg base ["_law_thing", "_law_found", "_law_e"] "_law_caught" (defScope sCaught) f cdv A outer s H E).nox.suite a ((a, oe) :: pn)) (hnd ((defBody sCaught).getD 2 (.Pass ⟨0, 0, 0, 0⟩))) (tDrop (tBM K "list" rAppend (tVar 1) (tCons (tXf a cls d M.c13.C "given" (tVar 2)) tNil))) := fun a oe cls d pn hz hf =>
      pss_one (ps_expr (pe_bm PySem.F.plainAttrs_list PySem.F.slot_list_append PySem.F.type_list_append mt_append (pv 1) (pa_cons (pe_xf M.c13.T.xf (M.c13.T.no "given" (by simp)) hz hf (pv 2)) pa_nil)))
    have su3 : ∀ (a : Addr) (oe : Obj) (cls : Value) (d : Option Addr) (pn : List (Addr × Obj)), Zc cls d oe → (∃ vs, oe.data = .fields vs) →
        PSs ((cxOf CX0 P w K mg base ["_law_thing", "_law_found", "_law_e"] "_law_caught" (defScope sCaught) f cdv A outer s H E).nox.suite a ((a, oe) :: pn)) (hnd ((defBody sCaught).getD 3 (.Pass ⟨0, 0, 0, 0⟩))) (tDrop (tBM K "list" rAppend (tVar 1) (tCons (tXf a cls d M.c17.C "most" (tVar 2)) tNil))) := fun a oe cls d pn hz hf =>
      pss_one (ps_expr (pe_bm PySem.F.plainAttrs_list PySem.F.slot_list_append PySem.F.type_list_append mt_append (pv 1) (pa_cons (pe_xf M.c17.T.xf (M.c17.T.no "most" (by simp)) hz hf (pv 2)) pa_nil)))
    refine ⟨_, pss_cons (ps_set (i := 1) scCaught.nd rfl (.inl rfl) (pe_lst pa_nil))
      (pss_cons (ps_try_as (i := 2) rfl rfl scCaught.nd rfl rfl ⟨rfl, by decide, .inl B.g0⟩ takes0
        (fun W pn xe tk _ => pss_one (ps_raise rfl tk (pmk_exo (dvs := []) M.c10.T.own M.c10.T.ini M.c10.T.ty M.c10.T.run hr2 M.c10.T.b .nil pass0 (by rfl) M.c10.T.g (pa_cons (pv 0) pa_nil)))) su1)
      (pss_cons (ps_try_as (i := 2) rfl rfl scCaught.nd rfl rfl ⟨rfl, by decide, .inl B.g1⟩ takes0
        (fun W pn xe tk _ => pss_one (ps_raise rfl tk (pmk_exo (dvs := []) M.c13.T.own M.c13.T.ini M.c13.T.ty M.c13.T.run hr2 M.c13.T.b .nil pass0 (by rfl) M.c13.T.g (pa_cons (pv 0) pa_nil)))) su2)
      (pss_cons (ps_try_as (i := 2) rfl rfl scCaught.nd rfl rfl ⟨rfl, by decide, .inl B.g2⟩ takes0
        (fun W pn xe tk _ => pss_one (ps_raise rfl tk (pmk_exo (dvs := []) M.c17.T.own M.c17.T.ini M.c17.T.ty M.c17.T.run hr2 M.c17.T.b .nil pass0 (by rfl) M.c17.T.g (pa_cons (pv 0) pa_nil)))) su3)
      (pss_one (ps_ret (pv 1)))))), ?_⟩
    refine ⟨(by show 0 ≤ sizeLine; decide), fun l hl => ?_⟩
    have s0 := same_put (o := HO.lst []) hl
    dsimp only [gName, tSeq, tAsg]
    refine thr_of (K := K) (C := M.c10.C) (n := "index") (i := 0) (x := x) M.c10.T.own (M.c10.T.no "index" (by simp)) rfl ?_
    intro d1 H1 a1 n1 e1
    refine ⟨true, x10, fun _ b1 f1 => ?_, fun z => nomatch z⟩
    have l1 := a1 l _ upd_same
    refine ⟨.ref l, rfl, .inl ⟨rfl, _, SqL.of l1⟩, ⟨.ref b1, rfl, rfl, rfl, d1, [_], x, rfl, e1, rfl, ?_⟩⟩
    refine ⟨l, [], x, rfl, rfl, l1, (by show 0 < sizeLine; decide), ?_⟩
    have s1 := same_mut (p := l) (o := HO.lst [x]) (s0.trans a1) hl
    dsimp only [gName, tSeq, tAsg]
    refine thr_of (K := K) (C := M.c13.C) (n := "given") (i := 0) (x := x) M.c13.T.own (M.c13.T.no "given" (by simp)) rfl ?_
    intro d2 H2 a2 n2 e2
    refine ⟨true, x13, fun _ b2 f2 => ?_, fun z => nomatch z⟩
    have l2 := a2 l _ upd_same
    refine ⟨.ref l, rfl, .inl ⟨rfl, _, SqL.of l2⟩, ⟨.ref b2, rfl, rfl, rfl, d2, [_], x, rfl, e2, rfl, ?_⟩⟩
    refine ⟨l, [x], x, rfl, rfl, l2, (by show 1 < sizeLine; decide), ?_⟩
    have s2 := same_mut (p := l) (o := HO.lst [x, x]) (s1.trans a2) hl
    dsimp only [gName, tSeq, tAsg]
    refine thr_of (K := K) (C := M.c17.C) (n := "most") (i := 0) (x := x) M.c17.T.own (M.c17.T.no "most" (by simp)) rfl ?_
    intro d3 H3 a3 n3 e3
    refine ⟨true, x17, fun _ b3 f3 => ?_, fun z => nomatch z⟩
    have l3 := a3 l _ upd_same
    refine ⟨.ref l, rfl, .inl ⟨rfl, _, SqL.of l3⟩, ⟨.ref b3, rfl, rfl, rfl, d3, [_], x, rfl, e3, rfl, ?_⟩⟩
    refine ⟨l, [x, x], x, rfl, rfl, l3, (by show 2 < sizeLine; decide), ?_⟩
    have s3 := same_mut (p := l) (o := HO.lst [x, x, x]) (s2.trans a3) hl
    exact ⟨.ref l, rfl, q l _ s3 upd_same⟩
end My
set_option Elab.async false
set_option linter.all false
set_option maxRecDepth 100000
set_option maxHeartbeats 4000000
namespace My
open PySem PySem.Spec PyProof.Rows L2 Gn
variable {P : Program} {w : World} {K : PySem.W.Frag} {mg : Str → Option Value} {base : Heap}
/-- what is due under its word -/
def dueOf (x : V) (i : Nat) : V := if wordOf i = "" then .str "nothing" else x
theorem has_at (M : Cls P w K mg base) (x y : V) : ∀ i, i < 19 → Has K (M.at i) (fsOf x y i) (wordOf i) (dueOf x i)
  | 0, _ => .inr ⟨.inl rfl, M.c0.T.xf, M.c0.T.no "given" (by simp), List.cons_ne_nil _ _, rfl⟩
  | 1, _ => .inr ⟨.inl rfl, M.c1.T.xf, M.c1.T.no "given" (by simp), List.cons_ne_nil _ _, rfl⟩
  | 2, _ => .inr ⟨.inl rfl, M.c2.T.xf, M.c2.T.no "given" (by simp), List.cons_ne_nil _ _, rfl⟩
  | 3, _ => .inr ⟨.inl rfl, M.c3.T.xf, M.c3.T.no "given" (by simp), List.cons_ne_nil _ _, rfl⟩
  | 4, _ => .inr ⟨.inl rfl, M.c4.T.xf, M.c4.T.no "given" (by simp), List.cons_ne_nil _ _, rfl⟩
  | 5, _ => .inr ⟨.inl rfl, M.c5.T.xf, M.c5.T.no "given" (by simp), List.cons_ne_nil _ _, rfl⟩
  | 6, _ => .inr ⟨.inl rfl, M.c6.T.xf, M.c6.T.no "given" (by simp), List.cons_ne_nil _ _, rfl⟩
  | 7, _ => .inr ⟨.inl rfl, M.c7.T.xf, M.c7.T.no "given" (by simp), List.cons_ne_nil _ _, rfl⟩
  | 8, _ => .inr ⟨.inl rfl, M.c8.T.xf, M.c8.T.no "given" (by simp), List.cons_ne_nil _ _, rfl⟩
  | 9, _ => .inr ⟨.inl rfl, M.c9.T.xf, M.c9.T.no "given" (by simp), List.cons_ne_nil _ _, rfl⟩
  | 10, _ => .inr ⟨.inr (.inl rfl), M.c10.T.xf, M.c10.T.no "index" (by simp), List.cons_ne_nil _ _, rfl⟩
  | 11, _ => .inr ⟨.inr (.inl rfl), M.c11.T.xf, M.c11.T.no "index" (by simp), List.cons_ne_nil _ _, rfl⟩
  | 12, _ => .inr ⟨.inr (.inl rfl), M.c12.T.xf, M.c12.T.no "index" (by simp), List.cons_ne_nil _ _, rfl⟩
  | 13, _ => .inr ⟨.inl rfl, M.c13.T.xf, M.c13.T.no "given" (by simp), List.cons_ne_nil _ _, rfl⟩
  | 14, _ => .inr ⟨.inr (.inl rfl), M.c14.T.xf, M.c14.T.no "index" (by simp), List.cons_ne_nil _ _, rfl⟩
  | 15, _ => .inl ⟨rfl, rfl⟩
  | 16, _ => .inl ⟨rfl, rfl⟩
  | 17, _ => .inr ⟨.inr (.inr rfl), M.c17.T.xf, M.c17.T.no "most" (by simp), List.cons_ne_nil _ _, rfl⟩
  | 18, _ => .inr ⟨.inr (.inl rfl), M.c18.T.xf, M.c18.T.no "index" (by simp), List.cons_ne_nil _ _, rfl⟩
  | _ + 19, z => absurd z (by omega)
theorem ex_at (M : Cls P w K mg base) : ∀ i, i < 19 → ExcC K (M.at i)
  | 0, _ => M.c0.T.ex
  | 1, _ => M.c1.T.ex
  | 2, _ => M.c2.T.ex
  | 3, _ => M.c3.T.ex
  | 4, _ => M.c4.T.ex
  | 5, _ => M.c5.T.ex
  | 6, _ => M.c6.T.ex
  | 7, _ => M.c7.T.ex
  | 8, _ => M.c8.T.ex
  | 9, _ => M.c9.T.ex
  | 10, _ => M.c10.T.ex
  | 11, _ => M.c11.T.ex
  | 12, _ => M.c12.T.ex
  | 13, _ => M.c13.T.ex
  | 14, _ => M.c14.T.ex
  | 15, _ => M.c15.T.ex
  | 16, _ => M.c16.T.ex
  | 17, _ => M.c17.T.ex
  | 18, _ => M.c18.T.ex
  | _ + 19, z => absurd z (by omega)
/-- the thirteen, the three and the three -/
def Ofs (B : Bs mg) (M : Cls P w K mg base) : Prop := ∀ i, i < 19 → Of K B (M.at i) (decide (i < 13)) (decide (13 ≤ i ∧ i < 16)) (decide (16 ≤ i))
theorem every_at {M : Cls P w K mg base} {x y : V} {i : Nat} (h : i < 19) : (everyF M x y)[i]? = some (isP (M.at i) (fsOf x y i) (wordOf i)) := by
  unfold everyF
  rw [List.getElem?_map, List.getElem?_range h]
  rfl
theorem named_at {M : Cls P w K mg base} {x y : V} {i : Nat} (h : i < 19) : (namedF M x y)[i]? = some (isE (M.at i) (fsOf x y i)) := by
  unfold namedF
  rw [List.getElem?_map, List.getElem?_range h]
  rfl
end My
set_option Elab.async false
set_option linter.all false
set_option maxRecDepth 100000
set_option maxHeartbeats 8000000
namespace My
open PySem PySem.Spec PyProof.Rows L2 Gn
variable {P : Program} {w : World} {K : PySem.W.Frag} {mg : Str → Option Value} {base : Heap}
theorem scRight : FnScope ["_law_thing", "_law_other_thing", "_law_some", "_law_others", "_law_k", "_law_base", "_law_due", "_law_e", "_law_last"] ["_law_thing", "_law_other_thing"] (defScope sRight) := ⟨rfl, rfl, rfl, by decide +kernel, rfl, by decide +kernel, by decide +kernel⟩
theorem sqT_same {H H' : Hp} {a : Addr} {xs : List V} {K : PySem.W.Frag} (e : Same H H') (h : SqT K H a xs) : SqT K H' a xs := by
  rcases h with (h | ⟨o, h⟩) | h
  · exact .inl (.inl (e _ _ h))
  · exact .inl (.inr ⟨o, e _ _ h⟩)
  · exact .inr h
mutual
theorem dp_same {K : PySem.W.Frag} {H H' : Hp} (e : Same H H') : ∀ (d : PyData) (v : V), Dp K H v d → Dp K H' v d
  | .none, _, h => by cases h; exact .non
  | .bool b, _, h => by cases h; exact .bl b
  | .int i, _, h => by cases h; exact .int i
  | .str x, _, h => by cases h; exact .str x
  | .list ds, _, h => by cases h with | lst a b => exact .lst (e.seq a) (dps_same e ds _ b)
  | .tuple ds, _, h => by cases h with | tup a b => exact .tup (sqT_same e a) (dps_same e ds _ b)
  | .dict _, _, h => by cases h
theorem dps_same {K : PySem.W.Frag} {H H' : Hp} (e : Same H H') : ∀ (ds : List PyData) (vs : List V), DpAll K H vs ds → DpAll K H' vs ds
  | [], _, h => by cases h; exact .nil
  | d :: ds, _, h => by cases h with | cons a b => exact .cons (dp_same e d _ a) (dps_same e ds _ b)
end
theorem sm_nothing : Sm 2000 1 (.str "nothing") := ⟨rfl, by decide +kernel, by decide +kernel, by decide +kernel⟩
theorem due_dp {K : PySem.W.Frag} {H : Hp} {x : V} {dx : PyData} (h : Dp K H x dx) (s : Sm 2000 1 dx) (i : Nat) : ∃ D, (∀ H', Same H H' → Dp K H' (dueOf x i) D) ∧ Sm 2000 1 D := by
  unfold dueOf
  by_cases e : wordOf i = ""
  · exact ⟨.str "nothing", fun H' _ => by rw [if_pos e]; exact .str _, sm_nothing⟩
  · exact ⟨dx, fun H' a => by rw [if_neg e]; exact dp_same a dx x h, s⟩
structure Df (K : PySem.W.Frag) (mg : Str → Option Value) (x : Str) (st : Stmt) (ps : List Str) (f : Addr) (fd : FuncData) : Prop where
  F : Fun K x x st f fd
  g : mg x = some (.ref f)
  b : Binds K fd ps []
def spRight (K : PySem.W.Frag) : Sp := fun vs H Q _ => ∃ (x y : V) (dx dy : PyData), vs = [x, y] ∧ Dp K H x dx ∧ Dp K H y dy ∧ Sm 2000 1 dx ∧ Sm 2000 1 dy ∧ ∀ H', Same H H' → Q (.bl true) H'
structure Bw (mg : Str → Option Value) : Prop where
  len : mg "len" = none
  range : mg "range" = none
  repr : mg "repr" = none
theorem lasts_every (M : Cls P w K mg base) (x y : V) : LastsAll (everyF M x y) := fun R h => by
  obtain ⟨i, _, rfl⟩ := List.mem_map.mp h
  exact lasts_P
theorem lasts_named (M : Cls P w K mg base) (x y : V) : LastsAll (namedF M x y) := fun R h => by
  obtain ⟨i, _, rfl⟩ := List.mem_map.mp h
  exact lasts_E
theorem ok_right {f fe fn fh fb fc : Addr} {fd de dn dh db dc : FuncData} (F : Fun K "_law_right" "_law_right" sRight f fd) (M : Cls P w K mg base) (B : Bs mg) (W : Bw mg) (hO : Ofs B M)
    (x10 : PySem.W.exmOne K (.ref M.c10.C) (.ref B.R0) = some true) (x13 : PySem.W.exmOne K (.ref M.c13.C) (.ref B.R1) = some true) (x17 : PySem.W.exmOne K (.ref M.c17.C) (.ref B.R2) = some true)
    (De : Df K mg "_law_every" sEvery ["_law_thing", "_law_other_thing"] fe de) (Dn : Df K mg "_law_named" sNamed ["_law_thing", "_law_other_thing"] fn dn) (Dh : Df K mg "_law_has" sHas ["_law_e", "_law_field"] fh dh)
    (Db : Df K mg "_law_bases" sBases ["_law_e"] fb db) (Dc : Df K mg "_law_caught" sCaught ["_law_thing"] fc dc) : FnG P w K mg base CX0 4 f fd ["_law_thing", "_law_other_thing"] (spRight K) := by
  have GE : FnOk P w K mg base CX0 3 fe de ["_law_thing", "_law_other_thing"] (spEvery M) := ok_every M De.F
  have GN : FnOk P w K mg base CX0 3 fn dn ["_law_thing", "_law_other_thing"] (spNamed M) := ok_named M Dn.F
  have GH : FnOk P w K mg base CX0 1 fh dh ["_law_e", "_law_field"] (spHas K) := ok_has Dh.F
  have GB : FnOk P w K mg base CX0 1 fb db ["_law_e"] (spBases K B) := ok_bases Db.F B
  have GC : FnOk P w K mg base CX0 3 fc dc ["_law_thing"] spCaught := ok_caught Dc.F M B x10 x13 x17
  refine funG0 F scRight (fun vs H Q E h => ?_) (fun cdv A outer s H vs Q E hg hr h => ?_)
  · obtain ⟨x, y, dx, dy, rfl, _⟩ := h
    rfl
  · obtain ⟨x, y, dx, dy, rfl, hx, hy, sx, sy, q⟩ := h
    have hr1 : Room 1 _ := hr.mono (by decide)
    have hu := hr.units
    refine ⟨_, pss_cons (ps_par (i := 2) (j := 3) rfl scRight.nd rfl rfl (by decide) rfl rfl (pa_cons (pe_call GE hr (by rfl) De.g De.F.kp De.b .nil pass0 (pa_cons (pv 0) (pa_cons (pv 1) pa_nil))) (pa_cons (pe_call GN hr (by rfl) Dn.g Dn.F.kp Dn.b .nil pass0 (pa_cons (pv 0) (pa_cons (pv 1) pa_nil))) pa_nil)) (by rfl))
      (pss_cons (ps_for PassesOwn.never rfl (pi_range1 rfl W.range (pa_cons (pe_callB call_len_seq (by rfl) W.len PySem.boot_len (pa_cons (pv 2) pa_nil)) pa_nil)) (pg_name (i := 4) scRight.nd rfl (.inl rfl))
        (pss_cons (ps_set (i := 5) scRight.nd rfl (.inl rfl) (pe_ifExp (pt_cmpR op_lt (pv 4) pe_int (nomark _)) pe_int (pe_ifExp (pt_cmpR op_lt (pv 4) pe_int (nomark _)) pe_int pe_int)))
        (pss_cons (ps_set (i := 6) scRight.nd rfl (.inl rfl) (pe_op op_rep (pe_lst (pa_cons (pe_cmpR op_eq (pv 5) pe_int (nomark _)) (pa_cons (pe_cmpR op_eq (pv 5) pe_int (nomark _)) (pa_cons (pe_cmpR op_eq (pv 5) pe_int (nomark _)) pa_nil)))) pe_int))
        (pss_one (ps_for PassesOwn.never rfl (pi_list (pe_lst (pa_cons (pe_ix ix_list (pe_ix ix_list (pv 2) (pv 4) (fun _ _ => rfl)) pe_int (fun _ _ => rfl)) (pa_cons (pe_ix ix_list (pv 3) (pv 4) (fun _ _ => rfl)) pa_nil)))) (pg_name (i := 7) scRight.nd rfl (.inl rfl))
          (pss_cons (ps_if (pt_cmpR (op_neD hu) (pe_call GB hr1 (by rfl) Db.g Db.F.kp Db.b .nil pass0 (pa_cons (pv 7) pa_nil)) (pv 6) (nomark _)) (pss_one (ps_ret pe_bl)) pss_nil)
          (pss_one (ps_if (pt_cmpR op_ne
              (pe_callB (cr_reprV hg hu) (by rfl) W.repr (by decide +kernel) (pa_cons (pe_call GH hr1 (by rfl) Dh.g Dh.F.kp Dh.b .nil pass0 (pa_cons (pv 7) (pa_cons (pe_ix ix_list (pe_ix ix_list (pv 2) (pv 4) (fun _ _ => rfl)) pe_int (fun _ _ => rfl)) pa_nil))) pa_nil))
              (pe_callB (cr_reprV hg hu) (by rfl) W.repr (by decide +kernel) (pa_cons (pe_ifExp (pt_cmpR op_ne (pe_ix ix_list (pe_ix ix_list (pv 2) (pv 4) (fun _ _ => rfl)) pe_int (fun _ _ => rfl)) pe_str (nomark _)) (pv 0) pe_str) pa_nil)) (nomark _))
            (pss_one (ps_ret pe_bl)) pss_nil))))))))
      (pss_cons (ps_set (i := 8) scRight.nd rfl (.inl rfl) (pe_lst (pa_cons (pe_ix ix_list (pe_ix ix_list (pv 2) pe_int (fun _ _ => rfl)) pe_int (fun _ _ => rfl)) (pa_cons (pe_ix ix_list (pv 3) pe_int (fun _ _ => rfl)) pa_nil))))
      (pss_one (ps_ret (pe_and (pe_cmpR op_eq
          (pe_callB (cr_reprV hg hu) (by rfl) W.repr (by decide +kernel) (pa_cons (pe_lc (te := tFld K "shown" (tVar 7)) (own := [("_law_e", 7)]) (g := gName 7) (tt := tYes) rfl scRight.nd (pi_list (pv 8))
            (blkOk_by (N := ["_law_thing", "_law_other_thing", "_law_some", "_law_others", "_law_k", "_law_base", "_law_due", "_law_e", "_law_last"]) (sc := defScope sRight) (by decide +kernel)) (fun _ _ _ _ _ => pg_name (i := 7) scRight.nd rfl (.inl rfl)) (fun _ _ _ _ _ => pts_nil) (fun _ _ _ _ _ => pe_fld (pv 7))) pa_nil))
          (pe_callB (cr_reprV hg hu) (by rfl) W.repr (by decide +kernel) (pa_cons (pe_op op_rep (pe_lst (pa_cons (pv 1) pa_nil)) pe_int) pa_nil)) (nomark _))
        (pe_one (pe_cmpR op_eq
          (pe_callB (cr_reprV hg hu) (by rfl) W.repr (by decide +kernel) (pa_cons (pe_call GC hr (by rfl) Dc.g Dc.F.kp Dc.b .nil pass0 (pa_cons (pv 0) pa_nil)) pa_nil))
          (pe_callB (cr_reprV hg hu) (by rfl) W.repr (by decide +kernel) (pa_cons (pe_op op_rep (pe_lst (pa_cons (pv 0) pa_nil)) pe_int) pa_nil)) (nomark _)))))))), ?_⟩
    refine ⟨_, rfl, _, rfl, x, y, rfl, fun v1 H1 a1 e1 => ?_⟩
    refine ⟨_, rfl, _, rfl, x, y, rfl, fun v2 H2 a2 e2 => ?_⟩
    refine ⟨_, _, rfl, ?_⟩
    replace e1 := lasts_L (lasts_every M x y) _ _ _ a2 e1
    obtain ⟨p1, ps, rfl, l1, F1⟩ := e1
    obtain ⟨p2, es, rfl, l2, F2⟩ := e2
    have n1 : ps.length = 19 := F1.len
    have n2 : es.length = 19 := F2.len
    refine ⟨_, rfl, p1, ps, rfl, .inl (SqL.of l1), _, rfl, by rw [n1]; decide, by rw [n1]; decide, ?_⟩
    rw [n1]
    refine for_range (lo := 0) (n := 19) (fun i σ H' => ∃ a b c d, σ = [some x, some y, some (.ref p1), some (.ref p2), a, b, c, d, none] ∧ Same H2 H') ⟨none, none, none, none, rfl, Same.refl _⟩ ?_ ?_
    · rintro i _ H3 hi ⟨a, b, c, d, rfl, s3⟩
      obtain ⟨v, hv, pf⟩ := F1.at _ (every_at hi)
      obtain ⟨u, hu2, ef⟩ := F2.at _ (named_at hi)
      obtain ⟨pp, pv2, rfl, lp, Fp⟩ := lasts_P _ _ _ s3 pf
      obtain ⟨e', rfl, ke'⟩ := lasts_E _ _ _ s3 ef
      obtain ⟨e, rfl, ke⟩ : ∃ e : Addr, pv2 = [.ref e, .str (wordOf i)] ∧ Kept H3 e (M.at i) (fsOf x y i) := by
        match pv2, Fp with
        | [q0, q1], ⟨⟨e, h1, h2⟩, h3, _⟩ => exact ⟨e, by rw [h1, show q1 = V.str (wordOf i) from h3], h2⟩
      rw [show (0 : Int) + (i : Int) = (i : Int) from Int.zero_add _]
      refine ⟨_, rfl, _, _, rfl, rfl, _, rfl, ?_⟩
      refine tif (.int 0) (.int (if i < 16 then 1 else 2)) (fun _ R z => z) (fun _ R z => ?_) (fun bv g1 g2 => ?_)
      · refine ⟨_, rfl, _, _, rfl, rfl, _, rfl, ?_⟩
        refine tif (.int 1) (.int 2) (fun _ R z => z) (fun _ R z => z) (fun v h1 h2 => ?_)
        by_cases h : i < 16
        · rw [if_pos h] at z
          rw [h1 (decide_eq_true (by omega))]
          exact z
        · rw [if_neg h] at z
          rw [h2 (decide_eq_false (by omega))]
          exact z
      obtain ⟨bb, rfl, j0, j1, j2⟩ : ∃ b : Int, bv = .int b ∧ decide (V.int b = V.int 0) = decide (i < 13) ∧ decide (V.int b = V.int 1) = decide (13 ≤ i ∧ i < 16) ∧ decide (V.int b = V.int 2) = decide (16 ≤ i) := by
        by_cases h : i < 13
        · refine ⟨0, g1 (decide_eq_true (by omega)), ?_, ?_, ?_⟩
          · rw [decide_eq_true h]; rfl
          · rw [decide_eq_false (p := 13 ≤ i ∧ i < 16) (by omega)]; rfl
          · rw [decide_eq_false (p := 16 ≤ i) (by omega)]; rfl
        · have g3 := g2 (decide_eq_false (by omega))
          by_cases h' : i < 16
          · rw [if_pos h'] at g3
            refine ⟨1, g3, ?_, ?_, ?_⟩
            · rw [decide_eq_false h]; rfl
            · rw [decide_eq_true (p := 13 ≤ i ∧ i < 16) (by omega)]; rfl
            · rw [decide_eq_false (p := 16 ≤ i) (by omega)]; rfl
          · rw [if_neg h'] at g3
            refine ⟨2, g3, ?_, ?_, ?_⟩
            · rw [decide_eq_false h]; rfl
            · rw [decide_eq_false (p := 13 ≤ i ∧ i < 16) (by omega)]; rfl
            · rw [decide_eq_true (p := 16 ≤ i) (by omega)]; rfl
      have oi := hO i hi
      refine ⟨_, rfl, rfl, _, rfl, rfl, _, rfl, rfl, ?_⟩
      rw [j0, j1, j2]
      generalize decide (i < 13) = b0 at oi ⊢
      generalize decide (13 ≤ i ∧ i < 16) = b1 at oi ⊢
      generalize decide (16 ≤ i) = b2 at oi ⊢
      refine ⟨(by show 3 ≤ sizeLine; decide), fun t1 ht1 => ?_⟩
      have c1 := same_put (o := HO.lst [.bl b0, .bl b1, .bl b2]) ht1
      refine ⟨t1, 2, _, rfl, rfl, upd_same, by decide, by decide, (by show 3 * 2 ≤ sizeLine; decide), fun t2 ht2 => ?_⟩
      have c2 := same_put (o := HO.lst [.bl b0, .bl b1, .bl b2, .bl b0, .bl b1, .bl b2]) ht2
      have s5 := c1.trans c2
      have m1 := s5 _ _ (s3 _ _ l1)
      have m2 := s5 _ _ (s3 _ _ l2)
      refine ⟨_, rfl, _, rfl, p1, ps, (i : Int), .ref pp, rfl, rfl, SqL.of m1, at_of (j := i) (by omega) hv, pp, _, 0, .ref e, rfl, rfl, SqL.of (s5 _ _ lp), rfl, ?_⟩
      refine ⟨_, rfl, _, rfl, p2, es, (i : Int), .ref e', rfl, rfl, SqL.of m2, at_of (j := i) (by omega) hu2, (by show 2 ≤ sizeLine; decide), fun t3 ht3 => ?_⟩
      have c3 := same_put (o := HO.lst [.ref e, .ref e']) ht3
      have z3 : Same H2 _ := (s3.trans s5).trans c3
      obtain ⟨DD, hDD, sD⟩ := due_dp hx sx i
      refine ⟨t3, rfl, ⟨_, .inl (.inl upd_same)⟩, for_list (K := K) (a := t3) (xs := [.ref e, .ref e']) (fun j σ H' => ∃ z, σ = [some x, some y, some (.ref p1), some (.ref p2), some (.int (i : Int)), some (.int bb), some (.ref t2), z, none] ∧ Same (upd (upd (upd H3 t1 _) t2 _) t3 _) H')
        ⟨d, rfl, Same.refl _⟩ (fun j σ H' _ ⟨_, _, s6⟩ => .inl (.inl (s6 _ _ upd_same))) ?_ ?_⟩
      · rintro j v _ H6 hj ⟨z, rfl, s6⟩
        have w6 := z3.trans s6
        obtain ⟨ee, rfl, kk⟩ : ∃ ee, v = .ref ee ∧ Gn.Kept H6 ee (M.at i) (fsOf x y i) := by
          rcases List.mem_cons.mp (List.mem_of_getElem? hj) with rfl | z
          · exact ⟨e, rfl, (ke.same s5).same (c3.trans s6)⟩
          · obtain rfl := List.mem_singleton.mp z
            exact ⟨e', rfl, (ke'.same s5).same (c3.trans s6)⟩
        refine ⟨_, rfl, ee, M.at i, fsOf x y i, b0, b1, b2, rfl, kk, ex_at M i hi, oi, fun r H7 a7 er => ?_⟩
        have f2 : H7 t2 = some (.lst [.bl b0, .bl b1, .bl b2, .bl b0, .bl b1, .bl b2]) := a7 _ _ (s6 _ _ (c3 _ _ upd_same))
        have dl : ∀ l : Addr, H7 l = some (.lst [.bl b0, .bl b1, .bl b2, .bl b0, .bl b1, .bl b2]) → Dp K H7 (.ref l) (.list [.bool b0, .bool b1, .bool b2, .bool b0, .bool b1, .bool b2]) := fun l h =>
          .lst (SqL.of h) (.cons (.bl _) (.cons (.bl _) (.cons (.bl _) (.cons (.bl _) (.cons (.bl _) (.cons (.bl _) .nil))))))
        refine ⟨_, rfl, _, _, dl _ er, dl _ f2, rfl, rfl, _, rfl, ?_⟩
        rw [SeqAt.eqv_refl _ (by rfl)]
        refine iteF ?_
        have w7 := w6.trans a7
        have k7 := kk.same a7
        have lp7 : H7 pp = some (.lst [.ref e, .str (wordOf i)]) := a7 _ _ (s6 _ _ (c3 _ _ (s5 _ _ lp)))
        refine ⟨_, rfl, _, rfl, _, rfl, p1, ps, (i : Int), .ref pp, rfl, rfl, SqL.of (w7 _ _ l1), at_of (j := i) (by omega) hv, pp, _, 1, .str (wordOf i), rfl, rfl, SqL.of lp7, rfl, ?_⟩
        refine ⟨ee, M.at i, fsOf x y i, wordOf i, dueOf x i, rfl, k7, has_at M x y i hi, ?_⟩
        have d7 := hDD _ ((a1.trans a2).trans w7)
        refine ⟨_, DD, rfl, d7, sD.sh, Nat.lt_of_le_of_lt sD.dp (by decide), Nat.le_trans sD.ln (by decide), ?_⟩
        refine ⟨_, rfl, _, rfl, p1, ps, (i : Int), .ref pp, rfl, rfl, SqL.of (w7 _ _ l1), at_of (j := i) (by omega) hv, pp, _, 1, .str (wordOf i), rfl, rfl, SqL.of lp7, rfl, rfl, _, rfl, ?_⟩
        refine tif x (.str "nothing") (fun _ R z => ⟨_, rfl, z⟩) (fun _ R z => z) (fun v g1 g2 => ?_)
        obtain rfl : v = dueOf x i := by
          unfold dueOf
          by_cases h : wordOf i = ""
          · rw [if_pos h]
            exact g2 (by rw [h]; rfl)
          · rw [if_neg h]
            exact g1 (by rw [decide_eq_false (fun z => h (V.str.inj z))]; rfl)
        refine ⟨_, DD, rfl, d7, sD.sh, Nat.lt_of_le_of_lt sD.dp (by decide), Nat.le_trans sD.ln (by decide), ?_⟩
        refine ⟨rfl, _, rfl, ?_⟩
        rw [decide_eq_true rfl]
        exact iteF ⟨_, rfl, s6.trans a7⟩
      · rintro _ H6 ⟨z, rfl, s6⟩
        exact ⟨_, _, _, _, rfl, (s3.trans s5).trans (c3.trans s6)⟩
    · rintro _ H3 ⟨a, b, c, d, rfl, s3⟩
      obtain ⟨v, hv, pf⟩ := F1.at _ (every_at (i := 18) (by decide))
      obtain ⟨u, hu2, ef⟩ := F2.at _ (named_at (i := 18) (by decide))
      obtain ⟨pp, pv2, rfl, lp, Fp⟩ := lasts_P _ _ _ s3 pf
      obtain ⟨e', rfl, ke'⟩ := lasts_E _ _ _ s3 ef
      obtain ⟨e, rfl, ke⟩ : ∃ e : Addr, pv2 = [.ref e, .str (wordOf 18)] ∧ Gn.Kept H3 e (M.at 18) (fsOf x y 18) := by
        match pv2, Fp with
        | [q0, q1], ⟨⟨e, h1, h2⟩, h3, _⟩ => exact ⟨e, by rw [h1, show q1 = V.str (wordOf 18) from h3], h2⟩
      refine ⟨_, rfl, p1, ps, 18, .ref pp, rfl, rfl, SqL.of (s3 _ _ l1), at_of (j := 18) rfl hv, pp, _, 0, .ref e, rfl, rfl, SqL.of lp, rfl, ?_⟩
      refine ⟨_, rfl, p2, es, 18, .ref e', rfl, rfl, SqL.of (s3 _ _ l2), at_of (j := 18) rfl hu2, (by show 2 ≤ sizeLine; decide), fun t1 ht1 => ?_⟩
      have c1 := same_put (o := HO.lst [.ref e, .ref e']) ht1
      refine ⟨_, rfl, t1, rfl, ⟨_, .inl (.inl upd_same)⟩, fun D hD => ?_⟩
      have c2 : Same (upd H3 t1 (.lst [.ref e, .ref e'])) (upd (upd H3 t1 (.lst [.ref e, .ref e'])) D (.lst [])) := same_put hD
      refine lc_list (K := K) (a := t1) (xs := [.ref e, .ref e']) (fun j H' => H' D = some (.lst (List.replicate j y)) ∧ Same (upd H3 t1 (.lst [.ref e, .ref e'])) H') ⟨upd_same, c2⟩ (fun j H' _ ⟨_, s6⟩ => .inl (.inl (s6 _ _ upd_same))) ?_ ?_
      · rintro j v H6 hj ⟨h1, s6⟩
        obtain ⟨ee, rfl, kk⟩ : ∃ ee, v = .ref ee ∧ Gn.Kept H6 ee (M.at 18) (fsOf x y 18) := by
          rcases List.mem_cons.mp (List.mem_of_getElem? hj) with rfl | z
          · exact ⟨e, rfl, ke.same (c1.trans s6)⟩
          · obtain rfl := List.mem_singleton.mp z
            exact ⟨e', rfl, ke'.same (c1.trans s6)⟩
        refine ⟨rfl, ?_⟩
        dsimp only [tYes]
        rw [if_pos rfl]
        refine fld_of (C := M.at 18) (e := ee) (fs := fsOf x y 18) (d := "shown") (r := y) (i := 7) ?_ kk M.c18.T.xf (M.c18.T.no "shown" (by simp)) (List.cons_ne_nil _ _) rfl ?_
        · rfl
        refine ⟨_, h1, ?_, ?_, fun c z e => ?_⟩
        · have := (List.getElem?_eq_some_iff.mp hj).1
          rw [List.length_replicate, sizeLine_eq]
          simp only [List.length_cons, List.length_nil] at this
          omega
        · rw [upd_same, List.replicate_succ']
        · rw [upd_ne (ne_of_none e hD)]
          exact s6 _ _ e
      rintro H6 ⟨h1, s6⟩
      have w6 := ((a1.trans a2).trans s3).trans (c1.trans s6)
      have hL : ∀ (d : PyData) (n : Nat), Sm 2000 1 d → n ≤ 3 → Sm 6009 2 (.list (List.replicate n d)) := fun d n s hn =>
        Sm.lst (c := 2000) (e := 1) (n := 3) (fun d' h => by rw [(List.mem_replicate.mp h).2]; exact s) (by rw [List.length_replicate]; exact hn)
      have sy2 := hL dy 2 sy (by decide)
      have sx3 := hL dx 3 sx (by decide)
      refine ⟨.ref D, .list [dy, dy], rfl, .lst (SqL.of h1) (.cons (dp_same w6 dy y hy) (.cons (dp_same w6 dy y hy) .nil)), sy2.sh, Nat.lt_of_le_of_lt sy2.dp (by decide), Nat.le_trans sy2.ln (by decide), ?_⟩
      refine ⟨_, rfl, (by show 1 ≤ sizeLine; decide), fun t4 ht4 => ?_⟩
      have c4 := same_put (o := HO.lst [y]) ht4
      refine ⟨t4, 2, _, rfl, rfl, upd_same, by decide, by decide, (by show 1 * 2 ≤ sizeLine; decide), fun t5 ht5 => ?_⟩
      have c5 := same_put (o := HO.lst [y, y]) ht5
      have w8 := w6.trans (c4.trans c5)
      refine ⟨.ref t5, .list [dy, dy], rfl, .lst (SqL.of upd_same) (.cons (dp_same w8 dy y hy) (.cons (dp_same w8 dy y hy) .nil)), sy2.sh, Nat.lt_of_le_of_lt sy2.dp (by decide), Nat.le_trans sy2.ln (by decide), ?_⟩
      refine ⟨rfl, _, rfl, ?_⟩
      rw [decide_eq_true rfl]
      refine iteT ?_
      refine ⟨_, rfl, x, rfl, fun r H9 a9 er => ?_⟩
      have w9 := w8.trans a9
      refine ⟨.ref r, .list [dx, dx, dx], rfl, .lst (SqL.of er) (.cons (dp_same w9 dx x hx) (.cons (dp_same w9 dx x hx) (.cons (dp_same w9 dx x hx) .nil))), sx3.sh, Nat.lt_of_le_of_lt sx3.dp (by decide), Nat.le_trans sx3.ln (by decide), ?_⟩
      refine ⟨_, rfl, (by show 1 ≤ sizeLine; decide), fun t6 ht6 => ?_⟩
      have c6 := same_put (o := HO.lst [x]) ht6
      refine ⟨t6, 3, _, rfl, rfl, upd_same, by decide, by decide, (by show 1 * 3 ≤ sizeLine; decide), fun t7 ht7 => ?_⟩
      have c7 := same_put (o := HO.lst [x, x, x]) ht7
      have w10 := w9.trans (c6.trans c7)
      refine ⟨.ref t7, .list [dx, dx, dx], rfl, .lst (SqL.of upd_same) (.cons (dp_same w10 dx x hx) (.cons (dp_same w10 dx x hx) (.cons (dp_same w10 dx x hx) .nil))), sx3.sh, Nat.lt_of_le_of_lt sx3.dp (by decide), Nat.le_trans sx3.ln (by decide), ?_⟩
      refine ⟨rfl, ?_⟩
      rw [decide_eq_true rfl]
      exact q _ w10
end My
set_option Elab.async false
set_option linter.all false
set_option maxRecDepth 100000
set_option maxHeartbeats 8000000
namespace My
open PySem PySem.Spec PyProof.Rows L2 Gn
variable {P : Program} {w : World} {K : PySem.W.Frag} {mg : Str → Option Value} {base : Heap}
theorem scLaw : FnScope ["_law_script", "_law_limits_here", "_law_things", "_law_each", "_law_k"] ["_law_script"] (defScope sLaw) := ⟨rfl, rfl, rfl, by decide +kernel, rfl, by decide +kernel, by decide +kernel⟩
def spLaw (K : PySem.W.Frag) : Sp := fun vs H Q _ => ∃ (a : Addr) (ns : List Int), vs = [.ref a] ∧ SqL K H a (ns.map V.int) ∧ ns.length ≤ 63 ∧ ∀ H', Q (.bl true) H'
structure Li (mg : Str → Option Value) : Prop where
  m0 : ∃ t, mg "MOST_COUNT" = some (.int (10 ^ 30) t)
  m1 : ∃ t, mg "MOST_MARK" = some (.int 40 t)
  m2 : ∃ t, mg "MOST_PART" = some (.int 60 t)
  m3 : ∃ t, mg "MOST_SIGHTINGS" = some (.int 20 t)
  m4 : ∃ t, mg "MOST_LISTED" = some (.int 12 t)
  m5 : ∃ t, mg "MOST_COUNTED" = some (.int 2000 t)
  all : mg "all" = none
  int : mg "int" = none
theorem sm_up {c c' e e' : Nat} {d : PyData} (s : Sm c e d) (h : c ≤ c') (h' : e ≤ e') : Sm c' e' d := ⟨s.sh, Nat.le_trans s.ln h, Nat.le_trans s.dp h', s.cl⟩
theorem at_last {xs : List V} (h : 0 < xs.length) : ∃ w, w ∈ xs ∧ atI xs (-1) = some w := by
  have hl : xs.length - 1 < xs.length := by omega
  refine ⟨xs[xs.length - 1], List.getElem_mem hl, ?_⟩
  unfold atI ixN
  rw [if_neg (by omega)]
  first
    | (rw [if_pos (by omega)]; rw [Option.bind_some]; rw [show ((-1 : Int) + (xs.length : Int)).toNat = xs.length - 1 by omega]; exact List.getElem?_eq_getElem hl)
    | (rw [if_pos (by omega)]; rw [Option.bind_some]; rw [show ((xs.length : Int) + (-1 : Int)).toNat = xs.length - 1 by omega]; exact List.getElem?_eq_getElem hl)
theorem at_prev {xs : List V} {i : Nat} (h : i < xs.length) : ∃ w, w ∈ xs ∧ atI xs ((i : Int) - 1) = some w := by
  cases i with
  | zero => exact at_last h
  | succ j =>
    have hj : j < xs.length := by omega
    exact ⟨xs[j], List.getElem_mem hj, at_of (j := j) (by omega) (List.getElem?_eq_getElem hj)⟩
theorem ok_law {f fR : Addr} {fd fdR : FuncData} (F : Fun K "law" "law" sLaw f fd) (L : Li mg) (W : Bw mg) (R : Df K mg "_law_right" sRight ["_law_thing", "_law_other_thing"] fR fdR) (GR : FnG P w K mg base CX0 4 fR fdR ["_law_thing", "_law_other_thing"] (spRight K)) :
    FnG P w K mg base CX0 5 f fd ["_law_script"] (spLaw K) := by
  obtain ⟨⟨u0, m0⟩, ⟨u1, m1⟩, ⟨u2, m2⟩, ⟨u3, m3⟩, ⟨u4, m4⟩, ⟨u5, m5⟩, hall, hint⟩ := L
  refine funG0 F scLaw (fun vs H Q E h => ?_) (fun cdv A outer s H vs Q E hg hr h => ?_)
  · obtain ⟨a, ns, rfl, _⟩ := h
    rfl
  · obtain ⟨a, ns, rfl, hS, hlen, q⟩ := h
    have hu := hr.units
    refine ⟨_, pss_cons (ps_set (i := 1) scLaw.nd rfl (.inl rfl) (pe_lst (pa_cons (pe_glob (v := .int (10 ^ 30)) rfl m0 ⟨_, rfl⟩) (pa_cons (pe_glob (v := .int 40) rfl m1 ⟨_, rfl⟩) (pa_cons (pe_glob (v := .int 60) rfl m2 ⟨_, rfl⟩)
        (pa_cons (pe_glob (v := .int 20) rfl m3 ⟨_, rfl⟩) (pa_cons (pe_glob (v := .int 12) rfl m4 ⟨_, rfl⟩) (pa_cons (pe_glob (v := .int 2000) rfl m5 ⟨_, rfl⟩) pa_nil))))))))
      (pss_cons (ps_if (pt_cmpR (op_neD hu) (pv 1) (pe_lst (pa_cons (pe_op op_pow pe_int pe_int) (pa_cons pe_int (pa_cons pe_int (pa_cons pe_int (pa_cons pe_int (pa_cons pe_int pa_nil))))))) (nomark _)) (pss_one (ps_ret pe_bl)) pss_nil)
      (pss_cons (ps_set (i := 2) scLaw.nd rfl (.inr rfl) (pe_op op_cat (pe_lst (pa_cons pe_non (pa_cons pe_str (pa_cons (pe_tup (pa_cons pe_int (pa_cons pe_str pa_nil))) (pa_cons pe_bl (pa_cons (pe_un un_neg pe_int) pa_nil))))))
        (pe_lc (te := tOp (rI (fun _ j => j ≠ 0) fun i j => .int (i.fmod j)) (tCB (fun xs H Q => (∃ i, xs = [V.int i] ∧ Q (.int i) H) ∨ ∃ k, xs = [V.bl k] ∧ Q (.int (if k then 1 else 0)) H) (tCons (tVar 3) tNil)) (tOp (rI CPow fun i j => .int (i ^ j.toNat)) (tC (.int 10)) (tC (.int 12)))) (own := [("_law_each", 3)]) (g := gName 3) (tt := tYes) rfl scLaw.nd (pi_list (pe_slice sl_list (pv 0) po_none (po_some pe_int)))
            (blkOk_by (N := ["_law_script", "_law_limits_here", "_law_things", "_law_each", "_law_k"]) (sc := defScope sLaw) (by decide +kernel)) (fun _ _ _ _ _ => pg_name (i := 3) scLaw.nd rfl (.inl rfl)) (fun _ _ _ _ _ => pts_nil)
            (fun _ _ _ _ _ => pe_op op_modN (pe_callTy call_int1 (by rfl) hint (by decide +kernel) (pa_cons (pv 3) pa_nil)) (pe_op op_pow pe_int pe_int)))))
      (pss_one (ps_ret (pe_callB (cr_all rfl) (by rfl) hall (by decide +kernel) (pa_cons
        (pe_lc (te := tCall (spRight K) [] E0 (tCons (tOp (rIxL K) (tVar 2) (tVar 4)) (tCons (tOp (rIxL K) (tVar 2) (tOp (rI0 fun i j => .int (i - j)) (tVar 4) (tC (.int 1)))) tNil))) (own := [("_law_k", 4)]) (g := gName 4) (tt := tYes) rfl scLaw.nd
          (pi_range1 rfl W.range (pa_cons (pe_callB call_len_seq (by rfl) W.len PySem.boot_len (pa_cons (pv 2) pa_nil)) pa_nil))
          (blkOk_by (N := ["_law_script", "_law_limits_here", "_law_things", "_law_each", "_law_k"]) (sc := defScope sLaw) (by decide +kernel)) (fun _ _ _ _ _ => pg_name (i := 4) scLaw.nd rfl (.inl rfl)) (fun _ _ _ _ _ => pts_nil)
          (fun _ _ _ _ _ => pe_callG GR hg hr (by rfl) R.g R.F.kp R.b .nil pass0 (pa_cons (pe_ix ix_list (pv 2) (pv 4) (fun _ _ => rfl)) (pa_cons (pe_ix ix_list (pv 2) (pe_op op_sub (pv 4) pe_int) (fun _ _ => rfl)) pa_nil)))) pa_nil)))))), ?_⟩
    refine ⟨(by show 6 ≤ sizeLine; decide), fun t1 ht1 => ?_⟩
    have c1 := same_put (o := HO.lst [.int (10 ^ 30), .int 40, .int 60, .int 20, .int 12, .int 2000]) ht1
    refine ⟨_, rfl, _, _, rfl, rfl, ⟨by decide, by decide, by decide⟩, (by show 6 ≤ sizeLine; decide), fun t2 ht2 => ?_⟩
    have c2 := same_put (o := HO.lst [.int (10 ^ 30), .int 40, .int 60, .int 20, .int 12, .int 2000]) ht2
    have dl : ∀ (H' : Hp) (l : Addr), H' l = some (.lst [.int (10 ^ 30), .int 40, .int 60, .int 20, .int 12, .int 2000]) → Dp K H' (.ref l) (.list [.int (10 ^ 30), .int 40, .int 60, .int 20, .int 12, .int 2000]) := fun H' l h =>
      .lst (SqL.of h) (.cons (.int _) (.cons (.int _) (.cons (.int _) (.cons (.int _) (.cons (.int _) (.cons (.int _) .nil))))))
    refine ⟨_, _, dl _ t1 (c2 _ _ upd_same), dl _ t2 upd_same, by decide +kernel, by decide +kernel, _, rfl, ?_⟩
    rw [SeqAt.eqv_refl _ (by decide +kernel)]
    refine iteF ?_
    refine ⟨(by show 2 ≤ sizeLine; decide), fun t3 ht3 => ⟨3, rfl, (by show 5 ≤ sizeLine; decide), fun t4 ht4 => ?_⟩⟩
    have c3 := same_put (o := HO.tup [.int 1, .str "x"]) ht3
    have c4 := same_put (o := HO.lst [.non, .str "a", .ref t3, .bl true, .int (-3)]) ht4
    have e4 := (c1.trans c2).trans (c3.trans c4)
    refine ⟨_, rfl, 3, rfl, a, _, rfl, e4.seq hS, fun p hp => ⟨p, rfl, ⟨_, .inl (.inl upd_same)⟩, fun D hD => ?_⟩⟩
    have c5 := same_put (o := .lst (cutV (ns.map V.int) none (some 3))) hp
    have c6 := same_put (o := HO.lst []) hD
    have cl : (cutV (ns.map V.int) none (some 3)).length ≤ 3 := by
      unfold cutV
      rw [show HT.sIx (ns.map V.int).length 0 none = 0 from HT.sIx_none .., show HT.sIx (ns.map V.int).length (ns.map V.int).length (some 3) = min 3 (ns.map V.int).length from HT.sIx_nat _ _ 3, List.drop_zero, Nat.sub_zero, List.length_take]
      omega
    have ci : ∀ v ∈ cutV (ns.map V.int) none (some 3), ∃ k : Int, v = .int k := fun v hv => by
      obtain ⟨k, _, z⟩ := List.mem_map.mp (cut_mem hv)
      exact ⟨k, z.symm⟩
    generalize cutV (ns.map V.int) none (some 3) = cs at cl ci c5 c6 hD ⊢
    refine lc_list (K := K) (a := p) (xs := cs) (fun j H' => ∃ ms : List Int, H' D = some (.lst (ms.map V.int)) ∧ (∀ m ∈ ms, m.natAbs < 2 ^ 1000) ∧ ms.length = j ∧ Same (upd _ p (.lst cs)) H') ⟨[], upd_same, fun _ z => (nomatch z), rfl, c6⟩ (fun j H' _ ⟨_, _, _, _, s6⟩ => .inl (.inl (s6 _ _ upd_same))) ?_ ?_
    · rintro j v H6 hj ⟨ms, h1, hm, hl, s6⟩
      obtain ⟨k, rfl⟩ := ci v (List.mem_of_getElem? hj)
      have hj2 := (List.getElem?_eq_some_iff.mp hj).1
      refine ⟨rfl, _, rfl, .inl ⟨k, rfl, _, _, rfl, rfl, ⟨by decide, by decide, by decide⟩, k, _, rfl, rfl, (show ((10 : Int) ^ (12 : Int).toNat) ≠ 0 by decide), _, h1, ?_, ms ++ [k.fmod (10 ^ 12)], ?_, ?_, ?_, fun c z e => ?_⟩⟩
      · rw [List.length_map, sizeLine_eq]
        omega
      · rw [upd_same, List.map_append]
        rfl
      · intro m hm'
        rcases List.mem_append.mp hm' with z | z
        · exact hm m z
        · obtain rfl := List.mem_singleton.mp z
          have z1 := Int.fmod_nonneg_of_pos k (b := 10 ^ 12) (by decide)
          have z2 := Int.fmod_lt_of_pos k (b := 10 ^ 12) (by decide)
          have z3 : (10 ^ 12 : Nat) < 2 ^ 1000 := by decide +kernel
          omega
      · rw [List.length_append, hl]
        rfl
      · rw [upd_ne (ne_of_none e hD)]
        exact s6 _ _ e
    rintro H7 ⟨ms, h1, hm, hl, s7⟩
    have s47 := c5.trans s7
    refine ⟨t4, D, _, _, rfl, rfl, s47 _ _ upd_same, h1, ?_, fun t5 ht5 => ?_⟩
    · rw [List.length_map, hl, sizeLine_eq]
      simp only [List.length_cons, List.length_nil]
      omega
    have g3 := s47 _ _ (c4 _ _ upd_same)
    have c8 := same_put (o := HO.lst ([V.non, .str "a", .ref t3, .bl true, .int (-3)] ++ ms.map V.int)) ht5
    have dat : ∀ v ∈ [V.non, .str "a", .ref t3, .bl true, .int (-3)] ++ ms.map V.int, ∃ d, Dp K (upd H7 t5 (.lst ([V.non, .str "a", .ref t3, .bl true, .int (-3)] ++ ms.map V.int))) v d ∧ Sm 2000 1 d := by
      intro v hv
      rcases List.mem_append.mp hv with z | z
      · rcases List.mem_cons.mp z with rfl | z
        · exact ⟨.none, .non, ⟨rfl, by decide +kernel, by decide +kernel, by decide +kernel⟩⟩
        rcases List.mem_cons.mp z with rfl | z
        · exact ⟨.str "a", .str _, ⟨rfl, by decide +kernel, by decide +kernel, by decide +kernel⟩⟩
        rcases List.mem_cons.mp z with rfl | z
        · exact ⟨.tuple [.int 1, .str "x"], .tup (SqT.of (c8 _ _ g3)) (.cons (.int _) (.cons (.str _) .nil)), ⟨by decide +kernel, by decide +kernel, by decide +kernel, by decide +kernel⟩⟩
        rcases List.mem_cons.mp z with rfl | z
        · exact ⟨.bool true, .bl _, ⟨rfl, by decide +kernel, by decide +kernel, by decide +kernel⟩⟩
        · obtain rfl := List.mem_singleton.mp z
          exact ⟨.int (-3), .int _, ⟨by decide +kernel, by decide +kernel, by decide +kernel, by decide +kernel⟩⟩
      · obtain ⟨m, hm', rfl⟩ := List.mem_map.mp z
        exact ⟨.int m, .int m, sm_up (Sm.int (hm m hm')) (by decide) (by decide)⟩
    have len5 : ([V.non, .str "a", .ref t3, .bl true, .int (-3)] ++ ms.map V.int).length ≤ 8 := by
      rw [List.length_append, List.length_map, hl]
      simp only [List.length_cons, List.length_nil]
      omega
    generalize [V.non, .str "a", .ref t3, .bl true, .int (-3)] ++ ms.map V.int = xs at dat len5 c8 ⊢
    refine ⟨_, rfl, t5, xs, rfl, .inl (SqL.of upd_same), _, rfl, by omega, by omega, fun D2 hD2 => ?_⟩
    have c9 := same_put (o := HO.lst []) hD2
    refine lc_range (lo := 0) (n := ((xs.length : Nat) : Int).toNat) (fun i H9 => H9 D2 = some (.lst ((List.replicate i true).map V.bl)) ∧ Same (upd H7 t5 (.lst xs)) H9) ⟨upd_same, c9⟩ ?_ ?_
    · rintro i H9 hi ⟨g1, g2⟩
      rw [Int.zero_add]
      have hi' : i < xs.length := by omega
      obtain ⟨dv, ev, sv⟩ := dat _ (List.getElem_mem hi')
      obtain ⟨w', hw, aw⟩ := at_prev hi'
      obtain ⟨dw, ew, sw⟩ := dat _ hw
      refine ⟨rfl, _, rfl, _, rfl, t5, xs, (i : Int), xs[i], rfl, rfl, SqL.of (g2 _ _ upd_same), at_of (j := i) rfl (List.getElem?_eq_getElem hi'), ?_⟩
      refine ⟨_, rfl, _, rfl, _, _, rfl, rfl, t5, xs, (i : Int) - 1, w', rfl, rfl, SqL.of (g2 _ _ upd_same), aw, ?_⟩
      refine ⟨_, _, dv, dw, rfl, dp_same g2 _ _ ev, dp_same g2 _ _ ew, sv, sw, fun H10 a10 => ?_⟩
      refine ⟨_, a10 _ _ g1, ?_, ?_, fun b z e => ?_⟩
      · rw [List.length_map, List.length_replicate, sizeLine_eq]
        omega
      · rw [upd_same, List.replicate_succ', List.map_append]
        rfl
      · rw [upd_ne (ne_of_none e hD2)]
        exact a10 _ _ (g2 _ _ e)
    · rintro H9 ⟨g1, g2⟩
      refine ⟨D2, List.replicate _ true, rfl, SqL.of g1, ?_⟩
      have e : ∀ n : Nat, (List.replicate n true).all id = true := fun n => by
        rw [List.all_eq_true]
        intro b hb
        exact (List.mem_replicate.mp hb).2
      rw [e]
      exact q _
end My
set_option Elab.async false
set_option linter.all false
set_option maxRecDepth 100000
set_option maxHeartbeats 8000000
namespace My
open PySem PySem.Spec PyProof.Rows L2 Gn
/-- what the written part says of a class, its __init__ at f -/
structure CK (K : PySem.W.Frag) (nm : Str) (fl : List Str) (C R f : Addr) (fd : FuncData) (st : Stmt) (qi : Str) : Prop where
  g : PySem.W.nsIn K mainGlobals nm = some (some (.ref C))
  own : OwC K C
  ini : PySem.W.findIn K (.ref C) "__init__" = some (some (.ref f))
  ty : PySem.W.typeIn K (.ref f) = some (.type "function")
  xf : XfC K C
  ex : ExcC K C
  no : ∀ n ∈ fl, PySem.W.findIn K (.ref C) n = some none
  F : Fun K "__init__" qi st f fd
/-- what all of them share -/
structure Glob (K : PySem.W.Frag) : Prop where
  hn : PySem.W.specialIn K (.builtin "object.__class__") "__get__" = some (some (.builtin "getset_descriptor.__get__"))
  ht : PySem.W.takesIn K (.builtin "object.__class__") = some true
theorem ck_mk {K : PySem.W.Frag} {nm : Str} {fl : List Str} {C R f N : Addr} {st : Stmt} {qi : Str} {B nw it : String} {tl : List Value} {cn q : Str} {bs : List Value} {sn : List Str} {sub : List Value} {ab : Bool} {col : Option Bool} {dd : Option Addr} {k0 k1 k2 k3 k5 : Option Value}
    {od an : Option Addr} {sl : Array (Option Value)} {oc kV dc pm cd ct : Value} (G : Glob K) (T : Bas B nw it tl)
    (g : PySem.W.nsIn K mainGlobals nm = some (some (.ref C))) (xL : K.lookup C = some (excClassObj cn q C N bs (.ref R :: tl) true sn sub ab col dd k0 k1 k2 k3 k5 nw))
    (sa : PySem.W.findIn K (.ref C) "__setattr__" = some (some (.builtin "object.__setattr__"))) (ga : PySem.W.findIn K (.ref C) "__getattribute__" = some (some (.builtin "BaseException.__getattribute__"))) (gg : PySem.W.findIn K (.ref C) "__getattr__" = some none)
    (gc : PySem.W.findIn K (.ref C) "__class__" = some (some (.builtin "object.__class__")))
    (i : PySem.W.findIn K (.ref C) "__init__" = some (some (.ref f))) (ty : PySem.W.typeIn K (.ref f) = some (.type "function"))
    (l : K.lookup f = some ⟨oc, od, .func (PySem.W.fnOf "__init__" qi (defArgs st) (defBody st) (defScope st) .none kV dc pm an cd ct), sl⟩) (c : PySem.W.codeIn K cd qi = true) (kf : PySem.W.keepIn K (.ref f) = true)
    (kC : PySem.W.keepIn K (.ref C) = true) (eC : PySem.W.subIn K (.ref C) (.type "BaseException") = some true) (tC : PySem.W.typeIn K (.ref C) = some (.type "type")) (hC : PySem.W.hasDictIn K C = true) (mC : PySem.W.mroIn K C (.type "object") = some true)
    (no : ∀ n ∈ fl, PySem.W.findIn K (.ref C) n = some none) :
    CK K nm fl C R f (PySem.W.fnOf "__init__" qi (defArgs st) (defBody st) (defScope st) .none kV dc pm an cd ct) st qi :=
  ⟨g, ⟨⟨cn, q, N, bs, .ref R :: tl, sn, sub, ab, col, dd, k0, k1, k2, k3, k5, B, nw, it, tl, xL, .own .base, T⟩, sa, eC, tC, kC⟩, i, ty, ⟨ga, gg, eC, hC⟩, ⟨ga, gg, eC, hC, gc, G.hn, G.ht, mC⟩, no, fun_mk l c kf⟩
structure Kit (K : PySem.W.Frag) (R0 R1 R2 C : Addr) (b0 b1 b2 : Bool) : Prop where
  o0 : PySem.W.kitOne K (.ref C) (.ref R0) = some b0
  o1 : PySem.W.kitOne K (.ref C) (.ref R1) = some b1
  o2 : PySem.W.kitOne K (.ref C) (.ref R2) = some b2
  t0 : PySem.W.kitOne K (.ref C) (.type "ValueError") = some b0
  t1 : PySem.W.kitOne K (.ref C) (.type "LookupError") = some b1
  t2 : PySem.W.kitOne K (.ref C) (.type "ArithmeticError") = some b2
/-- the three roots -/
structure Rt (K : PySem.W.Frag) (R : Addr) : Prop where
  i : PySem.W.isClsIn K R = true
  t : PySem.W.typeIn K (.ref R) = some (.type "type")
  e : PySem.W.subIn K (.ref R) (.type "BaseException") = some true
theorem Rt.cls {K : PySem.W.Frag} {R : Addr} (T : Rt K R) {t : Value} {b : Bool} (s : PySem.W.subIn K t (.ref R) = some b) : PySem.W.kitCls K t (.ref R) = some b := by
  have h2' : (PySem.W.clsIn K R).isSome = true := T.i
  have e2 : ((PySem.W.clsIn K R).isSome && PySem.W.typeIn K (.ref R) == some (.type "type")) = true := by
    rw [h2', T.t] <;> rfl
  show (if ((PySem.W.clsIn K R).isSome && PySem.W.typeIn K (.ref R) == some (.type "type")) = true then PySem.W.subIn K t (.ref R) else none) = some b
  rw [if_pos e2]
  exact s
theorem Rt.exm {K : PySem.W.Frag} {R : Addr} (T : Rt K R) {t : Value} {b : Bool} (s : PySem.W.subIn K t (.ref R) = some b) : PySem.W.exmOne K t (.ref R) = some b := by
  have e1 : (PySem.W.subIn K (.ref R) (.type "BaseException") == some true) = true := by rw [T.e] <;> rfl
  unfold PySem.W.exmOne
  rw [if_pos e1]
  exact T.cls s
theorem Rt.one {K : PySem.W.Frag} {R : Addr} (T : Rt K R) {t : Value} {b : Bool} (n : (t == Value.ref R) = false) (s : PySem.W.subIn K t (.ref R) = some b) : PySem.W.kitOne K t (.ref R) = some b := by
  unfold PySem.W.kitOne
  rw [if_neg (by rw [n]; decide)]
  exact T.cls s
theorem one_ty {K : PySem.W.Frag} {C : Addr} {T : String} {b : Bool} (m : PySem.W.kitMeta T = true) (s : PySem.W.subIn K (.ref C) (.type T) = some b) : PySem.W.kitOne K (.ref C) (.type T) = some b := by
  unfold PySem.W.kitOne
  rw [if_neg (by intro z; cases z)]
  show (if PySem.W.kitMeta T = true then PySem.W.subIn K (.ref C) (.type T) else none) = some b
  rw [if_pos m]
  exact s
theorem kit_mk {K : PySem.W.Frag} {R0 R1 R2 C : Addr} {b0 b1 b2 : Bool} (T0 : Rt K R0) (T1 : Rt K R1) (T2 : Rt K R2) (n0 : (Value.ref C == Value.ref R0) = false) (n1 : (Value.ref C == Value.ref R1) = false) (n2 : (Value.ref C == Value.ref R2) = false)
    (s0 : PySem.W.subIn K (.ref C) (.ref R0) = some b0) (s1 : PySem.W.subIn K (.ref C) (.ref R1) = some b1) (s2 : PySem.W.subIn K (.ref C) (.ref R2) = some b2)
    (u0 : PySem.W.subIn K (.ref C) (.type "ValueError") = some b0) (u1 : PySem.W.subIn K (.ref C) (.type "LookupError") = some b1) (u2 : PySem.W.subIn K (.ref C) (.type "ArithmeticError") = some b2) : Kit K R0 R1 R2 C b0 b1 b2 :=
  ⟨T0.one n0 s0, T1.one n1 s1, T2.one n2 s2, one_ty (by decide +kernel) u0, one_ty (by decide +kernel) u1, one_ty (by decide +kernel) u2⟩
variable {P : Program} {w : World} {K : PySem.W.Frag} {mg : Str → Option Value} {base : Heap}
theorem cl0 {C R f : Addr} {fd : FuncData} {h : Heap} (X : K.In h) (G : h.Ns mainGlobals mg) (T : CK K "InvalidText" ["given"] C R f fd (inn (top 2)) "InvalidText.__init__") : OwE P w K mg base "InvalidText" ["given"] C f fd := by
  have S : FnScope ["self", "given"] ["self", "given"] (defScope (inn (top 2))) := ⟨rfl, rfl, rfl, by decide +kernel, rfl, by decide +kernel, by decide +kernel⟩
  exact ⟨T.own, T.ini, T.ty, T.xf, T.ex, T.no, PySem.W.mg_of X G T.g, ini1 T.F S rfl (Or.inl rfl) (Or.inl rfl) (by decide) (by decide), T.F.binds fun _ _ _ _ _ _ us hl => match us, hl with | [_, _], _ => rfl⟩
theorem cl1 {C R f : Addr} {fd : FuncData} {h : Heap} (X : K.In h) (G : h.Ns mainGlobals mg) (T : CK K "InvalidNumber" ["given"] C R f fd (inn (top 3)) "InvalidNumber.__init__") : OwE P w K mg base "InvalidNumber" ["given"] C f fd := by
  have S : FnScope ["self", "given"] ["self", "given"] (defScope (inn (top 3))) := ⟨rfl, rfl, rfl, by decide +kernel, rfl, by decide +kernel, by decide +kernel⟩
  exact ⟨T.own, T.ini, T.ty, T.xf, T.ex, T.no, PySem.W.mg_of X G T.g, ini1 T.F S rfl (Or.inl rfl) (Or.inl rfl) (by decide) (by decide), T.F.binds fun _ _ _ _ _ _ us hl => match us, hl with | [_, _], _ => rfl⟩
theorem cl2 {C R f : Addr} {fd : FuncData} {h : Heap} (X : K.In h) (G : h.Ns mainGlobals mg) (T : CK K "InvalidName" ["given"] C R f fd (inn (top 4)) "InvalidName.__init__") : OwE P w K mg base "InvalidName" ["given"] C f fd := by
  have S : FnScope ["self", "given"] ["self", "given"] (defScope (inn (top 4))) := ⟨rfl, rfl, rfl, by decide +kernel, rfl, by decide +kernel, by decide +kernel⟩
  exact ⟨T.own, T.ini, T.ty, T.xf, T.ex, T.no, PySem.W.mg_of X G T.g, ini1 T.F S rfl (Or.inl rfl) (Or.inl rfl) (by decide) (by decide), T.F.binds fun _ _ _ _ _ _ us hl => match us, hl with | [_, _], _ => rfl⟩
theorem cl3 {C R f : Addr} {fd : FuncData} {h : Heap} (X : K.In h) (G : h.Ns mainGlobals mg) (T : CK K "InvalidIndex" ["given"] C R f fd (inn (top 5)) "InvalidIndex.__init__") : OwE P w K mg base "InvalidIndex" ["given"] C f fd := by
  have S : FnScope ["self", "given"] ["self", "given"] (defScope (inn (top 5))) := ⟨rfl, rfl, rfl, by decide +kernel, rfl, by decide +kernel, by decide +kernel⟩
  exact ⟨T.own, T.ini, T.ty, T.xf, T.ex, T.no, PySem.W.mg_of X G T.g, ini1 T.F S rfl (Or.inl rfl) (Or.inl rfl) (by decide) (by decide), T.F.binds fun _ _ _ _ _ _ us hl => match us, hl with | [_, _], _ => rfl⟩
theorem cl4 {C R f : Addr} {fd : FuncData} {h : Heap} (X : K.In h) (G : h.Ns mainGlobals mg) (T : CK K "InvalidStep" ["given"] C R f fd (inn (top 6)) "InvalidStep.__init__") : OwE P w K mg base "InvalidStep" ["given"] C f fd := by
  have S : FnScope ["self", "given"] ["self", "given"] (defScope (inn (top 6))) := ⟨rfl, rfl, rfl, by decide +kernel, rfl, by decide +kernel, by decide +kernel⟩
  exact ⟨T.own, T.ini, T.ty, T.xf, T.ex, T.no, PySem.W.mg_of X G T.g, ini1 T.F S rfl (Or.inl rfl) (Or.inl rfl) (by decide) (by decide), T.F.binds fun _ _ _ _ _ _ us hl => match us, hl with | [_, _], _ => rfl⟩
theorem cl5 {C R f : Addr} {fd : FuncData} {h : Heap} (X : K.In h) (G : h.Ns mainGlobals mg) (T : CK K "InvalidArc" ["given"] C R f fd (inn (top 7)) "InvalidArc.__init__") : OwE P w K mg base "InvalidArc" ["given"] C f fd := by
  have S : FnScope ["self", "given"] ["self", "given"] (defScope (inn (top 7))) := ⟨rfl, rfl, rfl, by decide +kernel, rfl, by decide +kernel, by decide +kernel⟩
  exact ⟨T.own, T.ini, T.ty, T.xf, T.ex, T.no, PySem.W.mg_of X G T.g, ini1 T.F S rfl (Or.inl rfl) (Or.inl rfl) (by decide) (by decide), T.F.binds fun _ _ _ _ _ _ us hl => match us, hl with | [_, _], _ => rfl⟩
theorem cl6 {C R f : Addr} {fd : FuncData} {h : Heap} (X : K.In h) (G : h.Ns mainGlobals mg) (T : CK K "InvalidSighting" ["given"] C R f fd (inn (top 8)) "InvalidSighting.__init__") : OwE P w K mg base "InvalidSighting" ["given"] C f fd := by
  have S : FnScope ["self", "given"] ["self", "given"] (defScope (inn (top 8))) := ⟨rfl, rfl, rfl, by decide +kernel, rfl, by decide +kernel, by decide +kernel⟩
  exact ⟨T.own, T.ini, T.ty, T.xf, T.ex, T.no, PySem.W.mg_of X G T.g, ini1 T.F S rfl (Or.inl rfl) (Or.inl rfl) (by decide) (by decide), T.F.binds fun _ _ _ _ _ _ us hl => match us, hl with | [_, _], _ => rfl⟩
theorem cl7 {C R f : Addr} {fd : FuncData} {h : Heap} (X : K.In h) (G : h.Ns mainGlobals mg) (T : CK K "InvalidClaim" ["given"] C R f fd (inn (top 9)) "InvalidClaim.__init__") : OwE P w K mg base "InvalidClaim" ["given"] C f fd := by
  have S : FnScope ["self", "given"] ["self", "given"] (defScope (inn (top 9))) := ⟨rfl, rfl, rfl, by decide +kernel, rfl, by decide +kernel, by decide +kernel⟩
  exact ⟨T.own, T.ini, T.ty, T.xf, T.ex, T.no, PySem.W.mg_of X G T.g, ini1 T.F S rfl (Or.inl rfl) (Or.inl rfl) (by decide) (by decide), T.F.binds fun _ _ _ _ _ _ us hl => match us, hl with | [_, _], _ => rfl⟩
theorem cl8 {C R f : Addr} {fd : FuncData} {h : Heap} (X : K.In h) (G : h.Ns mainGlobals mg) (T : CK K "InvalidCommand" ["given"] C R f fd (inn (top 10)) "InvalidCommand.__init__") : OwE P w K mg base "InvalidCommand" ["given"] C f fd := by
  have S : FnScope ["self", "given"] ["self", "given"] (defScope (inn (top 10))) := ⟨rfl, rfl, rfl, by decide +kernel, rfl, by decide +kernel, by decide +kernel⟩
  exact ⟨T.own, T.ini, T.ty, T.xf, T.ex, T.no, PySem.W.mg_of X G T.g, ini1 T.F S rfl (Or.inl rfl) (Or.inl rfl) (by decide) (by decide), T.F.binds fun _ _ _ _ _ _ us hl => match us, hl with | [_, _], _ => rfl⟩
theorem cl9 {C R f : Addr} {fd : FuncData} {h : Heap} (X : K.In h) (G : h.Ns mainGlobals mg) (T : CK K "NotALot" ["given"] C R f fd (inn (top 11)) "NotALot.__init__") : OwE P w K mg base "NotALot" ["given"] C f fd := by
  have S : FnScope ["self", "given"] ["self", "given"] (defScope (inn (top 11))) := ⟨rfl, rfl, rfl, by decide +kernel, rfl, by decide +kernel, by decide +kernel⟩
  exact ⟨T.own, T.ini, T.ty, T.xf, T.ex, T.no, PySem.W.mg_of X G T.g, ini1 T.F S rfl (Or.inl rfl) (Or.inl rfl) (by decide) (by decide), T.F.binds fun _ _ _ _ _ _ us hl => match us, hl with | [_, _], _ => rfl⟩
theorem cl10 {C R f : Addr} {fd : FuncData} {h : Heap} (X : K.In h) (G : h.Ns mainGlobals mg) (T : CK K "InvalidPieces" ["index"] C R f fd (inn (top 12)) "InvalidPieces.__init__") : OwE P w K mg base "InvalidPieces" ["index"] C f fd := by
  have S : FnScope ["self", "index"] ["self", "index"] (defScope (inn (top 12))) := ⟨rfl, rfl, rfl, by decide +kernel, rfl, by decide +kernel, by decide +kernel⟩
  exact ⟨T.own, T.ini, T.ty, T.xf, T.ex, T.no, PySem.W.mg_of X G T.g, ini1 T.F S rfl (Or.inl rfl) (Or.inl rfl) (by decide) (by decide), T.F.binds fun _ _ _ _ _ _ us hl => match us, hl with | [_, _], _ => rfl⟩
theorem cl11 {C R f : Addr} {fd : FuncData} {h : Heap} (X : K.In h) (G : h.Ns mainGlobals mg) (T : CK K "InvalidOrder" ["index"] C R f fd (inn (top 13)) "InvalidOrder.__init__") : OwE P w K mg base "InvalidOrder" ["index"] C f fd := by
  have S : FnScope ["self", "index"] ["self", "index"] (defScope (inn (top 13))) := ⟨rfl, rfl, rfl, by decide +kernel, rfl, by decide +kernel, by decide +kernel⟩
  exact ⟨T.own, T.ini, T.ty, T.xf, T.ex, T.no, PySem.W.mg_of X G T.g, ini1 T.F S rfl (Or.inl rfl) (Or.inl rfl) (by decide) (by decide), T.F.binds fun _ _ _ _ _ _ us hl => match us, hl with | [_, _], _ => rfl⟩
theorem cl12 {C R f : Addr} {fd : FuncData} {h : Heap} (X : K.In h) (G : h.Ns mainGlobals mg) (T : CK K "InvalidSightings" ["index"] C R f fd (inn (top 14)) "InvalidSightings.__init__") : OwE P w K mg base "InvalidSightings" ["index"] C f fd := by
  have S : FnScope ["self", "index"] ["self", "index"] (defScope (inn (top 14))) := ⟨rfl, rfl, rfl, by decide +kernel, rfl, by decide +kernel, by decide +kernel⟩
  exact ⟨T.own, T.ini, T.ty, T.xf, T.ex, T.no, PySem.W.mg_of X G T.g, ini1 T.F S rfl (Or.inl rfl) (Or.inl rfl) (by decide) (by decide), T.F.binds fun _ _ _ _ _ _ us hl => match us, hl with | [_, _], _ => rfl⟩
theorem cl13 {C R f : Addr} {fd : FuncData} {h : Heap} (X : K.In h) (G : h.Ns mainGlobals mg) (T : CK K "UnknownName" ["given"] C R f fd (inn (top 16)) "UnknownName.__init__") : OwE P w K mg base "UnknownName" ["given"] C f fd := by
  have S : FnScope ["self", "given"] ["self", "given"] (defScope (inn (top 16))) := ⟨rfl, rfl, rfl, by decide +kernel, rfl, by decide +kernel, by decide +kernel⟩
  exact ⟨T.own, T.ini, T.ty, T.xf, T.ex, T.no, PySem.W.mg_of X G T.g, ini1 T.F S rfl (Or.inl rfl) (Or.inl rfl) (by decide) (by decide), T.F.binds fun _ _ _ _ _ _ us hl => match us, hl with | [_, _], _ => rfl⟩
theorem cl14 {C R f : Addr} {fd : FuncData} {h : Heap} (X : K.In h) (G : h.Ns mainGlobals mg) (T : CK K "InUse" ["index"] C R f fd (inn (top 17)) "InUse.__init__") : OwE P w K mg base "InUse" ["index"] C f fd := by
  have S : FnScope ["self", "index"] ["self", "index"] (defScope (inn (top 17))) := ⟨rfl, rfl, rfl, by decide +kernel, rfl, by decide +kernel, by decide +kernel⟩
  exact ⟨T.own, T.ini, T.ty, T.xf, T.ex, T.no, PySem.W.mg_of X G T.g, ini1 T.F S rfl (Or.inl rfl) (Or.inl rfl) (by decide) (by decide), T.F.binds fun _ _ _ _ _ _ us hl => match us, hl with | [_, _], _ => rfl⟩
theorem cl15 {C R f : Addr} {fd : FuncData} {h : Heap} (X : K.In h) (G : h.Ns mainGlobals mg) (T : CK K "NothingToUndo" [] C R f fd (inn (top 18)) "NothingToUndo.__init__") : OwE P w K mg base "NothingToUndo" [] C f fd := by
  have S : FnScope ["self"] ["self"] (defScope (inn (top 18))) := ⟨rfl, rfl, rfl, by decide +kernel, rfl, by decide +kernel, by decide +kernel⟩
  exact ⟨T.own, T.ini, T.ty, T.xf, T.ex, T.no, PySem.W.mg_of X G T.g, ini0 T.F S rfl, T.F.binds fun _ _ _ _ _ _ us hl => match us, hl with | [_], _ => rfl⟩
theorem cl16 {C R f : Addr} {fd : FuncData} {h : Heap} (X : K.In h) (G : h.Ns mainGlobals mg) (T : CK K "NoStep" [] C R f fd (inn (top 20)) "NoStep.__init__") : OwE P w K mg base "NoStep" [] C f fd := by
  have S : FnScope ["self"] ["self"] (defScope (inn (top 20))) := ⟨rfl, rfl, rfl, by decide +kernel, rfl, by decide +kernel, by decide +kernel⟩
  exact ⟨T.own, T.ini, T.ty, T.xf, T.ex, T.no, PySem.W.mg_of X G T.g, ini0 T.F S rfl, T.F.binds fun _ _ _ _ _ _ us hl => match us, hl with | [_], _ => rfl⟩
theorem cl17 {C R f : Addr} {fd : FuncData} {h : Heap} (X : K.In h) (G : h.Ns mainGlobals mg) (T : CK K "TooMany" ["most"] C R f fd (inn (top 21)) "TooMany.__init__") : OwE P w K mg base "TooMany" ["most"] C f fd := by
  have S : FnScope ["self", "most"] ["self", "most"] (defScope (inn (top 21))) := ⟨rfl, rfl, rfl, by decide +kernel, rfl, by decide +kernel, by decide +kernel⟩
  exact ⟨T.own, T.ini, T.ty, T.xf, T.ex, T.no, PySem.W.mg_of X G T.g, ini1 T.F S rfl (Or.inl rfl) (Or.inl rfl) (by decide) (by decide), T.F.binds fun _ _ _ _ _ _ us hl => match us, hl with | [_, _], _ => rfl⟩
theorem cl18 {C R f : Addr} {fd : FuncData} {h : Heap} (X : K.In h) (G : h.Ns mainGlobals mg) (T : CK K "Broken" ["index", "shown"] C R f fd (inn (top 22)) "Broken.__init__") : OwE P w K mg base "Broken" ["index", "shown"] C f fd := by
  have S : FnScope ["self", "index", "shown"] ["self", "index", "shown"] (defScope (inn (top 22))) := ⟨rfl, rfl, rfl, by decide +kernel, rfl, by decide +kernel, by decide +kernel⟩
  exact ⟨T.own, T.ini, T.ty, T.xf, T.ex, T.no, PySem.W.mg_of X G T.g, ini2 T.F S rfl (Or.inl rfl) (Or.inl rfl) (by decide) (by decide) (Or.inl rfl) (by decide) (by decide), T.F.binds fun _ _ _ _ _ _ us hl => match us, hl with | [_, _, _], _ => rfl⟩
theorem all_mk {l : PySem.W.OpenLaw} {w : World} {K : PySem.W.Frag} {h : Heap} {mg : Str → Option Value} {fa : Addr} (X : K.In h) (G : h.Ns mainGlobals mg) (hfa : mg "law" = some (.ref fa))
    {R0 R1 R2 : Addr} {C0 e0 : Addr} {C1 e1 : Addr} {C2 e2 : Addr} {C3 e3 : Addr} {C4 e4 : Addr} {C5 e5 : Addr} {C6 e6 : Addr} {C7 e7 : Addr} {C8 e8 : Addr} {C9 e9 : Addr} {C10 e10 : Addr} {C11 e11 : Addr} {C12 e12 : Addr} {C13 e13 : Addr} {C14 e14 : Addr} {C15 e15 : Addr} {C16 e16 : Addr} {C17 e17 : Addr} {C18 e18 : Addr}
    {kv0 dv0 pv0 cv0 tv0 : Value} {av0 : Option Addr} {kv1 dv1 pv1 cv1 tv1 : Value} {av1 : Option Addr} {kv2 dv2 pv2 cv2 tv2 : Value} {av2 : Option Addr} {kv3 dv3 pv3 cv3 tv3 : Value} {av3 : Option Addr} {kv4 dv4 pv4 cv4 tv4 : Value} {av4 : Option Addr} {kv5 dv5 pv5 cv5 tv5 : Value} {av5 : Option Addr} {kv6 dv6 pv6 cv6 tv6 : Value} {av6 : Option Addr} {kv7 dv7 pv7 cv7 tv7 : Value} {av7 : Option Addr} {kv8 dv8 pv8 cv8 tv8 : Value} {av8 : Option Addr} {kv9 dv9 pv9 cv9 tv9 : Value} {av9 : Option Addr} {kv10 dv10 pv10 cv10 tv10 : Value} {av10 : Option Addr} {kv11 dv11 pv11 cv11 tv11 : Value} {av11 : Option Addr} {kv12 dv12 pv12 cv12 tv12 : Value} {av12 : Option Addr} {kv13 dv13 pv13 cv13 tv13 : Value} {av13 : Option Addr} {kv14 dv14 pv14 cv14 tv14 : Value} {av14 : Option Addr} {kv15 dv15 pv15 cv15 tv15 : Value} {av15 : Option Addr} {kv16 dv16 pv16 cv16 tv16 : Value} {av16 : Option Addr} {kv17 dv17 pv17 cv17 tv17 : Value} {av17 : Option Addr} {kv18 dv18 pv18 cv18 tv18 : Value} {av18 : Option Addr}
    {f0 : Addr} {od0 an0 : Option Addr} {sl0 : Array (Option Value)} {oc0 kV0 dc0 pm0 cd0 ct0 : Value} {f1 : Addr} {od1 an1 : Option Addr} {sl1 : Array (Option Value)} {oc1 kV1 dc1 pm1 cd1 ct1 : Value} {f2 : Addr} {od2 an2 : Option Addr} {sl2 : Array (Option Value)} {oc2 kV2 dc2 pm2 cd2 ct2 : Value} {f3 : Addr} {od3 an3 : Option Addr} {sl3 : Array (Option Value)} {oc3 kV3 dc3 pm3 cd3 ct3 : Value} {f4 : Addr} {od4 an4 : Option Addr} {sl4 : Array (Option Value)} {oc4 kV4 dc4 pm4 cd4 ct4 : Value} {f5 : Addr} {od5 an5 : Option Addr} {sl5 : Array (Option Value)} {oc5 kV5 dc5 pm5 cd5 ct5 : Value} {f6 : Addr} {od6 an6 : Option Addr} {sl6 : Array (Option Value)} {oc6 kV6 dc6 pm6 cd6 ct6 : Value} {tk0 : Tok} {tk1 : Tok} {tk2 : Tok} {tk3 : Tok} {tk4 : Tok} {tk5 : Tok}
    (r0 : PySem.W.nsIn K mainGlobals "NotRight" = some (some (.ref R0)))
    (r1 : PySem.W.nsIn K mainGlobals "NotKnown" = some (some (.ref R1)))
    (r2 : PySem.W.nsIn K mainGlobals "NotPossible" = some (some (.ref R2)))
    (T0 : CK K "InvalidText" ["given"] C0 R0 e0 (PySem.W.fnOf "__init__" "InvalidText.__init__" (defArgs (inn (top 2))) (defBody (inn (top 2))) (defScope (inn (top 2))) .none kv0 dv0 pv0 av0 cv0 tv0) (inn (top 2)) "InvalidText.__init__") (H0 : Kit K R0 R1 R2 C0 true false false)
    (T1 : CK K "InvalidNumber" ["given"] C1 R0 e1 (PySem.W.fnOf "__init__" "InvalidNumber.__init__" (defArgs (inn (top 3))) (defBody (inn (top 3))) (defScope (inn (top 3))) .none kv1 dv1 pv1 av1 cv1 tv1) (inn (top 3)) "InvalidNumber.__init__") (H1 : Kit K R0 R1 R2 C1 true false false)
    (T2 : CK K "InvalidName" ["given"] C2 R0 e2 (PySem.W.fnOf "__init__" "InvalidName.__init__" (defArgs (inn (top 4))) (defBody (inn (top 4))) (defScope (inn (top 4))) .none kv2 dv2 pv2 av2 cv2 tv2) (inn (top 4)) "InvalidName.__init__") (H2 : Kit K R0 R1 R2 C2 true false false)
    (T3 : CK K "InvalidIndex" ["given"] C3 R0 e3 (PySem.W.fnOf "__init__" "InvalidIndex.__init__" (defArgs (inn (top 5))) (defBody (inn (top 5))) (defScope (inn (top 5))) .none kv3 dv3 pv3 av3 cv3 tv3) (inn (top 5)) "InvalidIndex.__init__") (H3 : Kit K R0 R1 R2 C3 true false false)
    (T4 : CK K "InvalidStep" ["given"] C4 R0 e4 (PySem.W.fnOf "__init__" "InvalidStep.__init__" (defArgs (inn (top 6))) (defBody (inn (top 6))) (defScope (inn (top 6))) .none kv4 dv4 pv4 av4 cv4 tv4) (inn (top 6)) "InvalidStep.__init__") (H4 : Kit K R0 R1 R2 C4 true false false)
    (T5 : CK K "InvalidArc" ["given"] C5 R0 e5 (PySem.W.fnOf "__init__" "InvalidArc.__init__" (defArgs (inn (top 7))) (defBody (inn (top 7))) (defScope (inn (top 7))) .none kv5 dv5 pv5 av5 cv5 tv5) (inn (top 7)) "InvalidArc.__init__") (H5 : Kit K R0 R1 R2 C5 true false false)
    (T6 : CK K "InvalidSighting" ["given"] C6 R0 e6 (PySem.W.fnOf "__init__" "InvalidSighting.__init__" (defArgs (inn (top 8))) (defBody (inn (top 8))) (defScope (inn (top 8))) .none kv6 dv6 pv6 av6 cv6 tv6) (inn (top 8)) "InvalidSighting.__init__") (H6 : Kit K R0 R1 R2 C6 true false false)
    (T7 : CK K "InvalidClaim" ["given"] C7 R0 e7 (PySem.W.fnOf "__init__" "InvalidClaim.__init__" (defArgs (inn (top 9))) (defBody (inn (top 9))) (defScope (inn (top 9))) .none kv7 dv7 pv7 av7 cv7 tv7) (inn (top 9)) "InvalidClaim.__init__") (H7 : Kit K R0 R1 R2 C7 true false false)
    (T8 : CK K "InvalidCommand" ["given"] C8 R0 e8 (PySem.W.fnOf "__init__" "InvalidCommand.__init__" (defArgs (inn (top 10))) (defBody (inn (top 10))) (defScope (inn (top 10))) .none kv8 dv8 pv8 av8 cv8 tv8) (inn (top 10)) "InvalidCommand.__init__") (H8 : Kit K R0 R1 R2 C8 true false false)
    (T9 : CK K "NotALot" ["given"] C9 R0 e9 (PySem.W.fnOf "__init__" "NotALot.__init__" (defArgs (inn (top 11))) (defBody (inn (top 11))) (defScope (inn (top 11))) .none kv9 dv9 pv9 av9 cv9 tv9) (inn (top 11)) "NotALot.__init__") (H9 : Kit K R0 R1 R2 C9 true false false)
    (T10 : CK K "InvalidPieces" ["index"] C10 R0 e10 (PySem.W.fnOf "__init__" "InvalidPieces.__init__" (defArgs (inn (top 12))) (defBody (inn (top 12))) (defScope (inn (top 12))) .none kv10 dv10 pv10 av10 cv10 tv10) (inn (top 12)) "InvalidPieces.__init__") (H10 : Kit K R0 R1 R2 C10 true false false)
    (T11 : CK K "InvalidOrder" ["index"] C11 R0 e11 (PySem.W.fnOf "__init__" "InvalidOrder.__init__" (defArgs (inn (top 13))) (defBody (inn (top 13))) (defScope (inn (top 13))) .none kv11 dv11 pv11 av11 cv11 tv11) (inn (top 13)) "InvalidOrder.__init__") (H11 : Kit K R0 R1 R2 C11 true false false)
    (T12 : CK K "InvalidSightings" ["index"] C12 R0 e12 (PySem.W.fnOf "__init__" "InvalidSightings.__init__" (defArgs (inn (top 14))) (defBody (inn (top 14))) (defScope (inn (top 14))) .none kv12 dv12 pv12 av12 cv12 tv12) (inn (top 14)) "InvalidSightings.__init__") (H12 : Kit K R0 R1 R2 C12 true false false)
    (T13 : CK K "UnknownName" ["given"] C13 R1 e13 (PySem.W.fnOf "__init__" "UnknownName.__init__" (defArgs (inn (top 16))) (defBody (inn (top 16))) (defScope (inn (top 16))) .none kv13 dv13 pv13 av13 cv13 tv13) (inn (top 16)) "UnknownName.__init__") (H13 : Kit K R0 R1 R2 C13 false true false)
    (T14 : CK K "InUse" ["index"] C14 R1 e14 (PySem.W.fnOf "__init__" "InUse.__init__" (defArgs (inn (top 17))) (defBody (inn (top 17))) (defScope (inn (top 17))) .none kv14 dv14 pv14 av14 cv14 tv14) (inn (top 17)) "InUse.__init__") (H14 : Kit K R0 R1 R2 C14 false true false)
    (T15 : CK K "NothingToUndo" [] C15 R1 e15 (PySem.W.fnOf "__init__" "NothingToUndo.__init__" (defArgs (inn (top 18))) (defBody (inn (top 18))) (defScope (inn (top 18))) .none kv15 dv15 pv15 av15 cv15 tv15) (inn (top 18)) "NothingToUndo.__init__") (H15 : Kit K R0 R1 R2 C15 false true false)
    (T16 : CK K "NoStep" [] C16 R2 e16 (PySem.W.fnOf "__init__" "NoStep.__init__" (defArgs (inn (top 20))) (defBody (inn (top 20))) (defScope (inn (top 20))) .none kv16 dv16 pv16 av16 cv16 tv16) (inn (top 20)) "NoStep.__init__") (H16 : Kit K R0 R1 R2 C16 false false true)
    (T17 : CK K "TooMany" ["most"] C17 R2 e17 (PySem.W.fnOf "__init__" "TooMany.__init__" (defArgs (inn (top 21))) (defBody (inn (top 21))) (defScope (inn (top 21))) .none kv17 dv17 pv17 av17 cv17 tv17) (inn (top 21)) "TooMany.__init__") (H17 : Kit K R0 R1 R2 C17 false false true)
    (T18 : CK K "Broken" ["index", "shown"] C18 R2 e18 (PySem.W.fnOf "__init__" "Broken.__init__" (defArgs (inn (top 22))) (defBody (inn (top 22))) (defScope (inn (top 22))) .none kv18 dv18 pv18 av18 cv18 tv18) (inn (top 22)) "Broken.__init__") (H18 : Kit K R0 R1 R2 C18 false false true)
    (x10 : PySem.W.exmOne K (.ref C10) (.ref R0) = some true) (x13 : PySem.W.exmOne K (.ref C13) (.ref R1) = some true) (x17 : PySem.W.exmOne K (.ref C17) (.ref R2) = some true)
    (a0 : PySem.W.nsIn K mainGlobals "_law_every" = some (some (.ref f0))) (l0 : K.lookup f0 = some ⟨oc0, od0, .func (PySem.W.fnOf "_law_every" "_law_every" (defArgs sEvery) (defBody sEvery) (defScope sEvery) .none kV0 dc0 pm0 an0 cd0 ct0), sl0⟩) (c0 : PySem.W.codeIn K cd0 "_law_every" = true) (k0 : PySem.W.keepIn K (.ref f0) = true)
    (a1 : PySem.W.nsIn K mainGlobals "_law_named" = some (some (.ref f1))) (l1 : K.lookup f1 = some ⟨oc1, od1, .func (PySem.W.fnOf "_law_named" "_law_named" (defArgs sNamed) (defBody sNamed) (defScope sNamed) .none kV1 dc1 pm1 an1 cd1 ct1), sl1⟩) (c1 : PySem.W.codeIn K cd1 "_law_named" = true) (k1 : PySem.W.keepIn K (.ref f1) = true)
    (a2 : PySem.W.nsIn K mainGlobals "_law_has" = some (some (.ref f2))) (l2 : K.lookup f2 = some ⟨oc2, od2, .func (PySem.W.fnOf "_law_has" "_law_has" (defArgs sHas) (defBody sHas) (defScope sHas) .none kV2 dc2 pm2 an2 cd2 ct2), sl2⟩) (c2 : PySem.W.codeIn K cd2 "_law_has" = true) (k2 : PySem.W.keepIn K (.ref f2) = true)
    (a3 : PySem.W.nsIn K mainGlobals "_law_bases" = some (some (.ref f3))) (l3 : K.lookup f3 = some ⟨oc3, od3, .func (PySem.W.fnOf "_law_bases" "_law_bases" (defArgs sBases) (defBody sBases) (defScope sBases) .none kV3 dc3 pm3 an3 cd3 ct3), sl3⟩) (c3 : PySem.W.codeIn K cd3 "_law_bases" = true) (k3 : PySem.W.keepIn K (.ref f3) = true)
    (a4 : PySem.W.nsIn K mainGlobals "_law_caught" = some (some (.ref f4))) (l4 : K.lookup f4 = some ⟨oc4, od4, .func (PySem.W.fnOf "_law_caught" "_law_caught" (defArgs sCaught) (defBody sCaught) (defScope sCaught) .none kV4 dc4 pm4 an4 cd4 ct4), sl4⟩) (c4 : PySem.W.codeIn K cd4 "_law_caught" = true) (k4 : PySem.W.keepIn K (.ref f4) = true)
    (a5 : PySem.W.nsIn K mainGlobals "_law_right" = some (some (.ref f5))) (l5 : K.lookup f5 = some ⟨oc5, od5, .func (PySem.W.fnOf "_law_right" "_law_right" (defArgs sRight) (defBody sRight) (defScope sRight) .none kV5 dc5 pm5 an5 cd5 ct5), sl5⟩) (c5 : PySem.W.codeIn K cd5 "_law_right" = true) (k5 : PySem.W.keepIn K (.ref f5) = true)
    (a6 : PySem.W.nsIn K mainGlobals "law" = some (some (.ref f6))) (l6 : K.lookup f6 = some ⟨oc6, od6, .func (PySem.W.fnOf "law" "law" (defArgs sLaw) (defBody sLaw) (defScope sLaw) .none kV6 dc6 pm6 an6 cd6 ct6), sl6⟩) (c6 : PySem.W.codeIn K cd6 "law" = true) (k6 : PySem.W.keepIn K (.ref f6) = true)
    (z0 : PySem.W.nsIn K mainGlobals "len" = some none)
    (z1 : PySem.W.nsIn K mainGlobals "range" = some none)
    (z2 : PySem.W.nsIn K mainGlobals "repr" = some none)
    (z3 : PySem.W.nsIn K mainGlobals "all" = some none)
    (z4 : PySem.W.nsIn K mainGlobals "int" = some none)
    (z5 : PySem.W.nsIn K mainGlobals "isinstance" = some none)
    (z6 : PySem.W.nsIn K mainGlobals "ValueError" = some none)
    (z7 : PySem.W.nsIn K mainGlobals "LookupError" = some none)
    (z8 : PySem.W.nsIn K mainGlobals "ArithmeticError" = some none)
    (m0 : PySem.W.nsIn K mainGlobals "MOST_COUNT" = some (some (.int (10 ^ 30) tk0)))
    (m1 : PySem.W.nsIn K mainGlobals "MOST_MARK" = some (some (.int (40) tk1)))
    (m2 : PySem.W.nsIn K mainGlobals "MOST_PART" = some (some (.int (60) tk2)))
    (m3 : PySem.W.nsIn K mainGlobals "MOST_SIGHTINGS" = some (some (.int (20) tk3)))
    (m4 : PySem.W.nsIn K mainGlobals "MOST_LISTED" = some (some (.int (12) tk4)))
    (m5 : PySem.W.nsIn K mainGlobals "MOST_COUNTED" = some (some (.int (2000) tk5)))
    : ∃ fd : FuncData, (∀ (s : Shared) (v : Value), BindsTo s fd ⟨[v], []⟩ [("_law_script", v)]) ∧ ∀ base : Heap, K.In base → base.Ns mainGlobals mg → FnG l.prog w K mg base CX0 5 fa fd ["_law_script"] (spLaw K) := by
  cases hfa.symm.trans (PySem.W.mg_of X G a6)
  have F0 := fun_mk (st := sEvery) l0 c0 k0
  have d0 : Df K mg "_law_every" sEvery ["_law_thing", "_law_other_thing"] f0 _ := ⟨F0, PySem.W.mg_of X G a0, F0.binds fun _ _ _ _ _ _ us hl => match us, hl with | [_, _], _ => rfl⟩
  have F1 := fun_mk (st := sNamed) l1 c1 k1
  have d1 : Df K mg "_law_named" sNamed ["_law_thing", "_law_other_thing"] f1 _ := ⟨F1, PySem.W.mg_of X G a1, F1.binds fun _ _ _ _ _ _ us hl => match us, hl with | [_, _], _ => rfl⟩
  have F2 := fun_mk (st := sHas) l2 c2 k2
  have d2 : Df K mg "_law_has" sHas ["_law_e", "_law_field"] f2 _ := ⟨F2, PySem.W.mg_of X G a2, F2.binds fun _ _ _ _ _ _ us hl => match us, hl with | [_, _], _ => rfl⟩
  have F3 := fun_mk (st := sBases) l3 c3 k3
  have d3 : Df K mg "_law_bases" sBases ["_law_e"] f3 _ := ⟨F3, PySem.W.mg_of X G a3, F3.binds fun _ _ _ _ _ _ us hl => match us, hl with | [_], _ => rfl⟩
  have F4 := fun_mk (st := sCaught) l4 c4 k4
  have d4 : Df K mg "_law_caught" sCaught ["_law_thing"] f4 _ := ⟨F4, PySem.W.mg_of X G a4, F4.binds fun _ _ _ _ _ _ us hl => match us, hl with | [_], _ => rfl⟩
  have F5 := fun_mk (st := sRight) l5 c5 k5
  have d5 : Df K mg "_law_right" sRight ["_law_thing", "_law_other_thing"] f5 _ := ⟨F5, PySem.W.mg_of X G a5, F5.binds fun _ _ _ _ _ _ us hl => match us, hl with | [_, _], _ => rfl⟩
  have F6 := fun_mk (st := sLaw) l6 c6 k6
  have n0 := PySem.W.mg_none_of X G z0
  have n1 := PySem.W.mg_none_of X G z1
  have n2 := PySem.W.mg_none_of X G z2
  have n3 := PySem.W.mg_none_of X G z3
  have n4 := PySem.W.mg_none_of X G z4
  have n5 := PySem.W.mg_none_of X G z5
  have n6 := PySem.W.mg_none_of X G z6
  have n7 := PySem.W.mg_none_of X G z7
  have n8 := PySem.W.mg_none_of X G z8
  have v0 := PySem.W.mg_of X G m0
  have v1 := PySem.W.mg_of X G m1
  have v2 := PySem.W.mg_of X G m2
  have v3 := PySem.W.mg_of X G m3
  have v4 := PySem.W.mg_of X G m4
  have v5 := PySem.W.mg_of X G m5
  refine ⟨PySem.W.fnOf "law" "law" (defArgs sLaw) (defBody sLaw) (defScope sLaw) .none kV6 dc6 pm6 an6 cd6 ct6, fun s v => .of_eq rfl, fun base _ _ => ?_⟩
  let M : Cls l.prog w K mg base := { c0 := ⟨C0, e0, _, cl0 X G T0⟩, c1 := ⟨C1, e1, _, cl1 X G T1⟩, c2 := ⟨C2, e2, _, cl2 X G T2⟩, c3 := ⟨C3, e3, _, cl3 X G T3⟩, c4 := ⟨C4, e4, _, cl4 X G T4⟩, c5 := ⟨C5, e5, _, cl5 X G T5⟩, c6 := ⟨C6, e6, _, cl6 X G T6⟩, c7 := ⟨C7, e7, _, cl7 X G T7⟩, c8 := ⟨C8, e8, _, cl8 X G T8⟩, c9 := ⟨C9, e9, _, cl9 X G T9⟩, c10 := ⟨C10, e10, _, cl10 X G T10⟩, c11 := ⟨C11, e11, _, cl11 X G T11⟩, c12 := ⟨C12, e12, _, cl12 X G T12⟩, c13 := ⟨C13, e13, _, cl13 X G T13⟩, c14 := ⟨C14, e14, _, cl14 X G T14⟩, c15 := ⟨C15, e15, _, cl15 X G T15⟩, c16 := ⟨C16, e16, _, cl16 X G T16⟩, c17 := ⟨C17, e17, _, cl17 X G T17⟩, c18 := ⟨C18, e18, _, cl18 X G T18⟩, k0 := kn1 fun _ _ => rfl, k1 := kn1 fun _ _ => rfl, k2 := kn1 fun _ _ => rfl, k3 := kn1 fun _ _ => rfl, k4 := kn1 fun _ _ => rfl, k5 := kn1 fun _ _ => rfl, k6 := kn1 fun _ _ => rfl, k7 := kn1 fun _ _ => rfl, k8 := kn1 fun _ _ => rfl, k9 := kn1 fun _ _ => rfl, k10 := kn1 fun _ _ => rfl, k11 := kn1 fun _ _ => rfl, k12 := kn1 fun _ _ => rfl, k13 := kn1 fun _ _ => rfl, k14 := kn1 fun _ _ => rfl, k17 := kn1 fun _ _ => rfl, k18 := kn2s fun _ _ _ => rfl }
  let B : Bs mg := { R0 := R0, R1 := R1, R2 := R2, g0 := PySem.W.mg_of X G r0, g1 := PySem.W.mg_of X G r1, g2 := PySem.W.mg_of X G r2, v0 := n6, v1 := n7, v2 := n8, isi := n5 }
  have hO : Ofs B M := fun i hi => match i, hi with
    | 0, _ => ⟨H0.o0, H0.o1, H0.o2, H0.t0, H0.t1, H0.t2⟩
    | 1, _ => ⟨H1.o0, H1.o1, H1.o2, H1.t0, H1.t1, H1.t2⟩
    | 2, _ => ⟨H2.o0, H2.o1, H2.o2, H2.t0, H2.t1, H2.t2⟩
    | 3, _ => ⟨H3.o0, H3.o1, H3.o2, H3.t0, H3.t1, H3.t2⟩
    | 4, _ => ⟨H4.o0, H4.o1, H4.o2, H4.t0, H4.t1, H4.t2⟩
    | 5, _ => ⟨H5.o0, H5.o1, H5.o2, H5.t0, H5.t1, H5.t2⟩
    | 6, _ => ⟨H6.o0, H6.o1, H6.o2, H6.t0, H6.t1, H6.t2⟩
    | 7, _ => ⟨H7.o0, H7.o1, H7.o2, H7.t0, H7.t1, H7.t2⟩
    | 8, _ => ⟨H8.o0, H8.o1, H8.o2, H8.t0, H8.t1, H8.t2⟩
    | 9, _ => ⟨H9.o0, H9.o1, H9.o2, H9.t0, H9.t1, H9.t2⟩
    | 10, _ => ⟨H10.o0, H10.o1, H10.o2, H10.t0, H10.t1, H10.t2⟩
    | 11, _ => ⟨H11.o0, H11.o1, H11.o2, H11.t0, H11.t1, H11.t2⟩
    | 12, _ => ⟨H12.o0, H12.o1, H12.o2, H12.t0, H12.t1, H12.t2⟩
    | 13, _ => ⟨H13.o0, H13.o1, H13.o2, H13.t0, H13.t1, H13.t2⟩
    | 14, _ => ⟨H14.o0, H14.o1, H14.o2, H14.t0, H14.t1, H14.t2⟩
    | 15, _ => ⟨H15.o0, H15.o1, H15.o2, H15.t0, H15.t1, H15.t2⟩
    | 16, _ => ⟨H16.o0, H16.o1, H16.o2, H16.t0, H16.t1, H16.t2⟩
    | 17, _ => ⟨H17.o0, H17.o1, H17.o2, H17.t0, H17.t1, H17.t2⟩
    | 18, _ => ⟨H18.o0, H18.o1, H18.o2, H18.t0, H18.t1, H18.t2⟩
    | _ + 19, z => absurd z (by omega)
  have W : Bw mg := ⟨n0, n1, n2⟩
  have GR := ok_right F5 M B W hO x10 x13 x17 d0 d1 d2 d3 d4
  exact ok_law F6 ⟨⟨_, v0⟩, ⟨_, v1⟩, ⟨_, v2⟩, ⟨_, v3⟩, ⟨_, v4⟩, ⟨_, v5⟩, n3, n4⟩ W d5 GR
theorem walk {l : PySem.W.OpenLaw} {q : Program} {loose : List Str} {XP : (Str → Option Value) → Heap → Prop} {YP : World → Heap → Prop} {d : DefRec} {K : Params → PySem.W.Frag} (hn : l.most = some 63) (hdf : d.params.defaults = [])
    (hY : ∀ (w : World) (h : Heap), YP w h → (K w.params).In h) (F : ∀ (w : World) (mg : Str → Option Value) (fa : Addr) (h : Heap), (K w.params).In h → h.Ns mainGlobals mg → mg d.name = some (.ref fa) →
      ∃ fd : FuncData, (∀ (s : Shared) (u : Value), BindsTo s fd ⟨[u], []⟩ [("_law_script", u)]) ∧ ∀ base : Heap, (K w.params).In base → base.Ns mainGlobals mg → FnG l.prog w (K w.params) mg base CX0 5 fa fd ["_law_script"] (spLaw (K w.params))) :
    PySem.W.WalkO q loose XP YP l.row.toRowW d [] (fun f vs => PySem.call f vs) :=
  walkG (n := 63) (k := 5) (x := "_law_script") (CX := fun _ => CX0) (sp := fun w => spLaw (K w.params)) hn (by decide) hdf ⟨rfl, by decide, by decide⟩ hY F (fun _ _ a ns hl _ hS => ⟨a, ns, rfl, hS, hl, fun _ => rfl⟩) fun _ _ _ _ _ z => z
end My
open PySem PySem.W PyProof.Rows
set_option maxRecDepth 100000 in
set_option maxHeartbeats 0 in
theorem PySem.Challenge.cw_rimorders_k01_limits_and_errors_holds : PySem.Challenge.rw_rimorders_k01_limits_and_errors.Holds := by
  w_on; o_law; k_head; (case hw => w_witness2)
  k_fill
  refine My.walk (l := PySem.Challenge.rw_rimorders_k01_limits_and_errors) rfl rfl (fun w h Y => PySem.W.kIn_of Y) ?F
  case F =>
    intro w mg fa h KX G hmg
    refine' My.all_mk KX G hmg ?r0 ?r1 ?r2 ?T0 ?H0 ?T1 ?H1 ?T2 ?H2 ?T3 ?H3 ?T4 ?H4 ?T5 ?H5 ?T6 ?H6 ?T7 ?H7 ?T8 ?H8 ?T9 ?H9 ?T10 ?H10 ?T11 ?H11 ?T12 ?H12 ?T13 ?H13 ?T14 ?H14 ?T15 ?H15 ?T16 ?H16 ?T17 ?H17 ?T18 ?H18 ?x10 ?x13 ?x17 ?a0 ?l0 ?c0 ?k0 ?a1 ?l1 ?c1 ?k1 ?a2 ?l2 ?c2 ?k2 ?a3 ?l3 ?c3 ?k3 ?a4 ?l4 ?c4 ?k4 ?a5 ?l5 ?c5 ?k5 ?a6 ?l6 ?c6 ?k6 ?z0 ?z1 ?z2 ?z3 ?z4 ?z5 ?z6 ?z7 ?z8 ?m0 ?m1 ?m2 ?m3 ?m4 ?m5
    (case r0 => k_is)
    (case r1 => k_is)
    (case r2 => k_is)
    case T0 =>
      refine' My.ck_mk (My.Glob.mk ?w0hn ?w0ht) Gn.basV ?w0g ?w0xL ?w0sa ?w0ga ?w0gg ?w0gc ?w0i ?w0ty ?w0l ?w0c ?w0kf ?w0kC ?w0eC ?w0tC ?w0hC ?w0mC (List.forall_mem_singleton.mpr ?w0n0)
      (case w0hn => k_is); (case w0ht => k_is)
      (case w0g => k_is)
      (case w0xL => k_is)
      (case w0sa => k_is)
      (case w0ga => k_is)
      (case w0gg => k_is)
      (case w0gc => k_is)
      (case w0i => k_is)
      (case w0ty => k_is)
      (case w0l => k_is)
      (case w0c => k_is)
      (case w0kf => k_is)
      (case w0kC => k_is)
      (case w0eC => k_is)
      (case w0tC => k_is)
      (case w0hC => k_is)
      (case w0mC => k_is)
      (case w0n0 => k_is)
    case H0 =>
      refine' My.kit_mk ⟨?v0a0, ?v0a1, ?v0a2⟩ ⟨?v0b0, ?v0b1, ?v0b2⟩ ⟨?v0c0, ?v0c1, ?v0c2⟩ ?v0n0 ?v0n1 ?v0n2 ?v0s0 ?v0s1 ?v0s2 ?v0u0 ?v0u1 ?v0u2
      (case v0a0 => k_is)
      (case v0a1 => k_is)
      (case v0a2 => k_is)
      (case v0b0 => k_is)
      (case v0b1 => k_is)
      (case v0b2 => k_is)
      (case v0c0 => k_is)
      (case v0c1 => k_is)
      (case v0c2 => k_is)
      (case v0s0 => k_is)
      (case v0s1 => k_is)
      (case v0s2 => k_is)
      (case v0u0 => k_is)
      (case v0u1 => k_is)
      (case v0u2 => k_is)
      (case v0n0 => decide)
      (case v0n1 => decide)
      (case v0n2 => decide)
    case T1 =>
      refine' My.ck_mk (My.Glob.mk ?w1hn ?w1ht) Gn.basV ?w1g ?w1xL ?w1sa ?w1ga ?w1gg ?w1gc ?w1i ?w1ty ?w1l ?w1c ?w1kf ?w1kC ?w1eC ?w1tC ?w1hC ?w1mC (List.forall_mem_singleton.mpr ?w1n0)
      (case w1hn => k_is); (case w1ht => k_is)
      (case w1g => k_is)
      (case w1xL => k_is)
      (case w1sa => k_is)
      (case w1ga => k_is)
      (case w1gg => k_is)
      (case w1gc => k_is)
      (case w1i => k_is)
      (case w1ty => k_is)
      (case w1l => k_is)
      (case w1c => k_is)
      (case w1kf => k_is)
      (case w1kC => k_is)
      (case w1eC => k_is)
      (case w1tC => k_is)
      (case w1hC => k_is)
      (case w1mC => k_is)
      (case w1n0 => k_is)
    case H1 =>
      refine' My.kit_mk ⟨?v1a0, ?v1a1, ?v1a2⟩ ⟨?v1b0, ?v1b1, ?v1b2⟩ ⟨?v1c0, ?v1c1, ?v1c2⟩ ?v1n0 ?v1n1 ?v1n2 ?v1s0 ?v1s1 ?v1s2 ?v1u0 ?v1u1 ?v1u2
      (case v1a0 => k_is)
      (case v1a1 => k_is)
      (case v1a2 => k_is)
      (case v1b0 => k_is)
      (case v1b1 => k_is)
      (case v1b2 => k_is)
      (case v1c0 => k_is)
      (case v1c1 => k_is)
      (case v1c2 => k_is)
      (case v1s0 => k_is)
      (case v1s1 => k_is)
      (case v1s2 => k_is)
      (case v1u0 => k_is)
      (case v1u1 => k_is)
      (case v1u2 => k_is)
      (case v1n0 => decide)
      (case v1n1 => decide)
      (case v1n2 => decide)
    case T2 =>
      refine' My.ck_mk (My.Glob.mk ?w2hn ?w2ht) Gn.basV ?w2g ?w2xL ?w2sa ?w2ga ?w2gg ?w2gc ?w2i ?w2ty ?w2l ?w2c ?w2kf ?w2kC ?w2eC ?w2tC ?w2hC ?w2mC (List.forall_mem_singleton.mpr ?w2n0)
      (case w2hn => k_is); (case w2ht => k_is)
      (case w2g => k_is)
      (case w2xL => k_is)
      (case w2sa => k_is)
      (case w2ga => k_is)
      (case w2gg => k_is)
      (case w2gc => k_is)
      (case w2i => k_is)
      (case w2ty => k_is)
      (case w2l => k_is)
      (case w2c => k_is)
      (case w2kf => k_is)
      (case w2kC => k_is)
      (case w2eC => k_is)
      (case w2tC => k_is)
      (case w2hC => k_is)
      (case w2mC => k_is)
      (case w2n0 => k_is)
    case H2 =>
      refine' My.kit_mk ⟨?v2a0, ?v2a1, ?v2a2⟩ ⟨?v2b0, ?v2b1, ?v2b2⟩ ⟨?v2c0, ?v2c1, ?v2c2⟩ ?v2n0 ?v2n1 ?v2n2 ?v2s0 ?v2s1 ?v2s2 ?v2u0 ?v2u1 ?v2u2
      (case v2a0 => k_is)
      (case v2a1 => k_is)
      (case v2a2 => k_is)
      (case v2b0 => k_is)
      (case v2b1 => k_is)
      (case v2b2 => k_is)
      (case v2c0 => k_is)
      (case v2c1 => k_is)
      (case v2c2 => k_is)
      (case v2s0 => k_is)
      (case v2s1 => k_is)
      (case v2s2 => k_is)
      (case v2u0 => k_is)
      (case v2u1 => k_is)
      (case v2u2 => k_is)
      (case v2n0 => decide)
      (case v2n1 => decide)
      (case v2n2 => decide)
    case T3 =>
      refine' My.ck_mk (My.Glob.mk ?w3hn ?w3ht) Gn.basV ?w3g ?w3xL ?w3sa ?w3ga ?w3gg ?w3gc ?w3i ?w3ty ?w3l ?w3c ?w3kf ?w3kC ?w3eC ?w3tC ?w3hC ?w3mC (List.forall_mem_singleton.mpr ?w3n0)
      (case w3hn => k_is); (case w3ht => k_is)
      (case w3g => k_is)
      (case w3xL => k_is)
      (case w3sa => k_is)
      (case w3ga => k_is)
      (case w3gg => k_is)
      (case w3gc => k_is)
      (case w3i => k_is)
      (case w3ty => k_is)
      (case w3l => k_is)
      (case w3c => k_is)
      (case w3kf => k_is)
      (case w3kC => k_is)
      (case w3eC => k_is)
      (case w3tC => k_is)
      (case w3hC => k_is)
      (case w3mC => k_is)
      (case w3n0 => k_is)
    case H3 =>
      refine' My.kit_mk ⟨?v3a0, ?v3a1, ?v3a2⟩ ⟨?v3b0, ?v3b1, ?v3b2⟩ ⟨?v3c0, ?v3c1, ?v3c2⟩ ?v3n0 ?v3n1 ?v3n2 ?v3s0 ?v3s1 ?v3s2 ?v3u0 ?v3u1 ?v3u2
      (case v3a0 => k_is)
      (case v3a1 => k_is)
      (case v3a2 => k_is)
      (case v3b0 => k_is)
      (case v3b1 => k_is)
      (case v3b2 => k_is)
      (case v3c0 => k_is)
      (case v3c1 => k_is)
      (case v3c2 => k_is)
      (case v3s0 => k_is)
      (case v3s1 => k_is)
      (case v3s2 => k_is)
      (case v3u0 => k_is)
      (case v3u1 => k_is)
      (case v3u2 => k_is)
      (case v3n0 => decide)
      (case v3n1 => decide)
      (case v3n2 => decide)
    case T4 =>
      refine' My.ck_mk (My.Glob.mk ?w4hn ?w4ht) Gn.basV ?w4g ?w4xL ?w4sa ?w4ga ?w4gg ?w4gc ?w4i ?w4ty ?w4l ?w4c ?w4kf ?w4kC ?w4eC ?w4tC ?w4hC ?w4mC (List.forall_mem_singleton.mpr ?w4n0)
      (case w4hn => k_is); (case w4ht => k_is)
      (case w4g => k_is)
      (case w4xL => k_is)
      (case w4sa => k_is)
      (case w4ga => k_is)
      (case w4gg => k_is)
      (case w4gc => k_is)
      (case w4i => k_is)
      (case w4ty => k_is)
      (case w4l => k_is)
      (case w4c => k_is)
      (case w4kf => k_is)
      (case w4kC => k_is)
      (case w4eC => k_is)
      (case w4tC => k_is)
      (case w4hC => k_is)
      (case w4mC => k_is)
      (case w4n0 => k_is)
    case H4 =>
      refine' My.kit_mk ⟨?v4a0, ?v4a1, ?v4a2⟩ ⟨?v4b0, ?v4b1, ?v4b2⟩ ⟨?v4c0, ?v4c1, ?v4c2⟩ ?v4n0 ?v4n1 ?v4n2 ?v4s0 ?v4s1 ?v4s2 ?v4u0 ?v4u1 ?v4u2
      (case v4a0 => k_is)
      (case v4a1 => k_is)
      (case v4a2 => k_is)
      (case v4b0 => k_is)
      (case v4b1 => k_is)
      (case v4b2 => k_is)
      (case v4c0 => k_is)
      (case v4c1 => k_is)
      (case v4c2 => k_is)
      (case v4s0 => k_is)
      (case v4s1 => k_is)
      (case v4s2 => k_is)
      (case v4u0 => k_is)
      (case v4u1 => k_is)
      (case v4u2 => k_is)
      (case v4n0 => decide)
      (case v4n1 => decide)
      (case v4n2 => decide)
    case T5 =>
      refine' My.ck_mk (My.Glob.mk ?w5hn ?w5ht) Gn.basV ?w5g ?w5xL ?w5sa ?w5ga ?w5gg ?w5gc ?w5i ?w5ty ?w5l ?w5c ?w5kf ?w5kC ?w5eC ?w5tC ?w5hC ?w5mC (List.forall_mem_singleton.mpr ?w5n0)
      (case w5hn => k_is); (case w5ht => k_is)
      (case w5g => k_is)
      (case w5xL => k_is)
      (case w5sa => k_is)
      (case w5ga => k_is)
      (case w5gg => k_is)
      (case w5gc => k_is)
      (case w5i => k_is)
      (case w5ty => k_is)
      (case w5l => k_is)
      (case w5c => k_is)
      (case w5kf => k_is)
      (case w5kC => k_is)
      (case w5eC => k_is)
      (case w5tC => k_is)
      (case w5hC => k_is)
      (case w5mC => k_is)
      (case w5n0 => k_is)
    case H5 =>
      refine' My.kit_mk ⟨?v5a0, ?v5a1, ?v5a2⟩ ⟨?v5b0, ?v5b1, ?v5b2⟩ ⟨?v5c0, ?v5c1, ?v5c2⟩ ?v5n0 ?v5n1 ?v5n2 ?v5s0 ?v5s1 ?v5s2 ?v5u0 ?v5u1 ?v5u2
      (case v5a0 => k_is)
      (case v5a1 => k_is)
      (case v5a2 => k_is)
      (case v5b0 => k_is)
      (case v5b1 => k_is)
      (case v5b2 => k_is)
      (case v5c0 => k_is)
      (case v5c1 => k_is)
      (case v5c2 => k_is)
      (case v5s0 => k_is)
      (case v5s1 => k_is)
      (case v5s2 => k_is)
      (case v5u0 => k_is)
      (case v5u1 => k_is)
      (case v5u2 => k_is)
      (case v5n0 => decide)
      (case v5n1 => decide)
      (case v5n2 => decide)
    case T6 =>
      refine' My.ck_mk (My.Glob.mk ?w6hn ?w6ht) Gn.basV ?w6g ?w6xL ?w6sa ?w6ga ?w6gg ?w6gc ?w6i ?w6ty ?w6l ?w6c ?w6kf ?w6kC ?w6eC ?w6tC ?w6hC ?w6mC (List.forall_mem_singleton.mpr ?w6n0)
      (case w6hn => k_is); (case w6ht => k_is)
      (case w6g => k_is)
      (case w6xL => k_is)
      (case w6sa => k_is)
      (case w6ga => k_is)
      (case w6gg => k_is)
      (case w6gc => k_is)
      (case w6i => k_is)
      (case w6ty => k_is)
      (case w6l => k_is)
      (case w6c => k_is)
      (case w6kf => k_is)
      (case w6kC => k_is)
      (case w6eC => k_is)
      (case w6tC => k_is)
      (case w6hC => k_is)
      (case w6mC => k_is)
      (case w6n0 => k_is)
    case H6 =>
      refine' My.kit_mk ⟨?v6a0, ?v6a1, ?v6a2⟩ ⟨?v6b0, ?v6b1, ?v6b2⟩ ⟨?v6c0, ?v6c1, ?v6c2⟩ ?v6n0 ?v6n1 ?v6n2 ?v6s0 ?v6s1 ?v6s2 ?v6u0 ?v6u1 ?v6u2
      (case v6a0 => k_is)
      (case v6a1 => k_is)
      (case v6a2 => k_is)
      (case v6b0 => k_is)
      (case v6b1 => k_is)
      (case v6b2 => k_is)
      (case v6c0 => k_is)
      (case v6c1 => k_is)
      (case v6c2 => k_is)
      (case v6s0 => k_is)
      (case v6s1 => k_is)
      (case v6s2 => k_is)
      (case v6u0 => k_is)
      (case v6u1 => k_is)
      (case v6u2 => k_is)
      (case v6n0 => decide)
      (case v6n1 => decide)
      (case v6n2 => decide)
    case T7 =>
      refine' My.ck_mk (My.Glob.mk ?w7hn ?w7ht) Gn.basV ?w7g ?w7xL ?w7sa ?w7ga ?w7gg ?w7gc ?w7i ?w7ty ?w7l ?w7c ?w7kf ?w7kC ?w7eC ?w7tC ?w7hC ?w7mC (List.forall_mem_singleton.mpr ?w7n0)
      (case w7hn => k_is); (case w7ht => k_is)
      (case w7g => k_is)
      (case w7xL => k_is)
      (case w7sa => k_is)
      (case w7ga => k_is)
      (case w7gg => k_is)
      (case w7gc => k_is)
      (case w7i => k_is)
      (case w7ty => k_is)
      (case w7l => k_is)
      (case w7c => k_is)
      (case w7kf => k_is)
      (case w7kC => k_is)
      (case w7eC => k_is)
      (case w7tC => k_is)
      (case w7hC => k_is)
      (case w7mC => k_is)
      (case w7n0 => k_is)
    case H7 =>
      refine' My.kit_mk ⟨?v7a0, ?v7a1, ?v7a2⟩ ⟨?v7b0, ?v7b1, ?v7b2⟩ ⟨?v7c0, ?v7c1, ?v7c2⟩ ?v7n0 ?v7n1 ?v7n2 ?v7s0 ?v7s1 ?v7s2 ?v7u0 ?v7u1 ?v7u2
      (case v7a0 => k_is)
      (case v7a1 => k_is)
      (case v7a2 => k_is)
      (case v7b0 => k_is)
      (case v7b1 => k_is)
      (case v7b2 => k_is)
      (case v7c0 => k_is)
      (case v7c1 => k_is)
      (case v7c2 => k_is)
      (case v7s0 => k_is)
      (case v7s1 => k_is)
      (case v7s2 => k_is)
      (case v7u0 => k_is)
      (case v7u1 => k_is)
      (case v7u2 => k_is)
      (case v7n0 => decide)
      (case v7n1 => decide)
      (case v7n2 => decide)
    case T8 =>
      refine' My.ck_mk (My.Glob.mk ?w8hn ?w8ht) Gn.basV ?w8g ?w8xL ?w8sa ?w8ga ?w8gg ?w8gc ?w8i ?w8ty ?w8l ?w8c ?w8kf ?w8kC ?w8eC ?w8tC ?w8hC ?w8mC (List.forall_mem_singleton.mpr ?w8n0)
      (case w8hn => k_is); (case w8ht => k_is)
      (case w8g => k_is)
      (case w8xL => k_is)
      (case w8sa => k_is)
      (case w8ga => k_is)
      (case w8gg => k_is)
      (case w8gc => k_is)
      (case w8i => k_is)
      (case w8ty => k_is)
      (case w8l => k_is)
      (case w8c => k_is)
      (case w8kf => k_is)
      (case w8kC => k_is)
      (case w8eC => k_is)
      (case w8tC => k_is)
      (case w8hC => k_is)
      (case w8mC => k_is)
      (case w8n0 => k_is)
    case H8 =>
      refine' My.kit_mk ⟨?v8a0, ?v8a1, ?v8a2⟩ ⟨?v8b0, ?v8b1, ?v8b2⟩ ⟨?v8c0, ?v8c1, ?v8c2⟩ ?v8n0 ?v8n1 ?v8n2 ?v8s0 ?v8s1 ?v8s2 ?v8u0 ?v8u1 ?v8u2
      (case v8a0 => k_is)
      (case v8a1 => k_is)
      (case v8a2 => k_is)
      (case v8b0 => k_is)
      (case v8b1 => k_is)
      (case v8b2 => k_is)
      (case v8c0 => k_is)
      (case v8c1 => k_is)
      (case v8c2 => k_is)
      (case v8s0 => k_is)
      (case v8s1 => k_is)
      (case v8s2 => k_is)
      (case v8u0 => k_is)
      (case v8u1 => k_is)
      (case v8u2 => k_is)
      (case v8n0 => decide)
      (case v8n1 => decide)
      (case v8n2 => decide)
    case T9 =>
      refine' My.ck_mk (My.Glob.mk ?w9hn ?w9ht) Gn.basV ?w9g ?w9xL ?w9sa ?w9ga ?w9gg ?w9gc ?w9i ?w9ty ?w9l ?w9c ?w9kf ?w9kC ?w9eC ?w9tC ?w9hC ?w9mC (List.forall_mem_singleton.mpr ?w9n0)
      (case w9hn => k_is); (case w9ht => k_is)
      (case w9g => k_is)
      (case w9xL => k_is)
      (case w9sa => k_is)
      (case w9ga => k_is)
      (case w9gg => k_is)
      (case w9gc => k_is)
      (case w9i => k_is)
      (case w9ty => k_is)
      (case w9l => k_is)
      (case w9c => k_is)
      (case w9kf => k_is)
      (case w9kC => k_is)
      (case w9eC => k_is)
      (case w9tC => k_is)
      (case w9hC => k_is)
      (case w9mC => k_is)
      (case w9n0 => k_is)
    case H9 =>
      refine' My.kit_mk ⟨?v9a0, ?v9a1, ?v9a2⟩ ⟨?v9b0, ?v9b1, ?v9b2⟩ ⟨?v9c0, ?v9c1, ?v9c2⟩ ?v9n0 ?v9n1 ?v9n2 ?v9s0 ?v9s1 ?v9s2 ?v9u0 ?v9u1 ?v9u2
      (case v9a0 => k_is)
      (case v9a1 => k_is)
      (case v9a2 => k_is)
      (case v9b0 => k_is)
      (case v9b1 => k_is)
      (case v9b2 => k_is)
      (case v9c0 => k_is)
      (case v9c1 => k_is)
      (case v9c2 => k_is)
      (case v9s0 => k_is)
      (case v9s1 => k_is)
      (case v9s2 => k_is)
      (case v9u0 => k_is)
      (case v9u1 => k_is)
      (case v9u2 => k_is)
      (case v9n0 => decide)
      (case v9n1 => decide)
      (case v9n2 => decide)
    case T10 =>
      refine' My.ck_mk (My.Glob.mk ?w10hn ?w10ht) Gn.basV ?w10g ?w10xL ?w10sa ?w10ga ?w10gg ?w10gc ?w10i ?w10ty ?w10l ?w10c ?w10kf ?w10kC ?w10eC ?w10tC ?w10hC ?w10mC (List.forall_mem_singleton.mpr ?w10n0)
      (case w10hn => k_is); (case w10ht => k_is)
      (case w10g => k_is)
      (case w10xL => k_is)
      (case w10sa => k_is)
      (case w10ga => k_is)
      (case w10gg => k_is)
      (case w10gc => k_is)
      (case w10i => k_is)
      (case w10ty => k_is)
      (case w10l => k_is)
      (case w10c => k_is)
      (case w10kf => k_is)
      (case w10kC => k_is)
      (case w10eC => k_is)
      (case w10tC => k_is)
      (case w10hC => k_is)
      (case w10mC => k_is)
      (case w10n0 => k_is)
    case H10 =>
      refine' My.kit_mk ⟨?v10a0, ?v10a1, ?v10a2⟩ ⟨?v10b0, ?v10b1, ?v10b2⟩ ⟨?v10c0, ?v10c1, ?v10c2⟩ ?v10n0 ?v10n1 ?v10n2 ?v10s0 ?v10s1 ?v10s2 ?v10u0 ?v10u1 ?v10u2
      (case v10a0 => k_is)
      (case v10a1 => k_is)
      (case v10a2 => k_is)
      (case v10b0 => k_is)
      (case v10b1 => k_is)
      (case v10b2 => k_is)
      (case v10c0 => k_is)
      (case v10c1 => k_is)
      (case v10c2 => k_is)
      (case v10s0 => k_is)
      (case v10s1 => k_is)
      (case v10s2 => k_is)
      (case v10u0 => k_is)
      (case v10u1 => k_is)
      (case v10u2 => k_is)
      (case v10n0 => decide)
      (case v10n1 => decide)
      (case v10n2 => decide)
    case T11 =>
      refine' My.ck_mk (My.Glob.mk ?w11hn ?w11ht) Gn.basV ?w11g ?w11xL ?w11sa ?w11ga ?w11gg ?w11gc ?w11i ?w11ty ?w11l ?w11c ?w11kf ?w11kC ?w11eC ?w11tC ?w11hC ?w11mC (List.forall_mem_singleton.mpr ?w11n0)
      (case w11hn => k_is); (case w11ht => k_is)
      (case w11g => k_is)
      (case w11xL => k_is)
      (case w11sa => k_is)
      (case w11ga => k_is)
      (case w11gg => k_is)
      (case w11gc => k_is)
      (case w11i => k_is)
      (case w11ty => k_is)
      (case w11l => k_is)
      (case w11c => k_is)
      (case w11kf => k_is)
      (case w11kC => k_is)
      (case w11eC => k_is)
      (case w11tC => k_is)
      (case w11hC => k_is)
      (case w11mC => k_is)
      (case w11n0 => k_is)
    case H11 =>
      refine' My.kit_mk ⟨?v11a0, ?v11a1, ?v11a2⟩ ⟨?v11b0, ?v11b1, ?v11b2⟩ ⟨?v11c0, ?v11c1, ?v11c2⟩ ?v11n0 ?v11n1 ?v11n2 ?v11s0 ?v11s1 ?v11s2 ?v11u0 ?v11u1 ?v11u2
      (case v11a0 => k_is)
      (case v11a1 => k_is)
      (case v11a2 => k_is)
      (case v11b0 => k_is)
      (case v11b1 => k_is)
      (case v11b2 => k_is)
      (case v11c0 => k_is)
      (case v11c1 => k_is)
      (case v11c2 => k_is)
      (case v11s0 => k_is)
      (case v11s1 => k_is)
      (case v11s2 => k_is)
      (case v11u0 => k_is)
      (case v11u1 => k_is)
      (case v11u2 => k_is)
      (case v11n0 => decide)
      (case v11n1 => decide)
      (case v11n2 => decide)
    case T12 =>
      refine' My.ck_mk (My.Glob.mk ?w12hn ?w12ht) Gn.basV ?w12g ?w12xL ?w12sa ?w12ga ?w12gg ?w12gc ?w12i ?w12ty ?w12l ?w12c ?w12kf ?w12kC ?w12eC ?w12tC ?w12hC ?w12mC (List.forall_mem_singleton.mpr ?w12n0)
      (case w12hn => k_is); (case w12ht => k_is)
      (case w12g => k_is)
      (case w12xL => k_is)
      (case w12sa => k_is)
      (case w12ga => k_is)
      (case w12gg => k_is)
      (case w12gc => k_is)
      (case w12i => k_is)
      (case w12ty => k_is)
      (case w12l => k_is)
      (case w12c => k_is)
      (case w12kf => k_is)
      (case w12kC => k_is)
      (case w12eC => k_is)
      (case w12tC => k_is)
      (case w12hC => k_is)
      (case w12mC => k_is)
      (case w12n0 => k_is)
    case H12 =>
      refine' My.kit_mk ⟨?v12a0, ?v12a1, ?v12a2⟩ ⟨?v12b0, ?v12b1, ?v12b2⟩ ⟨?v12c0, ?v12c1, ?v12c2⟩ ?v12n0 ?v12n1 ?v12n2 ?v12s0 ?v12s1 ?v12s2 ?v12u0 ?v12u1 ?v12u2
      (case v12a0 => k_is)
      (case v12a1 => k_is)
      (case v12a2 => k_is)
      (case v12b0 => k_is)
      (case v12b1 => k_is)
      (case v12b2 => k_is)
      (case v12c0 => k_is)
      (case v12c1 => k_is)
      (case v12c2 => k_is)
      (case v12s0 => k_is)
      (case v12s1 => k_is)
      (case v12s2 => k_is)
      (case v12u0 => k_is)
      (case v12u1 => k_is)
      (case v12u2 => k_is)
      (case v12n0 => decide)
      (case v12n1 => decide)
      (case v12n2 => decide)
    case T13 =>
      refine' My.ck_mk (My.Glob.mk ?w13hn ?w13ht) Gn.basL ?w13g ?w13xL ?w13sa ?w13ga ?w13gg ?w13gc ?w13i ?w13ty ?w13l ?w13c ?w13kf ?w13kC ?w13eC ?w13tC ?w13hC ?w13mC (List.forall_mem_singleton.mpr ?w13n0)
      (case w13hn => k_is); (case w13ht => k_is)
      (case w13g => k_is)
      (case w13xL => k_is)
      (case w13sa => k_is)
      (case w13ga => k_is)
      (case w13gg => k_is)
      (case w13gc => k_is)
      (case w13i => k_is)
      (case w13ty => k_is)
      (case w13l => k_is)
      (case w13c => k_is)
      (case w13kf => k_is)
      (case w13kC => k_is)
      (case w13eC => k_is)
      (case w13tC => k_is)
      (case w13hC => k_is)
      (case w13mC => k_is)
      (case w13n0 => k_is)
    case H13 =>
      refine' My.kit_mk ⟨?v13a0, ?v13a1, ?v13a2⟩ ⟨?v13b0, ?v13b1, ?v13b2⟩ ⟨?v13c0, ?v13c1, ?v13c2⟩ ?v13n0 ?v13n1 ?v13n2 ?v13s0 ?v13s1 ?v13s2 ?v13u0 ?v13u1 ?v13u2
      (case v13a0 => k_is)
      (case v13a1 => k_is)
      (case v13a2 => k_is)
      (case v13b0 => k_is)
      (case v13b1 => k_is)
      (case v13b2 => k_is)
      (case v13c0 => k_is)
      (case v13c1 => k_is)
      (case v13c2 => k_is)
      (case v13s0 => k_is)
      (case v13s1 => k_is)
      (case v13s2 => k_is)
      (case v13u0 => k_is)
      (case v13u1 => k_is)
      (case v13u2 => k_is)
      (case v13n0 => decide)
      (case v13n1 => decide)
      (case v13n2 => decide)
    case T14 =>
      refine' My.ck_mk (My.Glob.mk ?w14hn ?w14ht) Gn.basL ?w14g ?w14xL ?w14sa ?w14ga ?w14gg ?w14gc ?w14i ?w14ty ?w14l ?w14c ?w14kf ?w14kC ?w14eC ?w14tC ?w14hC ?w14mC (List.forall_mem_singleton.mpr ?w14n0)
      (case w14hn => k_is); (case w14ht => k_is)
      (case w14g => k_is)
      (case w14xL => k_is)
      (case w14sa => k_is)
      (case w14ga => k_is)
      (case w14gg => k_is)
      (case w14gc => k_is)
      (case w14i => k_is)
      (case w14ty => k_is)
      (case w14l => k_is)
      (case w14c => k_is)
      (case w14kf => k_is)
      (case w14kC => k_is)
      (case w14eC => k_is)
      (case w14tC => k_is)
      (case w14hC => k_is)
      (case w14mC => k_is)
      (case w14n0 => k_is)
    case H14 =>
      refine' My.kit_mk ⟨?v14a0, ?v14a1, ?v14a2⟩ ⟨?v14b0, ?v14b1, ?v14b2⟩ ⟨?v14c0, ?v14c1, ?v14c2⟩ ?v14n0 ?v14n1 ?v14n2 ?v14s0 ?v14s1 ?v14s2 ?v14u0 ?v14u1 ?v14u2
      (case v14a0 => k_is)
      (case v14a1 => k_is)
      (case v14a2 => k_is)
      (case v14b0 => k_is)
      (case v14b1 => k_is)
      (case v14b2 => k_is)
      (case v14c0 => k_is)
      (case v14c1 => k_is)
      (case v14c2 => k_is)
      (case v14s0 => k_is)
      (case v14s1 => k_is)
      (case v14s2 => k_is)
      (case v14u0 => k_is)
      (case v14u1 => k_is)
      (case v14u2 => k_is)
      (case v14n0 => decide)
      (case v14n1 => decide)
      (case v14n2 => decide)
    case T15 =>
      refine' My.ck_mk (My.Glob.mk ?w15hn ?w15ht) Gn.basL ?w15g ?w15xL ?w15sa ?w15ga ?w15gg ?w15gc ?w15i ?w15ty ?w15l ?w15c ?w15kf ?w15kC ?w15eC ?w15tC ?w15hC ?w15mC (fun n hn => nomatch hn)
      (case w15hn => k_is); (case w15ht => k_is)
      (case w15g => k_is)
      (case w15xL => k_is)
      (case w15sa => k_is)
      (case w15ga => k_is)
      (case w15gg => k_is)
      (case w15gc => k_is)
      (case w15i => k_is)
      (case w15ty => k_is)
      (case w15l => k_is)
      (case w15c => k_is)
      (case w15kf => k_is)
      (case w15kC => k_is)
      (case w15eC => k_is)
      (case w15tC => k_is)
      (case w15hC => k_is)
      (case w15mC => k_is)
    case H15 =>
      refine' My.kit_mk ⟨?v15a0, ?v15a1, ?v15a2⟩ ⟨?v15b0, ?v15b1, ?v15b2⟩ ⟨?v15c0, ?v15c1, ?v15c2⟩ ?v15n0 ?v15n1 ?v15n2 ?v15s0 ?v15s1 ?v15s2 ?v15u0 ?v15u1 ?v15u2
      (case v15a0 => k_is)
      (case v15a1 => k_is)
      (case v15a2 => k_is)
      (case v15b0 => k_is)
      (case v15b1 => k_is)
      (case v15b2 => k_is)
      (case v15c0 => k_is)
      (case v15c1 => k_is)
      (case v15c2 => k_is)
      (case v15s0 => k_is)
      (case v15s1 => k_is)
      (case v15s2 => k_is)
      (case v15u0 => k_is)
      (case v15u1 => k_is)
      (case v15u2 => k_is)
      (case v15n0 => decide)
      (case v15n1 => decide)
      (case v15n2 => decide)
    case T16 =>
      refine' My.ck_mk (My.Glob.mk ?w16hn ?w16ht) Gn.basA ?w16g ?w16xL ?w16sa ?w16ga ?w16gg ?w16gc ?w16i ?w16ty ?w16l ?w16c ?w16kf ?w16kC ?w16eC ?w16tC ?w16hC ?w16mC (fun n hn => nomatch hn)
      (case w16hn => k_is); (case w16ht => k_is)
      (case w16g => k_is)
      (case w16xL => k_is)
      (case w16sa => k_is)
      (case w16ga => k_is)
      (case w16gg => k_is)
      (case w16gc => k_is)
      (case w16i => k_is)
      (case w16ty => k_is)
      (case w16l => k_is)
      (case w16c => k_is)
      (case w16kf => k_is)
      (case w16kC => k_is)
      (case w16eC => k_is)
      (case w16tC => k_is)
      (case w16hC => k_is)
      (case w16mC => k_is)
    case H16 =>
      refine' My.kit_mk ⟨?v16a0, ?v16a1, ?v16a2⟩ ⟨?v16b0, ?v16b1, ?v16b2⟩ ⟨?v16c0, ?v16c1, ?v16c2⟩ ?v16n0 ?v16n1 ?v16n2 ?v16s0 ?v16s1 ?v16s2 ?v16u0 ?v16u1 ?v16u2
      (case v16a0 => k_is)
      (case v16a1 => k_is)
      (case v16a2 => k_is)
      (case v16b0 => k_is)
      (case v16b1 => k_is)
      (case v16b2 => k_is)
      (case v16c0 => k_is)
      (case v16c1 => k_is)
      (case v16c2 => k_is)
      (case v16s0 => k_is)
      (case v16s1 => k_is)
      (case v16s2 => k_is)
      (case v16u0 => k_is)
      (case v16u1 => k_is)
      (case v16u2 => k_is)
      (case v16n0 => decide)
      (case v16n1 => decide)
      (case v16n2 => decide)
    case T17 =>
      refine' My.ck_mk (My.Glob.mk ?w17hn ?w17ht) Gn.basA ?w17g ?w17xL ?w17sa ?w17ga ?w17gg ?w17gc ?w17i ?w17ty ?w17l ?w17c ?w17kf ?w17kC ?w17eC ?w17tC ?w17hC ?w17mC (List.forall_mem_singleton.mpr ?w17n0)
      (case w17hn => k_is); (case w17ht => k_is)
      (case w17g => k_is)
      (case w17xL => k_is)
      (case w17sa => k_is)
      (case w17ga => k_is)
      (case w17gg => k_is)
      (case w17gc => k_is)
      (case w17i => k_is)
      (case w17ty => k_is)
      (case w17l => k_is)
      (case w17c => k_is)
      (case w17kf => k_is)
      (case w17kC => k_is)
      (case w17eC => k_is)
      (case w17tC => k_is)
      (case w17hC => k_is)
      (case w17mC => k_is)
      (case w17n0 => k_is)
    case H17 =>
      refine' My.kit_mk ⟨?v17a0, ?v17a1, ?v17a2⟩ ⟨?v17b0, ?v17b1, ?v17b2⟩ ⟨?v17c0, ?v17c1, ?v17c2⟩ ?v17n0 ?v17n1 ?v17n2 ?v17s0 ?v17s1 ?v17s2 ?v17u0 ?v17u1 ?v17u2
      (case v17a0 => k_is)
      (case v17a1 => k_is)
      (case v17a2 => k_is)
      (case v17b0 => k_is)
      (case v17b1 => k_is)
      (case v17b2 => k_is)
      (case v17c0 => k_is)
      (case v17c1 => k_is)
      (case v17c2 => k_is)
      (case v17s0 => k_is)
      (case v17s1 => k_is)
      (case v17s2 => k_is)
      (case v17u0 => k_is)
      (case v17u1 => k_is)
      (case v17u2 => k_is)
      (case v17n0 => decide)
      (case v17n1 => decide)
      (case v17n2 => decide)
    case T18 =>
      refine' My.ck_mk (My.Glob.mk ?w18hn ?w18ht) Gn.basA ?w18g ?w18xL ?w18sa ?w18ga ?w18gg ?w18gc ?w18i ?w18ty ?w18l ?w18c ?w18kf ?w18kC ?w18eC ?w18tC ?w18hC ?w18mC (List.forall_mem_cons.mpr ⟨?w18n0, List.forall_mem_singleton.mpr ?w18n1⟩)
      (case w18hn => k_is); (case w18ht => k_is)
      (case w18g => k_is)
      (case w18xL => k_is)
      (case w18sa => k_is)
      (case w18ga => k_is)
      (case w18gg => k_is)
      (case w18gc => k_is)
      (case w18i => k_is)
      (case w18ty => k_is)
      (case w18l => k_is)
      (case w18c => k_is)
      (case w18kf => k_is)
      (case w18kC => k_is)
      (case w18eC => k_is)
      (case w18tC => k_is)
      (case w18hC => k_is)
      (case w18mC => k_is)
      (case w18n0 => k_is)
      (case w18n1 => k_is)
    case H18 =>
      refine' My.kit_mk ⟨?v18a0, ?v18a1, ?v18a2⟩ ⟨?v18b0, ?v18b1, ?v18b2⟩ ⟨?v18c0, ?v18c1, ?v18c2⟩ ?v18n0 ?v18n1 ?v18n2 ?v18s0 ?v18s1 ?v18s2 ?v18u0 ?v18u1 ?v18u2
      (case v18a0 => k_is)
      (case v18a1 => k_is)
      (case v18a2 => k_is)
      (case v18b0 => k_is)
      (case v18b1 => k_is)
      (case v18b2 => k_is)
      (case v18c0 => k_is)
      (case v18c1 => k_is)
      (case v18c2 => k_is)
      (case v18s0 => k_is)
      (case v18s1 => k_is)
      (case v18s2 => k_is)
      (case v18u0 => k_is)
      (case v18u1 => k_is)
      (case v18u2 => k_is)
      (case v18n0 => decide)
      (case v18n1 => decide)
      (case v18n2 => decide)
    case x10 =>
      refine' My.Rt.exm ⟨?x10a0, ?x10a1, ?x10a2⟩ ?x10s
      (case x10a0 => k_is)
      (case x10a1 => k_is)
      (case x10a2 => k_is)
      (case x10s => k_is)
    case x13 =>
      refine' My.Rt.exm ⟨?x13a0, ?x13a1, ?x13a2⟩ ?x13s
      (case x13a0 => k_is)
      (case x13a1 => k_is)
      (case x13a2 => k_is)
      (case x13s => k_is)
    case x17 =>
      refine' My.Rt.exm ⟨?x17a0, ?x17a1, ?x17a2⟩ ?x17s
      (case x17a0 => k_is)
      (case x17a1 => k_is)
      (case x17a2 => k_is)
      (case x17s => k_is)
    (case a0 => k_is)
    (case l0 => k_is)
    (case c0 => k_is)
    (case k0 => k_is)
    (case a1 => k_is)
    (case l1 => k_is)
    (case c1 => k_is)
    (case k1 => k_is)
    (case a2 => k_is)
    (case l2 => k_is)
    (case c2 => k_is)
    (case k2 => k_is)
    (case a3 => k_is)
    (case l3 => k_is)
    (case c3 => k_is)
    (case k3 => k_is)
    (case a4 => k_is)
    (case l4 => k_is)
    (case c4 => k_is)
    (case k4 => k_is)
    (case a5 => k_is)
    (case l5 => k_is)
    (case c5 => k_is)
    (case k5 => k_is)
    (case a6 => k_is)
    (case l6 => k_is)
    (case c6 => k_is)
    (case k6 => k_is)
    (case z0 => k_is)
    (case z1 => k_is)
    (case z2 => k_is)
    (case z3 => k_is)
    (case z4 => k_is)
    (case z5 => k_is)
    (case z6 => k_is)
    (case z7 => k_is)
    (case z8 => k_is)
    (case m0 => k_is)
    (case m1 => k_is)
    (case m2 => k_is)
    (case m3 => k_is)
    (case m4 => k_is)
    (case m5 => k_is)
