import PyProof.Rows.All
import Wide.All
import OpenK.AllK
import Wide.FinOn
import HandS.ForMost
import HandS.ForExc
import HandS.Strs
import HandS.SetFor
import HandS.SetKeys
import HandS.TupAny
import HandS.Style
import HandS.Gcd
import HandS.Wide
import HandS.IsInst
import HandS.Conv
import HandS.Flow
import PyProof.ReprRoads
import HandS.More
import PyProof.ReprLen
import PySem.Challenge.RW_rimorders_k02_whole_places_and_orders
set_option Elab.async false
set_option linter.all false
set_option maxRecDepth 100000
set_option maxHeartbeats 4000000
/-! general rules of mine: repr of data, set of a list of ints, t[:0:-1] -/
namespace Gn
open PySem PySem.Spec PyProof.Rows L2
section
variable {X : Cx}
/-! repr of lists and tuples -/
mutual
theorem dp_nodict {K : PySem.W.Frag} {H : Hp} : ∀ (d : PyData) (v : V), Dp K H v d → d.hasDict = false
  | .none, _, _ => by simp only [PyData.hasDict]
  | .bool _, _, _ => by simp only [PyData.hasDict]
  | .int _, _, _ => by simp only [PyData.hasDict]
  | .str _, _, _ => by simp only [PyData.hasDict]
  | .list ds, _, h => by
    cases h with
    | lst _ ha => simp only [PyData.hasDict]; exact dps_nodict ds _ ha
  | .tuple ds, _, h => by
    cases h with
    | tup _ ha => simp only [PyData.hasDict]; exact dps_nodict ds _ ha
  | .dict _, _, h => by cases h
theorem dps_nodict {K : PySem.W.Frag} {H : Hp} : ∀ (ds : List PyData) (vs : List V), DpAll K H vs ds → PyData.hasDictAll ds = false
  | [], _, _ => by simp only [PyData.hasDictAll]
  | d :: ds, _, h => by
    cases h with
    | cons h1 h2 => simp only [PyData.hasDictAll, dp_nodict d _ h1, dps_nodict ds _ h2, Bool.or_self]
end
/-- repr(x), x a list or a tuple of data -/
def rRepr (K : PySem.W.Frag) : List V → Hp → VK → Prop := fun xs H Q => ∃ a d, xs = [V.ref a] ∧ Dp K H (.ref a) d ∧ d.showable = true ∧ d.depth < 60 ∧ d.shown.length ≤ sizeLine ∧ Q (.str d.shown) H
theorem cr_repr (hg : X.A.guards = some []) (hu : X.A.units + 64 < cLine) : CallR X (.builtin "repr") (rRepr X.K) := by
  intro pins s σ H xs us Q I r h
  obtain ⟨a, d, rfl, hd, hs, hdp, hz, q⟩ := h
  rw [Vals.ref1 r]
  obtain ⟨as, rd⟩ := Dp.reads I d _ _ hd rfl
  exact repr_of_reads' rd hs (PySem.PyData.noDict_hsm (dp_nodict d _ hd)) hg (by omega) (fun _ _ e => e) (fun h' u tk k => ⟨.str d.shown, H, I.kept (t' := tk) k, ⟨u, rfl⟩, q⟩) hz
end
end Gn
set_option Elab.async false
set_option linter.all false
set_option maxRecDepth 100000
set_option maxHeartbeats 4000000
namespace Gn
open PySem PySem.Spec PyProof.Rows L2
/-- the empty set object as the machine lays it -/
abbrev eSet (w : World) : Obj := { cls := .type "set", dict := none, data := .set #[] 0 (.fresh 0 0 (!w.params.followText "set-order")) }
section
variable {P : Program} {w : World} {A : Around} {E : Value → Shared → Prop} {s : Shared}
/-- what the init leaves: a set of the ints ns at S, no older object changed -/
abbrev Filled (w : World) (ns : List Int) (s0 : Shared) (S : Addr) (s2 : Shared) : Prop := ∃ (h' : Heap) (tk c : Nat), s2 = { s0 with heap := h', toks := tk } ∧ SetR w h' S (fun j => decide (j ∈ ns)) c ∧ c ≤ ns.length ∧ ∀ b o, s0.heap.get? b = some o → h'.get? b = some o
set_option maxHeartbeats 6000000 in
/-- set(l), l a list of ints -/
theorem set_of_ints {l : Addr} {its : Array Value} (ns : List Int) {Q : Value → Shared → Prop} (hh : A.handled = none) (hl : s.heap.IsList l its) (hi : IntsAre its.toList ns) (hb : ns.length + 1 < scanBound)
    (h : ∀ s2, Filled w ns s s.heap.objs.size s2 → Q (.ref s.heap.objs.size) s2) : wpAny (model P w) A (call (.type "set") [.ref l]) Q E s := by
  have hN : its.size = ns.length := by have q := IntsAre.length hi; rw [Array.length_toList] at q; exact q
  obtain ⟨c, tl, hmro⟩ := F.called_set.mro; have hmade := F.called_set.made; have hsub := F.called_set.sub
  refine wpAny_call (codeAny_of_tree ?_); show wpAny _ _ (callAny (.type "set") _) _ _ _
  refine wpAny_pure ⟨Code.quiet_builtin _ (by decide +kernel), codeAny_builtin F.entry_type_call ?_⟩; rw [Around.under_plain (weight_type_call_type "set" [.ref l] []) rfl]
  have h1 := F.called_set.notType; have h2 := F.called_set.canCreate; have hct := F.typeCall_set_1 (.ref l)
  repeat (any_goals (first | assumption | wp_step))
  refine codeAny_mono (code_set_led1 (.ref l) (E := E) (Q₁ := fun v z => v = .ref s.heap.objs.size ∧ z = { s with heap := s.heap.push (eSet w) }) ⟨rfl, rfl⟩) fun r z hr => ?_
  cases r with
  | error e => exact hr
  | ok fl =>
    cases fl with
    | ret obj =>
      obtain ⟨rfl, rfl⟩ := hr
      have hS : (s.heap.push (eSet w)).get? s.heap.objs.size = some (eSet w) := Heap.get?_push_size _ rfl
      have hT : Shared.TypeIs { s with heap := s.heap.push (eSet w) } (.ref s.heap.objs.size) "set" := ⟨_, hS, rfl⟩
      have hli := F.called_set.init.lookup; have hbi := F.called_set.init.bind (.ref s.heap.objs.size)
      repeat (any_goals (first | assumption | wp_step))
      refine codeAny_mono (codeAny_call_builtin (R := wants (fun r z => r = .none ∧ Filled w ns s s.heap.objs.size z) E) F.called_set.init.plain F.entry_set_init (check_set_init_1 hT ?_)) fun r2 z2 hr2 => ?_
      · obtain ⟨⟨lc, ld, lx, ls⟩, hol, hcl, nl, hdl⟩ := hl
        simp only at hcl hdl
        subst hcl; subst hdl
        have hol' : (s.heap.push (eSet w)).get? l = some { cls := .type "list", dict := ld, data := .seq its nl, slots := ls } := Heap.get?_push_of_some _ hol
        have hsls := F.sub_list_set; have hslf := F.sub_list_frozenset; have hne : (Value.type "list" == Value.type "dict") = false := by decide
        have hl1 : (s.heap.push (eSet w)).IsList l its := ⟨_, hol', rfl, nl, rfl⟩
        unfold Builtin.«set.__init__» noKeywords Builtin.Frozenset.updateFrom
        generalize hPI : pyIter = PI
        wp_walk
        subst hPI
        refine wpAny_pyIter_list hl1 (wpAny_bind (wpAny_runValue ?_))
        have hlS : l < s.heap.objs.size := Heap.lt_size hol
        have h3 : A.in1.in1.in1.handled = none := by simp [hh]
        have z1 : (s.heap.push (eSet w)).objs.size = s.heap.objs.size + 1 := Heap.size_push ..
        have nI : l ≠ (s.heap.push (eSet w)).objs.size := by rw [z1]; exact Nat.ne_of_lt (Nat.lt_succ_of_lt hlS)
        have nF : s.heap.objs.size ∉ [(s.heap.push (eSet w)).objs.size, l] := by
          rw [z1]; intro q; rcases List.mem_cons.mp q with q | q
          · exact Nat.succ_ne_self _ q.symm
          · exact Nat.ne_of_gt hlS (List.mem_singleton.mp q)
        have hval : ∀ (i : Nat) (v : Value), its[i]? = some v → ∃ k t, ns[i]? = some k ∧ v = .int k t := fun i v hv => by
          have hil : i < ns.length := by rw [← hN]; exact (Array.getElem?_eq_some_iff.mp hv).1
          obtain ⟨t, e⟩ := IntsAre.int_at hi i v (by rw [Array.getElem?_toList]; exact hv)
          exact ⟨ns[i], t, List.getElem?_eq_getElem hil, by rw [e, List.getD_eq_getElem?_getD, List.getElem?_eq_getElem hil] <;> rfl⟩
        refine set_update_ints ((Walks.list h3 _ l nI its).toS) s.heap.objs.size nF ns hN hb hval (its.size - 0) 0 _ (by omega) (Nat.zero_le _) ⟨⟨_, Heap.get?_push_size _ rfl, rfl, rfl⟩, (hl1.push _)⟩ ⟨0, Nat.le_refl 0, setR_new_at (Heap.get?_push_of_some _ hS)⟩ ?_
        intro z' c' hm hc' hS'
        obtain ⟨h', g2, d', tk', os'⟩ := z'
        obtain rfl : g2 = s.gens := hm.gens
        obtain rfl : d' = s.drawn := hm.drawn
        obtain rfl : os' = s.os := hm.os
        show wpAny _ _ _ _ _ _
        refine wpAny_pure ?_; show wpAny _ _ (ret Value.none) _ _ _; rw [hN] at hc'
        refine wpAny_pure ⟨rfl, h', tk', c', rfl, hS', hc', fun b o e => ?_⟩
        have hb0 : b < s.heap.objs.size := Heap.lt_size e
        refine hm.heap b o (fun q => ?_) (Heap.get?_push_of_some _ (Heap.get?_push_of_some _ e))
        rcases List.mem_cons.mp q with q | q
        · exact Nat.ne_of_lt hb0 q
        · exact Nat.ne_of_lt (Nat.lt_succ_of_lt hb0) ((List.mem_singleton.mp q).trans z1)
      · cases r2 with
        | error e => exact hr2
        | ok fl2 =>
          cases fl2 with
          | ret r =>
            obtain ⟨rfl, h', tk, c', rfl, hS', hc', hk'⟩ := hr2
            repeat (any_goals (first | assumption | wp_step))
            exact h _ ⟨_, _, _, rfl, hS', hc', hk'⟩
          | _ => exact hr2.elim
    | _ => exact hr.elim
end
section
variable {X : Cx}
/-- set(l) of a list of fewer than 64 ints -/
def rSetI (K : PySem.W.Frag) (w : World) : List V → Hp → VK → Prop := fun xs H Q => ∃ (l : Addr) (ns : List Int), xs = [.ref l] ∧ SqL K H l (ns.map V.int) ∧ ns.length < 64 ∧ ∀ p c, H p = none → c ≤ ns.length → Q (.ref p) (upd H p (SetO w p (fun j => decide (j ∈ ns)) c))
theorem cr_setI (hc : X.calm = true) : CallR X (.type "set") (rSetI X.K X.w) := by
  intro pins s σ H xs us Q I r h
  obtain ⟨l, ns, rfl, hl, hf, q⟩ := h
  rw [Vals.ref1 r]
  obtain ⟨its, rv, pl, hz⟩ := I.list hl
  refine set_of_ints ns (I.ok.hd hc) pl.isList (by simpa using intsAre_of rv) (by unfold scanBound; omega) fun s2 hs => ?_
  obtain ⟨h', tk, c, rfl, hS, hcn, k⟩ := hs
  exact ⟨.ref s.heap.objs.size, _, I.laid (t' := tk) k (Nat.le_refl _) (setO_new hS), rfl, q _ c (I.hok.fresh (Nat.le_refl _)) hcn⟩
end
end Gn
set_option Elab.async false
set_option linter.all false
set_option maxRecDepth 100000
set_option maxHeartbeats 4000000
namespace Gn
open PySem PySem.Spec PyProof.Rows L2
/-! t[:0:-1], t a tuple -/
theorem back_adjust (n : Nat) : Builtin.Slice.slicePlaces (Builtin.Slice.sliceAdjust none (some 0) (-1) (n : Int)).1 (Builtin.Slice.sliceAdjust none (some 0) (-1) (n : Int)).2 (-1) = n - 1 ∧ (Builtin.Slice.sliceAdjust none (some 0) (-1) (n : Int)).1 = (n : Int) - 1 := by
  have a : (Builtin.Slice.sliceAdjust none (some 0) (-1) (n : Int)) = ((n : Int) - 1, min 0 ((n : Int) - 1)) := by
    simp only [Builtin.Slice.sliceAdjust, show ((-1 : Int) < 0) = True by decide, show ((0 : Int) < 0) = False by decide, if_true, if_false]
  rw [a]
  refine ⟨?_, rfl⟩
  unfold Builtin.Slice.slicePlaces
  simp only [show ((-1 : Int) > 0) = False by decide, if_false, show (-(-1) : Int) = 1 by decide, Int.ediv_one]
  split <;> omega
theorem back_pick (xs : Array Value) : ((List.range (xs.size - 1)).filterMap fun (m : Nat) => xs[(((xs.size : Nat) : Int) - 1 + (m : Int) * (-1)).toNat]?).toArray = (xs.toList.drop 1).reverse.toArray := by
  congr 1
  have g : ∀ k, k ≤ xs.size - 1 → ((List.range k).filterMap fun (m : Nat) => xs[(((xs.size : Nat) : Int) - 1 + (m : Int) * (-1)).toNat]?) = ((xs.toList.drop 1).reverse).take k := by
    intro k
    induction k with
    | zero => intro _; rfl
    | succ k ih =>
      intro hk
      have i1 : (((xs.size : Nat) : Int) - 1 + (k : Int) * (-1)).toNat = xs.size - 1 - k := by omega
      have i2 : xs.size - 1 - k < xs.size := by omega
      have hl : k < (xs.toList.drop 1).reverse.length := by rw [List.length_reverse, List.length_drop, Array.length_toList]; omega
      rw [List.range_succ, List.filterMap_append, ih (by omega), List.take_add_one, List.getElem?_eq_getElem hl]
      congr 1
      simp only [List.filterMap_cons, List.filterMap_nil, i1, Array.getElem?_eq_getElem i2, Option.toList]
      congr 1
      rw [List.getElem_reverse, List.getElem_drop]
      simp only [List.length_drop, Array.length_toList, Array.getElem_toList]
      congr 1
      omega
  rw [g _ (Nat.le_refl _)]
  refine List.take_of_length_le ?_
  rw [List.length_reverse, List.length_drop, Array.length_toList]
  exact Nat.le_refl _
section
variable {prog : Program} {w : World} {A : Around} {E : Value → Shared → Prop} {s : Shared}
theorem back_item {t sl : Addr} {its : Array Value} {vl vu vs : Value} {Q : Value → Shared → Prop} (ht : IsTup s.heap t its) (hs : s.heap.IsSliceOf sl vl vu vs) (pl : IsPart vl none) (pu : IsPart vu (some 0)) (ps : IsPart vs (some (-1)))
    (h : Q (.ref s.heap.objs.size) { s with heap := s.heap.push { cls := .type "tuple", data := .seq (its.toList.drop 1).reverse.toArray } }) (hz : its.size ≤ sizeLine) : wpAny (model prog w) A (getItem (.ref t) (.ref sl)) Q E s := by
  have hfit : sizeOk (.seq (its.toList.drop 1).reverse.toArray) := by
    show ((its.toList.drop 1).reverse).toArray.size ≤ sizeLine
    rw [List.size_toArray, List.length_reverse, List.length_drop, Array.length_toList]; omega
  obtain ⟨os, hos, hcs, hds⟩ := id hs
  unfold getItem
  try with_reducible refine wpAny_holding ?_
  first | refine wpAny_bind (wpAny_pure ?_) | skip
  refine wpAny_bind (wpAny_sequenceKey ht.typeIs (by decide) (wpAny_bind (wpAny_callSpecial?_slot (name := Str.ofString "__getitem__") ht.typeIs PyProof.Rows.slot_tuple_getitem (wpAny_call_entry PyProof.Rows.slot_tuple_getitem ht.typeIs PyProof.Rows.entry_tuple_getitem ?_ (PyProof.Rows.args_tuple_getitem _ _)))))
  show wpAny _ _ (Builtin.Tuple.tupleItemsOf (.ref t) >>= _) _ _ s
  refine wpAny_bind (PyProof.Rows.tupleItemsOf_ ht (wpAny_bind (wpAny_typeOf (show s.TypeIs (.ref sl) "slice" from ⟨os, hos, hcs⟩) ?_)))
  rw [if_pos (by decide)]
  refine wpAny_bind ?_
  unfold Builtin.Slice.sliceApplied Builtin.Slice.sliceFields
  refine wpAny_bind (wpAny_bind (wpAny_field hos hds (x := vl) rfl (wpAny_bind (wpAny_field hos hds (x := vu) rfl (wpAny_bind (wpAny_field hos hds (x := vs) rfl (wpAny_pure (wpAny_bind (HT.slicePart_ ps ?_)))))))))
  show wpAny _ _ (if ((-1 : Int) == 0) = true then _ else _) _ _ s
  rw [if_neg (by decide)]
  refine wpAny_bind (HT.slicePart_ pl (wpAny_bind (HT.slicePart_ pu (wpAny_bind (wpAny_pure ?_)))))
  have e1 := (back_adjust its.size).1
  have e2 := (back_adjust its.size).2
  show wpAny _ _ (pure ((Builtin.Slice.sliceAdjust none (some 0) (-1) (its.size : Int)).1, (-1 : Int), Builtin.Slice.slicePlaces (Builtin.Slice.sliceAdjust none (some 0) (-1) (its.size : Int)).1 (Builtin.Slice.sliceAdjust none (some 0) (-1) (its.size : Int)).2 (-1))) _ _ s
  rw [e1, e2]
  refine wpAny_pure ?_
  have no : ¬ ((((its.size : Nat) : Int) - 1 == 0 && (-1 : Int) == 1 && (its.size - 1) == its.size) = true) := by
    rw [show ((-1 : Int) == 1) = false by decide]; simp
  show wpAny _ _ (if ((((its.size : Nat) : Int) - 1 == 0 && (-1 : Int) == 1 && (its.size - 1) == its.size) = true) then _ else _) _ _ s
  rw [if_neg no, back_pick]
  first
    | exact wpAny_bind (m := Builtin.Tuple.tupleExact _) (wpAny_newObj_type (wpAny_pure ⟨_, rfl, wpAny_pure h⟩) hfit)
    | exact wpAny_bind (wpAny_bind (m := Builtin.Tuple.tupleExact _) (wpAny_newObj_type (wpAny_pure ⟨_, rfl, wpAny_pure h⟩) hfit))
    | exact wpAny_bind (wpAny_bind (m := Builtin.Tuple.tupleExact _) (wpAny_newObj_type (wpAny_pure (wpAny_pure ⟨_, rfl, wpAny_pure h⟩)) hfit))
end
def tBack (K : PySem.W.Frag) (te : TE) : TE := fun σ H Q => te σ H fun x H1 => ∃ a xs, x = .ref a ∧ SqT K H1 a xs ∧ ∀ p, H1 p = none → Q (.ref p) (upd H1 p (.tup (xs.drop 1).reverse))
section
variable {X : Cx}
theorem pe_back {e : Expr} {te : TE} {k k0 : Nat} {p0 p1 p2 p3 pos : Pos} (he : PE X e te) : PE X (.Subscript e (.Slice none (some (.Constant (.int 0) k0 p0)) (some (.UnaryOp .USub (.Constant (.int 1) k p1) p2)) p3) pos) (tBack X.K te) := by
  refine ⟨fun pins s σ H Q I h => ?_⟩
  refine Subscript_ (thn (he.run pins s σ H _ I h) fun v s1 ⟨x, H1, I1, r1, q1⟩ => ?_)
  obtain ⟨a, xs, ex, hx, q⟩ := q1
  subst ex
  cases r1
  have hup : PO X (some (.Constant (.int 0) k0 p0)) (tPart (tC (.int 0))) := po_some pe_int
  have hst : PO X (some (.UnaryOp .USub (.Constant (.int 1) k p1) p2)) (tPart (tUn (rU fun i => .int (-i)) (tC (.int 1)))) := po_some (pe_un un_neg pe_int)
  refine wpAny_Slice (thn (po_none.run pins s1 σ H1 (fun o H2 => o = none ∧ H2 = H1) I1 ⟨rfl, rfl⟩) fun vl s2 ⟨l, H2, I2, pl, el, e2⟩ => ?_)
  subst el e2
  refine thn (hup.run pins s2 σ H2 (fun o H3 => o = some 0 ∧ H3 = H2) I2 ⟨0, rfl, rfl, rfl⟩) fun vu s3 ⟨u, H3, I3, pu, eu, e3⟩ => ?_
  subst eu e3
  refine thn (hst.run pins s3 σ H3 (fun o H4 => o = some (-1) ∧ H4 = H3) I3 ⟨1, rfl, -1, rfl, rfl, rfl⟩) fun vs s4 ⟨o, H4, I4, ps, eo, e4⟩ => ?_
  subst eo e4
  have I5 : Inv X pins σ H4 { s4 with heap := s4.heap.push { cls := .type "slice", data := .fields #[vl, vu, vs] } } := I4.kept (t' := s4.toks) fun b ob q => Heap.get?_push_of_some _ q
  obtain ⟨its, r, ht, hz⟩ := I5.tuple hx
  have hlen := r.length
  show wpAny (model X.prog X.w) X.A (subscriptTail e (.Slice none (some (.Constant (.int 0) k0 p0)) (some (.UnaryOp .USub (.Constant (.int 1) k p1) p2)) p3) (.ref a) (.ref s4.heap.objs.size)) (EP X pins σ Q) X.xe { s4 with heap := s4.heap.push { cls := .type "slice", data := .fields #[vl, vu, vs] } }
  refine tail_any (ops := [.ref a, .ref s4.heap.objs.size]) ht.typeIs (PyProof.Rows.slot_tuple_getitem.lookup) ?_ (by with_unfolding_all rfl)
  refine back_item ht (Heap.IsSliceOf.new _ vl vu vs) pl pu ps ?_ (by rw [List.size_toArray]; omega)
  refine ⟨.ref _, _, I5.laid (t' := s4.toks) (o := .tup (xs.drop 1).reverse) (fun b ob q => Heap.get?_push_of_some _ q) (Nat.le_refl _) ?_, rfl, q _ (I5.hok.fresh (Nat.le_refl _))⟩
  exact ⟨by rw [List.length_reverse, List.length_drop]; omega, _, (Vals.drop 1 r).reverse, ⟨_, Heap.get?_push_size _ rfl, rfl, _, rfl⟩⟩
end
end Gn
set_option Elab.async false
set_option linter.all false
set_option maxRecDepth 100000
set_option maxHeartbeats 4000000
namespace Gn
open PySem PySem.Spec PyProof.Rows L2
/-- a def's promise where no repr runs around (the guards are known to be none) -/
structure FnG (P : Program) (w : World) (K : PySem.W.Frag) (mg : Str → Option Value) (base : Heap) (CX : CXT) (k : Nat) (f : Addr) (fd : FuncData) (ps : List Str) (sp : Sp) : Prop where
  len : ∀ vs H Q E, sp vs H Q E → vs.length = ps.length
  run : ∀ (A : Around) (outer : List Env) (s : Shared) (H : Hp) (args : Args) (us : List Value) (vs : List V) (Q : VK) (E : XK), A.guards = some [] → Room k A → Env0 P w K mg base A outer s H → BindsTo s fd args (ps.zip us) → Vals vs us → sp vs H Q E →
    codeAny (model P w) A (.call (.ref f) args) (CR CX outer P w H s Q E) s
section
variable {P : Program} {w : World} {K : PySem.W.Frag} {mg : Str → Option Value} {base : Heap}
theorem FnG.of {CX : CXT} {k : Nat} {f : Addr} {fd : FuncData} {ps : List Str} {sp : Sp} (F : FnOk P w K mg base CX k f fd ps sp) : FnG P w K mg base CX k f fd ps sp := ⟨F.len, fun A o s H a us vs Q E _ => F.run A o s H a us vs Q E⟩
theorem funG {CX : CXT} {x qual : Str} {st : Stmt} {f : Addr} {fd : FuncData} {N ps : List Str} {k : Nat} {sp : Sp} (F : Fun K x qual st f fd) (S : FnScope N ps (defScope st)) (len : ∀ vs H Q E, sp vs H Q E → vs.length = ps.length)
    (hbody : ∀ (cdv : Value) (A : Around) (outer : List Env) (s : Shared) (H : Hp) (vs : List V) (Q : VK) (E : XK), (A.deeper (envOfC qual (defScope st) s.heap.objs.size f cdv)).guards = some [] → Room k (A.deeper (envOfC qual (defScope st) s.heap.objs.size f cdv)) → sp vs H Q E →
      ∃ t, PSs (cxOf CX P w K mg base N qual (defScope st) f cdv A outer s H E) (defBody st) t ∧ t { nx := fun _ H' => Q .non H', rt := Q } (start N vs) H) : FnG P w K mg base CX (k + 1) f fd ps sp := by
  obtain ⟨oc, od, kV, doc, pm, an, cdv, ct, osl, rfl, lk, hcd⟩ := F.ex
  refine ⟨len, fun A outer s H args us vs Q E hg hr e0 hb r hsp => ?_⟩
  have KX : K.In s.heap := e0.mod.kin.keeps fun b o e => (e0.bs b o e).1
  have hkind : ∀ y ∈ ps.zip us, (defScope st).names.lookup y.1 = some .local ∨ ((defScope st).names.lookup y.1 = some .cell ∧ ((cellsFrom (s.heap.objs.size + 1) (defScope st).names []).lookup y.1).isSome = true) := fun y hy =>
    (S.par y.1 (List.of_mem_zip hy).1).elim .inl fun q => .inr ⟨q, PySem.W.cellsFrom_some _ _ _ (.inl q)⟩
  refine codeAny_call_function hr.depth (KX _ _ lk) rfl S.co S.gen rfl (PySem.W.codeRec_of KX hcd) (hb _ _ _ _ (wpAny_newFunctionEnv_cells S.kind hkind fun env he s1 x => ?_))
  subst he
  refine ⟨(e0.mod.nolimit.keeps fun b o e => (e0.bs b o e).1).keeps x.toInCall.keep, codeAny_func ?_⟩
  obtain ⟨t, ht, hq⟩ := hbody cdv A outer s H vs Q E hg (hr.deeper _) hsp
  have I : Inv (cxOf CX P w K mg base N qual (defScope st) f cdv A outer s H E) [] (start N vs) H s1 := inv_start S hr.hd e0 (len _ _ _ _ hsp) r x
  refine wpAny_mono (ht.run [] s1 (start N vs) H _ I hq) (fun fl s' hs => ?_) fun _ _ hs => hs
  cases fl with
  | ret u => obtain ⟨v, σ', H', J, rv, q⟩ := hs; exact ⟨v, H', J.os, J.bare, J.base, J.hok, rv, q⟩
  | next => obtain ⟨σ', H', J, q⟩ := hs; exact ⟨V.non, H', J.os, J.bare, J.base, J.hok, rfl, q⟩
  | brk => obtain ⟨_, _, _, q⟩ := hs; exact False.elim q
  | cont => obtain ⟨_, _, _, q⟩ := hs; exact False.elim q
/-- as Fun.ok: nothing leaves the def -/
theorem funG0 {x qual : Str} {st : Stmt} {f : Addr} {fd : FuncData} {N ps : List Str} {k : Nat} {sp : Sp} (F : Fun K x qual st f fd) (S : FnScope N ps (defScope st)) (len : ∀ vs H Q E, sp vs H Q E → vs.length = ps.length)
    (hbody : ∀ (cdv : Value) (A : Around) (outer : List Env) (s : Shared) (H : Hp) (vs : List V) (Q : VK) (E : XK), (A.deeper (envOfC qual (defScope st) s.heap.objs.size f cdv)).guards = some [] → Room k (A.deeper (envOfC qual (defScope st) s.heap.objs.size f cdv)) → sp vs H Q E →
      ∃ t, PSs (cxOf CX0 P w K mg base N qual (defScope st) f cdv A outer s H E).nox (defBody st) t ∧ t { nx := fun _ H' => Q .non H', rt := Q } (start N vs) H) : FnG P w K mg base CX0 (k + 1) f fd ps sp :=
  funG F S len fun cdv A outer s H vs Q E hg hr hsp => by
    obtain ⟨t, h, q⟩ := hbody cdv A outer s H vs Q E hg hr hsp
    exact ⟨t, h.nox, q⟩
end
section
variable {X : Cx} {CX : CXT} {k : Nat} {f : Addr} {fd : FuncData} {ps ks : List Str} {sp : Sp} {dvs : List V} {ds : List Value} {E : XK} {x : Str} {p pos : Pos} {e : Expr} {es : List Expr} {kws : List Keyword} {t tk : TA}
theorem back_of {pins : List (Addr × Obj)} {σ : L2.St} {H : Hp} {s s' : Shared} {Q : VK} (hx : Passes CX X E) (I : Inv X pins σ H s) {r : Result} (h : CR CX X.stack X.prog X.w H s Q E r s') :
    match r with | .ok (.ret u) => EP X pins σ Q u s' | .ok _ => False | .error e => X.xe e s' := by
  cases r with
  | error e => exact hx pins σ H s e s' I h
  | ok fl => cases fl with
    | ret u => exact I.after h
    | next => exact h
    | brk => exact h
    | cont => exact h
theorem run_fnG {pins : List (Addr × Obj)} {σ : L2.St} {H : Hp} {s : Shared} {Q : VK} {us : List Value} {vs : List V} (F : FnG X.prog X.w X.K X.mg X.base CX k f fd ps sp) (hg : X.A.guards = some []) (hr : Room k X.A) (hb : Binds X.K fd ps ds) (hd : Vals dvs ds) (hx : Passes CX X E)
    (I : Inv X pins σ H s) (r : Vals vs us) (h : sp (vs ++ dvs) H Q E) : wpAny (model X.prog X.w) X.A (call (.ref f) us) (EP X pins σ Q) X.xe s := by
  have r2 : Vals (vs ++ dvs) (us ++ ds) := r.append hd
  refine wpAny_call (codeAny_mono (F.run X.A X.stack s H ⟨us, []⟩ (us ++ ds) (vs ++ dvs) Q E hg hr I.env0 (hb s us I.kIn (by rw [← r2.length]; exact F.len _ _ _ _ h)) r2 h) fun r s' hq => ?_)
  have z := back_of hx I hq
  cases r with
  | error e => exact z
  | ok fl => cases fl with
    | ret u => exact z
    | next => exact z.elim
    | brk => exact z.elim
    | cont => exact z.elim
theorem pe_callG (F : FnG X.prog X.w X.K X.mg X.base CX k f fd ps sp) (hgu : X.A.guards = some []) (hr : Room k X.A) (hg : Gl X x) (hm : X.mg x = some (.ref f)) (hk : PySem.W.keepIn X.K (.ref f) = true) (hb : Binds X.K fd ps ds) (hd : Vals dvs ds) (hx : Passes CX X E)
    (ha : PA X (e :: es) t) (hdb : (x == ("__debug__" : Str)) = false := by decide) (he : starEach (e :: es) X.env = (false, eval e X.env) :: starEach es X.env := by rfl) (hpl : (backTo pos (starEach es X.env)).any (·.1) = false := by rfl) :
    PE X (.Call (.Name x p) (e :: es) [] pos) (tCall sp dvs E t) := ⟨fun pins s σ H Q I h =>
  wpAny_Call_Name_kw (ld_glob I hg hm (PySem.W.callWith_K (h₀ := X.base) I.ok.mod.kin hk (thn (ha.run pos pins s σ H _ I h) fun us s1 ⟨vs, H1, I1, r, q⟩ => ⟨I1.kIn, run_fnG F hgu hr hb hd hx I1 r q⟩) he hpl) hdb)⟩
end
/-! the end of a law -/
section
variable {P : Program} {w : World} {K : PySem.W.Frag} {mg mb : Str → Option Value}
theorem lawG {CX : CXT} {k : Nat} {fa a : Addr} {fd : FuncData} {x : Str} {sp : Sp} {s₁ : Shared} {vs : List Value} {ns : List Int}
    (KX : K.In s₁.heap) (hns : s₁.heap.Ns mainGlobals mg) (hb : s₁.heap.Ns builtinsNs mb) (hbb : ∀ x : Str, x ≠ "__name__" → mb x = bootBuiltins x) (hlim : s₁.heap.NoLimit) (hg : s₁.gens = #[])
    (ha : s₁.heap.get? a = some { cls := .type "list", data := .seq vs.toArray }) (hi : IntsAre vs ns) (hl : ns.length ≤ sizeLine) (hr : Room k callerA)
    (F : ∀ base : Heap, K.In base → base.Ns mainGlobals mg → FnG P w K mg base CX k fa fd [x] sp) (hbind : ∀ (s : Shared) (u : Value), BindsTo s fd ⟨[u], []⟩ [(x, u)])
    (hsp : ∀ H : Hp, Only H → SqL K H a (ns.map V.int) → sp [.ref a] H (fun v _ => v = .bl true) fun _ _ _ => False) (hCX : ∀ H e s', CX [] H s₁ (fun _ _ _ => False) e s' → False) :
    codeAny (model P w) callerA (.call (.ref fa) ⟨[.ref a], []⟩) (fun r s' => r = .ok (.ret (.bool true)) ∧ OldK s₁.heap s'.heap ∧ s'.os = s₁.os ∧ AllBare s'.gens) s₁ := by
  have rv := vals_ints hi
  have main : ∀ H : Hp, Only H → SqL K H a (ns.map V.int) → HOk P w H s₁.heap → (∀ b, H b ≠ none → b = a ∧ K.lookup a = none) →
      codeAny (model P w) callerA (.call (.ref fa) ⟨[.ref a], []⟩) (fun r s' => r = .ok (.ret (.bool true)) ∧ OldK s₁.heap s'.heap ∧ s'.os = s₁.os ∧ AllBare s'.gens) s₁ := by
    intro H hO hS hok hA
    have untr : ∀ {b : Addr}, b ≠ a ∨ K.lookup a ≠ none → H b = none := fun {b} h => by
      cases q : H b with
      | none => rfl
      | some u => have z := hA b (by rw [q]; simp); exact (h.elim (fun n => n z.1) fun n => n z.2).elim
    have ns_of : ∀ {b : Addr} {m : Str → Option Value}, s₁.heap.Ns b m → (hidT s₁.heap H).Ns b m := fun {b m} ⟨o, es, ep, e, d, r⟩ => ⟨o, es, ep, hidT_get e (untr (.inl fun z => by
      subst z
      rw [ha] at e
      cases e
      exact absurd (show Data.seq vs.toArray _ = Data.dict es ep from d) (fun z => by cases z))), d, r⟩
    have kb : K.In (hidT s₁.heap H) := fun b o e => hidT_get (KX b o e) (by
      by_cases z : b = a
      · exact untr (.inr fun y => by subst z; rw [y] at e; cases e)
      · exact untr (.inl z))
    have md : Mod K mg (hidT s₁.heap H) := ⟨kb, ns_of hns, ⟨mb, ns_of hb, hbb⟩, let ⟨mc, h1, h2⟩ := hlim; ⟨mc, ns_of h1, h2⟩⟩
    have e0 : Env0 P w K mg (hidT s₁.heap H) callerA [] s₁ H := ⟨rfl, md, fun b o e => of_hidT e, Nat.le_of_eq (hidT_size _ _), trivial, fun b hb => absurd (show b ∈ ([] : List Addr) from hb) (by simp), hok, .of_eq hg⟩
    refine codeAny_mono ((F _ kb (ns_of hns)).run callerA [] s₁ H ⟨[.ref a], []⟩ [.ref a] [.ref a] _ _ rfl hr e0 (hbind s₁ (.ref a)) (.cons rfl .nil) (hsp H hO hS)) fun r s' h => ?_
    cases r with
    | error e => exact (hCX H e s' h).elim
    | ok fl => cases fl with
      | next => exact False.elim h
      | brk => exact False.elim h
      | cont => exact False.elim h
      | ret u =>
        obtain ⟨v, H', os, bare, un, hok', r', q⟩ := h
        obtain rfl : v = .bl true := q
        obtain rfl : u = Value.bool true := r'
        refine ⟨rfl, OldK.of_keep fun b o e => ?_, os, bare⟩
        rcases hO b with z | ⟨ob, xs, z⟩
        · exact un.keep b o e z (fun y => nomatch y) (fun y => nomatch y)
        · obtain ⟨e1, _⟩ := hok b _ z
          obtain ⟨e2, _⟩ := hok' b _ (un.frzs b ob _ z)
          exact e2.trans (e1.symm.trans e)
  cases hk : K.lookup a with
  | some o =>
    have e := KX a o hk
    rw [ha] at e
    cases e
    exact main (fun _ => none) (fun _ => .inl rfl) (.inr ⟨_, vs.toArray, _, hk, rfl, rfl, rfl, by rw [List.size_toArray, hi.length]; exact hl, by simpa using rv⟩) (fun b u z => by cases (show (none : Option HO) = some u from z)) fun b z => absurd rfl z
  | none =>
    have at_ : ∀ {b : Addr} {u : HO}, (if b = a then some (HO.frz { cls := .type "list", data := .seq vs.toArray } (.lst (ns.map V.int))) else none) = some u → b = a ∧ u = .frz { cls := .type "list", data := .seq vs.toArray } (.lst (ns.map V.int)) := fun {b u} z => by
      by_cases y : b = a
      · rw [if_pos y] at z; exact ⟨y, (Option.some.inj z).symm⟩
      · rw [if_neg y] at z; cases z
    refine main (fun b => if b = a then some (.frz { cls := .type "list", data := .seq vs.toArray } (.lst (ns.map V.int))) else none) (fun b => ?_) (.inl (.inr ⟨{ cls := .type "list", data := .seq vs.toArray }, if_pos rfl⟩)) (fun b u z => ?_) fun b z => ⟨?_, hk⟩
    · by_cases y : b = a
      · exact .inr ⟨_, _, if_pos y⟩
      · exact .inl (if_neg y)
    · obtain ⟨rfl, rfl⟩ := at_ z
      exact ⟨ha, by rw [List.length_map]; exact hl, vs, _, rv, ha⟩
    · by_cases y : b = a
      · exact y
      · exact absurd (if_neg y) z
theorem walkG {l : PySem.W.OpenLaw} {n k : Nat} {q : Program} {loose : List Str} {XP : (Str → Option Value) → Heap → Prop} {YP : World → Heap → Prop} {d : DefRec} {K : Params → PySem.W.Frag} {CX : World → CXT} {sp : World → Sp} {x : Str}
    (hn : l.most = some n) (hn2 : n ≤ sizeLine) (hdf : d.params.defaults = []) (hr : Room k callerA) (hY : ∀ (w : World) (h : Heap), YP w h → (K w.params).In h)
    (F : ∀ (w : World) (mg : Str → Option Value) (fa : Addr) (h : Heap), (K w.params).In h → h.Ns mainGlobals mg → mg d.name = some (.ref fa) →
      ∃ fd : FuncData, (∀ (s : Shared) (u : Value), BindsTo s fd ⟨[u], []⟩ [(x, u)]) ∧ ∀ base : Heap, (K w.params).In base → base.Ns mainGlobals mg → FnG l.prog w (K w.params) mg base (CX w) k fa fd [x] (sp w))
    (hsp : ∀ (w : World) (H : Hp) (a : Addr) (ns : List Int), ns.length ≤ n → Only H → SqL (K w.params) H a (ns.map V.int) → sp w [.ref a] H (fun v _ => v = .bl true) fun _ _ _ => False)
    (hCX : ∀ (w : World) (H : Hp) (s : Shared) (e : Value) (s' : Shared), CX w [] H s (fun _ _ _ => False) e s' → False) : PySem.W.WalkO q loose XP YP l.row.toRowW d [] (fun f vs => PySem.call f vs) :=
  Att.attach_call hn hdf fun w s₀ s₁ mg mb fa o pm cd doc a vs ns G Y ho hd hcd hmg hobj hints hlen hg => by
    obtain ⟨fd, hb, hF⟩ := F w mg fa _ (hY w _ Y) G.T.g hmg
    exact lawG (hY w _ Y) G.T.g G.T.b G.T.builtins G.T.nolimit hg hobj hints (Nat.le_trans hlen hn2) hr hF hb (fun H hO hS => hsp w H a ns hlen hO hS) fun H e s' => hCX w H s₁ e s'
end
end Gn
set_option Elab.async false
set_option linter.all false
set_option maxRecDepth 100000
set_option maxHeartbeats 4000000
namespace Gn
open PySem PySem.Spec PyProof.Rows L2
section
variable {X : Cx} {CX : CXT} {k : Nat} {f : Addr} {fd : FuncData} {ps ks : List Str} {sp : Sp} {E : XK} {x : Str} {p pos : Pos} {kws : List Keyword} {tk : TA} {g : List Value → List Value → List Value} {gV : List V → List V → List V}
/-- f(k = v, ..): keywords alone -/
theorem pe_callK0 (F : FnOk X.prog X.w X.K X.mg X.base CX k f fd ps sp) (hr : Room k X.A) (hg : Gl X x) (hm : X.mg x = some (.ref f)) (hk : PySem.W.keepIn X.K (.ref f) = true) (hb : KBinds X.K fd ps ks g gV) (hx : Passes CX X E) (hkw : PK X kws tk)
    (hall : (backToKw pos (keywordEach kws X.env)).all (·.1.isSome) = true := by rfl) (hks : (backToKw pos (keywordEach kws X.env)).filterMap (·.1) = ks := by rfl) (hdb : (x == ("__debug__" : Str)) = false := by decide)
    (hpl : ((backTo pos (starEach [] X.env)).any (·.1) || (backToKw pos (keywordEach kws X.env)).any (·.1.isNone)) = false := by rfl) : PE X (.Call (.Name x p) [] kws pos) (tCallK sp gV E tNil tk) := ⟨fun pins s σ H Q I h =>
  wpAny_Call_Name_kw (ld_glob I hg hm (PySem.W.callWith_KW0 (h₀ := X.base) I.ok.mod.kin hk hall (thn (hkw.run pos pins s σ H _ I h) fun ws s2 ⟨zs, H2, I2, rz, q2⟩ => ⟨I2.kIn, by
    rw [hks]
    exact run_fnk (us := []) (vs := []) F hr hb hx I2 .nil rz q2⟩) hpl) hdb)⟩
end
/-! keywords in the parameters' order, and two the other way round -/
def kw1 {α : Type} : List α → List α → List α
  | [], [a] => [a]
  | _, _ => []
def kw2 {α : Type} : List α → List α → List α
  | [], [a, b] => [a, b]
  | _, _ => []
def kw2s {α : Type} : List α → List α → List α
  | [], [a, b] => [b, a]
  | _, _ => []
section
variable {K : PySem.W.Frag} {fd : FuncData} {ps ks : List Str}
theorem kb1 {p : Str} (h : ∀ a : Value, bindArgs fd ⟨[], [(p, a)]⟩ = pure [(p, a)]) : KBinds K fd [p] [p] kw1 kw1 :=
  ⟨fun s us ws _ hl => match us, ws, hl with
    | [], [a], _ => .of_eq (h a)
    | [], [], z => (nomatch z)
    | [], _ :: _ :: _, z => (nomatch z)
    | _ :: _, _, z => (nomatch z), fun {vs us zs ws} r rz => by
    cases r with
    | nil => cases rz with
      | nil => exact .nil
      | cons a b => cases b with
        | nil => exact .cons a .nil
        | cons _ _ => exact .nil
    | cons _ _ => exact .nil⟩
theorem kb2 {p q : Str} (h : ∀ a b : Value, bindArgs fd ⟨[], [(p, a), (q, b)]⟩ = pure [(p, a), (q, b)]) : KBinds K fd [p, q] [p, q] kw2 kw2 :=
  ⟨fun s us ws _ hl => match us, ws, hl with
    | [], [a, b], _ => .of_eq (h a b)
    | [], [], z => (nomatch z)
    | [], [_], z => (nomatch z)
    | [], _ :: _ :: _ :: _, z => (nomatch z)
    | _ :: _, _, z => (nomatch z), fun {vs us zs ws} r rz => by
    cases r with
    | nil => cases rz with
      | nil => exact .nil
      | cons a b => cases b with
        | nil => exact .nil
        | cons c d => cases d with
          | nil => exact .cons a (.cons c .nil)
          | cons _ _ => exact .nil
    | cons _ _ => exact .nil⟩
theorem kb2s {p q : Str} (h : ∀ a b : Value, bindArgs fd ⟨[], [(q, b), (p, a)]⟩ = pure [(p, a), (q, b)]) : KBinds K fd [p, q] [q, p] kw2s kw2s :=
  ⟨fun s us ws _ hl => match us, ws, hl with
    | [], [b, a], _ => .of_eq (h a b)
    | [], [], z => (nomatch z)
    | [], [_], z => (nomatch z)
    | [], _ :: _ :: _ :: _, z => (nomatch z)
    | _ :: _, _, z => (nomatch z), fun {vs us zs ws} r rz => by
    cases r with
    | nil => cases rz with
      | nil => exact .nil
      | cons a b => cases b with
        | nil => exact .nil
        | cons c d => cases d with
          | nil => exact .cons c (.cons a .nil)
          | cons _ _ => exact .nil
    | cons _ _ => exact .nil⟩
end
end Gn
namespace Gn
open PySem PySem.Spec PyProof.Rows L2
/-- a conditional expression whose two ways change nothing -/
theorem tif {c : Bool} {ta tb : TE} {σ : L2.St} {H : Hp} {Q : VK} (v1 v2 : V) (h1 : c = true → ∀ R : VK, R v1 H → ta σ H R) (h2 : c = false → ∀ R : VK, R v2 H → tb σ H R) (k : ∀ v, (c = true → v = v1) → (c = false → v = v2) → Q v H) : if c = true then ta σ H Q else tb σ H Q := by
  cases c with
  | true => exact iteT (h1 rfl Q (k v1 (fun _ => rfl) (fun z => nomatch z)))
  | false => exact iteF (h2 rfl Q (k v2 (fun z => nomatch z) (fun _ => rfl)))
theorem cut_mem {xs : List V} {lo hi : Option Int} {x : V} (h : x ∈ cutV xs lo hi) : x ∈ xs := by
  unfold cutV at h
  exact List.mem_of_mem_drop (List.mem_of_mem_take h)
theorem int_at {ns : List Int} {x : V} (h : x ∈ ns.map V.int) : ∃ z, x = V.int z := by
  obtain ⟨z, _, e⟩ := List.mem_map.mp h
  exact ⟨z, e.symm⟩
theorem same_put {H : Hp} {p : Addr} {o : HO} (h : H p = none) : Same H (upd H p o) := fun b x e => by
  rw [upd_ne (ne_of_none e h)]
  exact e
theorem fmod_ge {a b : Int} (h : 0 < b) : 0 ≤ a.fmod b := by
  rw [Int.fmod_eq_emod_of_nonneg _ (by omega)]; exact Int.emod_nonneg _ (by omega)
theorem fmod_lt {a b : Int} (h : 0 < b) : a.fmod b < b := by
  rw [Int.fmod_eq_emod_of_nonneg _ (by omega)]; exact Int.emod_lt_of_pos _ h
end Gn
set_option Elab.async false
set_option linter.all false
set_option maxRecDepth 100000
set_option maxHeartbeats 4000000
namespace Gn
open PySem PySem.Spec PyProof.Rows L2
/-- tuple(xs) of a list: a new tuple -/
def rTupL (K : PySem.W.Frag) : List V → Hp → VK → Prop := fun xs H Q => ∃ p ys, xs = [V.ref p] ∧ SqL K H p ys ∧ ∀ l, H l = none → Q (.ref l) (upd H l (.tup ys))
theorem cr_tupL {X : Cx} : CallR X (.type "tuple") (rTupL X.K) := by
  intro pins s σ H xs us Q I r h
  obtain ⟨p, ys, e, h1, h2⟩ := h
  exact call_tuple_of pins s σ H xs us Q I r ⟨p, ys, e, .inl ⟨h1, h2⟩⟩
end Gn
set_option Elab.async false
set_option linter.all false
set_option maxRecDepth 100000
set_option maxHeartbeats 4000000
namespace Gn
open PySem PySem.Spec PyProof.Rows L2
/-- small data: may be shown, may be compared; its text has at most c signs, its depth is at most e -/
structure Sm (c e : Nat) (d : PyData) : Prop where
  sh : d.showable = true
  ln : d.shown.length ≤ c
  dp : d.depth ≤ e
  cl : d.canLay0 = true
theorem sum_le {c : Nat} : ∀ {ts : List Str}, (∀ t ∈ ts, t.length ≤ c) → (ts.map (·.length)).sum ≤ ts.length * c
  | [], _ => by simp
  | t :: ts, h => by
    have h1 := h t List.mem_cons_self
    have h2 := sum_le fun x hx => h x (List.mem_cons_of_mem t hx)
    rw [List.map_cons, List.sum_cons, List.length_cons, Nat.succ_mul]
    omega
theorem Sm.all {c e : Nat} : ∀ {ds : List PyData}, (∀ d ∈ ds, Sm c e d) → PyData.showableAll ds = true ∧ (∀ t ∈ PyData.shownAll ds, t.length ≤ c) ∧ (PyData.shownAll ds).length = ds.length ∧ PyData.depthAll ds ≤ e ∧ PyData.canLayAll0 ds = true
  | [], _ => ⟨rfl, (fun t h => by simp [PyData.shownAll] at h), rfl, Nat.zero_le _, rfl⟩
  | d :: ds, h => by
    have a := h d List.mem_cons_self
    obtain ⟨b1, b2, b3, b4, b5⟩ := Sm.all fun x hx => h x (List.mem_cons_of_mem d hx)
    refine ⟨by simp only [PyData.showableAll, a.sh, b1, Bool.and_self], fun t ht => ?_, by simp only [PyData.shownAll, List.length_cons, b3], by simp only [PyData.depthAll]; exact Nat.max_le.mpr ⟨a.dp, b4⟩, by simp only [PyData.canLayAll0, a.cl, b5, Bool.and_self]⟩
    simp only [PyData.shownAll] at ht
    rcases List.mem_cons.mp ht with rfl | ht
    · exact a.ln
    · exact b2 t ht
theorem Sm.tup {c e n : Nat} {ds : List PyData} (h : ∀ d ∈ ds, Sm c e d) (hn : ds.length ≤ n) : Sm (n * (c + 2) + 3) (e + 1) (.tuple ds) := by
  obtain ⟨b1, b2, b3, b4, b5⟩ := Sm.all h
  refine ⟨by simpa only [PyData.showable] using b1, ?_, by simp only [PyData.depth]; omega, by simpa only [PyData.canLay0] using b5⟩
  simp only [PyData.shown]
  have z := tupleText_len_le (PyData.shownAll ds)
  have y := sum_le b2
  rw [b3] at z y
  have w := Nat.mul_le_mul_right (c + 2) hn
  rw [Nat.mul_add] at w
  omega
theorem Sm.lst {c e n : Nat} {ds : List PyData} (h : ∀ d ∈ ds, Sm c e d) (hn : ds.length ≤ n) : Sm (n * (c + 2) + 3) (e + 1) (.list ds) := by
  obtain ⟨b1, b2, b3, b4, b5⟩ := Sm.all h
  refine ⟨by simpa only [PyData.showable] using b1, ?_, by simp only [PyData.depth]; omega, by simpa only [PyData.canLay0] using b5⟩
  simp only [PyData.shown]
  have z := listText_len_le (PyData.shownAll ds)
  have y := sum_le b2
  rw [b3] at z y
  have w := Nat.mul_le_mul_right (c + 2) hn
  rw [Nat.mul_add] at w
  omega
theorem Sm.int {i : Int} (h : i.natAbs < 2 ^ 1000) : Sm 1921 0 (.int i) := by
  have hl : i.natAbs.log2 < 1920 := Nat.lt_trans (PySem.Flt.log2_lt_of (by decide) h) (by decide)
  exact ⟨by simp only [PyData.showable, hl, decide_true], by simp only [PyData.shown]; exact int_text_len_1921 hl, by simp only [PyData.depth]; exact Nat.le_refl 0, rfl⟩
theorem Sm.shaped {c e : Nat} {d : PyData} (h : Sm c e d) (he : e ≤ 64) : SeqAt.shaped d = true := by
  unfold SeqAt.shaped
  rw [h.cl, decide_eq_true (Nat.le_trans h.dp he)]; rfl
theorem Sm.ints {n : Nat} {ns : List Int} (h : ∀ i ∈ ns, i.natAbs < 2 ^ 1000) (hn : ns.length ≤ n) : Sm (n * 1923 + 3) 1 (.tuple (ns.map PyData.int)) :=
  Sm.tup (c := 1921) (e := 0) (fun d hd => by
    obtain ⟨i, hi, rfl⟩ := List.mem_map.mp hd
    exact Sm.int (h i hi)) (by rw [List.length_map]; exact hn)
end Gn
set_option Elab.async false
set_option linter.all false
set_option maxRecDepth 100000
set_option maxHeartbeats 4000000
namespace Gn
open PySem PySem.Spec PyProof.Rows L2
/-- a conditional expression whose two ways give the same data -/
theorem tIf_dp {tt : TT} {ta tb : TE} {σ : L2.St} {H : Hp} {Q : VK} {K : PySem.W.Frag} {d : PyData} (c : Bool) (ht : ∀ R : Bool → Hp → Prop, R c H → tt σ H R)
    (h1 : c = true → ∀ R : VK, (∀ v H', Same H H' → Dp K H' v d → R v H') → ta σ H R) (h2 : c = false → ∀ R : VK, (∀ v H', Same H H' → Dp K H' v d → R v H') → tb σ H R)
    (k : ∀ v H', Same H H' → Dp K H' v d → Q v H') : tIf tt ta tb σ H Q := by
  refine ht _ ?_
  cases c with
  | true => exact iteT (h1 rfl Q k)
  | false => exact iteF (h2 rfl Q k)
/-- t[lo:hi], whether it is all of t or not -/
theorem slA_of {K : PySem.W.Frag} {a : Addr} {xs : List V} {lo hi : Option Int} {H : Hp} {Q : VK} (h : SqT K H a xs) (k : ∀ b H', Same H H' → SqT K H' b (cutV xs lo hi) → Q (.ref b) H') : rSlA K (.ref a) lo hi H Q := by
  refine ⟨a, xs, rfl, h, fun hw => k a H (Same.refl H) ?_, fun _ p hp => k p _ (same_put hp) (SqT.of upd_same)⟩
  have e : cutV xs lo hi = xs := by
    unfold cutV
    rw [hw.1, hw.2, List.drop_zero, Nat.sub_zero, List.take_length]
  rw [e]; exact h
/-- t + u, whether one of them is empty or not -/
theorem catA_of {K : PySem.W.Frag} {a b : Addr} {xs ys : List V} {H : Hp} {Q : VK} (h1 : SqT K H a xs) (h2 : SqT K H b ys) (hz : xs.length + ys.length ≤ sizeLine) (k : ∀ c H', Same H H' → SqT K H' c (xs ++ ys) → Q (.ref c) H') : rCatA K (.ref a) (.ref b) H Q := by
  refine ⟨a, b, xs, ys, rfl, rfl, h1, h2, hz, fun e => k b H (Same.refl H) ?_, fun _ e => k a H (Same.refl H) ?_, fun _ _ p hp => k p _ (same_put hp) (SqT.of upd_same)⟩
  · rw [e]; exact h2
  · rw [e, List.append_nil]; exact h1
theorem cut_one (xs : List V) : cutV xs none (some 1) = xs.take 1 := by
  unfold cutV
  rw [show HT.sIx xs.length 0 none = 0 from HT.sIx_none .., show HT.sIx xs.length xs.length (some 1) = min 1 xs.length from HT.sIx_nat xs.length xs.length 1, List.drop_zero, Nat.sub_zero]
  cases xs with
  | nil => rfl
  | cons x r => rw [show min 1 (x :: r).length = 1 by rw [List.length_cons]; omega]
/-- keywords of a def of the text -/
theorem kwOf1 {K : PySem.W.Frag} {x qual : Str} {st : Stmt} {f : Addr} {fd : FuncData} {p : Str} (F : Fun K x qual st f fd)
    (h : ∀ (kV doc pm : Value) (an : Option Addr) (cdv ct a : Value), bindArgs (PySem.W.fnOf x qual (defArgs st) (defBody st) (defScope st) .none kV doc pm an cdv ct) ⟨[], [(p, a)]⟩ = pure [(p, a)]) : KBinds K fd [p] [p] kw1 kw1 := by
  obtain ⟨oc, od, kV, doc, pm, an, cdv, ct, osl, rfl, lk, hcd⟩ := F.ex
  exact kb1 fun a => h kV doc pm an cdv ct a
theorem kwOf2 {K : PySem.W.Frag} {x qual : Str} {st : Stmt} {f : Addr} {fd : FuncData} {p q : Str} (F : Fun K x qual st f fd)
    (h : ∀ (kV doc pm : Value) (an : Option Addr) (cdv ct a b : Value), bindArgs (PySem.W.fnOf x qual (defArgs st) (defBody st) (defScope st) .none kV doc pm an cdv ct) ⟨[], [(p, a), (q, b)]⟩ = pure [(p, a), (q, b)]) : KBinds K fd [p, q] [p, q] kw2 kw2 := by
  obtain ⟨oc, od, kV, doc, pm, an, cdv, ct, osl, rfl, lk, hcd⟩ := F.ex
  exact kb2 fun a b => h kV doc pm an cdv ct a b
theorem kwOf2s {K : PySem.W.Frag} {x qual : Str} {st : Stmt} {f : Addr} {fd : FuncData} {p q : Str} (F : Fun K x qual st f fd)
    (h : ∀ (kV doc pm : Value) (an : Option Addr) (cdv ct a b : Value), bindArgs (PySem.W.fnOf x qual (defArgs st) (defBody st) (defScope st) .none kV doc pm an cdv ct) ⟨[], [(q, b), (p, a)]⟩ = pure [(p, a), (q, b)]) : KBinds K fd [p, q] [q, p] kw2s kw2s := by
  obtain ⟨oc, od, kV, doc, pm, an, cdv, ct, osl, rfl, lk, hcd⟩ := F.ex
  exact kb2s fun a b => h kV doc pm an cdv ct a b
end Gn
set_option Elab.async false
set_option linter.all false
set_option maxRecDepth 100000
set_option maxHeartbeats 4000000
namespace Gn
open PySem PySem.Spec PyProof.Rows L2
/-- for x in reversed(xs): what holds behind i turns -/
theorem for_rv {K : PySem.W.Frag} {a : Addr} {xs : List V} {g : TG} {tb : TS} {D : Ends} {σ : L2.St} {H : Hp} (Pv : Nat → L2.St → Hp → Prop) (h0 : Pv 0 σ H) (hl : ∀ i σ H, i ≤ xs.length → Pv i σ H → SqL K H a xs)
    (hs : ∀ i x σ H, i < xs.length → xs[xs.length - 1 - i]? = some x → Pv i σ H → g x σ H fun σ2 H2 => tb { D with nx := Pv (i + 1), ct := Pv (i + 1), bk := D.nx } σ2 H2) (hd : ∀ σ H, Pv xs.length σ H → D.nx σ H) :
    ∃ W : Nat → Nat → L2.St → Hp → Prop, (∃ m, W 0 m σ H) ∧ ∀ i m σ H, W i m σ H →
      ((Itv K a xs.length).stop i H ∧ D.nx σ H) ∨ ((Itv K a xs.length).go i H ∧ ∃ N : L2.St → Hp → Prop, (∀ σ' H', N σ' H' → ∃ m', m' < m ∧ W (i + 1) m' σ' H') ∧ ∀ x H', (Itv K a xs.length).yld i H x H' → g x σ H' fun σ2 H2 => tb { D with nx := N, ct := N, bk := D.nx } σ2 H2) := by
  refine ⟨fun i m σ H => m = xs.length - i ∧ i ≤ xs.length ∧ Pv i σ H, ⟨xs.length, by simp, Nat.zero_le _, h0⟩, fun i m σ H ⟨em, hi, p⟩ => ?_⟩
  subst em
  have q := hl i σ H hi p
  rcases Nat.lt_or_ge i xs.length with c | c
  · have c2 : xs.length - 1 - i < xs.length := by omega
    refine .inr ⟨⟨c, xs, xs[xs.length - 1 - i], q, List.getElem?_eq_getElem c2⟩, Pv (i + 1), fun σ' H' p' => ⟨xs.length - (i + 1), by omega, rfl, c, p'⟩, fun x H' y => ?_⟩
    obtain ⟨rfl, y⟩ := y
    exact hs i x σ _ c (y xs q) p
  · obtain rfl : i = xs.length := by omega
    exact .inl ⟨Nat.le_refl _, hd σ H p⟩
end Gn
namespace Gn
open PySem PySem.Spec PyProof.Rows L2
/-- a test and a second one, their answers as one -/
theorem and_join {c : Bool} {t : TT} {σ : L2.St} {H : Hp} {Q : Bool → Hp → Prop} (e : Bool) (h1 : c = true → ∀ R : Bool → Hp → Prop, R e H → t σ H R) (h2 : c = false → e = false) (k : Q e H) : if c = true then t σ H Q else Q false H := by
  cases c with
  | true => exact iteT (h1 rfl Q k)
  | false => rw [h2 rfl] at k; exact iteF k
end Gn
set_option Elab.async false
set_option maxRecDepth 100000
/-! orders as lists: places sorted, marks at one place together. Plain lists of ints -/
namespace Mt
def insU (v : Int) : List Int → List Int
  | [] => [v]
  | a :: l => if v < a then v :: a :: l else if v = a then a :: l else a :: insU v l
/-- sorted, each once -/
def sortU (l : List Int) : List Int := l.foldr insU []
theorem insU_mem {v u : Int} : ∀ {l : List Int}, u ∈ insU v l ↔ u = v ∨ u ∈ l
  | [] => by simp [insU]
  | a :: l => by
    unfold insU
    split
    · simp
    · split
      · rename_i h1 h2
        subst h2
        simp
      · simp only [List.mem_cons, insU_mem (l := l)]
        constructor
        · rintro (h | h | h)
          · exact .inr (.inl h)
          · exact .inl h
          · exact .inr (.inr h)
        · rintro (h | h | h)
          · exact .inr (.inl h)
          · exact .inl h
          · exact .inr (.inr h)
theorem insU_pw {v : Int} : ∀ {l : List Int}, l.Pairwise (· < ·) → (insU v l).Pairwise (· < ·)
  | [], _ => by simp [insU]
  | a :: l, h => by
    obtain ⟨h1, h2⟩ := List.pairwise_cons.mp h
    unfold insU
    split
    · rename_i c
      refine List.pairwise_cons.mpr ⟨fun b hb => ?_, h⟩
      rcases List.mem_cons.mp hb with rfl | hb
      · exact c
      · exact Int.lt_trans c (h1 b hb)
    · split
      · exact h
      · rename_i c d
        refine List.pairwise_cons.mpr ⟨fun b hb => ?_, insU_pw h2⟩
        rcases insU_mem.mp hb with rfl | hb
        · omega
        · exact h1 b hb
theorem sortU_mem {v : Int} : ∀ {l : List Int}, v ∈ sortU l ↔ v ∈ l
  | [] => by simp [sortU]
  | a :: l => by
    show v ∈ insU a (sortU l) ↔ _
    rw [insU_mem, sortU_mem, List.mem_cons]
theorem sortU_pw : ∀ l : List Int, (sortU l).Pairwise (· < ·)
  | [] => List.Pairwise.nil
  | a :: l => insU_pw (sortU_pw l)
/-- a strictly rising list is told by its members -/
theorem strict_one : ∀ {l m : List Int}, l.Pairwise (· < ·) → m.Pairwise (· < ·) → (∀ v, v ∈ l ↔ v ∈ m) → l = m
  | [], [], _, _, _ => rfl
  | [], b :: m, _, _, h => by have := (h b).mpr List.mem_cons_self; simp at this
  | a :: l, [], _, _, h => by have := (h a).mp List.mem_cons_self; simp at this
  | a :: l, b :: m, h1, h2, h => by
    obtain ⟨p1, q1⟩ := List.pairwise_cons.mp h1
    obtain ⟨p2, q2⟩ := List.pairwise_cons.mp h2
    have e : a = b := by
      rcases List.mem_cons.mp ((h a).mp List.mem_cons_self) with x | x
      · exact x
      · rcases List.mem_cons.mp ((h b).mpr List.mem_cons_self) with y | y
        · exact y.symm
        · have := p2 a x; have := p1 b y; omega
    subst e
    have : l = m := strict_one q1 q2 fun v => by
      constructor
      · intro hv
        rcases List.mem_cons.mp ((h v).mp (List.mem_cons_of_mem _ hv)) with x | x
        · subst x; have := p1 v hv; omega
        · exact x
      · intro hv
        rcases List.mem_cons.mp ((h v).mpr (List.mem_cons_of_mem _ hv)) with x | x
        · subst x; have := p2 v hv; omega
        · exact x
    rw [this]
theorem le_nodup_lt {l : List Int} (h : l.Pairwise (· ≤ ·)) (n : l.Nodup) : l.Pairwise (· < ·) := by
  induction l with
  | nil => exact .nil
  | cons a l ih =>
    obtain ⟨p, q⟩ := List.pairwise_cons.mp h
    obtain ⟨r, s⟩ := List.nodup_cons.mp n
    refine List.pairwise_cons.mpr ⟨fun b hb => ?_, ih q s⟩
    have h1 := p b hb
    have h2 : a ≠ b := fun e => r (by rw [e]; exact hb)
    omega
/-- a rising list is told by what it is a permutation of -/
theorem le_one : ∀ {l m : List Int}, l.Pairwise (· ≤ ·) → m.Pairwise (· ≤ ·) → l.Perm m → l = m
  | [], m, _, _, h => by rw [List.nil_perm] at h; exact h.symm
  | a :: l, [], _, _, h => by have := h.length_eq; simp at this
  | a :: l, b :: m, h1, h2, h => by
    obtain ⟨p1, q1⟩ := List.pairwise_cons.mp h1
    obtain ⟨p2, q2⟩ := List.pairwise_cons.mp h2
    have e : a = b := by
      rcases List.mem_cons.mp (h.mem_iff.mp (List.mem_cons_self (a := a) (l := l))) with x | x
      · exact x
      · rcases List.mem_cons.mp (h.mem_iff.mpr (List.mem_cons_self (a := b) (l := m))) with y | y
        · exact y.symm
        · have := p2 a x; have := p1 b y; omega
    subst e
    rw [le_one q1 q2 ((List.perm_cons a).mp h)]
def iota (n : Nat) : List Int := (List.range n).map Int.ofNat
theorem iota_len (n : Nat) : (iota n).length = n := by simp [iota]
theorem iota_succ (n : Nat) : iota (n + 1) = iota n ++ [(n : Int)] := by simp [iota, List.range_succ]
theorem iota_mem {n : Nat} {k : Int} : k ∈ iota n ↔ 0 ≤ k ∧ k < n := by
  unfold iota
  rw [List.mem_map]
  constructor
  · rintro ⟨m, hm, rfl⟩
    have := List.mem_range.mp hm
    exact ⟨Int.natCast_nonneg _, by show (m : Int) < n; omega⟩
  · rintro ⟨h1, h2⟩
    exact ⟨k.toNat, List.mem_range.mpr (by omega), by show ((k.toNat : Nat) : Int) = k; omega⟩
theorem iota_pw (n : Nat) : (iota n).Pairwise (· < ·) := by
  unfold iota
  rw [List.pairwise_map]
  exact List.pairwise_lt_range.imp fun h => by show ((_ : Nat) : Int) < ((_ : Nat) : Int); omega
/-- the marks at the place v -/
def grp (f : Int → Int) (ms : List Int) (v : Int) : List Int := ms.filter fun k => f k == v
/-- the order: places rising, the marks at each -/
def ord (f : Int → Int) (ms : List Int) : List (List Int) := (sortU (ms.map f)).map (grp f ms)
theorem grp_snoc {f : Int → Int} {ms : List Int} {k v : Int} : grp f (ms ++ [k]) v = if f k = v then grp f ms v ++ [k] else grp f ms v := by
  unfold grp
  rw [List.filter_append]
  by_cases h : f k = v
  · rw [if_pos h]; simp [h]
  · rw [if_neg h]; simp [h]
theorem grp_none {f : Int → Int} {ms : List Int} {v : Int} (h : v ∉ ms.map f) : grp f ms v = [] := by
  unfold grp
  rw [List.filter_eq_nil_iff]
  intro k hk e
  exact h (List.mem_map.mpr ⟨k, hk, by simpa using e⟩)
theorem ord_congr {f g : Int → Int} {ms : List Int} (h : ∀ k ∈ ms, f k = g k) : ord f ms = ord g ms := by
  unfold ord
  have e : ms.map f = ms.map g := List.map_congr_left h
  rw [e]
  refine List.map_congr_left fun v _ => ?_
  unfold grp
  exact List.filter_congr fun k hk => by rw [h k hk]
theorem pw_rev_map {y : Int} {W : List Int} (h : W.Pairwise (· < ·)) : ((W.map (y - ·)).reverse).Pairwise (· < ·) := by
  rw [List.pairwise_reverse, List.pairwise_map]
  exact h.imp fun h => by omega
/-- the other way round -/
theorem ord_mirror {f g : Int → Int} {ms : List Int} {y : Int} (hf : ∀ k ∈ ms, 0 ≤ f k ∧ f k < y) (hg : ∀ k ∈ ms, g k = if f k = 0 then 0 else y - f k) {k0 : Int} (h0 : k0 ∈ ms) (z0 : f k0 = 0) :
    ord g ms = (ord f ms).take 1 ++ ((ord f ms).drop 1).reverse := by
  have hm : ∀ v, v ∈ sortU (ms.map f) → 0 ≤ v ∧ v < y := fun v hv => by
    obtain ⟨k, hk, rfl⟩ := List.mem_map.mp (sortU_mem.mp hv)
    exact hf k hk
  have m0 : (0 : Int) ∈ sortU (ms.map f) := sortU_mem.mpr (List.mem_map.mpr ⟨k0, h0, z0⟩)
  obtain ⟨W, hW⟩ : ∃ W, sortU (ms.map f) = 0 :: W := by
    cases e : sortU (ms.map f) with
    | nil => rw [e] at m0; simp at m0
    | cons a W =>
      have p := sortU_pw (ms.map f)
      rw [e] at p m0 hm
      obtain ⟨p1, _⟩ := List.pairwise_cons.mp p
      rcases List.mem_cons.mp m0 with q | q
      · exact ⟨W, by rw [← q]⟩
      · have := p1 0 q
        have := (hm a List.mem_cons_self).1
        omega
  have pw : (0 :: W).Pairwise (· < ·) := by rw [← hW]; exact sortU_pw _
  obtain ⟨pW, qW⟩ := List.pairwise_cons.mp pw
  have mW : ∀ v ∈ W, 0 < v ∧ v < y := fun v hv => ⟨pW v hv, (hm v (by rw [hW]; exact List.mem_cons_of_mem _ hv)).2⟩
  have eV : sortU (ms.map g) = 0 :: (W.map (y - ·)).reverse := by
    refine strict_one (sortU_pw _) (List.pairwise_cons.mpr ⟨fun b hb => ?_, pw_rev_map qW⟩) fun v => ?_
    · obtain ⟨u, hu, rfl⟩ := List.mem_map.mp (List.mem_reverse.mp hb)
      have := (mW u hu).2
      show 0 < y - u
      omega
    · rw [sortU_mem, List.mem_map, List.mem_cons, List.mem_reverse, List.mem_map]
      constructor
      · rintro ⟨k, hk, rfl⟩
        rw [hg k hk]
        by_cases e : f k = 0
        · rw [if_pos e]; exact .inl rfl
        · rw [if_neg e]
          refine .inr ⟨f k, ?_, rfl⟩
          have : f k ∈ sortU (ms.map f) := sortU_mem.mpr (List.mem_map.mpr ⟨k, hk, rfl⟩)
          rw [hW] at this
          exact (List.mem_cons.mp this).resolve_left e
      · rintro (rfl | ⟨u, hu, rfl⟩)
        · exact ⟨k0, h0, by rw [hg k0 h0, if_pos z0]⟩
        · have : u ∈ sortU (ms.map f) := by rw [hW]; exact List.mem_cons_of_mem _ hu
          obtain ⟨k, hk, e⟩ := List.mem_map.mp (sortU_mem.mp this)
          refine ⟨k, hk, ?_⟩
          have := (mW u hu).1
          rw [hg k hk, e, if_neg (by omega)]
  have g0 : grp g ms 0 = grp f ms 0 := List.filter_congr fun k hk => by
    rw [hg k hk]
    have := hf k hk
    by_cases e : f k = 0
    · rw [if_pos e, e]
    · rw [if_neg e]
      rw [beq_eq_false_iff_ne.mpr e, beq_eq_false_iff_ne.mpr (by omega)]
  have gW : ∀ u ∈ W, grp g ms (y - u) = grp f ms u := fun u hu => List.filter_congr fun k hk => by
    rw [hg k hk]
    have h1 := hf k hk
    have h2 := mW u hu
    by_cases e : f k = 0
    · rw [if_pos e, beq_eq_false_iff_ne.mpr (by omega), beq_eq_false_iff_ne.mpr (by omega)]
    · rw [if_neg e]
      by_cases e2 : f k = u
      · rw [e2]; simp
      · rw [beq_eq_false_iff_ne.mpr e2, beq_eq_false_iff_ne.mpr (by omega)]
  unfold ord
  rw [eV, hW, List.map_cons, List.map_cons, g0, List.map_reverse, List.map_map]
  show _ = [grp f ms 0] ++ (List.map (grp f ms) W).reverse
  rw [List.singleton_append]
  congr 2
  exact List.map_congr_left fun u hu => gW u hu
end Mt
namespace Mt
theorem map_inj {α β : Type} {g : α → β} : ∀ {l : List α}, (l.map g).Nodup → ∀ {a b : α}, a ∈ l → b ∈ l → g a = g b → a = b
  | [], _, _, _, h, _, _ => by simp at h
  | c :: l, n, a, b, ha, hb, e => by
    obtain ⟨n1, n2⟩ := List.nodup_cons.mp (show (g c :: l.map g).Nodup from n)
    rcases List.mem_cons.mp ha with x | x
    · rcases List.mem_cons.mp hb with y | y
      · rw [x, y]
      · subst x
        exact absurd (List.mem_map.mpr ⟨b, y, e.symm⟩) n1
    · rcases List.mem_cons.mp hb with y | y
      · subst y
        exact absurd (List.mem_map.mpr ⟨a, x, e⟩) n1
      · exact map_inj n2 x y e
end Mt
namespace Mt
theorem insU_len (v : Int) : ∀ m : List Int, (insU v m).length ≤ m.length + 1
  | [] => Nat.le_refl 1
  | b :: m => by
    unfold insU
    split
    · exact Nat.le_refl _
    · split
      · exact Nat.le_succ _
      · exact Nat.succ_le_succ (insU_len v m)
theorem sortU_len : ∀ l : List Int, (sortU l).length ≤ l.length
  | [] => Nat.le_refl 0
  | a :: l => Nat.le_trans (insU_len a (sortU l)) (Nat.succ_le_succ (sortU_len l))
end Mt
set_option Elab.async false
set_option linter.all false
set_option maxRecDepth 100000
set_option maxHeartbeats 4000000
namespace My
open PySem PySem.Spec PyProof.Rows L2 Gn
def top (i : Nat) : Stmt := PySem.Challenge.pw_rimorders_k02_whole_places_and_orders.main.body.getD i (.Pass ⟨0, 0, 0, 0⟩)
abbrev sTin : Stmt := top 20
abbrev sSip : Stmt := top 21
abbrev sPick : Stmt := top 22
abbrev sFar : Stmt := top 23
abbrev sGcd : Stmt := top 24
abbrev sLow : Stmt := top 25
abbrev sStep : Stmt := top 26
theorem scTin : FnScope ["_law_script", "_law_turn", "_law_entry", "_law_stirred", "_law_each"] ["_law_script", "_law_turn"] (defScope sTin) := ⟨rfl, rfl, rfl, by decide +kernel, rfl, by decide +kernel, by decide +kernel⟩
theorem scSip : FnScope ["_law_tin_here", "_law_top", "_law_digit"] ["_law_tin_here", "_law_top"] (defScope sSip) := ⟨rfl, rfl, rfl, by decide +kernel, rfl, by decide +kernel, by decide +kernel⟩
theorem scPick : FnScope ["_law_tin_here", "_law_menu"] ["_law_tin_here", "_law_menu"] (defScope sPick) := ⟨rfl, rfl, rfl, by decide +kernel, rfl, by decide +kernel, by decide +kernel⟩
theorem scFar : FnScope ["_law_tin_here", "_law_most", "_law_scale"] ["_law_tin_here", "_law_most"] (defScope sFar) := ⟨rfl, rfl, rfl, by decide +kernel, rfl, by decide +kernel, by decide +kernel⟩
theorem scGcd : FnScope ["_law_one", "_law_two"] ["_law_one", "_law_two"] (defScope sGcd) := ⟨rfl, rfl, rfl, by decide +kernel, rfl, by decide +kernel, by decide +kernel⟩
theorem scLow : FnScope ["_law_top", "_law_bottom", "_law_same"] ["_law_top", "_law_bottom"] (defScope sLow) := ⟨rfl, rfl, rfl, by decide +kernel, rfl, by decide +kernel, by decide +kernel⟩
theorem scStep : FnScope ["_law_tin_here", "_law_most", "_law_bottom"] ["_law_tin_here", "_law_most"] (defScope sStep) := ⟨rfl, rfl, rfl, by decide +kernel, rfl, by decide +kernel, by decide +kernel⟩
/-- the built-ins that the text calls are still the built-ins -/
structure Bl (mg : Str → Option Value) : Prop where
  len : mg "len" = none
  int : mg "int" = none
  abs : mg "abs" = none
/-- a tin at t: what is left of the number, the stirred one, how often it was sipped from -/
def Tin (H : Hp) (t : Addr) : Prop := ∃ a b c : Int, H t = some (.lst [.int a, .int b, .int c]) ∧ 0 ≤ a ∧ 0 ≤ b ∧ b < 2147483647
/-- all but t is as it was, t is a tin -/
def Sipped (H H' : Hp) (t : Addr) : Prop := Tin H' t ∧ ∀ b o, H b = some o → b ≠ t → H' b = some o
def spTin (K : PySem.W.Frag) : Sp := fun vs H Q _ => ∃ (a : Addr) (ns : List Int) (t : Int), vs = [.ref a, .int t] ∧ SqL K H a (ns.map V.int) ∧ 0 ≤ t ∧ t ≤ 100 ∧
  ∀ p H', Same H H' → H p = none → Tin H' p → Q (.ref p) H'
def spSip : Sp := fun vs H Q _ => ∃ (t : Addr) (n : Int), vs = [.ref t, .int n] ∧ Tin H t ∧ 0 < n ∧ n.natAbs < 2 ^ 100 ∧ ∀ d H', 0 ≤ d → d < n → Sipped H H' t → Q (.int d) H'
theorem nz1 : (999931 : Int) ≠ 0 := by decide
theorem nz2 : (2147483647 : Int) ≠ 0 := by decide
section
variable {P : Program} {w : World} {K : PySem.W.Frag} {mg : Str → Option Value} {base : Heap}
theorem ok_tin {f : Addr} {fd : FuncData} (F : Fun K "_law_tin" "_law_tin" sTin f fd) (B : Bl mg) : FnOk P w K mg base CX0 1 f fd ["_law_script", "_law_turn"] (spTin K) := by
  refine F.ok scTin (fun vs H Q E h => ?_) (fun cdv A outer s H vs Q E hr h => ?_)
  · obtain ⟨a, ns, t, rfl, _⟩ := h
    rfl
  · obtain ⟨a, ns, t, rfl, hS, t0, t1, q⟩ := h
    refine ⟨_, pss_cons (ps_set (i := 2) scTin.nd rfl (.inl rfl) (pe_ifExp (pt_cmpR op_lt (pv 1) (pe_callB call_len_seq (by rfl) B.len PySem.boot_len (pa_cons (pv 0) pa_nil)) (nomark _))
        (pe_callTy call_int1 (by rfl) B.int (by decide +kernel) (pa_cons (pe_ix ix_list (pv 0) (pv 1) (fun _ _ => rfl)) pa_nil)) (pe_op op_add (pe_op op_mul pe_int (pv 1)) pe_int)))
      (pss_cons (ps_set (i := 3) scTin.nd rfl (.inl rfl) (pe_op op_add pe_int (pe_op op_mul pe_int (pv 1))))
      (pss_cons (ps_for PassesOwn.never rfl (pi_list (pe_slice sl_list (pv 0) po_none (po_some pe_int))) (pg_name (i := 4) scTin.nd rfl (.inl rfl))
        (pss_one (ps_set (i := 3) scTin.nd rfl (.inl rfl) (pe_op op_modN (pe_callTy call_int1 (by rfl) B.int (by decide +kernel) (pa_cons
          (pe_op op_add (pe_op op_add (pe_op op_mul (pv 3) pe_int) (pe_op op_modN (pe_callTy call_int1 (by rfl) B.int (by decide +kernel) (pa_cons (pv 4) pa_nil)) pe_int)) (pv 1)) pa_nil)) pe_int))))
      (pss_cons (ps_set (i := 3) scTin.nd rfl (.inl rfl) (pe_op op_modN (pe_callTy call_int1 (by rfl) B.int (by decide +kernel) (pa_cons
          (pe_op op_add (pe_op op_mul (pv 3) pe_int) (pe_op op_modN (pe_callTy call_int1 (by rfl) B.int (by decide +kernel) (pa_cons (pv 2) pa_nil)) pe_int)) pa_nil)) pe_int))
      (pss_one (ps_ret (pe_lst (pa_cons (pe_ifExp (pt_cmpR op_ge (pe_callB call_abs (by rfl) B.abs (by decide +kernel) (pa_cons (pv 2) pa_nil)) (pe_op op_pow pe_int pe_int) (nomark _)) (pe_callB call_abs (by rfl) B.abs (by decide +kernel) (pa_cons (pv 2) pa_nil)) pe_int)
          (pa_cons (pv 3) (pa_cons pe_int pa_nil))))))))), ?_⟩
    refine ⟨_, rfl, _, rfl, a, _, rfl, .inl hS, _, _, rfl, rfl, _, rfl, ?_⟩
    refine tif (.int (ns.getD t.toNat 0)) (.int (73 * t + 23)) (fun hc R z => ?_) (fun _ R z => ?_) (fun v e1 e2 => ?_)
    · have hl : t.toNat < ns.length := by have := of_decide_eq_true hc; rw [List.length_map] at this; omega
      refine ⟨_, rfl, _, rfl, a, _, t, .int (ns.getD t.toNat 0), rfl, rfl, hS, ?_, .inl ⟨_, rfl, z⟩⟩
      exact at_of (j := t.toNat) (by omega) (by rw [List.getElem?_map, List.getElem?_eq_getElem hl, List.getD_eq_getElem?_getD, List.getElem?_eq_getElem hl]; rfl)
    · exact ⟨_, rfl, _, _, rfl, rfl, .inl ⟨by decide, by decide⟩, _, _, rfl, rfl, z⟩
    obtain ⟨e, rfl⟩ : ∃ e, v = V.int e := by
      rcases Bool.eq_false_or_eq_true (decide (t < ↑(List.map V.int ns).length)) with z | z
      · exact ⟨_, e1 z⟩
      · exact ⟨_, e2 z⟩
    refine ⟨_, rfl, _, _, rfl, rfl, .inl ⟨by decide, by decide⟩, _, _, rfl, rfl, ?_⟩
    refine ⟨_, rfl, 8, rfl, a, _, rfl, hS, fun p hp => ⟨p, rfl, ⟨_, .inl (.inl upd_same)⟩, ?_⟩⟩
    have sm := same_put (o := .lst (cutV (ns.map V.int) none (some 8))) hp
    refine for_list (K := K) (a := p) (xs := cutV (ns.map V.int) none (some 8)) (fun i σ H' => ∃ (st : Int) (y : Option V), σ = [some (.ref a), some (.int t), some (.int e), some (.int st), y] ∧ 0 ≤ st ∧ st ≤ 2147483647 ∧ H' = upd H p (.lst (cutV (ns.map V.int) none (some 8))))
      ⟨50021 + 1009 * t, none, rfl, by omega, by omega, rfl⟩ (fun i σ H' _ ⟨_, _, _, _, _, e⟩ => by rw [e]; exact .inl (.inl upd_same)) ?_ ?_
    · rintro i x σ H' hi ⟨st, y, rfl, s0, s1, rfl⟩
      obtain ⟨z, rfl⟩ := int_at (cut_mem (List.mem_of_getElem? hi))
      refine ⟨_, rfl, _, _, rfl, rfl, .inl ⟨by omega, by omega⟩, _, rfl, .inl ⟨_, rfl, _, _, rfl, rfl, nz1, _, _, rfl, rfl, _, rfl, _, _, rfl, rfl, .inl ⟨_, rfl, _, _, rfl, rfl, nz2, ?_⟩⟩⟩
      exact ⟨_, _, rfl, fmod_ge (by decide), Int.le_of_lt (fmod_lt (by decide)), rfl⟩
    · rintro σ H' ⟨st, y, rfl, s0, s1, rfl⟩
      refine ⟨_, rfl, _, _, rfl, rfl, .inl ⟨by omega, by omega⟩, _, rfl, .inl ⟨_, rfl, _, _, rfl, rfl, nz1, _, _, rfl, rfl, .inl ⟨_, rfl, _, _, rfl, rfl, nz2, ?_⟩⟩⟩
      refine ⟨_, rfl, _, rfl, _, _, rfl, rfl, ⟨by decide, by decide, by decide⟩, _, _, rfl, rfl, _, rfl, ?_⟩
      refine tif (.int (if e < 0 then -e else e)) (.int 0) (fun _ R z => ⟨_, rfl, _, rfl, z⟩) (fun _ R z => z) (fun v e1 e2 => ?_)
      obtain ⟨b, rfl, hb⟩ : ∃ b, v = V.int b ∧ 0 ≤ b := by
        rcases Bool.eq_false_or_eq_true (decide ((10 : Int) ^ (18 : Int).toNat ≤ if e < 0 then -e else e)) with z | z
        · exact ⟨_, e1 z, by split <;> omega⟩
        · exact ⟨_, e2 z, by decide⟩
      refine ⟨_, rfl, (by show 3 ≤ sizeLine; decide), fun r hr' => ?_⟩
      exact q r _ (sm.trans (same_put hr')) (sm.free hr') ⟨_, _, _, upd_same, hb, fmod_ge (by decide), fmod_lt (by decide)⟩
end
end My
set_option Elab.async false
set_option linter.all false
set_option maxRecDepth 100000
set_option maxHeartbeats 4000000
namespace My
open PySem PySem.Spec PyProof.Rows L2 Gn
theorem Tin.not {H : Hp} {t b : Addr} (T : Tin H t) (h : H b = none) : b ≠ t := by
  obtain ⟨_, _, _, h1, _⟩ := T
  exact (ne_of_none h1 h).symm
theorem Sipped.trans {H H1 H2 : Hp} {t : Addr} (a : Sipped H H1 t) (b : Sipped H1 H2 t) : Sipped H H2 t := ⟨b.1, fun c o e n => b.2 c o (a.2 c o e n) n⟩
theorem Sipped.ofSame {H H1 : Hp} {t : Addr} (T : Tin H t) (s : Same H H1) : Sipped H H1 t := by
  obtain ⟨a, b, c, h, r⟩ := T
  exact ⟨⟨a, b, c, s _ _ h, r⟩, fun c o e _ => s c o e⟩
theorem Sipped.free {H H1 : Hp} {t p : Addr} (T : Tin H t) (s : Sipped H H1 t) (h : H1 p = none) : H p = none := by
  cases q : H p with
  | none => rfl
  | some o =>
    have n : p ≠ t := by
      rintro rfl
      obtain ⟨_, _, _, e, _⟩ := s.1
      rw [h] at e; cases e
    rw [s.2 p o q n] at h
    cases h
section
variable {P : Program} {w : World} {K : PySem.W.Frag} {mg : Str → Option Value} {base : Heap}
theorem ok_sip {f : Addr} {fd : FuncData} (F : Fun K "_law_sip" "_law_sip" sSip f fd) (B : Bl mg) : FnOk P w K mg base CX0 1 f fd ["_law_tin_here", "_law_top"] spSip := by
  refine F.ok scSip (fun vs H Q E h => ?_) (fun cdv A outer s H vs Q E hr h => ?_)
  · obtain ⟨t, n, rfl, _⟩ := h
    rfl
  · obtain ⟨t, n, rfl, ⟨a, b, c, hT, a0, b0, b1⟩, n0, n1, q⟩ := h
    refine ⟨_, pss_cons (ps_asg (pe_op op_add (pe_ix ix_list (pv 0) pe_int (fun _ _ => rfl)) pe_int) (pg_sub (pv 0) pe_int set_list))
      (pss_cons (ps_if (pt_cmpR op_gt (pe_ix ix_list (pv 0) pe_int (fun _ _ => rfl)) pe_int (nomark _))
        (pss_cons (ps_set (i := 2) scSip.nd rfl (.inl rfl) (pe_op op_modN (pe_callTy call_int1 (by rfl) B.int (by decide +kernel) (pa_cons (pe_ix ix_list (pv 0) pe_int (fun _ _ => rfl)) pa_nil)) (pv 1)))
        (pss_cons (ps_asg (pe_op op_fdivW (pe_callTy call_int1 (by rfl) B.int (by decide +kernel) (pa_cons (pe_ix ix_list (pv 0) pe_int (fun _ _ => rfl)) pa_nil)) (pv 1)) (pg_sub (pv 0) pe_int set_list))
        (pss_one (ps_ret (pv 2))))) pss_nil)
      (pss_cons (ps_asg (pe_op op_modN (pe_callTy call_int1 (by rfl) B.int (by decide +kernel) (pa_cons (pe_op op_add (pe_op op_add (pe_op op_mul (pe_ix ix_list (pv 0) pe_int (fun _ _ => rfl)) pe_int) (pe_op op_mul pe_int (pe_ix ix_list (pv 0) pe_int (fun _ _ => rfl)))) pe_int) pa_nil)) pe_int) (pg_sub (pv 0) pe_int set_list))
      (pss_one (ps_ret (pe_op op_modN (pe_callTy call_int1 (by rfl) B.int (by decide +kernel) (pa_cons (pe_op op_fdivW (pe_ix ix_list (pv 0) pe_int (fun _ _ => rfl)) pe_int) pa_nil)) (pv 1)))))), ?_⟩
    -- tin[2] = tin[2] + 1
    refine ⟨_, rfl, t, _, 2, .int c, rfl, rfl, SqL.of hT, at_of (j := 2) rfl rfl, _, _, rfl, rfl, _, rfl, t, _, _, 2, rfl, rfl, hT, rfl, ?_⟩
    have h1 : upd H t (.lst ([V.int a, V.int b, V.int c].set 2 (V.int (c + 1)))) t = some (.lst [.int a, .int b, .int (c + 1)]) := upd_same
    -- if tin[0] > 0
    refine ⟨_, rfl, t, _, 0, .int a, rfl, rfl, SqL.of h1, at_of (j := 0) rfl rfl, _, _, rfl, rfl, _, rfl, ?_⟩
    refine ite2 (fun hc => ?_) (fun hc => ?_)
    · have ha : 0 < a := of_decide_eq_true hc
      refine ⟨_, rfl, t, _, 0, .int a, rfl, rfl, SqL.of h1, at_of (j := 0) rfl rfl, .inl ⟨_, rfl, _, rfl, _, _, rfl, rfl, (show n ≠ 0 by omega), ?_⟩⟩
      refine ⟨_, rfl, t, _, 0, .int a, rfl, rfl, SqL.of h1, at_of (j := 0) rfl rfl, .inl ⟨_, rfl, _, rfl, _, _, rfl, rfl, wide_div n0 n1 (by decide) (by decide), _, rfl, t, _, _, 0, rfl, rfl, h1, rfl, ?_⟩⟩
      refine ⟨_, rfl, q _ _ (fmod_ge n0) (fmod_lt n0) ⟨⟨_, _, _, upd_same, Int.ediv_nonneg (by omega) (by omega), b0, b1⟩, fun z o e hz => ?_⟩⟩
      rw [upd_ne hz, upd_ne hz]; exact e
    · refine ⟨_, rfl, t, _, 1, .int b, rfl, rfl, SqL.of h1, at_of (j := 1) rfl rfl, _, _, rfl, rfl, .inl ⟨by omega, by omega⟩, _, rfl, t, _, 2, .int (c + 1), rfl, rfl, SqL.of h1, at_of (j := 2) rfl rfl, _, _, rfl, rfl, .inl ⟨by decide, by decide⟩, _, _, rfl, rfl, _, _, rfl, rfl, .inl ⟨_, rfl, _, _, rfl, rfl, nz2, _, rfl, t, _, _, 1, rfl, rfl, h1, rfl, ?_⟩⟩
      have h2 : ∀ z : Int, upd (upd H t (.lst ([V.int a, V.int b, V.int c].set 2 (V.int (c + 1))))) t (.lst ([V.int a, V.int b, V.int (c + 1)].set 1 (V.int z))) t = some (.lst [.int a, .int z, .int (c + 1)]) := fun z => upd_same
      refine ⟨_, rfl, t, _, 1, _, rfl, rfl, SqL.of (h2 _), at_of (j := 1) rfl rfl, _, _, rfl, rfl, wide_div (b := 6) (by decide) (by decide) (by decide) (by decide), .inl ⟨_, rfl, _, rfl, _, _, rfl, rfl, (show n ≠ 0 by omega), ?_⟩⟩
      refine q _ _ (fmod_ge n0) (fmod_lt n0) ⟨⟨_, _, _, h2 _, a0, fmod_ge (by decide), fmod_lt (by decide)⟩, fun z o e hz => ?_⟩
      rw [upd_ne hz, upd_ne hz]; exact e
end
end My
set_option Elab.async false
set_option linter.all false
set_option maxRecDepth 100000
set_option maxHeartbeats 4000000
namespace My
open PySem PySem.Spec PyProof.Rows L2 Gn
def spPick : Sp := fun vs H Q _ => ∃ (t m : Addr) (xs : List V), vs = [.ref t, .ref m] ∧ Tin H t ∧ H m = some (.lst xs) ∧ m ≠ t ∧ 0 < xs.length ∧ xs.length ≤ 1000 ∧ ∀ x H', x ∈ xs → Sipped H H' t → Q x H'
def spFar : Sp := fun vs H Q _ => ∃ (t : Addr) (n : Int), vs = [.ref t, .int n] ∧ Tin H t ∧ 1 ≤ n ∧ n.natAbs < 2 ^ 100 ∧ ∀ d H', 1 ≤ d → d ≤ n → Sipped H H' t → Q (.int d) H'
def spGcd : Sp := fun vs H Q _ => ∃ (a b : Int), vs = [.int a, .int b] ∧ 0 ≤ a ∧ 0 ≤ b ∧ Q (.int ((Nat.gcd a.natAbs b.natAbs : Nat) : Int)) H
def spLow : Sp := fun vs H Q _ => ∃ (a b : Int), vs = [.int a, .int b] ∧ 0 ≤ a ∧ 0 < b ∧ b.natAbs < 2 ^ 100 ∧
  ∀ p, H p = none → Q (.ref p) (upd H p (.tup [.int (a / ((Nat.gcd a.natAbs b.natAbs : Nat) : Int)), .int (b / ((Nat.gcd a.natAbs b.natAbs : Nat) : Int))]))
/-- x / y is a step: lowest terms, from 0 on, below 1 -/
structure IsStep (x y : Int) : Prop where
  x0 : 0 ≤ x
  xy : x < y
  co : Nat.gcd x.natAbs y.natAbs = 1
def spStep : Sp := fun vs H Q _ => ∃ (t : Addr) (n : Int), vs = [.ref t, .int n] ∧ Tin H t ∧ 1 ≤ n ∧ n.natAbs < 2 ^ 100 ∧
  ∀ x y p H', IsStep x y → y ≤ n → Sipped H H' t → H p = none → H' p = some (.tup [.int x, .int y]) → Q (.ref p) H'
theorem low_step {a b : Int} (h0 : 0 ≤ a) (h : a < b) : IsStep (a / ((Nat.gcd a.natAbs b.natAbs : Nat) : Int)) (b / ((Nat.gcd a.natAbs b.natAbs : Nat) : Int)) ∧ b / ((Nat.gcd a.natAbs b.natAbs : Nat) : Int) ≤ b := by
  obtain ⟨x, rfl⟩ := Int.eq_ofNat_of_zero_le h0
  obtain ⟨y, rfl⟩ := Int.eq_ofNat_of_zero_le (show 0 ≤ b by omega)
  simp only [Int.natAbs_natCast]
  have hy : 0 < y := by omega
  have g0 : 0 < Nat.gcd x y := Nat.gcd_pos_of_pos_right _ hy
  have e1 : ((x : Int) / ((Nat.gcd x y : Nat) : Int)) = ((x / Nat.gcd x y : Nat) : Int) := by simp
  have e2 : ((y : Int) / ((Nat.gcd x y : Nat) : Int)) = ((y / Nat.gcd x y : Nat) : Int) := by simp
  rw [e1, e2]
  obtain ⟨u, hu⟩ := Nat.gcd_dvd_left x y
  obtain ⟨v, hv⟩ := Nat.gcd_dvd_right x y
  have du : x / Nat.gcd x y = u := Nat.div_eq_of_eq_mul_right g0 hu
  have dv : y / Nat.gcd x y = v := Nat.div_eq_of_eq_mul_right g0 hv
  refine ⟨⟨by omega, ?_, ?_⟩, ?_⟩
  · rw [du, dv]
    have : Nat.gcd x y * u < Nat.gcd x y * v := by rw [← hu, ← hv]; omega
    have := Nat.lt_of_mul_lt_mul_left this
    omega
  · simp only [Int.natAbs_natCast]
    exact Nat.coprime_div_gcd_div_gcd g0
  · have := Nat.div_le_self y (Nat.gcd x y)
    omega
section
variable {P : Program} {w : World} {K : PySem.W.Frag} {mg : Str → Option Value} {base : Heap}
/-- a def that the module holds under its own name, and how it binds -/
structure Df (K : PySem.W.Frag) (mg : Str → Option Value) (x : Str) (st : Stmt) (ps : List Str) (f : Addr) (fd : FuncData) : Prop where
  F : Fun K x x st f fd
  g : mg x = some (.ref f)
  b : Binds K fd ps []
theorem ok_pick {f fS : Addr} {fd fdS : FuncData} (F : Fun K "_law_pick" "_law_pick" sPick f fd) (B : Bl mg) (S : Df K mg "_law_sip" sSip ["_law_tin_here", "_law_top"] fS fdS) : FnOk P w K mg base CX0 2 f fd ["_law_tin_here", "_law_menu"] spPick := by
  have GS : FnOk P w K mg base CX0 1 fS fdS ["_law_tin_here", "_law_top"] spSip := ok_sip S.F B
  refine F.ok scPick (fun vs H Q E h => ?_) (fun cdv A outer s H vs Q E hr h => ?_)
  · obtain ⟨t, m, xs, rfl, _⟩ := h
    rfl
  · obtain ⟨t, m, xs, rfl, T, hm, ne, x0, x1, q⟩ := h
    refine ⟨_, pss_one (ps_ret (pe_ix ix_list (pv 1) (pe_call GS hr (by rfl) S.g S.F.kp S.b .nil pass0 (pa_cons (pv 0) (pa_cons (pe_callB call_len_seq (by rfl) B.len PySem.boot_len (pa_cons (pv 1) pa_nil)) pa_nil))) (fun _ _ => rfl))), ?_⟩
    refine ⟨_, rfl, _, rfl, _, rfl, m, xs, rfl, .inl (SqL.of hm), t, _, rfl, T, by omega, ?_, fun d H' d0 d1 sp => ?_⟩
    · rw [Int.natAbs_natCast]; exact Nat.lt_of_le_of_lt x1 (by decide)
    have hd : d.toNat < xs.length := by omega
    refine ⟨m, xs, d, xs[d.toNat], rfl, rfl, SqL.of (sp.2 m _ hm ne), at_of (j := d.toNat) (by omega) (List.getElem?_eq_getElem hd), q _ _ (List.getElem_mem hd) sp⟩
theorem ok_far {f fS fP : Addr} {fd fdS fdP : FuncData} (F : Fun K "_law_far" "_law_far" sFar f fd) (B : Bl mg) (S : Df K mg "_law_sip" sSip ["_law_tin_here", "_law_top"] fS fdS) (Pk : Df K mg "_law_pick" sPick ["_law_tin_here", "_law_menu"] fP fdP) : FnOk P w K mg base CX0 3 f fd ["_law_tin_here", "_law_most"] spFar := by
  have GS : FnOk P w K mg base CX0 1 fS fdS ["_law_tin_here", "_law_top"] spSip := ok_sip S.F B
  have GP : FnOk P w K mg base CX0 2 fP fdP ["_law_tin_here", "_law_menu"] spPick := ok_pick Pk.F B S
  refine F.ok scFar (fun vs H Q E h => ?_) (fun cdv A outer s H vs Q E hr h => ?_)
  · obtain ⟨t, n, rfl, _⟩ := h
    rfl
  · obtain ⟨t, n, rfl, T, n1, n2, q⟩ := h
    have hr1 : Room 1 _ := hr.mono (by decide)
    refine ⟨_, pss_cons (ps_if (pt_cmpR op_le (pv 1) (pe_op op_pow pe_int pe_int) (nomark _)) (pss_one (ps_ret (pe_op op_add pe_int (pe_call GS hr1 (by rfl) S.g S.F.kp S.b .nil pass0 (pa_cons (pv 0) (pa_cons (pv 1) pa_nil)))))) pss_nil)
      (pss_cons (ps_set (i := 2) scFar.nd rfl (.inl rfl) (pe_call GP hr (by rfl) Pk.g Pk.F.kp Pk.b .nil pass0 (pa_cons (pv 0) (pa_cons (pe_lst (pa_cons pe_int (pa_cons pe_int (pa_cons (pe_op op_pow pe_int pe_int) (pa_cons (pe_op op_pow pe_int pe_int) (pa_cons (pe_op op_pow pe_int pe_int) (pa_cons (pe_op op_pow pe_int pe_int) (pa_cons (pe_op op_pow pe_int pe_int) (pa_cons (pe_op op_pow pe_int pe_int) pa_nil))))))))) pa_nil))))
      (pss_one (ps_ret (pe_op op_add pe_int (pe_op op_modN (pe_callTy call_int1 (by rfl) B.int (by decide +kernel) (pa_cons (pe_op op_add (pe_op op_mul (pe_call GS hr1 (by rfl) S.g S.F.kp S.b .nil pass0 (pa_cons (pv 0) (pa_cons (pe_op op_pow pe_int pe_int) pa_nil))) (pv 2)) (pe_call GS hr1 (by rfl) S.g S.F.kp S.b .nil pass0 (pa_cons (pv 0) (pa_cons pe_int pa_nil)))) pa_nil)) (pv 1)))))), ?_⟩
    refine ⟨_, rfl, _, _, rfl, rfl, ⟨by decide, by decide, by decide⟩, _, _, rfl, rfl, _, rfl, ?_⟩
    refine ite2 (fun hc => ?_) (fun hc => ?_)
    · refine ⟨_, rfl, _, rfl, t, n, rfl, T, by omega, n2, fun d H' d0 d1 sp => ?_⟩
      exact ⟨_, _, rfl, rfl, q _ _ (by omega) (by omega) sp⟩
    · refine ⟨_, rfl, _, _, rfl, rfl, ⟨by decide, by decide, by decide⟩, _, _, rfl, rfl, ⟨by decide, by decide, by decide⟩, _, _, rfl, rfl, ⟨by decide, by decide, by decide⟩, _, _, rfl, rfl, ⟨by decide, by decide, by decide⟩, _, _, rfl, rfl, ⟨by decide, by decide, by decide⟩, _, _, rfl, rfl, ⟨by decide, by decide, by decide⟩, (by show 8 ≤ sizeLine; decide), fun m hm => ?_⟩
      have T1 : Tin (upd H m (.lst ([1, 7, 10 ^ 3, 10 ^ 6, 10 ^ 9, 10 ^ 14, 10 ^ 21, 10 ^ 24].map V.int))) t := (Sipped.ofSame T (same_put hm)).1
      refine ⟨t, m, ([1, 7, 10 ^ 3, 10 ^ 6, 10 ^ 9, 10 ^ 14, 10 ^ 21, 10 ^ 24] : List Int).map V.int, rfl, T1, upd_same, T.not hm, (by decide), (by decide), fun x H1 hx s1 => ?_⟩
      obtain ⟨z, rfl⟩ := int_at hx
      have s01 : Sipped H H1 t := (Sipped.ofSame T (same_put hm)).trans s1
      refine ⟨_, rfl, _, _, rfl, rfl, ⟨by decide, by decide, by decide⟩, t, _, rfl, s1.1, (by decide), (by decide), fun d H2 d0 d1 s2 => ?_⟩
      refine ⟨_, rfl, _, _, rfl, rfl, .inl ⟨by omega, ?_⟩, _, rfl, t, _, rfl, s2.1, (by decide), (by decide), fun e H3 e0 e1 s3 => ?_⟩
      · have : (d : Int) < 10 ^ 6 := d1
        omega
      refine ⟨_, _, rfl, rfl, .inl ⟨_, rfl, _, rfl, _, _, rfl, rfl, (show n ≠ 0 by omega), _, _, rfl, rfl, q _ _ ?_ ?_ ((s01.trans s2).trans s3)⟩⟩
      · have := fmod_ge (a := d * z + e) (show 0 < n by omega); omega
      · have := fmod_lt (a := d * z + e) (show 0 < n by omega); omega
theorem ok_gcd {f : Addr} {fd : FuncData} (F : Fun K "_law_gcd" "_law_gcd" sGcd f fd) (B : Bl mg) : FnOk P w K mg base CX0 1 f fd ["_law_one", "_law_two"] spGcd := by
  refine F.ok scGcd (fun vs H Q E h => ?_) (fun cdv A outer s H vs Q E hr h => ?_)
  · obtain ⟨a, b, rfl, _⟩ := h
    rfl
  · obtain ⟨a, b, rfl, a0, b0, q⟩ := h
    refine ⟨_, pss_cons (ps_while PassesOwn.never (pt_cmpR op_gt (pv 1) pe_int (nomark _)) (pss_one (ps_par (i := 0) (j := 1) (by rfl) scGcd.nd rfl rfl (by decide) rfl rfl
        (pa_cons (pv 1) (pa_cons (pe_op op_modN (pe_callTy call_int1 (by rfl) B.int (by decide +kernel) (pa_cons (pv 0) pa_nil)) (pv 1)) pa_nil)) (by rfl))))
      (pss_one (ps_ret (pv 0))), ?_⟩
    refine while_by (fun σ H' => ∃ x y : Int, σ = [some (.int x), some (.int y)] ∧ 0 ≤ x ∧ 0 ≤ y ∧ Nat.gcd x.natAbs y.natAbs = Nat.gcd a.natAbs b.natAbs ∧ H' = H)
      (fun σ _ => match σ with | [_, some (.int y)] => y.natAbs | _ => 0) ⟨a, b, rfl, a0, b0, rfl, rfl⟩ ?_ ?_
    · rintro σ H' ⟨x, y, rfl, x0, y0, hg, rfl⟩
      refine ⟨_, rfl, _, _, rfl, rfl, _, rfl, ?_⟩
      refine ite2 (fun hc => ?_) (fun hc => ?_)
      · have hy : 0 < y := of_decide_eq_true hc
        refine ⟨_, rfl, _, rfl, .inl ⟨_, rfl, _, rfl, _, _, rfl, rfl, (show y ≠ 0 by omega), _, _, rfl, ⟨y, x.fmod y, rfl, y0, fmod_ge hy, ?_, rfl⟩, ?_⟩⟩
        · rw [← hg, Int.fmod_eq_emod_of_nonneg _ y0]
          obtain ⟨m, rfl⟩ := Int.eq_ofNat_of_zero_le x0
          obtain ⟨n, rfl⟩ := Int.eq_ofNat_of_zero_le y0
          rw [← Int.natCast_emod, Int.natAbs_natCast, Int.natAbs_natCast, Int.natAbs_natCast]
          rw [Nat.gcd_comm n, ← Nat.gcd_rec, Nat.gcd_comm]
        · show (x.fmod y).natAbs < y.natAbs
          have h1 := fmod_ge (a := x) hy
          have h2 := fmod_lt (a := x) hy
          omega
      · have hy : y = 0 := by have : ¬ (0 : Int) < y := fun z => hc (decide_eq_true z); omega
        subst hy
        refine ⟨_, rfl, ?_⟩
        rw [← hg] at q
        simpa [Int.natAbs_of_nonneg x0] using q
    · rintro σ H' Q1 Q2 mo ⟨v, e1, i, j, e2, e3, k, e4, h⟩
      exact ⟨v, e1, i, j, e2, e3, k, e4, mo _ _ h⟩
theorem ok_low {f fG : Addr} {fd fdG : FuncData} (F : Fun K "_law_low" "_law_low" sLow f fd) (B : Bl mg) (G : Df K mg "_law_gcd" sGcd ["_law_one", "_law_two"] fG fdG) : FnOk P w K mg base CX0 2 f fd ["_law_top", "_law_bottom"] spLow := by
  have GG : FnOk P w K mg base CX0 1 fG fdG ["_law_one", "_law_two"] spGcd := ok_gcd G.F B
  refine F.ok scLow (fun vs H Q E h => ?_) (fun cdv A outer s H vs Q E hr h => ?_)
  · obtain ⟨a, b, rfl, _⟩ := h
    rfl
  · obtain ⟨a, b, rfl, a0, b0, b1, q⟩ := h
    refine ⟨_, pss_cons (ps_set (i := 2) scLow.nd rfl (.inl rfl) (pe_call GG hr (by rfl) G.g G.F.kp G.b .nil pass0 (pa_cons (pv 0) (pa_cons (pv 1) pa_nil))))
      (pss_one (ps_ret (pe_tup (pa_cons (pe_op op_fdivW (pv 0) (pv 2)) (pa_cons (pe_op op_fdivW (pv 1) (pv 2)) pa_nil))))), ?_⟩
    have g0 : (0 : Int) < ((Nat.gcd a.natAbs b.natAbs : Nat) : Int) := by
      have := Nat.gcd_pos_of_pos_right a.natAbs (show 0 < b.natAbs by omega); omega
    have g1 : (((Nat.gcd a.natAbs b.natAbs : Nat) : Int)).natAbs < 2 ^ 100 := by
      rw [Int.natAbs_natCast]
      exact Nat.lt_of_le_of_lt (Nat.le_of_dvd (by omega) (Nat.gcd_dvd_right _ _)) b1
    refine ⟨_, rfl, _, rfl, a, b, rfl, a0, by omega, _, rfl, _, rfl, _, _, rfl, rfl, wide_div g0 g1 (by decide) (by decide), _, rfl, _, rfl, _, _, rfl, rfl, wide_div g0 g1 (by decide) (by decide), (by show 2 ≤ sizeLine; decide), fun p hp => q p hp⟩
theorem ok_step {f fA fL : Addr} {fd fdA fdL : FuncData} {fS fP fG : Addr} {fdS fdP fdG : FuncData} (F : Fun K "_law_step" "_law_step" sStep f fd) (B : Bl mg) (S : Df K mg "_law_sip" sSip ["_law_tin_here", "_law_top"] fS fdS) (Pk : Df K mg "_law_pick" sPick ["_law_tin_here", "_law_menu"] fP fdP)
    (G : Df K mg "_law_gcd" sGcd ["_law_one", "_law_two"] fG fdG) (Fa : Df K mg "_law_far" sFar ["_law_tin_here", "_law_most"] fA fdA) (Lo : Df K mg "_law_low" sLow ["_law_top", "_law_bottom"] fL fdL) : FnOk P w K mg base CX0 4 f fd ["_law_tin_here", "_law_most"] spStep := by
  have GA : FnOk P w K mg base CX0 3 fA fdA ["_law_tin_here", "_law_most"] spFar := ok_far Fa.F B S Pk
  have GL : FnOk P w K mg base CX0 2 fL fdL ["_law_top", "_law_bottom"] spLow := ok_low Lo.F B G
  refine F.ok scStep (fun vs H Q E h => ?_) (fun cdv A outer s H vs Q E hr h => ?_)
  · obtain ⟨t, n, rfl, _⟩ := h
    rfl
  · obtain ⟨t, n, rfl, T, n1, n2, q⟩ := h
    have hr2 : Room 2 _ := hr.mono (by decide)
    refine ⟨_, pss_cons (ps_set (i := 2) scStep.nd rfl (.inl rfl) (pe_call GA hr (by rfl) Fa.g Fa.F.kp Fa.b .nil pass0 (pa_cons (pv 0) (pa_cons (pv 1) pa_nil))))
      (pss_one (ps_ret (pe_call GL hr2 (by rfl) Lo.g Lo.F.kp Lo.b .nil pass0 (pa_cons (pe_op op_modN (pe_callTy call_int1 (by rfl) B.int (by decide +kernel) (pa_cons (pe_call GA hr (by rfl) Fa.g Fa.F.kp Fa.b .nil pass0 (pa_cons (pv 0) (pa_cons (pv 1) pa_nil))) pa_nil)) (pv 2)) (pa_cons (pv 2) pa_nil))))), ?_⟩
    refine ⟨_, rfl, _, rfl, t, n, rfl, T, n1, n2, fun b H1 b0 b1 s1 => ?_⟩
    refine ⟨_, rfl, _, rfl, t, n, rfl, s1.1, n1, n2, fun a H2 a0 a1 s2 => .inl ⟨_, rfl, _, rfl, _, _, rfl, rfl, (show b ≠ 0 by omega), _, rfl, _, b, rfl, fmod_ge (by omega), by omega, ?_, fun p hp => ?_⟩⟩
    · exact Nat.lt_of_le_of_lt (by omega) n2
    obtain ⟨st, le⟩ := low_step (a := a.fmod b) (b := b) (fmod_ge (by omega)) (fmod_lt (by omega))
    have s3 : Sipped H2 (upd H2 p (.tup [.int ((a.fmod b) / ((Nat.gcd (a.fmod b).natAbs b.natAbs : Nat) : Int)), .int (b / ((Nat.gcd (a.fmod b).natAbs b.natAbs : Nat) : Int))])) t := Sipped.ofSame s2.1 (same_put hp)
    exact q _ _ p _ st (by omega) ((s1.trans s2).trans s3) ((s1.trans s2).free T hp) upd_same
end
end My
set_option Elab.async false
set_option linter.all false
set_option maxRecDepth 100000
set_option maxHeartbeats 4000000
namespace My
open PySem PySem.Spec PyProof.Rows L2 Gn
abbrev sIsInt : Stmt := top 6
abbrev sIsFr : Stmt := top 7
abbrev sIsStep : Stmt := top 8
abbrev sChStep : Stmt := top 10
abbrev sIsNum : Stmt := top 9
abbrev sChNum : Stmt := top 11
theorem scIsInt : FnScope ["given"] ["given"] (defScope sIsInt) := ⟨rfl, rfl, rfl, by decide +kernel, rfl, by decide +kernel, by decide +kernel⟩
theorem scIsFr : FnScope ["given", "top", "bottom"] ["given"] (defScope sIsFr) := ⟨rfl, rfl, rfl, by decide +kernel, rfl, by decide +kernel, by decide +kernel⟩
theorem scIsStep : FnScope ["given"] ["given"] (defScope sIsStep) := ⟨rfl, rfl, rfl, by decide +kernel, rfl, by decide +kernel, by decide +kernel⟩
theorem scChStep : FnScope ["given"] ["given"] (defScope sChStep) := ⟨rfl, rfl, rfl, by decide +kernel, rfl, by decide +kernel, by decide +kernel⟩
theorem scIsNum : FnScope ["given", "least", "most"] ["given", "least", "most"] (defScope sIsNum) := ⟨rfl, rfl, rfl, by decide +kernel, rfl, by decide +kernel, by decide +kernel⟩
theorem scChNum : FnScope ["given", "least", "most"] ["given", "least", "most"] (defScope sChNum) := ⟨rfl, rfl, rfl, by decide +kernel, rfl, by decide +kernel, by decide +kernel⟩
/-- the step x / y stands at t -/
def StepAt (H : Hp) (t : Addr) (x y : Int) : Prop := H t = some (.tup [.int x, .int y]) ∧ IsStep x y
def spIsInt : Sp := fun vs H Q _ => ∃ i : Int, vs = [.int i] ∧ Q (.bl true) H
def spIsSt (r : V) : Sp := fun vs H Q _ => ∃ (t : Addr) (x y : Int), vs = [.ref t] ∧ StepAt H t x y ∧ Q r H
def spChNum : Sp := fun vs H Q _ => ∃ (i a b : Int), vs = [.int i, .int a, .int b] ∧ a ≤ i ∧ i ≤ b ∧ Q .non H
def spIsNum : Sp := fun vs H Q _ => ∃ (i a b : Int), vs = [.int i, .int a, .int b] ∧ a ≤ i ∧ i ≤ b ∧ Q (.bl true) H
structure Bc (mg : Str → Option Value) : Prop where
  isi : mg "isinstance" = none
  int : mg "int" = none
  bool : mg "bool" = none
  tuple : mg "tuple" = none
  len : mg "len" = none
  gcd : mg "gcd" = some (.builtin "math.gcd")
section
variable {P : Program} {w : World} {K : PySem.W.Frag} {mg : Str → Option Value} {base : Heap}
theorem ok_isInt {f : Addr} {fd : FuncData} (F : Fun K "is_integer" "is_integer" sIsInt f fd) (B : Bc mg) : FnOk P w K mg base CX0 1 f fd ["given"] spIsInt := by
  refine F.ok scIsInt (fun vs H Q E h => ?_) (fun cdv A outer s H vs Q E hr h => ?_)
  · obtain ⟨i, rfl, _⟩ := h
    rfl
  · obtain ⟨i, rfl, q⟩ := h
    refine ⟨_, pss_one (ps_ret (pe_and (pe_callB call_isi (by rfl) B.isi (by decide +kernel) (pa_cons (pv 0) (pa_cons (pe_bltn (v := .ty "int") (by rfl) B.int (by decide +kernel) rfl) pa_nil)))
      (pe_one (pe_not (pe_callB call_isi (by rfl) B.isi (by decide +kernel) (pa_cons (pv 0) (pa_cons (pe_bltn (v := .ty "bool") (by rfl) B.bool (by decide +kernel) rfl) pa_nil))))))), ?_⟩
    refine ⟨_, rfl, .int i, .ty "int", _, _, true, rfl, .ty "int", .base (.int i), kit_ty (by decide +kernel), true, rfl, iteT ?_⟩
    exact ⟨_, rfl, .int i, .ty "bool", _, _, false, rfl, .ty "bool", .base (.int i), kit_ty (by decide +kernel), false, rfl, q⟩
theorem ok_isFr {f fI : Addr} {fd fdI : FuncData} (F : Fun K "is_fraction" "is_fraction" sIsFr f fd) (B : Bc mg) (D : Df K mg "is_integer" sIsInt ["given"] fI fdI) : FnOk P w K mg base CX0 2 f fd ["given"] (spIsSt (.bl true)) := by
  have GI : FnOk P w K mg base CX0 1 fI fdI ["given"] spIsInt := ok_isInt D.F B
  refine F.ok scIsFr (fun vs H Q E h => ?_) (fun cdv A outer s H vs Q E hr h => ?_)
  · obtain ⟨t, x, y, rfl, _⟩ := h
    rfl
  · obtain ⟨t, x, y, rfl, ⟨hT, st⟩, q⟩ := h
    refine ⟨_, pss_cons (ps_if (PW.pt (pw_or (pt_not (pt_val (pe_callB call_isi (by rfl) B.isi (by decide +kernel) (pa_cons (pv 0) (pa_cons (pe_bltn (v := .ty "tuple") (by rfl) B.tuple (by decide +kernel) rfl) pa_nil)))))
        (pw_or1 (pt_cmpR op_ne (pe_callB call_len_seq (by rfl) B.len PySem.boot_len (pa_cons (pv 0) pa_nil)) pe_int (nomark _))))) (pss_one (ps_ret pe_bl)) pss_nil)
      (pss_cons (ps_asg (pv 0) (pg_tup (by rfl) (pgs_cons (pg_name (i := 1) scIsFr.nd rfl (.inl rfl)) (pgs_cons (pg_name (i := 2) scIsFr.nd rfl (.inl rfl)) pgs_nil))))
      (pss_cons (ps_if (PW.pt (pw_or (pt_not (pt_val (pe_call GI hr (by rfl) D.g D.F.kp D.b .nil pass0 (pa_cons (pv 1) pa_nil)))) (pw_or1 (pt_not (pt_val (pe_call GI hr (by rfl) D.g D.F.kp D.b .nil pass0 (pa_cons (pv 2) pa_nil))))))) (pss_one (ps_ret pe_bl)) pss_nil)
      (pss_one (ps_ret (pe_and (pe_cmpR op_ge (pv 2) pe_int (nomark _)) (pe_one (pe_cmpR op_eq (pe_callBfun cr_gcd (by rfl) B.gcd (pa_cons (pv 1) (pa_cons (pv 2) pa_nil))) pe_int (nomark _)))))))), ?_⟩
    refine ⟨_, rfl, .ref t, .ty "tuple", _, _, true, rfl, .ty "tuple", .base (.tup hT), kit_ty (by decide +kernel), true, rfl, iteF ?_⟩
    refine ⟨_, rfl, t, _, rfl, .inr (SqT.of hT), rfl, _, rfl, iteF ?_⟩
    refine ⟨_, rfl, t, _, rfl, SqT.of hT, rfl, _, _, rfl, _, _, rfl, rfl, ?_⟩
    refine ⟨_, rfl, x, rfl, true, rfl, iteF ⟨_, rfl, y, rfl, true, rfl, iteF ?_⟩⟩
    have y1 : (1 : Int) ≤ y := by have := st.x0; have := st.xy; omega
    refine ⟨_, rfl, _, _, rfl, rfl, _, rfl, ?_⟩
    rw [decide_eq_true y1]
    refine iteT ⟨_, rfl, _, rfl, x, y, rfl, ?_⟩
    rw [st.co]
    exact ⟨rfl, q⟩
theorem ok_isStep {f fI fR : Addr} {fd fdI fdR : FuncData} (F : Fun K "is_step" "is_step" sIsStep f fd) (B : Bc mg) (D : Df K mg "is_integer" sIsInt ["given"] fI fdI) (R : Df K mg "is_fraction" sIsFr ["given"] fR fdR) : FnOk P w K mg base CX0 3 f fd ["given"] (spIsSt (.bl true)) := by
  have GR : FnOk P w K mg base CX0 2 fR fdR ["given"] (spIsSt (.bl true)) := ok_isFr R.F B D
  refine F.ok scIsStep (fun vs H Q E h => ?_) (fun cdv A outer s H vs Q E hr h => ?_)
  · obtain ⟨t, x, y, rfl, _⟩ := h
    rfl
  · obtain ⟨t, x, y, rfl, ⟨hT, st⟩, q⟩ := h
    refine ⟨_, pss_one (ps_ret (pe_and (pe_call GR hr (by rfl) R.g R.F.kp R.b .nil pass0 (pa_cons (pv 0) pa_nil)) (pe_one (pe_chain op_le op_lt pe_int (pe_ix ix_tup (pv 0) pe_int (fun _ _ => rfl)) (pe_ix ix_tup (pv 0) pe_int (fun _ _ => rfl)))))), ?_⟩
    refine ⟨_, rfl, t, x, y, rfl, ⟨hT, st⟩, true, rfl, iteT ?_⟩
    refine ⟨_, rfl, t, _, 0, .int x, rfl, rfl, SqT.of hT, at_of (j := 0) rfl rfl, _, _, rfl, rfl, _, rfl, ?_⟩
    rw [decide_eq_true st.x0]
    refine iteT ⟨_, rfl, t, _, 1, .int y, rfl, rfl, SqT.of hT, at_of (j := 1) rfl rfl, _, _, rfl, rfl, ?_⟩
    show Q (.bl (decide (x < y))) H
    rw [decide_eq_true st.xy]
    exact q
theorem ok_chStep {f fI fR fS : Addr} {fd fdI fdR fdS : FuncData} (F : Fun K "check_step" "check_step" sChStep f fd) (B : Bc mg) (D : Df K mg "is_integer" sIsInt ["given"] fI fdI) (R : Df K mg "is_fraction" sIsFr ["given"] fR fdR) (S : Df K mg "is_step" sIsStep ["given"] fS fdS) : FnOk P w K mg base CX0 4 f fd ["given"] (spIsSt .non) := by
  have GS : FnOk P w K mg base CX0 3 fS fdS ["given"] (spIsSt (.bl true)) := ok_isStep S.F B D R
  refine F.ok scChStep (fun vs H Q E h => ?_) (fun cdv A outer s H vs Q E hr h => ?_)
  · obtain ⟨t, x, y, rfl, _⟩ := h
    rfl
  · obtain ⟨t, x, y, rfl, st, q⟩ := h
    refine ⟨_, pss_one (ps_if (pt_not (pt_val (pe_call GS hr (by rfl) S.g S.F.kp S.b .nil pass0 (pa_cons (pv 0) pa_nil)))) (pss_one (ps_never)) pss_nil), ?_⟩
    exact ⟨_, rfl, t, x, y, rfl, st, true, rfl, iteF q⟩
theorem ok_isNum {f fI : Addr} {fd fdI : FuncData} (F : Fun K "is_number" "is_number" sIsNum f fd) (B : Bc mg) (D : Df K mg "is_integer" sIsInt ["given"] fI fdI) : FnOk P w K mg base CX0 2 f fd ["given", "least", "most"] spIsNum := by
  have GI : FnOk P w K mg base CX0 1 fI fdI ["given"] spIsInt := ok_isInt D.F B
  refine F.ok scIsNum (fun vs H Q E h => ?_) (fun cdv A outer s H vs Q E hr h => ?_)
  · obtain ⟨i, a, b, rfl, _⟩ := h
    rfl
  · obtain ⟨i, a, b, rfl, h1, h2, q⟩ := h
    refine ⟨_, pss_one (ps_ret (pe_and (pe_call GI hr (by rfl) D.g D.F.kp D.b .nil pass0 (pa_cons (pv 0) pa_nil)) (pe_one (pe_chain op_le op_le (pv 1) (pv 0) (pv 2))))), ?_⟩
    refine ⟨_, rfl, i, rfl, true, rfl, iteT ?_⟩
    refine ⟨_, rfl, _, rfl, _, _, rfl, rfl, _, rfl, ?_⟩
    rw [decide_eq_true h1]
    refine iteT ⟨_, rfl, _, _, rfl, rfl, ?_⟩
    show Q (.bl (decide (i ≤ b))) H
    rw [decide_eq_true h2]
    exact q
theorem ok_chNum {f fN fI : Addr} {fd fdN fdI : FuncData} (F : Fun K "check_number" "check_number" sChNum f fd) (B : Bc mg) (D : Df K mg "is_integer" sIsInt ["given"] fI fdI) (N : Df K mg "is_number" sIsNum ["given", "least", "most"] fN fdN) : FnOk P w K mg base CX0 3 f fd ["given", "least", "most"] spChNum := by
  have GN : FnOk P w K mg base CX0 2 fN fdN ["given", "least", "most"] spIsNum := ok_isNum N.F B D
  refine F.ok scChNum (fun vs H Q E h => ?_) (fun cdv A outer s H vs Q E hr h => ?_)
  · obtain ⟨i, a, b, rfl, _⟩ := h
    rfl
  · obtain ⟨i, a, b, rfl, h1, h2, q⟩ := h
    refine ⟨_, pss_one (ps_if (pt_not (pt_val (pe_call GN hr (by rfl) N.g N.F.kp N.b .nil pass0 (pa_cons (pv 0) (pa_cons (pv 1) (pa_cons (pv 2) pa_nil)))))) (pss_one (ps_never)) pss_nil), ?_⟩
    exact ⟨_, rfl, _, rfl, _, rfl, i, a, b, rfl, h1, h2, true, rfl, iteF q⟩
end
end My
set_option Elab.async false
set_option linter.all false
set_option maxRecDepth 100000
set_option maxHeartbeats 4000000
namespace My
open PySem PySem.Spec PyProof.Rows L2 Gn Mt
abbrev sOrder : Stmt := top 16
theorem scOrder : FnScope ["step", "count", "top", "bottom", "standing", "mark", "at"] ["step", "count"] (defScope sOrder) := ⟨rfl, rfl, rfl, by decide +kernel, rfl, by decide +kernel, by decide +kernel⟩
/-- data lasts while nothing tracked changes -/
theorem sqT_same {H H' : Hp} {a : Addr} {xs : List V} {K : PySem.W.Frag} (e : Same H H') (h : SqT K H a xs) : SqT K H' a xs := by
  rcases h with (h | ⟨o, h⟩) | h
  · exact .inl (.inl (e _ _ h))
  · exact .inl (.inr ⟨o, e _ _ h⟩)
  · exact .inr h
mutual
theorem dp_same {K : PySem.W.Frag} {H H' : Hp} (e : Same H H') : ∀ (d : PyData) (v : V), Dp K H v d → Dp K H' v d
  | .none, _, h => by cases h; exact .non
  | .bool b, _, h => by cases h; exact .bl b
  | .int i, _, h => by cases h; exact .int i
  | .str x, _, h => by cases h; exact .str x
  | .list ds, _, h => by cases h with | lst a b => exact .lst (e.seq a) (dps_same e ds _ b)
  | .tuple ds, _, h => by cases h with | tup a b => exact .tup (sqT_same e a) (dps_same e ds _ b)
  | .dict _, _, h => by cases h
theorem dps_same {K : PySem.W.Frag} {H H' : Hp} (e : Same H H') : ∀ (ds : List PyData) (vs : List V), DpAll K H vs ds → DpAll K H' vs ds
  | [], _, h => by cases h; exact .nil
  | d :: ds, _, h => by cases h with | cons a b => exact .cons (dp_same e d _ a) (dps_same e ds _ b)
end
theorem dp_ints {K : PySem.W.Frag} {H : Hp} : ∀ ns : List Int, DpAll K H (ns.map V.int) (ns.map PyData.int)
  | [] => .nil
  | n :: ns => .cons (.int n) (dp_ints ns)
/-- tuples of ints stand at these addresses, as these lists tell -/
def Tups (H : Hp) : List Addr → List (List Int) → Prop
  | [], [] => True
  | r :: rs, g :: gs => H r = some (.tup (g.map V.int)) ∧ Tups H rs gs
  | _, _ => False
theorem Tups.mono {H H' : Hp} : ∀ {rs : List Addr} {gs : List (List Int)}, Tups H rs gs → (∀ r g, H r = some (.tup g) → H' r = some (.tup g)) → Tups H' rs gs
  | [], [], _, _ => trivial
  | _ :: _, _ :: _, h, k => ⟨k _ _ h.1, h.2.mono k⟩
  | [], _ :: _, h, _ => h.elim
  | _ :: _, [], h, _ => h.elim
theorem Tups.snoc {H : Hp} {r : Addr} {g : List Int} (hr : H r = some (.tup (g.map V.int))) : ∀ {rs : List Addr} {gs : List (List Int)}, Tups H rs gs → Tups H (rs ++ [r]) (gs ++ [g])
  | [], [], _ => ⟨hr, trivial⟩
  | _ :: _, _ :: _, h => ⟨h.1, Tups.snoc hr h.2⟩
  | [], _ :: _, h => h.elim
  | _ :: _, [], h => h.elim
theorem Tups.len {H : Hp} : ∀ {rs : List Addr} {gs : List (List Int)}, Tups H rs gs → rs.length = gs.length
  | [], [], _ => rfl
  | _ :: _, _ :: _, h => congrArg Nat.succ h.2.len
  | [], _ :: _, h => h.elim
  | _ :: _, [], h => h.elim
theorem Tups.dps {K : PySem.W.Frag} {H : Hp} : ∀ {rs : List Addr} {gs : List (List Int)}, Tups H rs gs → DpAll K H (rs.map V.ref) (gs.map fun g => PyData.tuple (g.map PyData.int))
  | [], [], _ => .nil
  | _ :: _, _ :: _, h => .cons (.tup (SqT.of h.1) (dp_ints _)) h.2.dps
  | [], _ :: _, h => h.elim
  | _ :: _, [], h => h.elim
/-- an order as data -/
def ordD (gs : List (List Int)) : PyData := .tuple (gs.map fun g => PyData.tuple (g.map PyData.int))
/-- an order stands at r: a tuple of tuples of ints -/
def OrdAt (H : Hp) (r : Addr) (gs : List (List Int)) : Prop := ∃ rs : List Addr, H r = some (.tup (rs.map V.ref)) ∧ Tups H rs gs
theorem OrdAt.dp {K : PySem.W.Frag} {H : Hp} {r : Addr} {gs : List (List Int)} (h : OrdAt H r gs) : Dp K H (.ref r) (ordD gs) := by
  obtain ⟨rs, h1, h2⟩ := h
  exact .tup (SqT.of h1) h2.dps
theorem OrdAt.same {H H' : Hp} {r : Addr} {gs : List (List Int)} (h : OrdAt H r gs) (e : Same H H') : OrdAt H' r gs := by
  obtain ⟨rs, h1, h2⟩ := h
  exact ⟨rs, e _ _ h1, h2.mono fun r g z => e _ _ z⟩
def spOrder : Sp := fun vs H Q _ => ∃ (t : Addr) (x y n : Int), vs = [.ref t, .int n] ∧ StepAt H t x y ∧ 1 ≤ n ∧ n ≤ 60 ∧
  ∀ r H', Same H H' → H r = none → OrdAt H' r (ord (fun k => (x * k).fmod y) (iota n.toNat)) → Q (.ref r) H'
/-- what stands in the dict after some marks: places, lists of marks -/
structure Stand (f : Int → Int) (ms : List Int) (H : Hp) (d : Addr) (ps : List (Int × Addr)) : Prop where
  dc : H d = some (.dK (ps.map fun p => ((Sum.inl p.1 : Key), V.ref p.2)))
  n1 : (ps.map (·.1)).Nodup
  n2 : (ps.map (·.2)).Nodup
  ls : ∀ p ∈ ps, H p.2 = some (.lst ((grp f ms p.1).map V.int))
  me : ∀ v, v ∈ ps.map (·.1) ↔ v ∈ ms.map f
theorem val_of {ps : List (Int × Addr)} {k : Int} : valV (ps.map fun p => ((Sum.inl p.1 : Key), V.ref p.2)) (Sum.inl k) = (ps.find? fun p => p.1 == k).map fun p => V.ref p.2 := by
  induction ps with
  | nil => rfl
  | cons p ps ih =>
    rw [List.map_cons, List.find?_cons]
    unfold valV at ih ⊢
    by_cases h : p.1 = k
    · simp [h, List.find?_cons]
    · simp only [beq_eq_false_iff_ne.mpr h]
      rw [← ih]
      simp [List.find?_cons, h]
end My
set_option Elab.async false
set_option linter.all false
set_option maxRecDepth 100000
set_option maxHeartbeats 4000000
namespace My
open PySem PySem.Spec PyProof.Rows L2 Gn Mt
structure Bo (mg : Str → Option Value) : Prop where
  c : Bc mg
  range : mg "range" = none
  sorted : mg "sorted" = none
  mo : ∃ tk, mg "_MOST_ORDERED" = some (.int 60 tk)
theorem inl_dK {H : Hp} {d l : Addr} {kvs : List (Key × V)} {xs : List V} (h : H d = some (.dK kvs)) (h' : H l = some (.lst xs)) : l ≠ d := by
  rintro rfl
  rw [h] at h'; cases h'
/-- one mark more -/
theorem Stand.put {f : Int → Int} {ms : List Int} {H H' : Hp} {d : Addr} {ps : List (Int × Addr)} {k : Int} {p : Int × Addr} (S : Stand f ms H d ps) (hp : p ∈ ps) (e : p.1 = f k)
    (h1 : H' p.2 = some (.lst ((grp f ms p.1).map V.int ++ [V.int k]))) (h2 : ∀ b o, H b = some o → b ≠ p.2 → H' b = some o) : Stand f (ms ++ [k]) H' d ps := by
  refine ⟨h2 d _ S.dc fun z => ?_, S.n1, S.n2, fun q hq => ?_, fun v => ?_⟩
  · have := S.ls p hp
    rw [← z, S.dc] at this; cases this
  · by_cases c : q = p
    · subst c
      rw [h1, grp_snoc, if_pos e.symm, List.map_append]; rfl
    · have n1 : q.2 ≠ p.2 := fun z => c ((Mt.map_inj S.n2 hq hp z))
      have n2 : ¬ f k = q.1 := fun z => c ((Mt.map_inj S.n1 hq hp (e ▸ z.symm)))
      rw [h2 _ _ (S.ls q hq) n1, grp_snoc, if_neg n2]
  · rw [S.me v, List.map_append, List.mem_append]
    constructor
    · exact .inl
    · rintro (z | z)
      · exact z
      · rw [List.map_singleton, List.mem_singleton] at z
        rw [z, ← e]
        exact (S.me _).mp (List.mem_map.mpr ⟨p, hp, rfl⟩)
theorem Stand.new {f : Int → Int} {ms : List Int} {H H' : Hp} {d l : Addr} {ps : List (Int × Addr)} {k : Int} (S : Stand f ms H d ps) (hn : f k ∉ ps.map (·.1)) (hl : H l = none)
    (h0 : H' d = some (.dK (ps.map (fun p => ((Sum.inl p.1 : Key), V.ref p.2)) ++ [(Sum.inl (f k), V.ref l)]))) (h1 : H' l = some (.lst [V.int k])) (h2 : ∀ b o, H b = some o → b ≠ d → H' b = some o) : Stand f (ms ++ [k]) H' d (ps ++ [(f k, l)]) := by
  have ne : ∀ q ∈ ps, q.2 ≠ l := fun q hq z => by have := S.ls q hq; rw [z, hl] at this; cases this
  refine ⟨by rw [List.map_append]; exact h0, ?_, ?_, fun q hq => ?_, fun v => ?_⟩
  · rw [List.map_append]
    exact nd_snoc S.n1 hn
  · rw [List.map_append]
    refine nd_snoc S.n2 fun z => ?_
    obtain ⟨q, hq, e⟩ := List.mem_map.mp z
    exact ne q hq e
  · rcases List.mem_append.mp hq with z | z
    · have n2 : ¬ f k = q.1 := fun e => hn (List.mem_map.mpr ⟨q, z, e.symm⟩)
      have nd : q.2 ≠ d := fun e => by have := S.ls q z; rw [e, S.dc] at this; cases this
      rw [h2 _ _ (S.ls q z) nd, grp_snoc, if_neg n2]
    · obtain rfl := List.mem_singleton.mp z
      show H' l = _
      rw [h1, grp_snoc, if_pos rfl, grp_none fun z => hn ((S.me _).mpr z)]; rfl
  · rw [List.map_append, List.mem_append, S.me v, List.map_append, List.mem_append]
    exact Iff.rfl
section
variable {P : Program} {w : World} {K : PySem.W.Frag} {mg : Str → Option Value} {base : Heap}
theorem ok_order {f fI fR fS fC fN : Addr} {fd fdI fdR fdS fdC fdN : FuncData} (F : Fun K "order" "order" sOrder f fd) (B : Bo mg) (D : Df K mg "is_integer" sIsInt ["given"] fI fdI) (R : Df K mg "is_fraction" sIsFr ["given"] fR fdR) (S : Df K mg "is_step" sIsStep ["given"] fS fdS)
    (C : Df K mg "check_step" sChStep ["given"] fC fdC) (N : Df K mg "check_number" sChNum ["given", "least", "most"] fN fdN) {fM : Addr} {fdM : FuncData} (Nn : Df K mg "is_number" sIsNum ["given", "least", "most"] fM fdM) : FnOk P w K mg base CX0 5 f fd ["step", "count"] spOrder := by
  have GC : FnOk P w K mg base CX0 4 fC fdC ["given"] (spIsSt .non) := ok_chStep C.F B.c D R S
  have GN : FnOk P w K mg base CX0 3 fN fdN ["given", "least", "most"] spChNum := ok_chNum N.F B.c D Nn
  refine F.ok scOrder (fun vs H Q E h => ?_) (fun cdv A outer s H vs Q E hr h => ?_)
  · obtain ⟨t, x, y, n, rfl, _⟩ := h
    rfl
  · obtain ⟨t, x, y, n, rfl, ⟨hT, st⟩, n1, n2, q⟩ := h
    obtain ⟨tk, hmo⟩ := B.mo
    have hr3 : Room 3 _ := hr.mono (by decide)
    have hu := hu_of hr
    refine ⟨_, pss_cons (ps_expr (pe_call GC hr (by rfl) C.g C.F.kp C.b .nil pass0 (pa_cons (pv 0) pa_nil)))
      (pss_cons (ps_expr (pe_call GN hr3 (by rfl) N.g N.F.kp N.b .nil pass0 (pa_cons (pv 1) (pa_cons pe_int (pa_cons (pe_glob (v := .int 60) rfl hmo ⟨_, rfl⟩) pa_nil)))))
      (pss_cons (ps_asg (pv 0) (pg_tup (by rfl) (pgs_cons (pg_name (i := 2) scOrder.nd rfl (.inl rfl)) (pgs_cons (pg_name (i := 3) scOrder.nd rfl (.inl rfl)) pgs_nil))))
      (pss_cons (ps_set (i := 4) scOrder.nd rfl (.inr rfl) pe_dnewK)
      (pss_cons (ps_for PassesOwn.never rfl (pi_range1 rfl B.range (pa_cons (pv 1) pa_nil)) (pg_name (i := 5) scOrder.nd rfl (.inl rfl))
        (pss_one (ps_expr (pe_bm PySem.F.plainAttrs_list PySem.F.slot_list_append PySem.F.type_list_append mt_append
          (pe_dsetd (pv 4) (pe_op op_modN (pe_op op_mul (pv 2) (pv 5)) (pv 3)) (pe_lst pa_nil) ⟨rfl, rfl, rfl, rfl⟩) (pa_cons (pv 5) pa_nil)))))
      (pss_one (ps_ret (pe_callTy cr_tupL (by rfl) B.c.tuple (by decide +kernel) (pa_cons
        (pe_lc (te := tCB (rTupL K) (tCons (tDGet (tVar 4) (tVar 6)) tNil)) (own := [("at", 6)]) (g := gName 6) (tt := tYes) rfl scOrder.nd (pi_list (pe_callB (call_sortedDI rfl) (by rfl) B.sorted (by decide +kernel) (pa_cons (pv 4) pa_nil)))
          (blkOk_by (N := ["step", "count", "top", "bottom", "standing", "mark", "at"]) (sc := defScope sOrder) (by decide +kernel)) (fun _ _ _ _ _ => pg_name (i := 6) scOrder.nd rfl (.inl rfl)) (fun _ _ _ _ _ => pts_nil)
          (fun _ _ _ _ _ => pe_callTy cr_tupL (by rfl) B.c.tuple (by decide +kernel) (pa_cons (pe_dget hu (pv 4) (pv 6) (fun _ _ => rfl)) pa_nil))) pa_nil)))))))), ?_⟩
    have y1 : 0 < y := by have := st.x0; have := st.xy; omega
    -- check_step(step); check_number(count, 1, 60); top, bottom = step
    refine ⟨_, rfl, t, x, y, rfl, ⟨hT, st⟩, ?_⟩
    refine ⟨_, rfl, n, 1, 60, rfl, n1, n2, ?_⟩
    refine ⟨_, rfl, t, _, rfl, SqT.of hT, rfl, _, _, rfl, _, _, rfl, rfl, ?_⟩
    -- standing = {}
    intro d hd
    have s0 : Same H (upd H d (.dK [])) := same_put hd
    -- for mark in range(count)
    refine ⟨_, rfl, n, rfl, by omega, by omega, ?_⟩
    refine for_range (lo := 0) (n := n.toNat) (fun i σ H1 => ∃ (ps : List (Int × Addr)) (m : Option V), σ = [some (.ref t), some (.int n), some (.int x), some (.int y), some (.ref d), m, none] ∧ Same H H1 ∧ Stand (fun k => (x * k).fmod y) (iota i) H1 d ps ∧ (∀ p ∈ ps, H p.2 = none) ∧ ps.length ≤ i)
      ⟨[], none, rfl, s0, ⟨upd_same, List.nodup_nil, List.nodup_nil, (fun p hp => by simp at hp), (fun v => by simp [iota])⟩, (fun p hp => by simp at hp), Nat.le_refl _⟩ ?_ ?_
    · rintro i σ H1 hi ⟨ps, m, rfl, s1, T, hf, hl⟩
      rw [Int.zero_add]
      have hi' : (i : Int) < 60 := by omega
      refine ⟨_, rfl, d, rfl, .inl ⟨_, .inl T.dc⟩, _, rfl, _, rfl, _, _, rfl, rfl, .inr ⟨by omega, by omega⟩, _, rfl, _, _, rfl, rfl, (show y ≠ 0 by omega), Nat.zero_le _, fun l hl' => ?_⟩
      have hdl : d ≠ l := ne_of_none T.dc hl'
      have s2 : Same H1 (upd H1 l (.lst [])) := same_put hl'
      refine ⟨_, Sum.inl ((x * (i : Int)).fmod y), s2 _ _ T.dc, rfl, (by rw [List.length_map]; exact small1000 (by omega)), fun v hv => ?_, fun hn => ?_⟩
      · rw [val_of] at hv
        obtain ⟨p, hp, rfl⟩ := Option.map_eq_some_iff.mp hv
        have hm : p ∈ ps := List.mem_of_find?_eq_some hp
        have he : p.1 = (x * (i : Int)).fmod y := by simpa using List.find?_some hp
        have hL := s2 _ _ (T.ls p hm)
        refine ⟨.inl ⟨rfl, _, .inl (.inl hL)⟩, _, rfl, p.2, _, _, rfl, rfl, hL, ?_, ?_⟩
        · rw [List.length_map]
          exact small1000 (Nat.le_trans (List.length_filter_le _ _) (by rw [iota_len]; omega))
        · refine ⟨ps, _, rfl, fun b o e => ?_, ?_, hf, by omega⟩
          · rw [upd_ne (ne_of_none e (hf p hm))]
            exact s2 _ _ (s1 _ _ e)
          · rw [iota_succ]
            refine T.put hm he upd_same fun b o e hb => ?_
            rw [upd_ne hb]
            exact s2 _ _ e
      · have hk : (x * (i : Int)).fmod y ∉ ps.map (·.1) := fun z => by
          rw [val_of, Option.map_eq_none_iff, List.find?_eq_none] at hn
          obtain ⟨p, hp, e⟩ := List.mem_map.mp z
          exact hn p hp (by simpa using e)
        have hL : upd (upd H1 l (.lst [])) d (.dK (putK (ps.map fun p => ((Sum.inl p.1 : Key), V.ref p.2)) (Sum.inl ((x * (i : Int)).fmod y)) (.ref l))) l = some (.lst []) := by rw [upd_ne hdl.symm, upd_same]
        refine ⟨.inl ⟨rfl, _, .inl (.inl hL)⟩, _, rfl, l, _, _, rfl, rfl, hL, (by decide), ?_⟩
        have hln : H l = none := s1.free hl'
        refine ⟨ps ++ [((x * (i : Int)).fmod y, l)], _, rfl, fun b o e => ?_, ?_, fun p hp => ?_, by rw [List.length_append]; show ps.length + 1 ≤ i + 1; omega⟩
        · rw [upd_ne (ne_of_none e hln), upd_ne (ne_of_none e hd)]
          exact s2 _ _ (s1 _ _ e)
        · rw [iota_succ]
          refine T.new hk hl' ?_ upd_same fun b o e hb => ?_
          · rw [upd_ne hdl, upd_same, putK_new _ hn]
          · rw [upd_ne (ne_of_none e hl'), upd_ne hb]
            exact s2 _ _ e
        · rcases List.mem_append.mp hp with z | z
          · exact hf p z
          · obtain rfl := List.mem_singleton.mp z
            exact hln
    · rintro σ H1 ⟨ps, m, rfl, s1, T, hf, hl⟩
      refine ⟨_, rfl, d, _, ps.map (·.1), rfl, .inl T.dc, (by rw [List.map_map, List.map_map]; rfl), (by rw [List.length_map]; omega), fun ys p0 perm pw hp0 => ?_⟩
      have s2 : Same H1 (upd H1 p0 (.lst (ys.map V.int))) := same_put hp0
      have ey : ys = sortU ((iota n.toNat).map fun k => (x * k).fmod y) := strict_one (le_nodup_lt pw (perm.nodup_iff.mpr T.n1)) (sortU_pw _) fun v => by rw [perm.mem_iff, T.me v, sortU_mem]
      refine ⟨p0, rfl, ⟨_, .inl (.inl upd_same)⟩, fun D hD => ?_⟩
      have s3 : Same (upd H1 p0 (.lst (ys.map V.int))) (upd (upd H1 p0 (.lst (ys.map V.int))) D (.lst [])) := same_put hD
      refine lc_list (K := K) (a := p0) (xs := ys.map V.int) (fun j H2 => ∃ rs : List Addr, H2 D = some (.lst (rs.map V.ref)) ∧ Tups H2 rs ((ys.take j).map (grp (fun k => (x * k).fmod y) (iota n.toNat))) ∧ Same (upd H1 p0 (.lst (ys.map V.int))) H2)
        ⟨[], upd_same, trivial, s3⟩ (fun j H2 _ ⟨rs, _, _, e⟩ => .inl (.inl (e _ _ upd_same))) ?_ ?_
      · rintro j v H2 hj ⟨rs, h1, h2, h3⟩
        rw [List.getElem?_map] at hj
        obtain ⟨u, hu, rfl⟩ := Option.map_eq_some_iff.mp hj
        have hm : u ∈ ps.map (·.1) := perm.mem_iff.mp (List.mem_of_getElem? hu)
        obtain ⟨p, hp⟩ : ∃ p, ps.find? (fun p => p.1 == u) = some p := by
          cases e : ps.find? (fun p => p.1 == u) with
          | some p => exact ⟨p, rfl⟩
          | none =>
            rw [List.find?_eq_none] at e
            obtain ⟨p, hp, z⟩ := List.mem_map.mp hm
            exact absurd (by simpa using z) (e p hp)
        have hpm : p ∈ ps := List.mem_of_find?_eq_some hp
        have hpe : p.1 = u := by simpa using List.find?_some hp
        have hd2 := h3 _ _ (s2 _ _ T.dc)
        have hL := h3 _ _ (s2 _ _ (T.ls p hpm))
        refine ⟨rfl, _, rfl, _, rfl, d, .ref p.2, rfl, ?_, p.2, _, rfl, SqL.of hL, fun r hr => ?_⟩
        · have z := DGet.k (k := Sum.inl u) hd2
          rw [val_of, hp] at z
          exact z
        · have hrD : D ≠ r := ne_of_none h1 hr
          refine ⟨rs.map V.ref, (by rw [upd_ne hrD]; exact h1), ?_, rs ++ [r], (by rw [upd_same, List.map_append]; rfl), ?_, fun b o e => ?_⟩
          · rw [List.length_map, h2.len, List.length_map, List.length_take]
            exact small1000 (by have := perm.length_eq; rw [List.length_map] at this; omega)
          · rw [List.take_add_one, hu, List.map_append]
            refine Tups.snoc ?_ (h2.mono fun r' g e => ?_)
            · rw [upd_ne hrD.symm, upd_same, hpe]
            · have n1 : r' ≠ D := ne_of e h1 (by intro z; cases z)
              rw [upd_ne n1, upd_ne (ne_of_none e hr)]
              exact e
          · have e2 := h3 _ _ e
            rw [upd_ne (ne_of_none e hD), upd_ne (ne_of_none e2 hr)]
            exact e2
      · rintro H2 ⟨rs, h1, h2, h3⟩
        refine ⟨D, _, rfl, SqL.of h1, fun r hr => ?_⟩
        have s4 : Same H2 (upd H2 r (.tup (rs.map V.ref))) := same_put hr
        refine q r _ (((s1.trans s2).trans h3).trans s4) (((s1.trans s2).trans h3).free hr) ⟨rs, upd_same, ?_⟩
        rw [List.length_map, List.take_length, ey] at h2
        exact h2.mono fun r' g e => s4 _ _ e
end
end My
set_option Elab.async false
set_option linter.all false
set_option maxRecDepth 100000
set_option maxHeartbeats 4000000
namespace My
open PySem PySem.Spec PyProof.Rows L2 Gn Mt
abbrev sPlace : Stmt := top 15
abbrev sMirr : Stmt := top 17
abbrev sLowest : Stmt := top 18
abbrev sSpot : Stmt := top 27
theorem scPlace : FnScope ["step", "mark", "top", "bottom"] ["step", "mark"] (defScope sPlace) := ⟨rfl, rfl, rfl, by decide +kernel, rfl, by decide +kernel, by decide +kernel⟩
theorem scMirr : FnScope ["step", "top", "bottom"] ["step"] (defScope sMirr) := ⟨rfl, rfl, rfl, by decide +kernel, rfl, by decide +kernel, by decide +kernel⟩
theorem scLowest : FnScope ["top", "bottom", "shared"] ["top", "bottom"] (defScope sLowest) := ⟨rfl, rfl, rfl, by decide +kernel, rfl, by decide +kernel, by decide +kernel⟩
theorem scSpot : FnScope ["_law_x", "_law_k"] ["_law_x", "_law_k"] (defScope sSpot) := ⟨rfl, rfl, rfl, by decide +kernel, rfl, by decide +kernel, by decide +kernel⟩
def spPlace : Sp := fun vs H Q _ => ∃ (t : Addr) (x y k : Int), vs = [.ref t, .int k] ∧ StepAt H t x y ∧ y.natAbs < 2 ^ 100 ∧ 0 ≤ k ∧ k ≤ 10 ^ 30 ∧
  ∀ r, H r = none → Q (.ref r) (upd H r (.tup [.int (((x * k).fmod y) / ((Nat.gcd ((x * k).fmod y).natAbs y.natAbs : Nat) : Int)), .int (y / ((Nat.gcd ((x * k).fmod y).natAbs y.natAbs : Nat) : Int))]))
def mirI (x y : Int) : Int := if x = 0 then 0 else y - x
theorem mir_step {x y : Int} (h : IsStep x y) : IsStep (mirI x y) y := by
  unfold mirI
  have x0 := h.x0
  have xy := h.xy
  by_cases e : x = 0
  · rw [if_pos e]; subst e; exact h
  · rw [if_neg e]
    refine ⟨by omega, by omega, ?_⟩
    have d1 : ((Nat.gcd (y - x).natAbs y.natAbs : Nat) : Int) ∣ (y - x) := Int.ofNat_dvd_left.mpr (Nat.gcd_dvd_left _ _)
    have d2 : ((Nat.gcd (y - x).natAbs y.natAbs : Nat) : Int) ∣ y := Int.ofNat_dvd_left.mpr (Nat.gcd_dvd_right _ _)
    have d3 : ((Nat.gcd (y - x).natAbs y.natAbs : Nat) : Int) ∣ x := by
      have := Int.dvd_sub d2 d1
      rwa [show y - (y - x) = x by omega] at this
    have d4 := Nat.dvd_gcd (Int.ofNat_dvd_left.mp d3) (Int.ofNat_dvd_left.mp d2)
    rw [h.co] at d4
    exact Nat.dvd_one.mp d4
theorem mir_mir {x y : Int} (h : IsStep x y) : mirI (mirI x y) y = x := by
  unfold mirI
  have x0 := h.x0
  have xy := h.xy
  by_cases e : x = 0
  · rw [if_pos e, if_pos rfl, e]
  · rw [if_neg e, if_neg (by omega)]; omega
def spMirr : Sp := fun vs H Q _ => ∃ (t : Addr) (x y : Int), vs = [.ref t] ∧ StepAt H t x y ∧ ∀ b H', Same H H' → StepAt H' b (mirI x y) y → Q (.ref b) H'
def spSpot : Sp := fun vs H Q _ => ∃ (t : Addr) (x y k : Int), vs = [.ref t, .int k] ∧ H t = some (.tup [.int x, .int y]) ∧ 0 < y ∧ x.natAbs < 2 ^ 200 ∧ k.natAbs < 2 ^ 200 ∧ Q (.int ((k * x).fmod y)) H
section
variable {P : Program} {w : World} {K : PySem.W.Frag} {mg : Str → Option Value} {base : Heap}
theorem ok_lowest {f : Addr} {fd : FuncData} (F : Fun K "lowest" "lowest" sLowest f fd) (B : Bc mg) : FnOk P w K mg base CX0 1 f fd ["top", "bottom"] spLow := by
  refine F.ok scLowest (fun vs H Q E h => ?_) (fun cdv A outer s H vs Q E hr h => ?_)
  · obtain ⟨a, b, rfl, _⟩ := h
    rfl
  · obtain ⟨a, b, rfl, a0, b0, b1, q⟩ := h
    refine ⟨_, pss_cons (ps_set (i := 2) scLowest.nd rfl (.inl rfl) (pe_callBfun cr_gcd (by rfl) B.gcd (pa_cons (pv 0) (pa_cons (pv 1) pa_nil))))
      (pss_one (ps_ret (pe_tup (pa_cons (pe_op op_fdivW (pv 0) (pv 2)) (pa_cons (pe_op op_fdivW (pv 1) (pv 2)) pa_nil))))), ?_⟩
    have g0 : (0 : Int) < ((Nat.gcd a.natAbs b.natAbs : Nat) : Int) := by
      have := Nat.gcd_pos_of_pos_right a.natAbs (show 0 < b.natAbs by omega); omega
    have g1 : (((Nat.gcd a.natAbs b.natAbs : Nat) : Int)).natAbs < 2 ^ 100 := by
      rw [Int.natAbs_natCast]
      exact Nat.lt_of_le_of_lt (Nat.le_of_dvd (by omega) (Nat.gcd_dvd_right _ _)) b1
    exact ⟨_, rfl, _, rfl, a, b, rfl, _, rfl, _, rfl, _, _, rfl, rfl, wide_div g0 g1 (by decide) (by decide), _, rfl, _, rfl, _, _, rfl, rfl, wide_div g0 g1 (by decide) (by decide), (by show 2 ≤ sizeLine; decide), fun p hp => q p hp⟩
theorem ok_place {f fI fR fS fC fN fL : Addr} {fd fdI fdR fdS fdC fdN fdL : FuncData} (F : Fun K "place" "place" sPlace f fd) (B : Bc mg) (mc : ∃ tk, mg "MOST_COUNT" = some (.int (10 ^ 30) tk)) (D : Df K mg "is_integer" sIsInt ["given"] fI fdI) (R : Df K mg "is_fraction" sIsFr ["given"] fR fdR) (S : Df K mg "is_step" sIsStep ["given"] fS fdS)
    (C : Df K mg "check_step" sChStep ["given"] fC fdC) (N : Df K mg "check_number" sChNum ["given", "least", "most"] fN fdN) (L : Df K mg "lowest" sLowest ["top", "bottom"] fL fdL) {fM : Addr} {fdM : FuncData} (Nn : Df K mg "is_number" sIsNum ["given", "least", "most"] fM fdM) : FnOk P w K mg base CX0 5 f fd ["step", "mark"] spPlace := by
  have GC : FnOk P w K mg base CX0 4 fC fdC ["given"] (spIsSt .non) := ok_chStep C.F B D R S
  have GN : FnOk P w K mg base CX0 3 fN fdN ["given", "least", "most"] spChNum := ok_chNum N.F B D Nn
  have GL : FnOk P w K mg base CX0 1 fL fdL ["top", "bottom"] spLow := ok_lowest L.F B
  refine F.ok scPlace (fun vs H Q E h => ?_) (fun cdv A outer s H vs Q E hr h => ?_)
  · obtain ⟨t, x, y, k, rfl, _⟩ := h
    rfl
  · obtain ⟨t, x, y, k, rfl, ⟨hT, st⟩, yb, k0, k1, q⟩ := h
    obtain ⟨tk, hmc⟩ := mc
    have hr2 : Room 2 _ := hr.mono (by decide)
    have hr3 : Room 3 _ := hr.mono (by decide)
    have hr1 : Room 1 _ := hr.mono (by decide)
    refine ⟨_, pss_cons (ps_expr (pe_call GC hr (by rfl) C.g C.F.kp C.b .nil pass0 (pa_cons (pv 0) pa_nil)))
      (pss_cons (ps_expr (pe_call GN hr3 (by rfl) N.g N.F.kp N.b .nil pass0 (pa_cons (pv 1) (pa_cons pe_int (pa_cons (pe_glob (v := .int (10 ^ 30)) rfl hmc ⟨_, rfl⟩) pa_nil)))))
      (pss_cons (ps_asg (pv 0) (pg_tup (by rfl) (pgs_cons (pg_name (i := 2) scPlace.nd rfl (.inl rfl)) (pgs_cons (pg_name (i := 3) scPlace.nd rfl (.inl rfl)) pgs_nil))))
      (pss_one (ps_ret (pe_call GL hr1 (by rfl) L.g L.F.kp L.b .nil pass0 (pa_cons (pe_op op_modN (pe_op op_mulW (pv 2) (pv 1)) (pv 3)) (pa_cons (pv 3) pa_nil))))))), ?_⟩
    have y1 : 0 < y := by have := st.x0; have := st.xy; omega
    have x0 := st.x0
    have xy := st.xy
    refine ⟨_, rfl, t, x, y, rfl, ⟨hT, st⟩, _, rfl, k, 0, 10 ^ 30, rfl, k0, k1, ?_⟩
    refine ⟨_, rfl, t, _, rfl, SqT.of hT, rfl, _, _, rfl, _, _, rfl, rfl, ?_⟩
    refine ⟨_, rfl, _, rfl, _, _, rfl, rfl, wide_mul (a := 100) (b := 100) (Nat.lt_of_le_of_lt (by omega) yb) (Nat.lt_of_le_of_lt (show k.natAbs ≤ 10 ^ 30 by omega) (by decide)) (by decide) (by decide) (by decide), _, rfl, _, _, rfl, rfl, (show y ≠ 0 by omega), _, rfl, _, _, rfl, fmod_ge y1, y1, yb, fun r hr => q r hr⟩
theorem ok_mirr {f fI fR fS fC : Addr} {fd fdI fdR fdS fdC : FuncData} (F : Fun K "mirrored" "mirrored" sMirr f fd) (B : Bc mg) (D : Df K mg "is_integer" sIsInt ["given"] fI fdI) (R : Df K mg "is_fraction" sIsFr ["given"] fR fdR) (S : Df K mg "is_step" sIsStep ["given"] fS fdS)
    (C : Df K mg "check_step" sChStep ["given"] fC fdC) : FnOk P w K mg base CX0 5 f fd ["step"] spMirr := by
  have GC : FnOk P w K mg base CX0 4 fC fdC ["given"] (spIsSt .non) := ok_chStep C.F B D R S
  refine F.ok scMirr (fun vs H Q E h => ?_) (fun cdv A outer s H vs Q E hr h => ?_)
  · obtain ⟨t, x, y, rfl, _⟩ := h
    rfl
  · obtain ⟨t, x, y, rfl, ⟨hT, st⟩, q⟩ := h
    refine ⟨_, pss_cons (ps_expr (pe_call GC hr (by rfl) C.g C.F.kp C.b .nil pass0 (pa_cons (pv 0) pa_nil)))
      (pss_cons (ps_asg (pv 0) (pg_tup (by rfl) (pgs_cons (pg_name (i := 1) scMirr.nd rfl (.inl rfl)) (pgs_cons (pg_name (i := 2) scMirr.nd rfl (.inl rfl)) pgs_nil))))
      (pss_cons (ps_if (pt_cmpR op_eq (pv 1) pe_int (nomark _)) (pss_one (ps_ret (pv 0))) pss_nil)
      (pss_one (ps_ret (pe_tup (pa_cons (pe_op op_sub (pv 2) (pv 1)) (pa_cons (pv 2) pa_nil))))))), ?_⟩
    refine ⟨_, rfl, t, x, y, rfl, ⟨hT, st⟩, ?_⟩
    refine ⟨_, rfl, t, _, rfl, SqT.of hT, rfl, _, _, rfl, _, _, rfl, rfl, ?_⟩
    refine ⟨_, rfl, rfl, _, rfl, ?_⟩
    refine ite2 (fun hc => ?_) (fun hc => ?_)
    · have e : x = 0 := V.int.inj (of_decide_eq_true hc)
      have em : mirI x y = x := by unfold mirI; rw [if_pos e, e]
      exact ⟨_, rfl, q t H (Same.refl H) (by rw [em]; exact ⟨hT, st⟩)⟩
    · have e : x ≠ 0 := fun e => hc (decide_eq_true (congrArg V.int e))
      have em : mirI x y = y - x := by unfold mirI; rw [if_neg e]
      exact ⟨_, rfl, _, rfl, _, _, rfl, rfl, _, rfl, (by show 2 ≤ sizeLine; decide), fun r hr => q r _ (same_put hr) ⟨by rw [em]; exact upd_same, mir_step st⟩⟩
theorem ok_spot {f : Addr} {fd : FuncData} (F : Fun K "_law_spot" "_law_spot" sSpot f fd) (B : Bl mg) : FnOk P w K mg base CX0 1 f fd ["_law_x", "_law_k"] spSpot := by
  refine F.ok scSpot (fun vs H Q E h => ?_) (fun cdv A outer s H vs Q E hr h => ?_)
  · obtain ⟨t, x, y, k, rfl, _⟩ := h
    rfl
  · obtain ⟨t, x, y, k, rfl, hT, y0, xb, kb, q⟩ := h
    refine ⟨_, pss_one (ps_ret (pe_op op_modN (pe_callTy call_int1 (by rfl) B.int (by decide +kernel) (pa_cons (pe_op op_mulW (pv 1) (pe_ix ix_tup (pv 0) pe_int (fun _ _ => rfl))) pa_nil)) (pe_ix ix_tup (pv 0) pe_int (fun _ _ => rfl)))), ?_⟩
    exact ⟨_, rfl, _, rfl, t, _, 0, .int x, rfl, rfl, SqT.of hT, at_of (j := 0) rfl rfl, _, _, rfl, rfl, wide_mul (a := 200) (b := 200) kb xb (by decide) (by decide) (by decide), .inl ⟨_, rfl, _, rfl, t, _, 1, .int y, rfl, rfl, SqT.of hT, at_of (j := 1) rfl rfl, _, _, rfl, rfl, (show y ≠ 0 by omega), q⟩⟩
end
end My
set_option Elab.async false
set_option linter.all false
set_option maxRecDepth 100000
set_option maxHeartbeats 4000000
namespace My
open PySem PySem.Spec PyProof.Rows L2 Gn Mt
abbrev sLine : Stmt := top 28
theorem scLine : FnScope ["_law_x", "_law_marks", "_law_begin", "_law_found", "_law_spot_here", "_law_k"] ["_law_x", "_law_marks", "_law_begin"] (defScope sLine) := ⟨rfl, rfl, rfl, by decide +kernel, rfl, by decide +kernel, by decide +kernel⟩
def spLine (K : PySem.W.Frag) : Sp := fun vs H Q _ => ∃ (t m : Addr) (x y b : Int) (ms ms' : List Int), vs = [.ref t, .ref m, .int b] ∧ H t = some (.tup [.int x, .int y]) ∧ 0 < y ∧ x.natAbs < 2 ^ 200 ∧ SqL K H m (ms.map V.int) ∧ ms.length < 64 ∧ (∀ k ∈ ms, (k - b).natAbs < 2 ^ 200) ∧
  ms'.Perm ms ∧ ms'.Pairwise (· ≤ ·) ∧ ∀ r H', Same H H' → H r = none → OrdAt H' r (ord (fun k => ((k - b) * x).fmod y) ms') → Q (.ref r) H'
structure Bi (mg : Str → Option Value) : Prop where
  b : Bl mg
  sorted : mg "sorted" = none
  set : mg "set" = none
  tuple : mg "tuple" = none
section
variable {P : Program} {w : World} {K : PySem.W.Frag} {mg : Str → Option Value} {base : Heap}
theorem ok_line {f fS : Addr} {fd fdS : FuncData} (F : Fun K "_law_line" "_law_line" sLine f fd) (B : Bi mg) (S : Df K mg "_law_spot" sSpot ["_law_x", "_law_k"] fS fdS) : FnOk P w K mg base CX0 2 f fd ["_law_x", "_law_marks", "_law_begin"] (spLine K) := by
  have GS : FnOk P w K mg base CX0 1 fS fdS ["_law_x", "_law_k"] spSpot := ok_spot S.F B.b
  refine F.ok scLine (fun vs H Q E h => ?_) (fun cdv A outer s H vs Q E hr h => ?_)
  · obtain ⟨t, m, x, y, b, ms, ms', rfl, _⟩ := h
    rfl
  · obtain ⟨t, m, x, y, b, ms, ms', rfl, hT, y0, xb, hM, hlen, hb, pm, pw, q⟩ := h
    refine ⟨_, pss_cons (ps_set (i := 3) scLine.nd rfl (.inl rfl) (pe_lst pa_nil))
      (pss_cons (ps_for PassesOwn.never rfl (pi_list (pe_callB (cr_sortedSet rfl) (by rfl) B.sorted (by decide +kernel) (pa_cons (pe_callTy (cr_setI rfl) (by rfl) B.set (by decide +kernel) (pa_cons
          (pe_lc (te := tCall spSpot [] E0 (tCons (tVar 0) (tCons (tOp (rI0 fun i j => .int (i - j)) (tVar 5) (tVar 2)) tNil))) (own := [("_law_k", 5)]) (g := gName 5) (tt := tYes) rfl scLine.nd (pi_list (pv 1))
            (blkOk_by (N := ["_law_x", "_law_marks", "_law_begin", "_law_found", "_law_spot_here", "_law_k"]) (sc := defScope sLine) (by decide +kernel)) (fun _ _ _ _ _ => pg_name (i := 5) scLine.nd rfl (.inl rfl)) (fun _ _ _ _ _ => pts_nil)
            (fun _ _ _ _ _ => pe_call GS hr (by rfl) S.g S.F.kp S.b .nil pass0 (pa_cons (pv 0) (pa_cons (pe_op op_sub (pv 5) (pv 2)) pa_nil)))) pa_nil)) pa_nil))) (pg_name (i := 4) scLine.nd rfl (.inr rfl))
        (pss_one (ps_expr (pe_bm PySem.F.plainAttrs_list PySem.F.slot_list_append PySem.F.type_list_append mt_append (pv 3) (pa_cons (pe_callTy cr_tupL (by rfl) B.tuple (by decide +kernel) (pa_cons
          (pe_lc (te := tVar 5) (tt := tTest (tOp rEq (tCall spSpot [] E0 (tCons (tVar 0) (tCons (tOp (rI0 fun i j => .int (i - j)) (tVar 5) (tVar 2)) tNil))) (tVar 4))) (own := [("_law_k", 5)]) (g := gName 5) rfl scLine.nd
            (pi_list (pe_callB cr_sorted (by rfl) B.sorted (by decide +kernel) (pa_cons (pv 1) pa_nil)))
            (blkOk_by (N := ["_law_x", "_law_marks", "_law_begin", "_law_found", "_law_spot_here", "_law_k"]) (sc := defScope sLine) (by decide +kernel)) (fun _ _ _ _ _ => pg_name (i := 5) scLine.nd rfl (.inl rfl))
            (fun _ _ _ _ _ => pts_one (pt_cmpR op_eq (pe_call GS hr (by rfl) S.g S.F.kp S.b .nil pass0 (pa_cons (pv 0) (pa_cons (pe_op op_sub (pv 5) (pv 2)) pa_nil))) (pv 4) (nomark _)))
            (fun _ _ _ _ _ => pv 5)) pa_nil)) pa_nil)))))
      (pss_one (ps_ret (pe_callTy cr_tupL (by rfl) B.tuple (by decide +kernel) (pa_cons (pv 3) pa_nil))))), ?_⟩
    -- found = []
    refine ⟨Nat.zero_le _, fun o no => ?_⟩
    have s1 : Same H (upd H o (.lst [])) := same_put no
    -- [spot(x, k - begin) for k in marks]
    refine ⟨_, rfl, m, rfl, ⟨_, s1.seq hM⟩, fun D nD => ?_⟩
    have s2 : Same (upd H o (.lst [])) (upd (upd H o (.lst [])) D (.lst [])) := same_put nD
    refine lc_list (K := K) (a := m) (xs := ms.map V.int) (fun j H2 => H2 D = some (.lst (((ms.take j).map fun k => ((k - b) * x).fmod y).map V.int)) ∧ Same (upd H o (.lst [])) H2)
      ⟨upd_same, s2⟩ (fun j H2 _ ⟨_, e⟩ => e.seq (s1.seq hM)) ?_ ?_
    · rintro j v H2 hj ⟨h1, h2⟩
      rw [List.getElem?_map] at hj
      obtain ⟨k, hk, rfl⟩ := Option.map_eq_some_iff.mp hj
      refine ⟨rfl, _, rfl, _, rfl, _, rfl, _, _, rfl, rfl, t, x, y, k - b, rfl, h2 _ _ (s1 _ _ hT), y0, xb, hb k (List.mem_of_getElem? hk), _, h1, ?_, ?_, fun c z e => ?_⟩
      · rw [List.length_map, List.length_map, List.length_take]
        exact small1000 (by omega)
      · rw [upd_same, List.take_add_one, hk, List.map_append, List.map_append]; rfl
      · have e2 := h2 _ _ e
        rw [upd_ne (ne_of_none e nD)]
        exact e2
    rintro H2 ⟨h1, h2⟩
    rw [List.length_map, List.take_length] at h1
    -- set(..), sorted(..)
    refine ⟨D, ms.map fun k => ((k - b) * x).fmod y, rfl, SqL.of h1, by rw [List.length_map]; exact hlen, fun p c hp hc => ?_⟩
    have s3 := same_put (o := SetO w p (fun j => decide (j ∈ ms.map fun k => ((k - b) * x).fmod y)) c) hp
    rw [List.length_map] at hc
    refine ⟨p, _, c, rfl, upd_same, by omega, fun ys p2 ypw ymem ylen hp2 => ?_⟩
    have s4 := same_put (o := HO.lst (ys.map V.int)) hp2
    have ey : ys = sortU (ms'.map fun k => ((k - b) * x).fmod y) := strict_one ypw (sortU_pw _) fun v => by
      rw [ymem v, sortU_mem, decide_eq_true_eq]
      exact ((pm.map _).mem_iff).symm
    have S4 : Same (upd H o (.lst [])) (upd (upd H2 p (SetO w p (fun j => decide (j ∈ ms.map fun k => ((k - b) * x).fmod y)) c)) p2 (.lst (ys.map V.int))) := (h2.trans s3).trans s4
    have no0 := S4 _ _ (upd_same (H := H) (a := o) (o := HO.lst []))
    obtain ⟨Hs, hHs⟩ : ∃ Hs, upd (upd H2 p (SetO w p (fun j => decide (j ∈ ms.map fun k => ((k - b) * x).fmod y)) c)) p2 (.lst (ys.map V.int)) = Hs := ⟨_, rfl⟩
    have S5 : Same (upd H o (.lst [])) Hs := fun q z e => (congrFun hHs q).symm.trans (S4 q z e)
    have hTs := S5 _ _ (s1 _ _ hT)
    have hMs := S5.seq (s1.seq hM)
    have hY : Hs p2 = some (.lst (ys.map V.int)) := (congrFun hHs p2).symm.trans upd_same
    have SH : Same H Hs := s1.trans S5
    have nT : t ≠ o := ne_of_none hT no
    have nM : ∀ H' : Hp, (∀ q z, Hs q = some z → q ≠ o → H' q = some z) → SqL K H' m (ms.map V.int) := fun H' k => by
      rcases hM with (h | ⟨oo, h⟩) | h
      · exact .inl (.inl (k _ _ (SH _ _ h) (ne_of_none h no)))
      · exact .inl (.inr ⟨oo, k _ _ (SH _ _ h) (ne_of_none h no)⟩)
      · exact .inr h
    have n2o : p2 ≠ o := fun e => by
      have z := s3 _ _ (h2 _ _ (upd_same (H := H) (a := o) (o := HO.lst [])))
      rw [← e] at z
      cases hp2.symm.trans z
    -- for spot_here in ..
    refine ⟨p2, rfl, ⟨_, .inl (.inl upd_same)⟩, for_list (K := K) (a := p2) (xs := ys.map V.int) (fun j σ H3 => ∃ (rs : List Addr) (sp : Option V), σ = [some (.ref t), some (.ref m), some (.int b), some (.ref o), sp, none] ∧ H3 o = some (.lst (rs.map V.ref)) ∧
        Tups H3 rs ((ys.take j).map (grp (fun k => ((k - b) * x).fmod y) ms')) ∧ ∀ q z, Hs q = some z → q ≠ o → H3 q = some z)
      ⟨[], none, rfl, no0, trivial, fun q z e _ => (congrFun hHs q).trans e⟩ (fun j σ H3 _ ⟨_, _, _, _, _, k⟩ => .inl (.inl (k _ _ hY n2o))) ?_ ?_⟩
    · rintro j v σ H3 hj ⟨rs, sp, rfl, hO, hR, kp⟩
      rw [List.getElem?_map] at hj
      obtain ⟨u, hu, rfl⟩ := Option.map_eq_some_iff.mp hj
      refine ⟨_, rfl, .inl ⟨rfl, _, .inl (.inl hO)⟩, _, rfl, m, ms, rfl, nM _ kp, hlen, fun ns p3 npm npw hp3 => ?_⟩
      obtain rfl : ns = ms' := le_one npw pw (npm.trans pm.symm)
      have s5 : Same H3 (upd H3 p3 (.lst (ns.map V.int))) := same_put hp3
      refine ⟨p3, rfl, ⟨_, .inl (.inl upd_same)⟩, fun D2 nD2 => ?_⟩
      have s6 : Same (upd H3 p3 (.lst (ns.map V.int))) (upd (upd H3 p3 (.lst (ns.map V.int))) D2 (.lst [])) := same_put nD2
      refine lc_list (K := K) (a := p3) (xs := ns.map V.int) (fun i H4 => H4 D2 = some (.lst ((grp (fun k => ((k - b) * x).fmod y) (ns.take i) u).map V.int)) ∧ Same (upd H3 p3 (.lst (ns.map V.int))) H4)
        ⟨upd_same, s6⟩ (fun i H4 _ ⟨_, e⟩ => .inl (.inl (e _ _ upd_same))) ?_ ?_
      · rintro i v H4 hi ⟨g1, g2⟩
        rw [List.getElem?_map] at hi
        obtain ⟨k, hk, rfl⟩ := Option.map_eq_some_iff.mp hi
        refine ⟨rfl, _, rfl, _, rfl, _, rfl, _, _, rfl, rfl, t, x, y, k - b, rfl, g2 _ _ (s5 _ _ (kp _ _ hTs nT)), y0, xb, hb k (pm.mem_iff.mp (List.mem_of_getElem? hk)), _, rfl, rfl, _, rfl, ?_⟩
        have e1 : ns.take (i + 1) = ns.take i ++ [k] := by rw [List.take_add_one, hk]; rfl
        refine ite2 (fun hc => ?_) (fun hc => ?_)
        · have hc' : ((k - b) * x).fmod y = u := V.int.inj (of_decide_eq_true hc)
          refine ⟨_, rfl, _, g1, ?_, ?_, fun q z e => ?_⟩
          · rw [List.length_map]
            exact small1000 (Nat.le_trans (List.length_filter_le _ _) (by rw [List.length_take]; have := pm.length_eq; omega))
          · rw [upd_same, e1, grp_snoc, if_pos hc', List.map_append]; rfl
          · rw [upd_ne (ne_of_none e nD2)]
            exact g2 _ _ e
        · have hc' : ¬ ((k - b) * x).fmod y = u := fun z => hc (decide_eq_true (congrArg V.int z))
          exact ⟨by rw [e1, grp_snoc, if_neg hc']; exact g1, g2⟩
      rintro H4 ⟨g1, g2⟩
      rw [List.length_map, List.take_length] at g1
      refine ⟨D2, _, rfl, SqL.of g1, fun r hr => ?_⟩
      have s7 : Same H4 (upd H4 r (.tup ((grp (fun k => ((k - b) * x).fmod y) ns u).map V.int))) := same_put hr
      have S7 : Same H3 (upd H4 r (.tup ((grp (fun k => ((k - b) * x).fmod y) ns u).map V.int))) := (s5.trans g2).trans s7
      refine ⟨o, _, _, rfl, rfl, S7 _ _ hO, ?_, rs ++ [r], _, rfl, (by rw [upd_same, List.map_append]; rfl), ?_, fun q z e hq => ?_⟩
      · have := List.length_map (f := fun k => ((k - b) * x).fmod y) (as := ns)
        rw [List.length_map, hR.len, List.length_map, List.length_take]
        exact small1000 (by omega)
      · rw [List.take_add_one, hu, List.map_append]
        have nro : r ≠ o := fun e => by rw [e] at hr; rw [(s5.trans g2) _ _ hO] at hr; cases hr
        refine Tups.snoc ?_ (hR.mono fun r' g e => ?_)
        · rw [upd_ne nro, upd_same]
        · rw [upd_ne (ne_of e hO (by intro z; cases z))]
          exact S7 _ _ e
      · rw [upd_ne hq]
        exact S7 _ _ (kp _ _ e hq)
    · rintro σ H3 ⟨rs, sp, rfl, hO, hR, kp⟩
      refine ⟨_, rfl, o, _, rfl, SqL.of hO, fun r hr => ?_⟩
      have s8 : Same H3 (upd H3 r (.tup (rs.map V.ref))) := same_put hr
      have sH : Same H H3 := fun q z e => kp _ _ (SH _ _ e) (ne_of_none e no)
      refine q r _ (sH.trans s8) (sH.free hr) ⟨rs, upd_same, ?_⟩
      rw [List.length_map, List.take_length, ey] at hR
      exact hR.mono fun r' g e => s8 _ _ e
end
end My
set_option Elab.async false
set_option linter.all false
set_option maxRecDepth 100000
set_option maxHeartbeats 4000000
namespace My
open PySem PySem.Spec PyProof.Rows L2 Gn Mt
theorem mir_at {x y k : Int} (h : IsStep x y) : (mirI x y * k).fmod y = if (x * k).fmod y = 0 then 0 else y - (x * k).fmod y := by
  have x0 := h.x0
  have xy := h.xy
  have y0 : 0 < y := by omega
  unfold mirI
  by_cases e : x = 0
  · rw [if_pos e, e, Int.zero_mul, Int.zero_fmod, if_pos rfl]
  · rw [if_neg e]
    rw [Int.fmod_eq_emod_of_nonneg _ (by omega), Int.fmod_eq_emod_of_nonneg _ (by omega)]
    have hr0 := Int.emod_nonneg (x * k) (show y ≠ 0 by omega)
    have hr1 := Int.emod_lt_of_pos (x * k) y0
    have hd := Int.mul_ediv_add_emod (x * k) y
    have e1 : (y - x) * k = -((x * k) % y) + y * (k - (x * k) / y) := by
      rw [Int.sub_mul, Int.mul_sub]; omega
    rw [e1, Int.add_mul_emod_self_left]
    by_cases z : (x * k) % y = 0
    · rw [if_pos z, z]; simp
    · rw [if_neg z]
      have e2 : -((x * k) % y) = (y - (x * k) % y) + y * (-1) := by omega
      rw [e2, Int.add_mul_emod_self_left, Int.emod_eq_of_lt (by omega) (by omega)]
theorem ord_mir {x y : Int} {n : Nat} (h : IsStep x y) (hn : 1 ≤ n) : ord (fun k => (mirI x y * k).fmod y) (iota n) = (ord (fun k => (x * k).fmod y) (iota n)).take 1 ++ ((ord (fun k => (x * k).fmod y) (iota n)).drop 1).reverse := by
  have y0 : 0 < y := by have := h.x0; have := h.xy; omega
  exact ord_mirror (y := y) (fun k _ => ⟨fmod_ge y0, fmod_lt y0⟩) (fun k _ => mir_at h) (k0 := 0) (iota_mem.mpr ⟨Int.le_refl 0, by omega⟩) (by show (x * 0).fmod y = 0; rw [Int.mul_zero, Int.zero_fmod])
theorem Tups.app {H : Hp} {qs : List Addr} {hs : List (List Int)} (h' : Tups H qs hs) : ∀ {rs : List Addr} {gs : List (List Int)}, Tups H rs gs → Tups H (rs ++ qs) (gs ++ hs)
  | [], [], _ => h'
  | _ :: _, _ :: _, h => ⟨h.1, Tups.app h' h.2⟩
  | [], _ :: _, h => h.elim
  | _ :: _, [], h => h.elim
theorem Tups.rev {H : Hp} : ∀ {rs : List Addr} {gs : List (List Int)}, Tups H rs gs → Tups H rs.reverse gs.reverse
  | [], [], _ => trivial
  | r :: rs, g :: gs, h => by
    rw [List.reverse_cons, List.reverse_cons]
    exact Tups.snoc h.1 (Tups.rev h.2)
  | [], _ :: _, h => h.elim
  | _ :: _, [], h => h.elim
theorem Tups.one {H : Hp} {rs : List Addr} {gs : List (List Int)} (h : Tups H rs gs) : Tups H (rs.take 1) (gs.take 1) ∧ Tups H (rs.drop 1) (gs.drop 1) := by
  cases rs with
  | nil => cases gs with
    | nil => exact ⟨trivial, trivial⟩
    | cons _ _ => exact h.elim
  | cons r rs => cases gs with
    | nil => exact h.elim
    | cons g gs => exact ⟨⟨h.1, trivial⟩, h.2⟩
/-- an order of at most n marks is small data -/
theorem ord_sm {f : Int → Int} {n : Nat} (hn : n ≤ 60) : Sm 7000000 2 (ordD (ord f (iota n))) := by
  have lenU : ∀ l : List Int, (sortU l).length ≤ l.length := by
    intro l
    induction l with
    | nil => exact Nat.le_refl 0
    | cons a l ih =>
      have one : ∀ (v : Int) (m : List Int), (insU v m).length ≤ m.length + 1 := by
        intro v m
        induction m with
        | nil => exact Nat.le_refl 1
        | cons b m ih =>
          unfold insU
          split
          · exact Nat.le_refl _
          · split
            · exact Nat.le_succ _
            · exact Nat.succ_le_succ ih
      exact Nat.le_trans (one a (sortU l)) (Nat.succ_le_succ ih)
  have z := Sm.tup (c := 60 * 1923 + 3) (e := 1) (n := 60) (ds := (ord f (iota n)).map fun g => PyData.tuple (g.map PyData.int)) (fun d hd => ?_) ?_
  · exact ⟨z.sh, Nat.le_trans z.ln (by decide), z.dp, z.cl⟩
  · obtain ⟨g, hg, rfl⟩ := List.mem_map.mp hd
    obtain ⟨v, _, rfl⟩ := List.mem_map.mp hg
    refine Sm.ints (fun i hi => ?_) (Nat.le_trans (List.length_filter_le _ _) (by rw [iota_len]; exact hn))
    have := iota_mem.mp (List.mem_filter.mp hi).1
    exact Nat.lt_of_lt_of_le (show i.natAbs < 60 by omega) (by decide)
  · rw [List.length_map]
    unfold ord
    rw [List.length_map]
    refine Nat.le_trans (lenU _) ?_
    rw [List.length_map, iota_len]
    exact hn
end My
set_option Elab.async false
set_option linter.all false
set_option maxRecDepth 100000
set_option maxHeartbeats 8000000
set_option exponentiation.threshold 2000
namespace My
open PySem PySem.Spec PyProof.Rows L2 Gn Mt
abbrev sRight : Stmt := top 29
theorem scRight : FnScope ["_law_tin_here", "_law_turn", "_law_x", "_law_k", "_law_due", "_law_many", "_law_back"] ["_law_tin_here"] (defScope sRight) := ⟨rfl, rfl, rfl, by decide +kernel, rfl, by decide +kernel, by decide +kernel⟩
def spRight : Sp := fun vs H Q _ => ∃ (t : Addr), vs = [.ref t] ∧ Tin H t ∧ ∀ H', Sipped H H' t → Q (.bl true) H'
/-- what the module holds, all of it -/
structure All (K : PySem.W.Frag) (mg : Str → Option Value) where
  bi : Bi mg
  bo : Bo mg
  mc : ∃ tk, mg "MOST_COUNT" = some (.int (10 ^ 30) tk)
  rp : mg "repr" = none
  li : mg "list" = none
  fi : Addr × FuncData
  fr : Addr × FuncData
  fs : Addr × FuncData
  fc : Addr × FuncData
  fn : Addr × FuncData
  fp : Addr × FuncData
  fo : Addr × FuncData
  fm : Addr × FuncData
  fl : Addr × FuncData
  gt : Addr × FuncData
  gs : Addr × FuncData
  gp : Addr × FuncData
  gf : Addr × FuncData
  gg : Addr × FuncData
  gl : Addr × FuncData
  ge : Addr × FuncData
  gk : Addr × FuncData
  gn : Addr × FuncData
  di : Df K mg "is_integer" sIsInt ["given"] fi.1 fi.2
  dr : Df K mg "is_fraction" sIsFr ["given"] fr.1 fr.2
  ds : Df K mg "is_step" sIsStep ["given"] fs.1 fs.2
  dc : Df K mg "check_step" sChStep ["given"] fc.1 fc.2
  dn : Df K mg "check_number" sChNum ["given", "least", "most"] fn.1 fn.2
  fN : Addr × FuncData
  dN : Df K mg "is_number" sIsNum ["given", "least", "most"] fN.1 fN.2
  dp : Df K mg "place" sPlace ["step", "mark"] fp.1 fp.2
  dpk : KBinds K fp.2 ["step", "mark"] ["mark", "step"] kw2s kw2s
  dO : Df K mg "order" sOrder ["step", "count"] fo.1 fo.2
  dOk : KBinds K fo.2 ["step", "count"] ["count", "step"] kw2s kw2s
  dm : Df K mg "mirrored" sMirr ["step"] fm.1 fm.2
  dmk : KBinds K fm.2 ["step"] ["step"] kw1 kw1
  dl : Df K mg "lowest" sLowest ["top", "bottom"] fl.1 fl.2
  lt : Df K mg "_law_tin" sTin ["_law_script", "_law_turn"] gt.1 gt.2
  ls : Df K mg "_law_sip" sSip ["_law_tin_here", "_law_top"] gs.1 gs.2
  lp : Df K mg "_law_pick" sPick ["_law_tin_here", "_law_menu"] gp.1 gp.2
  lf : Df K mg "_law_far" sFar ["_law_tin_here", "_law_most"] gf.1 gf.2
  lg : Df K mg "_law_gcd" sGcd ["_law_one", "_law_two"] gg.1 gg.2
  ll : Df K mg "_law_low" sLow ["_law_top", "_law_bottom"] gl.1 gl.2
  le : Df K mg "_law_step" sStep ["_law_tin_here", "_law_most"] ge.1 ge.2
  lk : Df K mg "_law_spot" sSpot ["_law_x", "_law_k"] gk.1 gk.2
  ln : Df K mg "_law_line" sLine ["_law_x", "_law_marks", "_law_begin"] gn.1 gn.2
theorem rg_iota {n : Int} (h : 0 ≤ n) : rgV 0 n = (iota n.toNat).map V.int := by
  unfold rgV iota
  rw [List.map_map, Int.sub_zero]
  refine List.map_congr_left fun i _ => ?_
  show V.int (0 + ((i : Nat) : Int)) = V.int ((i : Nat) : Int)
  rw [Int.zero_add]
section
variable {P : Program} {w : World} {K : PySem.W.Frag} {mg : Str → Option Value} {base : Heap}
theorem ok_right {f : Addr} {fd : FuncData} (F : Fun K "_law_right" "_law_right" sRight f fd) (M : All K mg) : FnG P w K mg base CX0 6 f fd ["_law_tin_here"] spRight := by
  have GP : FnOk P w K mg base CX0 5 M.fp.1 M.fp.2 ["step", "mark"] spPlace := ok_place M.dp.F M.bo.c M.mc M.di M.dr M.ds M.dc M.dn M.dl M.dN
  have GO : FnOk P w K mg base CX0 5 M.fo.1 M.fo.2 ["step", "count"] spOrder := ok_order M.dO.F M.bo M.di M.dr M.ds M.dc M.dn M.dN
  have GM : FnOk P w K mg base CX0 5 M.fm.1 M.fm.2 ["step"] spMirr := ok_mirr M.dm.F M.bo.c M.di M.dr M.ds M.dc
  have LS : FnOk P w K mg base CX0 1 M.gs.1 M.gs.2 ["_law_tin_here", "_law_top"] spSip := ok_sip M.ls.F M.bi.b
  have LP : FnOk P w K mg base CX0 2 M.gp.1 M.gp.2 ["_law_tin_here", "_law_menu"] spPick := ok_pick M.lp.F M.bi.b M.ls
  have LF : FnOk P w K mg base CX0 3 M.gf.1 M.gf.2 ["_law_tin_here", "_law_most"] spFar := ok_far M.lf.F M.bi.b M.ls M.lp
  have LL : FnOk P w K mg base CX0 2 M.gl.1 M.gl.2 ["_law_top", "_law_bottom"] spLow := ok_low M.ll.F M.bi.b M.lg
  have LE : FnOk P w K mg base CX0 4 M.ge.1 M.ge.2 ["_law_tin_here", "_law_most"] spStep := ok_step M.le.F M.bi.b M.ls M.lp M.lg M.lf M.ll
  have LK : FnOk P w K mg base CX0 1 M.gk.1 M.gk.2 ["_law_x", "_law_k"] spSpot := ok_spot M.lk.F M.bi.b
  have LN : FnOk P w K mg base CX0 2 M.gn.1 M.gn.2 ["_law_x", "_law_marks", "_law_begin"] (spLine K) := ok_line M.ln.F M.bi M.lk
  refine funG0 F scRight (fun vs H Q E h => ?_) (fun cdv A outer s H vs Q E hg hr h => ?_)
  · obtain ⟨t, rfl, _⟩ := h
    rfl
  · obtain ⟨t, rfl, T0, q⟩ := h
    have hr1 : Room 1 _ := hr.mono (by decide)
    have hr2 : Room 2 _ := hr.mono (by decide)
    have hr3 : Room 3 _ := hr.mono (by decide)
    have hr4 : Room 4 _ := hr.mono (by decide)
    have hu := hr.units
    refine ⟨_, pss_cons (ps_for PassesOwn.never rfl (pi_range1 rfl M.bo.range (pa_cons pe_int pa_nil)) (pg_name (i := 1) scRight.nd rfl (.inl rfl))
      -- x = step(tin, pick(tin, [..]))
      (pss_cons (ps_set (i := 2) scRight.nd rfl (.inl rfl) (pe_call LE hr4 (by rfl) M.le.g M.le.F.kp M.le.b .nil pass0 (pa_cons (pv 0) (pa_cons (pe_call LP hr2 (by rfl) M.lp.g M.lp.F.kp M.lp.b .nil pass0 (pa_cons (pv 0) (pa_cons (pe_lst (pa_cons pe_int (pa_cons pe_int (pa_cons (pe_op op_pow pe_int pe_int) (pa_cons (pe_op op_pow pe_int pe_int) pa_nil))))) pa_nil))) pa_nil))))
      -- for k in [sip(tin, 90), far(tin, 10 ** 30)]
      (pss_cons (ps_for PassesOwn.never rfl (pi_list (pe_lst (pa_cons (pe_call LS hr1 (by rfl) M.ls.g M.ls.F.kp M.ls.b .nil pass0 (pa_cons (pv 0) (pa_cons pe_int pa_nil))) (pa_cons (pe_call LF hr3 (by rfl) M.lf.g M.lf.F.kp M.lf.b .nil pass0 (pa_cons (pv 0) (pa_cons (pe_op op_pow pe_int pe_int) pa_nil))) pa_nil)))) (pg_name (i := 3) scRight.nd rfl (.inl rfl))
        (pss_cons (ps_set (i := 4) scRight.nd rfl (.inl rfl) (pe_call LL hr2 (by rfl) M.ll.g M.ll.F.kp M.ll.b .nil pass0 (pa_cons (pe_call LK hr1 (by rfl) M.lk.g M.lk.F.kp M.lk.b .nil pass0 (pa_cons (pv 2) (pa_cons (pv 3) pa_nil))) (pa_cons (pe_ix ix_tup (pv 2) pe_int (fun _ _ => rfl)) pa_nil))))
        (pss_one (ps_if (pt_cmpR op_ne (pe_callB (cr_repr hg hu) (by rfl) M.rp (by decide +kernel) (pa_cons (pe_lst (pa_cons (pe_call GP hr (by rfl) M.dp.g M.dp.F.kp M.dp.b .nil pass0 (pa_cons (pv 2) (pa_cons (pv 3) pa_nil))) (pa_cons (pe_callK0 GP hr (by rfl) M.dp.g M.dp.F.kp M.dpk pass0 (pk_cons (pv 3) (pk_cons (pv 2) pk_nil))) pa_nil))) pa_nil))
            (pe_callB (cr_repr hg hu) (by rfl) M.rp (by decide +kernel) (pa_cons (pe_lst (pa_cons (pv 4) (pa_cons (pv 4) pa_nil))) pa_nil)) (nomark _)) (pss_one (ps_ret pe_bl)) pss_nil))))
      -- many, due
      (pss_cons (ps_set (i := 5) scRight.nd rfl (.inl rfl) (pe_op op_add pe_int (pe_call LS hr1 (by rfl) M.ls.g M.ls.F.kp M.ls.b .nil pass0 (pa_cons (pv 0) (pa_cons pe_int pa_nil)))))
      (pss_cons (ps_set (i := 4) scRight.nd rfl (.inl rfl) (pe_call LN hr2 (by rfl) M.ln.g M.ln.F.kp M.ln.b .nil pass0 (pa_cons (pv 2) (pa_cons (pe_listRg rfl (by rfl) M.li (prg_1 (by rfl) M.bo.range (pv 5))) (pa_cons pe_int pa_nil)))))
      (pss_cons (ps_if (pt_cmpR op_ne (pe_callB (cr_repr hg hu) (by rfl) M.rp (by decide +kernel) (pa_cons (pe_lst (pa_cons (pe_call GO hr (by rfl) M.dO.g M.dO.F.kp M.dO.b .nil pass0 (pa_cons (pv 2) (pa_cons (pv 5) pa_nil))) (pa_cons (pe_callK0 GO hr (by rfl) M.dO.g M.dO.F.kp M.dOk pass0 (pk_cons (pv 5) (pk_cons (pv 2) pk_nil))) pa_nil))) pa_nil))
            (pe_callB (cr_repr hg hu) (by rfl) M.rp (by decide +kernel) (pa_cons (pe_lst (pa_cons (pv 4) (pa_cons (pv 4) pa_nil))) pa_nil)) (nomark _)) (pss_one (ps_ret pe_bl)) pss_nil)
      -- back
      (pss_cons (ps_set (i := 6) scRight.nd rfl (.inl rfl) (pe_call GM hr (by rfl) M.dm.g M.dm.F.kp M.dm.b .nil pass0 (pa_cons (pv 2) pa_nil)))
      (pss_cons (ps_if (PW.pt (pw_or (pt_cmpR (op_neD hu) (pv 6) (pe_ifExp (pt_cmpR op_gt (pe_ix ix_tup (pv 2) pe_int (fun _ _ => rfl)) pe_int (nomark _)) (pe_tup (pa_cons (pe_op op_sub (pe_ix ix_tup (pv 2) pe_int (fun _ _ => rfl)) (pe_ix ix_tup (pv 2) pe_int (fun _ _ => rfl))) (pa_cons (pe_ix ix_tup (pv 2) pe_int (fun _ _ => rfl)) pa_nil))) (pv 2)) (nomark _))
            (pw_or1 (pt_cmpR (op_neD hu) (pe_callK0 GM hr (by rfl) M.dm.g M.dm.F.kp M.dmk pass0 (pk_cons (pv 6) pk_nil)) (pv 2) (nomark _))))) (pss_one (ps_ret pe_bl)) pss_nil)
      (pss_one (ps_if (pt_cmpR (op_neD hu) (pe_call GO hr (by rfl) M.dO.g M.dO.F.kp M.dO.b .nil pass0 (pa_cons (pv 6) (pa_cons (pv 5) pa_nil))) (pe_op op_catA (pe_slice sl_tupA (pv 4) po_none (po_some pe_int)) (pe_back (pv 4))) (nomark _)) (pss_one (ps_ret pe_bl)) pss_nil))))))))))
      (pss_one (ps_ret pe_bl)), ?_⟩
    refine ⟨5, rfl, by decide, by decide, for_range (lo := 0) (n := 5) (fun i σ H' => ∃ a b c d e z, σ = [some (.ref t), a, b, c, d, e, z] ∧ Sipped H H' t) ⟨none, none, none, none, none, none, rfl, T0, fun _ _ e _ => e⟩ ?_ ?_⟩
    · rintro i σ H1 _ ⟨a, b, c, d, e, z, rfl, S1⟩
      -- x
      refine ⟨_, rfl, _, rfl, _, _, rfl, rfl, ⟨by decide, by decide, by decide⟩, _, _, rfl, rfl, ⟨by decide, by decide, by decide⟩, (by show 4 ≤ sizeLine; decide), fun m hm => ?_⟩
      have S2 : Sipped H1 (upd H1 m (.lst (([7, 40, 10 ^ 6, 10 ^ 30] : List Int).map V.int))) t := Sipped.ofSame S1.1 (same_put hm)
      refine ⟨t, m, ([7, 40, 10 ^ 6, 10 ^ 30] : List Int).map V.int, rfl, S2.1, upd_same, S1.1.not hm, by decide, by decide, fun v H2 hv S3 => ?_⟩
      obtain ⟨w0, hw, rfl⟩ := List.mem_map.mp hv
      have hw1 : 1 ≤ w0 ∧ w0 ≤ 10 ^ 30 := by
        have : ∀ w0 ∈ ([7, 40, 10 ^ 6, 10 ^ 30] : List Int), 1 ≤ w0 ∧ w0 ≤ 10 ^ 30 := by decide
        exact this w0 hw
      have big : ∀ k : Int, 0 ≤ k → k ≤ 10 ^ 30 → k.natAbs < 2 ^ 100 := fun k h0 h1 => Nat.lt_of_le_of_lt (show k.natAbs ≤ 10 ^ 30 by omega) (by decide)
      refine ⟨t, w0, rfl, S3.1, hw1.1, big _ (by omega) hw1.2, fun x y p H3 st le S4 hp h3 => ?_⟩
      have x0 := st.x0
      have xy := st.xy
      have y0 : 0 < y := by omega
      have hpt : p ≠ t := S3.1.not hp
      have yb : y.natAbs < 2 ^ 100 := big _ (by omega) (by omega)
      have xb : x.natAbs < 2 ^ 200 := Nat.lt_trans (big x x0 (by omega)) (by decide)
      have SA : Sipped H H3 t := ((S1.trans S2).trans S3).trans S4
      -- the two marks
      refine ⟨_, rfl, t, 90, rfl, S4.1, by decide, by decide, fun k1 H4 a0 a1 S5 => ?_⟩
      refine ⟨_, rfl, _, _, rfl, rfl, ⟨by decide, by decide, by decide⟩, t, _, rfl, S5.1, by decide, by decide, fun k2 H5 b0 b1 S6 => ?_⟩
      refine ⟨(by show 2 ≤ sizeLine; decide), fun l hl => ?_⟩
      have s7 : Same H5 (upd H5 l (.lst [.int k1, .int k2])) := same_put hl
      have S7 := Sipped.ofSame S6.1 s7
      refine ⟨l, rfl, ⟨_, .inl (.inl upd_same)⟩, for_list (K := K) (a := l) (xs := [.int k1, .int k2]) (fun j σ H' => ∃ u c d, σ = [some (.ref t), u, some (.ref p), c, d, e, z] ∧ Same (upd H5 l (.lst [.int k1, .int k2])) H') ⟨_, _, _, rfl, Same.refl _⟩ (fun j σ H' _ ⟨_, _, _, _, e⟩ => .inl (.inl (e _ _ upd_same))) ?_ ?_⟩
      · rintro j v σ H6 hj ⟨u, c, d, rfl, s8⟩
        obtain ⟨k, rfl, k0, k1'⟩ : ∃ k, v = V.int k ∧ 0 ≤ k ∧ k ≤ 10 ^ 30 := by
          have := List.mem_of_getElem? hj
          rcases List.mem_cons.mp this with rfl | this
          · exact ⟨k1, rfl, a0, by omega⟩
          · obtain rfl := List.mem_singleton.mp this
            exact ⟨k2, rfl, by omega, b1⟩
        have h6 : H6 p = some (.tup [.int x, .int y]) := s8 _ _ (s7 _ _ (S6.2 _ _ (S5.2 _ _ h3 hpt) hpt))
        refine ⟨_, rfl, _, rfl, p, x, y, k, rfl, h6, y0, xb, Nat.lt_trans (big k k0 k1') (by decide), ?_⟩
        rw [Int.mul_comm k x]
        refine ⟨_, rfl, p, _, 1, .int y, rfl, rfl, SqT.of h6, at_of (j := 1) rfl rfl, _, y, rfl, fmod_ge y0, y0, yb, fun dd hdd => ?_⟩
        generalize hU : ((x * k).fmod y) / ((Nat.gcd ((x * k).fmod y).natAbs y.natAbs : Nat) : Int) = U
        generalize hW : y / ((Nat.gcd ((x * k).fmod y).natAbs y.natAbs : Nat) : Int) = W
        have s9 := same_put (o := HO.tup [.int U, .int W]) hdd
        refine ⟨_, rfl, _, rfl, p, x, y, k, rfl, ⟨s9 _ _ h6, st⟩, yb, k0, k1', fun r1 hr1 => ?_⟩
        rw [hU, hW]
        have s10 := same_put (o := HO.tup [.int U, .int W]) hr1
        refine ⟨_, rfl, _, rfl, p, x, y, k, rfl, ⟨s10 _ _ (s9 _ _ h6), st⟩, yb, k0, k1', fun r2 hr2 => ?_⟩
        rw [hU, hW]
        have s11 := same_put (o := HO.tup [.int U, .int W]) hr2
        refine ⟨(by show 2 ≤ sizeLine; decide), fun l1 hl1 => ?_⟩
        have s12 := same_put (o := HO.lst [.ref r1, .ref r2]) hl1
        have sm : Sm 8000 2 (.list [.tuple [.int U, .int W], .tuple [.int U, .int W]]) := by
          have g1 : U.natAbs < 2 ^ 1000 ∧ W.natAbs < 2 ^ 1000 := by
            have f0 := fmod_ge (a := x * k) y0
            have f1 := fmod_lt (a := x * k) y0
            have e1 := Int.ediv_le_self (((Nat.gcd ((x * k).fmod y).natAbs y.natAbs : Nat) : Int)) f0
            have e2 := Int.ediv_le_self (((Nat.gcd ((x * k).fmod y).natAbs y.natAbs : Nat) : Int)) (show 0 ≤ y by omega)
            have e3 : 0 ≤ ((x * k).fmod y) / ((Nat.gcd ((x * k).fmod y).natAbs y.natAbs : Nat) : Int) := Int.ediv_nonneg f0 (Int.natCast_nonneg _)
            have e4 : 0 ≤ y / ((Nat.gcd ((x * k).fmod y).natAbs y.natAbs : Nat) : Int) := Int.ediv_nonneg (by omega) (Int.natCast_nonneg _)
            rw [hU] at e1 e3
            rw [hW] at e2 e4
            exact ⟨Nat.lt_of_le_of_lt (show U.natAbs ≤ y.natAbs by omega) (Nat.lt_trans yb (by decide)), Nat.lt_of_le_of_lt (show W.natAbs ≤ y.natAbs by omega) (Nat.lt_trans yb (by decide))⟩
          have one : Sm 3849 1 (.tuple ([U, W].map PyData.int)) := Sm.ints (n := 2) (fun i hi => by
            rcases List.mem_cons.mp hi with rfl | hi
            · exact g1.1
            · obtain rfl := List.mem_singleton.mp hi
              exact g1.2) (Nat.le_refl _)
          have two := Sm.lst (n := 2) (ds := [.tuple [.int U, .int W], .tuple [.int U, .int W]]) (fun d hd => by
            have : d = .tuple ([U, W].map PyData.int) := by
              rcases List.mem_cons.mp hd with rfl | hd
              · rfl
              · exact List.mem_singleton.mp hd
            rw [this]; exact one) (Nat.le_refl _)
          exact ⟨two.sh, Nat.le_trans two.ln (by decide), two.dp, two.cl⟩
        refine ⟨l1, .list [.tuple [.int U, .int W], .tuple [.int U, .int W]], rfl, .lst (SqL.of upd_same) (.cons (.tup (SqT.of (s12 _ _ (s11 _ _ upd_same))) (dp_ints [U, W])) (.cons (.tup (SqT.of (s12 _ _ upd_same)) (dp_ints [U, W])) .nil)), sm.sh, Nat.lt_of_le_of_lt sm.dp (by decide), Nat.le_trans sm.ln (by decide), ?_⟩
        refine ⟨_, rfl, _, rfl, (by show 2 ≤ sizeLine; decide), fun l2 hl2 => ?_⟩
        have s13 := same_put (o := HO.lst [.ref dd, .ref dd]) hl2
        have hdF := s13 _ _ (s12 _ _ (s11 _ _ (s10 _ _ (upd_same (H := H6) (a := dd) (o := HO.tup [.int U, .int W])))))
        refine ⟨l2, .list [.tuple [.int U, .int W], .tuple [.int U, .int W]], rfl, .lst (SqL.of upd_same) (.cons (.tup (SqT.of hdF) (dp_ints [U, W])) (.cons (.tup (SqT.of hdF) (dp_ints [U, W])) .nil)), sm.sh, Nat.lt_of_le_of_lt sm.dp (by decide), Nat.le_trans sm.ln (by decide), ?_⟩
        refine ⟨rfl, _, rfl, iteNS rfl ?_⟩
        exact ⟨_, _, _, rfl, ((((s8.trans s9).trans s10).trans s11).trans s12).trans s13⟩
      rintro σ H6 ⟨u, c, d, rfl, s8⟩
      have S8 := (((SA.trans S5).trans S6).trans S7).trans (Sipped.ofSame S7.1 s8)
      have h6 : H6 p = some (.tup [.int x, .int y]) := s8 _ _ (s7 _ _ (S6.2 _ _ (S5.2 _ _ h3 hpt) hpt))
      -- many
      refine ⟨_, rfl, t, 60, rfl, S8.1, by decide, by decide, fun d0 H7 d1 d2 S9 => ?_⟩
      refine ⟨_, _, rfl, rfl, ?_⟩
      have n1 : 1 ≤ 1 + d0 := by omega
      have n2 : 1 + d0 ≤ 60 := by omega
      have h7 := S9.2 _ _ h6 hpt
      -- due = line(x, list(range(many)), 0)
      refine ⟨_, rfl, _, rfl, (1 + d0), rfl, ⟨by omega, by omega, by omega, by omega, by omega⟩, fun m2 hm2 => ?_⟩
      have s10 := same_put (o := HO.lst (rgV 0 (1 + d0))) hm2
      have hrg : SqL K (upd H7 m2 (.lst (rgV 0 (1 + d0)))) m2 ((iota (1 + d0).toNat).map V.int) := by
        rw [← rg_iota (show 0 ≤ (1 + d0) by omega)]
        exact SqL.of upd_same
      refine ⟨p, m2, x, y, 0, iota (1 + d0).toNat, iota (1 + d0).toNat, rfl, s10 _ _ h7, y0, xb, hrg, by rw [iota_len]; omega, fun k hk => ?_, List.Perm.refl _, (iota_pw _).imp fun h => Int.le_of_lt h, fun dd H8 s11 hdd od => ?_⟩
      · have := iota_mem.mp hk
        exact Nat.lt_of_lt_of_le (show (k - 0).natAbs < 60 by omega) (by decide)
      have eF : (fun k : Int => ((k - 0) * x).fmod y) = fun k => (x * k).fmod y := by
        funext k
        rw [Int.sub_zero, Int.mul_comm]
      rw [eF] at od
      have h8 := s11 _ _ (s10 _ _ h7)
      -- repr of both orders
      refine ⟨_, rfl, _, rfl, p, x, y, (1 + d0), rfl, ⟨h8, st⟩, n1, n2, fun r1 H9 s12 f12 o1 => ?_⟩
      have h9 := s12 _ _ h8
      refine ⟨_, rfl, _, rfl, p, x, y, (1 + d0), rfl, ⟨h9, st⟩, n1, n2, fun r2 H10 s13 f13 o2 => ?_⟩
      generalize hG : ord (fun k => (x * k).fmod y) (iota (1 + d0).toNat) = G at od o1 o2
      have smG : Sm 7000000 2 (ordD G) := by rw [← hG]; exact ord_sm (by omega)
      have smL : Sm 15000000 3 (.list [ordD G, ordD G]) := by
        have two := Sm.lst (n := 2) (ds := [ordD G, ordD G]) (fun d hd => by
          have : d = ordD G := by
            rcases List.mem_cons.mp hd with rfl | hd
            · rfl
            · exact List.mem_singleton.mp hd
          rw [this]; exact smG) (Nat.le_refl _)
        exact ⟨two.sh, Nat.le_trans two.ln (by decide), two.dp, two.cl⟩
      refine ⟨(by show 2 ≤ sizeLine; decide), fun l1 hl1 => ?_⟩
      have s14 := same_put (o := HO.lst [.ref r1, .ref r2]) hl1
      refine ⟨l1, .list [ordD G, ordD G], rfl, .lst (SqL.of upd_same) (.cons ((o1.same s13).same s14).dp (.cons (o2.same s14).dp .nil)), smL.sh, Nat.lt_of_le_of_lt smL.dp (by decide), Nat.le_trans smL.ln (by decide), ?_⟩
      refine ⟨_, rfl, _, rfl, (by show 2 ≤ sizeLine; decide), fun l2 hl2 => ?_⟩
      have s15 := same_put (o := HO.lst [.ref dd, .ref dd]) hl2
      have od2 := (((od.same s12).same s13).same s14).same s15
      refine ⟨l2, .list [ordD G, ordD G], rfl, .lst (SqL.of upd_same) (.cons od2.dp (.cons od2.dp .nil)), smL.sh, Nat.lt_of_le_of_lt smL.dp (by decide), Nat.le_trans smL.ln (by decide), ?_⟩
      refine ⟨rfl, _, rfl, iteNS rfl ?_⟩
      have h15 := s15 _ _ (s14 _ _ (s13 _ _ h9))
      have SX : Same H8 (upd (upd H10 l1 (.lst [.ref r1, .ref r2])) l2 (.lst [.ref dd, .ref dd])) := ((s12.trans s13).trans s14).trans s15
      generalize upd (upd H10 l1 (.lst [.ref r1, .ref r2])) l2 (.lst [.ref dd, .ref dd]) = H11 at h15 od2 SX ⊢
      -- back = mirrored(x)
      refine ⟨_, rfl, p, x, y, rfl, ⟨h15, st⟩, fun bk H12 s16 bs => ?_⟩
      have h16 := s16 _ _ h15
      have smT : ∀ u v : Int, 0 ≤ u → u ≤ y → 0 ≤ v → v ≤ y → Sm 3849 1 (.tuple ([u, v].map PyData.int)) := fun u v u0 u1 v0 v1 => Sm.ints (n := 2) (fun i hi => by
        rcases List.mem_cons.mp hi with rfl | hi
        · exact Nat.lt_of_le_of_lt (show i.natAbs ≤ y.natAbs by omega) (Nat.lt_trans yb (by decide))
        · obtain rfl := List.mem_singleton.mp hi
          exact Nat.lt_of_le_of_lt (show i.natAbs ≤ y.natAbs by omega) (Nat.lt_trans yb (by decide))) (Nat.le_refl _)
      have sm1 := smT (mirI x y) y bs.2.x0 (Int.le_of_lt bs.2.xy) (by omega) (Int.le_refl y)
      have sm2 := smT x y x0 (Int.le_of_lt xy) (by omega) (Int.le_refl y)
      refine ⟨_, rfl, tIf_dp (K := K) (d := .tuple ([mirI x y, y].map PyData.int)) (decide (0 < x)) (fun R z => ⟨_, rfl, p, _, 0, .int x, rfl, rfl, SqT.of h16, at_of (j := 0) rfl rfl, _, _, rfl, rfl, _, rfl, z⟩) (fun hc R z => ?_) (fun hc R z => ?_) (fun v H13 s17 dv => ?_)⟩
      · have hx : x ≠ 0 := by have := of_decide_eq_true hc; omega
        have em : mirI x y = y - x := by unfold mirI; rw [if_neg hx]
        refine ⟨_, rfl, p, _, 1, .int y, rfl, rfl, SqT.of h16, at_of (j := 1) rfl rfl, _, rfl, p, _, 0, .int x, rfl, rfl, SqT.of h16, at_of (j := 0) rfl rfl, _, _, rfl, rfl, _, rfl, p, _, 1, .int y, rfl, rfl, SqT.of h16, at_of (j := 1) rfl rfl, (by show 2 ≤ sizeLine; decide), fun q1 hq1 => ?_⟩
        refine z _ _ (same_put hq1) (.tup (SqT.of upd_same) ?_)
        rw [em]
        exact dp_ints [y - x, y]
      · have hx : x = 0 := by have : ¬ 0 < x := fun h => by rw [decide_eq_true h] at hc; cases hc
                              omega
        have em : mirI x y = x := by unfold mirI; rw [if_pos hx, hx]
        refine ⟨_, rfl, z _ _ (Same.refl _) (.tup (SqT.of h16) ?_)⟩
        rw [em]
        exact dp_ints [x, y]
      have bs13 : StepAt H13 bk (mirI x y) y := ⟨s17 _ _ bs.1, bs.2⟩
      refine ⟨.tuple ([mirI x y, y].map PyData.int), .tuple ([mirI x y, y].map PyData.int), .tup (SqT.of bs13.1) (dp_ints [mirI x y, y]), dv, sm1.shaped (by decide), sm1.shaped (by decide), _, rfl, ?_⟩
      rw [SeqAt.eqv_refl _ sm1.cl]
      refine iteF ?_
      -- mirrored(step=back) != x
      refine ⟨_, rfl, bk, mirI x y, y, rfl, bs13, fun b2 H14 s18 st2 => ?_⟩
      rw [mir_mir st] at st2
      have h14 := s18 _ _ (s17 _ _ h16)
      refine ⟨_, rfl, .tuple ([x, y].map PyData.int), .tuple ([x, y].map PyData.int), .tup (SqT.of st2.1) (dp_ints [x, y]), .tup (SqT.of h14) (dp_ints [x, y]), sm2.shaped (by decide), sm2.shaped (by decide), _, rfl, ?_⟩
      rw [SeqAt.eqv_refl _ sm2.cl]
      refine iteF ?_
      -- order(back, many) != due[:1] + due[:0:-1]
      refine ⟨_, rfl, _, rfl, bk, mirI x y, y, (1 + d0), rfl, ⟨s18 _ _ bs13.1, bs.2⟩, n1, n2, fun r3 H15 s19 f19 o3 => ?_⟩
      have od3 := ((((od2.same s16).same s17).same s18).same s19)
      obtain ⟨rs, g1, g2⟩ := od3
      refine ⟨_, rfl, 1, rfl, slA_of (SqT.of g1) fun a1 H16 s20 ha1 => ?_⟩
      rw [cut_one] at ha1
      refine ⟨_, rfl, dd, rs.map V.ref, rfl, SqT.of (s20 _ _ g1), fun a2 ha2 => ?_⟩
      have s21 := same_put (o := HO.tup ((rs.map V.ref).drop 1).reverse) ha2
      have lrs : rs.length ≤ 60 := by
        rw [g2.len, ← hG]
        have := smG.dp
        unfold ord
        rw [List.length_map]
        refine Nat.le_trans ?_ (show (1 + d0).toNat ≤ 60 by omega)
        have z := sortU_len ((iota (1 + d0).toNat).map fun k => (x * k).fmod y)
        rw [List.length_map, iota_len] at z
        exact z
      refine catA_of (sqT_same s21 ha1) (SqT.of upd_same) ?_ fun c3 H17 s22 hc3 => ?_
      · rw [List.length_take, List.length_reverse, List.length_drop, List.length_map]
        exact Nat.le_trans (show min 1 rs.length + (rs.length - 1) ≤ 1000 by omega) (by decide)
      have eM := ord_mir (n := (1 + d0).toNat) st (by omega)
      rw [hG] at eM
      have s23 := (s20.trans s21).trans s22
      have o4 := (o3.same s23).dp (K := K)
      rw [eM] at o4
      have smM : Sm 7000000 2 (ordD (G.take 1 ++ (G.drop 1).reverse)) := by rw [← eM]; exact ord_sm (by omega)
      have g3 := g2.mono fun r' g e => s23 _ _ e
      have g4 := Tups.app (g3.one.2.rev) g3.one.1
      refine ⟨ordD (G.take 1 ++ (G.drop 1).reverse), ordD (G.take 1 ++ (G.drop 1).reverse), o4, .tup (xs := (rs.take 1 ++ (rs.drop 1).reverse).map V.ref) ?_ g4.dps, smM.shaped (by decide), smM.shaped (by decide), _, rfl, ?_⟩
      · rw [List.map_append, List.map_take, List.map_reverse, List.map_drop]
        exact hc3
      rw [SeqAt.eqv_refl _ smM.cl]
      refine iteF ?_
      have S10 := (S8.trans S9).trans (Sipped.ofSame S9.1 (s10.trans s11))
      exact ⟨_, _, _, _, _, _, rfl, S10.trans (Sipped.ofSame S10.1 (((((SX.trans s16).trans s17).trans s18).trans s19).trans s23))⟩
    · rintro σ H1 ⟨a, b, c, d, e, z, rfl, S1⟩
      exact q _ S1
end
end My
set_option Elab.async false
set_option linter.all false
set_option maxRecDepth 100000
set_option maxHeartbeats 8000000
namespace My
open PySem PySem.Spec PyProof.Rows L2 Gn Mt
abbrev sLaw : Stmt := top 30
theorem scLaw : FnScope ["_law_script", "_law_turn"] ["_law_script"] (defScope sLaw) := ⟨rfl, rfl, rfl, by decide +kernel, rfl, by decide +kernel, by decide +kernel⟩
def spLaw (K : PySem.W.Frag) : Sp := fun vs H Q _ => ∃ (a : Addr) (ns : List Int), vs = [.ref a] ∧ SqL K H a (ns.map V.int) ∧ ns.length ≤ 63 ∧ ∀ H', Q (.bl true) H'
theorem o1 : ord (fun k => ((3 : Int) * k).fmod 8) (iota (4 : Int).toNat) = [[0], [3], [1], [2]] := by decide
theorem o2 : ord (fun k => ((1 : Int) * k).fmod 3) (iota (5 : Int).toNat) = [[0, 3], [1, 4], [2]] := by decide
theorem o3 : ord (fun k => ((0 : Int) * k).fmod 1) (iota (2 : Int).toNat) = [[0, 1]] := by decide
theorem st38 : IsStep 3 8 := ⟨by decide, by decide, by decide⟩
theorem st13 : IsStep 1 3 := ⟨by decide, by decide, by decide⟩
theorem st01 : IsStep 0 1 := ⟨by decide, by decide, by decide⟩
def D0 : PyData := .list [.tuple [.int 1, .int 8], ordD [[0], [3], [1], [2]], ordD [[0, 3], [1, 4], [2]], .tuple [.int 0, .int 1], ordD [[0, 1]]]
theorem ordAt_new {H : Hp} {rs : List Addr} {gs : List (List Int)} {p : Addr} (T : Tups H rs gs) (hp : H p = none) : OrdAt (upd H p (.tup (rs.map V.ref))) p gs :=
  ⟨rs, upd_same, T.mono fun r g e => same_put hp _ _ e⟩
structure Bw (mg : Str → Option Value) : Prop where
  all : mg "all" = none
  max : mg "max" = none
  min : mg "min" = none
section
variable {P : Program} {w : World} {K : PySem.W.Frag} {mg : Str → Option Value} {base : Heap}
theorem ok_law {f fR : Addr} {fd fdR : FuncData} (F : Fun K "law" "law" sLaw f fd) (M : All K mg) (W : Bw mg) (R : Df K mg "_law_right" sRight ["_law_tin_here"] fR fdR) : FnG P w K mg base CX0 7 f fd ["_law_script"] (spLaw K) := by
  have GP : FnOk P w K mg base CX0 5 M.fp.1 M.fp.2 ["step", "mark"] spPlace := ok_place M.dp.F M.bo.c M.mc M.di M.dr M.ds M.dc M.dn M.dl M.dN
  have GO : FnOk P w K mg base CX0 5 M.fo.1 M.fo.2 ["step", "count"] spOrder := ok_order M.dO.F M.bo M.di M.dr M.ds M.dc M.dn M.dN
  have GM : FnOk P w K mg base CX0 5 M.fm.1 M.fm.2 ["step"] spMirr := ok_mirr M.dm.F M.bo.c M.di M.dr M.ds M.dc
  have LT : FnOk P w K mg base CX0 1 M.gt.1 M.gt.2 ["_law_script", "_law_turn"] (spTin K) := ok_tin M.lt.F M.bi.b
  have GR : FnG P w K mg base CX0 6 fR fdR ["_law_tin_here"] spRight := ok_right R.F M
  refine funG0 F scLaw (fun vs H Q E h => ?_) (fun cdv A outer s H vs Q E hg hr h => ?_)
  · obtain ⟨a, ns, rfl, _⟩ := h
    rfl
  · obtain ⟨a, ns, rfl, hS, hlen, q⟩ := h
    have hr1 : Room 1 _ := hr.mono (by decide)
    have hr5 : Room 5 _ := hr.mono (by decide)
    have hu := hr.units
    refine ⟨_, pss_cons (ps_if (pt_cmpR (op_neD hu)
        (pe_lst (pa_cons (pe_call GP hr5 (by rfl) M.dp.g M.dp.F.kp M.dp.b .nil pass0 (pa_cons (pe_tup (pa_cons pe_int (pa_cons pe_int pa_nil))) (pa_cons pe_int pa_nil)))
          (pa_cons (pe_call GO hr5 (by rfl) M.dO.g M.dO.F.kp M.dO.b .nil pass0 (pa_cons (pe_tup (pa_cons pe_int (pa_cons pe_int pa_nil))) (pa_cons pe_int pa_nil)))
          (pa_cons (pe_call GO hr5 (by rfl) M.dO.g M.dO.F.kp M.dO.b .nil pass0 (pa_cons (pe_tup (pa_cons pe_int (pa_cons pe_int pa_nil))) (pa_cons pe_int pa_nil)))
          (pa_cons (pe_call GM hr5 (by rfl) M.dm.g M.dm.F.kp M.dm.b .nil pass0 (pa_cons (pe_tup (pa_cons pe_int (pa_cons pe_int pa_nil))) pa_nil))
          (pa_cons (pe_call GO hr5 (by rfl) M.dO.g M.dO.F.kp M.dO.b .nil pass0 (pa_cons (pe_tup (pa_cons pe_int (pa_cons pe_int pa_nil))) (pa_cons pe_int pa_nil))) pa_nil))))))
        (pe_lst (pa_cons (pe_tup (pa_cons pe_int (pa_cons pe_int pa_nil)))
          (pa_cons (pe_tup (pa_cons (pe_tup (pa_cons pe_int pa_nil)) (pa_cons (pe_tup (pa_cons pe_int pa_nil)) (pa_cons (pe_tup (pa_cons pe_int pa_nil)) (pa_cons (pe_tup (pa_cons pe_int pa_nil)) pa_nil)))))
          (pa_cons (pe_tup (pa_cons (pe_tup (pa_cons pe_int (pa_cons pe_int pa_nil))) (pa_cons (pe_tup (pa_cons pe_int (pa_cons pe_int pa_nil))) (pa_cons (pe_tup (pa_cons pe_int pa_nil)) pa_nil))))
          (pa_cons (pe_tup (pa_cons pe_int (pa_cons pe_int pa_nil)))
          (pa_cons (pe_tup (pa_cons (pe_tup (pa_cons pe_int (pa_cons pe_int pa_nil))) pa_nil)) pa_nil)))))) (nomark _)) (pss_one (ps_ret pe_bl)) pss_nil)
      (pss_one (ps_ret (pe_callB (cr_all rfl) (by rfl) W.all (by decide +kernel) (pa_cons
        (pe_lc (te := tCall spRight [] E0 (tCons (tCall (spTin K) [] E0 (tCons (tVar 0) (tCons (tVar 1) tNil))) tNil)) (own := [("_law_turn", 1)]) (g := gName 1) (tt := tYes) rfl scLaw.nd
          (pi_range1 rfl M.bo.range (pa_cons (pe_callB (call_max2 rfl) (by rfl) W.max (by decide +kernel) (pa_cons pe_int (pa_cons (pe_callB (call_min2 rfl) (by rfl) W.min (by decide +kernel) (pa_cons (pe_callB call_len_seq (by rfl) M.bi.b.len PySem.boot_len (pa_cons (pv 0) pa_nil)) (pa_cons pe_int pa_nil))) pa_nil))) pa_nil))
          (blkOk_by (N := ["_law_script", "_law_turn"]) (sc := defScope sLaw) (by decide +kernel)) (fun _ _ _ _ _ => pg_name (i := 1) scLaw.nd rfl (.inl rfl)) (fun _ _ _ _ _ => pts_nil)
          (fun _ _ _ _ _ => pe_callG GR hg hr (by rfl) R.g R.F.kp R.b .nil pass0 (pa_cons (pe_call LT hr1 (by rfl) M.lt.g M.lt.F.kp M.lt.b .nil pass0 (pa_cons (pv 0) (pa_cons (pv 1) pa_nil))) pa_nil))) pa_nil)))), ?_⟩
    -- place((3, 8), 3)
    refine ⟨(by show 2 ≤ sizeLine; decide), fun t1 ht1 => ⟨t1, 3, 8, 3, rfl, ⟨upd_same, st38⟩, by decide, by decide, by decide, fun r1 hr1' => ?_⟩⟩
    have a1 := same_put (o := HO.tup [.int 3, .int 8]) ht1
    have e1 : upd (upd H t1 (.tup [.int 3, .int 8])) r1 (.tup [.int (((3 * 3 : Int).fmod 8) / ((Nat.gcd ((3 * 3 : Int).fmod 8).natAbs (8 : Int).natAbs : Nat) : Int)), .int (8 / ((Nat.gcd ((3 * 3 : Int).fmod 8).natAbs (8 : Int).natAbs : Nat) : Int))]) r1 = some (.tup [.int 1, .int 8]) := by rw [upd_same]; rfl
    have a2 := same_put (o := HO.tup [.int (((3 * 3 : Int).fmod 8) / ((Nat.gcd ((3 * 3 : Int).fmod 8).natAbs (8 : Int).natAbs : Nat) : Int)), .int (8 / ((Nat.gcd ((3 * 3 : Int).fmod 8).natAbs (8 : Int).natAbs : Nat) : Int))]) hr1'
    -- order((3, 8), 4)
    refine ⟨(by show 2 ≤ sizeLine; decide), fun t2 ht2 => ⟨t2, 3, 8, 4, rfl, ⟨upd_same, st38⟩, by decide, by decide, fun r2 H2 a4 f2 b2 => ?_⟩⟩
    have a3 := same_put (o := HO.tup [.int 3, .int 8]) ht2
    rw [o1] at b2
    refine ⟨(by show 2 ≤ sizeLine; decide), fun t3 ht3 => ⟨t3, 1, 3, 5, rfl, ⟨upd_same, st13⟩, by decide, by decide, fun r3 H3 a6 f3 b3 => ?_⟩⟩
    have a5 := same_put (o := HO.tup [.int 1, .int 3]) ht3
    rw [o2] at b3
    refine ⟨(by show 2 ≤ sizeLine; decide), fun t4 ht4 => ⟨t4, 0, 1, rfl, ⟨upd_same, st01⟩, fun r4 H4 a8 b4 => ?_⟩⟩
    have a7 := same_put (o := HO.tup [.int 0, .int 1]) ht4
    refine ⟨(by show 2 ≤ sizeLine; decide), fun t5 ht5 => ⟨t5, 0, 1, 2, rfl, ⟨upd_same, st01⟩, by decide, by decide, fun r5 H5 a10 f5 b5 => ?_⟩⟩
    have a9 := same_put (o := HO.tup [.int 0, .int 1]) ht5
    rw [o3] at b5
    refine ⟨(by show 5 ≤ sizeLine; decide), fun l1 hl1 => ?_⟩
    have a11 := same_put (o := HO.lst [.ref r1, .ref r2, .ref r3, .ref r4, .ref r5]) hl1
    have dl : Dp K (upd H5 l1 (.lst [.ref r1, .ref r2, .ref r3, .ref r4, .ref r5])) (.ref l1) D0 := by
      have z2 := ((((a3.trans a4).trans a5).trans a6).trans a7).trans (((a8.trans a9).trans a10).trans a11)
      refine .lst (SqL.of upd_same) (.cons (.tup (SqT.of (z2 _ _ e1)) (dp_ints [1, 8])) (.cons ?_ (.cons ?_ (.cons ?_ (.cons ?_ .nil)))))
      · exact (b2.same ((((((a5.trans a6).trans a7).trans a8).trans a9).trans a10).trans a11)).dp
      · exact (b3.same ((((a7.trans a8).trans a9).trans a10).trans a11)).dp
      · exact .tup (SqT.of (((a9.trans a10).trans a11) _ _ b4.1)) (dp_ints [0, 1])
      · exact (b5.same a11).dp
    have aL := (((((((((a1.trans a2).trans a3).trans a4).trans a5).trans a6).trans a7).trans a8).trans a9).trans a10).trans a11
    generalize upd H5 l1 (.lst [.ref r1, .ref r2, .ref r3, .ref r4, .ref r5]) = H6 at dl aL ⊢
    -- the written list
    refine ⟨(by show 2 ≤ sizeLine; decide), fun u1 hu1 => ?_⟩
    have c1 := same_put (o := HO.tup [.int 1, .int 8]) hu1
    refine ⟨(by show 1 ≤ sizeLine; decide), fun u2 hu2 => ⟨(by show 1 ≤ sizeLine; decide), fun u3 hu3 => ⟨(by show 1 ≤ sizeLine; decide), fun u4 hu4 => ⟨(by show 1 ≤ sizeLine; decide), fun u5 hu5 => ⟨(by show 4 ≤ sizeLine; decide), fun u6 hu6 => ?_⟩⟩⟩⟩⟩
    have c2 := same_put (o := HO.tup [.int 0]) hu2
    have c3 := same_put (o := HO.tup [.int 3]) hu3
    have c4 := same_put (o := HO.tup [.int 1]) hu4
    have c5 := same_put (o := HO.tup [.int 2]) hu5
    have c6 := same_put (o := HO.tup [.ref u2, .ref u3, .ref u4, .ref u5]) hu6
    have w1 := ordAt_new (rs := [u2, u3, u4, u5]) (gs := [[0], [3], [1], [2]]) ⟨c5 _ _ (c4 _ _ (c3 _ _ upd_same)), c5 _ _ (c4 _ _ upd_same), c5 _ _ upd_same, upd_same, trivial⟩ hu6
    refine ⟨(by show 2 ≤ sizeLine; decide), fun u7 hu7 => ⟨(by show 2 ≤ sizeLine; decide), fun u8 hu8 => ⟨(by show 1 ≤ sizeLine; decide), fun u9 hu9 => ⟨(by show 3 ≤ sizeLine; decide), fun u10 hu10 => ?_⟩⟩⟩⟩
    have c7 := same_put (o := HO.tup [.int 0, .int 3]) hu7
    have c8 := same_put (o := HO.tup [.int 1, .int 4]) hu8
    have c9 := same_put (o := HO.tup [.int 2]) hu9
    have c10 := same_put (o := HO.tup [.ref u7, .ref u8, .ref u9]) hu10
    have w2 := ordAt_new (rs := [u7, u8, u9]) (gs := [[0, 3], [1, 4], [2]]) ⟨c9 _ _ (c8 _ _ upd_same), c9 _ _ upd_same, upd_same, trivial⟩ hu10
    refine ⟨(by show 2 ≤ sizeLine; decide), fun u11 hu11 => ⟨(by show 2 ≤ sizeLine; decide), fun u12 hu12 => ⟨(by show 1 ≤ sizeLine; decide), fun u13 hu13 => ⟨(by show 5 ≤ sizeLine; decide), fun l2 hl2 => ?_⟩⟩⟩⟩
    have c11 := same_put (o := HO.tup [.int 0, .int 1]) hu11
    have c12 := same_put (o := HO.tup [.int 0, .int 1]) hu12
    have c13 := same_put (o := HO.tup [.ref u12]) hu13
    have c14 := same_put (o := HO.lst [.ref u1, .ref u6, .ref u10, .ref u11, .ref u13]) hl2
    have w3 := ordAt_new (rs := [u12]) (gs := [[0, 1]]) ⟨upd_same, trivial⟩ hu13
    have cL := ((((((((((((c1.trans c2).trans c3).trans c4).trans c5).trans c6).trans c7).trans c8).trans c9).trans c10).trans c11).trans c12).trans c13).trans c14
    have x1 := ((((((((((((c2.trans c3).trans c4).trans c5).trans c6).trans c7).trans c8).trans c9).trans c10).trans c11).trans c12).trans c13).trans c14) _ _ (upd_same (H := H6) (a := u1) (o := HO.tup [.int 1, .int 8]))
    have x4 := ((c12.trans c13).trans c14) _ _ upd_same
    have dr : Dp K _ (.ref l2) D0 := .lst (SqL.of upd_same) (.cons (.tup (SqT.of x1) (dp_ints [1, 8])) (.cons (w1.same ((((((((c7.trans c8).trans c9).trans c10).trans c11).trans c12).trans c13).trans c14))).dp (.cons (w2.same (((c11.trans c12).trans c13).trans c14)).dp (.cons (.tup (SqT.of x4) (dp_ints [0, 1])) (.cons (w3.same c14).dp .nil)))))
    refine ⟨D0, D0, dp_same cL _ _ dl, dr, by decide, by decide, _, rfl, ?_⟩
    rw [SeqAt.eqv_refl D0 (by decide)]
    refine iteF ?_
    have aZ := aL.trans cL
    have hS2 := aZ.seq hS
    refine ⟨_, rfl, a, _, rfl, .inl hS2, _, _, rfl, _, _, rfl, ?_⟩
    have hN : ∀ L : Int, 0 ≤ (if (if (6 : Int) < L then 6 else L) > 2 then (if (6 : Int) < L then 6 else L) else 2) ∧ (if (if (6 : Int) < L then 6 else L) > 2 then (if (6 : Int) < L then 6 else L) else 2) ≤ 6 := fun L => by
      split <;> split <;> omega
    have hN' := hN (((ns.map V.int).length : Nat) : Int)
    generalize (if (if (6 : Int) < (((ns.map V.int).length : Nat) : Int) then 6 else (((ns.map V.int).length : Nat) : Int)) > 2 then (if (6 : Int) < (((ns.map V.int).length : Nat) : Int) then 6 else (((ns.map V.int).length : Nat) : Int)) else 2) = N at hN' ⊢
    refine ⟨N, rfl, by omega, by omega, fun D hD => ?_⟩
    have s0 := same_put (o := HO.lst []) hD
    refine lc_range (lo := 0) (n := N.toNat) (fun i H2 => H2 D = some (.lst ((List.replicate i true).map V.bl)) ∧ Same _ H2) ⟨upd_same, s0⟩ ?_ ?_
    · rintro i H2 hi ⟨g1, g2⟩
      rw [Int.zero_add]
      refine ⟨rfl, _, rfl, _, rfl, a, ns, _, rfl, g2.seq hS2, by omega, by omega, fun p H3 s3 hp T => ⟨p, rfl, T, fun H4 s4 => ?_⟩⟩
      have nDp : D ≠ p := ne_of_none g1 hp
      refine ⟨_, s4.2 _ _ (s3 _ _ g1) nDp, ?_, ?_, fun b z e => ?_⟩
      · rw [List.length_map, List.length_replicate]
        exact small1000 (by omega)
      · rw [upd_same, List.replicate_succ', List.map_append]; rfl
      · rw [upd_ne (ne_of_none e hD)]
        have z2 := g2 _ _ e
        exact s4.2 _ _ (s3 _ _ z2) (ne_of_none z2 hp)
    · rintro H2 ⟨g1, g2⟩
      refine ⟨D, List.replicate N.toNat true, rfl, SqL.of g1, ?_⟩
      have e : (List.replicate N.toNat true).all id = true := by
        rw [List.all_eq_true]
        intro b hb
        exact (List.mem_replicate.mp hb).2
      rw [e]
      exact q _
end
end My
set_option Elab.async false
set_option linter.all false
set_option maxRecDepth 100000
set_option maxHeartbeats 8000000
namespace My
open PySem PySem.Spec PyProof.Rows L2 Gn Mt
theorem all_mk {l : PySem.W.OpenLaw} {w : World} {K : PySem.W.Frag} {h : Heap} {mg : Str → Option Value} {fa : Addr} (X : K.In h) (G : h.Ns mainGlobals mg) (hfa : mg "law" = some (.ref fa))
    {f0 : Addr} {od0 an0 : Option Addr} {sl0 : Array (Option Value)} {oc0 kV0 dc0 pm0 cd0 ct0 : Value} {f1 : Addr} {od1 an1 : Option Addr} {sl1 : Array (Option Value)} {oc1 kV1 dc1 pm1 cd1 ct1 : Value} {f2 : Addr} {od2 an2 : Option Addr} {sl2 : Array (Option Value)} {oc2 kV2 dc2 pm2 cd2 ct2 : Value} {f3 : Addr} {od3 an3 : Option Addr} {sl3 : Array (Option Value)} {oc3 kV3 dc3 pm3 cd3 ct3 : Value} {f4 : Addr} {od4 an4 : Option Addr} {sl4 : Array (Option Value)} {oc4 kV4 dc4 pm4 cd4 ct4 : Value} {f5 : Addr} {od5 an5 : Option Addr} {sl5 : Array (Option Value)} {oc5 kV5 dc5 pm5 cd5 ct5 : Value} {f6 : Addr} {od6 an6 : Option Addr} {sl6 : Array (Option Value)} {oc6 kV6 dc6 pm6 cd6 ct6 : Value} {f7 : Addr} {od7 an7 : Option Addr} {sl7 : Array (Option Value)} {oc7 kV7 dc7 pm7 cd7 ct7 : Value} {f8 : Addr} {od8 an8 : Option Addr} {sl8 : Array (Option Value)} {oc8 kV8 dc8 pm8 cd8 ct8 : Value} {f9 : Addr} {od9 an9 : Option Addr} {sl9 : Array (Option Value)} {oc9 kV9 dc9 pm9 cd9 ct9 : Value} {f10 : Addr} {od10 an10 : Option Addr} {sl10 : Array (Option Value)} {oc10 kV10 dc10 pm10 cd10 ct10 : Value} {f11 : Addr} {od11 an11 : Option Addr} {sl11 : Array (Option Value)} {oc11 kV11 dc11 pm11 cd11 ct11 : Value} {f12 : Addr} {od12 an12 : Option Addr} {sl12 : Array (Option Value)} {oc12 kV12 dc12 pm12 cd12 ct12 : Value} {f13 : Addr} {od13 an13 : Option Addr} {sl13 : Array (Option Value)} {oc13 kV13 dc13 pm13 cd13 ct13 : Value} {f14 : Addr} {od14 an14 : Option Addr} {sl14 : Array (Option Value)} {oc14 kV14 dc14 pm14 cd14 ct14 : Value} {f15 : Addr} {od15 an15 : Option Addr} {sl15 : Array (Option Value)} {oc15 kV15 dc15 pm15 cd15 ct15 : Value} {f16 : Addr} {od16 an16 : Option Addr} {sl16 : Array (Option Value)} {oc16 kV16 dc16 pm16 cd16 ct16 : Value} {f17 : Addr} {od17 an17 : Option Addr} {sl17 : Array (Option Value)} {oc17 kV17 dc17 pm17 cd17 ct17 : Value} {f18 : Addr} {od18 an18 : Option Addr} {sl18 : Array (Option Value)} {oc18 kV18 dc18 pm18 cd18 ct18 : Value} {f19 : Addr} {od19 an19 : Option Addr} {sl19 : Array (Option Value)} {oc19 kV19 dc19 pm19 cd19 ct19 : Value} {f20 : Addr} {od20 an20 : Option Addr} {sl20 : Array (Option Value)} {oc20 kV20 dc20 pm20 cd20 ct20 : Value} {tk1 : Tok} {tk2 : Tok}
    (a0 : PySem.W.nsIn K mainGlobals "is_integer" = some (some (.ref f0))) (l0 : K.lookup f0 = some ⟨oc0, od0, .func (PySem.W.fnOf "is_integer" "is_integer" (defArgs sIsInt) (defBody sIsInt) (defScope sIsInt) .none kV0 dc0 pm0 an0 cd0 ct0), sl0⟩) (c0 : PySem.W.codeIn K cd0 "is_integer" = true) (k0 : PySem.W.keepIn K (.ref f0) = true)
    (a1 : PySem.W.nsIn K mainGlobals "is_fraction" = some (some (.ref f1))) (l1 : K.lookup f1 = some ⟨oc1, od1, .func (PySem.W.fnOf "is_fraction" "is_fraction" (defArgs sIsFr) (defBody sIsFr) (defScope sIsFr) .none kV1 dc1 pm1 an1 cd1 ct1), sl1⟩) (c1 : PySem.W.codeIn K cd1 "is_fraction" = true) (k1 : PySem.W.keepIn K (.ref f1) = true)
    (a2 : PySem.W.nsIn K mainGlobals "is_step" = some (some (.ref f2))) (l2 : K.lookup f2 = some ⟨oc2, od2, .func (PySem.W.fnOf "is_step" "is_step" (defArgs sIsStep) (defBody sIsStep) (defScope sIsStep) .none kV2 dc2 pm2 an2 cd2 ct2), sl2⟩) (c2 : PySem.W.codeIn K cd2 "is_step" = true) (k2 : PySem.W.keepIn K (.ref f2) = true)
    (a3 : PySem.W.nsIn K mainGlobals "check_step" = some (some (.ref f3))) (l3 : K.lookup f3 = some ⟨oc3, od3, .func (PySem.W.fnOf "check_step" "check_step" (defArgs sChStep) (defBody sChStep) (defScope sChStep) .none kV3 dc3 pm3 an3 cd3 ct3), sl3⟩) (c3 : PySem.W.codeIn K cd3 "check_step" = true) (k3 : PySem.W.keepIn K (.ref f3) = true)
    (a4 : PySem.W.nsIn K mainGlobals "is_number" = some (some (.ref f4))) (l4 : K.lookup f4 = some ⟨oc4, od4, .func (PySem.W.fnOf "is_number" "is_number" (defArgs sIsNum) (defBody sIsNum) (defScope sIsNum) .none kV4 dc4 pm4 an4 cd4 ct4), sl4⟩) (c4 : PySem.W.codeIn K cd4 "is_number" = true) (k4 : PySem.W.keepIn K (.ref f4) = true)
    (a5 : PySem.W.nsIn K mainGlobals "check_number" = some (some (.ref f5))) (l5 : K.lookup f5 = some ⟨oc5, od5, .func (PySem.W.fnOf "check_number" "check_number" (defArgs sChNum) (defBody sChNum) (defScope sChNum) .none kV5 dc5 pm5 an5 cd5 ct5), sl5⟩) (c5 : PySem.W.codeIn K cd5 "check_number" = true) (k5 : PySem.W.keepIn K (.ref f5) = true)
    (a6 : PySem.W.nsIn K mainGlobals "place" = some (some (.ref f6))) (l6 : K.lookup f6 = some ⟨oc6, od6, .func (PySem.W.fnOf "place" "place" (defArgs sPlace) (defBody sPlace) (defScope sPlace) .none kV6 dc6 pm6 an6 cd6 ct6), sl6⟩) (c6 : PySem.W.codeIn K cd6 "place" = true) (k6 : PySem.W.keepIn K (.ref f6) = true)
    (a7 : PySem.W.nsIn K mainGlobals "order" = some (some (.ref f7))) (l7 : K.lookup f7 = some ⟨oc7, od7, .func (PySem.W.fnOf "order" "order" (defArgs sOrder) (defBody sOrder) (defScope sOrder) .none kV7 dc7 pm7 an7 cd7 ct7), sl7⟩) (c7 : PySem.W.codeIn K cd7 "order" = true) (k7 : PySem.W.keepIn K (.ref f7) = true)
    (a8 : PySem.W.nsIn K mainGlobals "mirrored" = some (some (.ref f8))) (l8 : K.lookup f8 = some ⟨oc8, od8, .func (PySem.W.fnOf "mirrored" "mirrored" (defArgs sMirr) (defBody sMirr) (defScope sMirr) .none kV8 dc8 pm8 an8 cd8 ct8), sl8⟩) (c8 : PySem.W.codeIn K cd8 "mirrored" = true) (k8 : PySem.W.keepIn K (.ref f8) = true)
    (a9 : PySem.W.nsIn K mainGlobals "lowest" = some (some (.ref f9))) (l9 : K.lookup f9 = some ⟨oc9, od9, .func (PySem.W.fnOf "lowest" "lowest" (defArgs sLowest) (defBody sLowest) (defScope sLowest) .none kV9 dc9 pm9 an9 cd9 ct9), sl9⟩) (c9 : PySem.W.codeIn K cd9 "lowest" = true) (k9 : PySem.W.keepIn K (.ref f9) = true)
    (a10 : PySem.W.nsIn K mainGlobals "_law_tin" = some (some (.ref f10))) (l10 : K.lookup f10 = some ⟨oc10, od10, .func (PySem.W.fnOf "_law_tin" "_law_tin" (defArgs sTin) (defBody sTin) (defScope sTin) .none kV10 dc10 pm10 an10 cd10 ct10), sl10⟩) (c10 : PySem.W.codeIn K cd10 "_law_tin" = true) (k10 : PySem.W.keepIn K (.ref f10) = true)
    (a11 : PySem.W.nsIn K mainGlobals "_law_sip" = some (some (.ref f11))) (l11 : K.lookup f11 = some ⟨oc11, od11, .func (PySem.W.fnOf "_law_sip" "_law_sip" (defArgs sSip) (defBody sSip) (defScope sSip) .none kV11 dc11 pm11 an11 cd11 ct11), sl11⟩) (c11 : PySem.W.codeIn K cd11 "_law_sip" = true) (k11 : PySem.W.keepIn K (.ref f11) = true)
    (a12 : PySem.W.nsIn K mainGlobals "_law_pick" = some (some (.ref f12))) (l12 : K.lookup f12 = some ⟨oc12, od12, .func (PySem.W.fnOf "_law_pick" "_law_pick" (defArgs sPick) (defBody sPick) (defScope sPick) .none kV12 dc12 pm12 an12 cd12 ct12), sl12⟩) (c12 : PySem.W.codeIn K cd12 "_law_pick" = true) (k12 : PySem.W.keepIn K (.ref f12) = true)
    (a13 : PySem.W.nsIn K mainGlobals "_law_far" = some (some (.ref f13))) (l13 : K.lookup f13 = some ⟨oc13, od13, .func (PySem.W.fnOf "_law_far" "_law_far" (defArgs sFar) (defBody sFar) (defScope sFar) .none kV13 dc13 pm13 an13 cd13 ct13), sl13⟩) (c13 : PySem.W.codeIn K cd13 "_law_far" = true) (k13 : PySem.W.keepIn K (.ref f13) = true)
    (a14 : PySem.W.nsIn K mainGlobals "_law_gcd" = some (some (.ref f14))) (l14 : K.lookup f14 = some ⟨oc14, od14, .func (PySem.W.fnOf "_law_gcd" "_law_gcd" (defArgs sGcd) (defBody sGcd) (defScope sGcd) .none kV14 dc14 pm14 an14 cd14 ct14), sl14⟩) (c14 : PySem.W.codeIn K cd14 "_law_gcd" = true) (k14 : PySem.W.keepIn K (.ref f14) = true)
    (a15 : PySem.W.nsIn K mainGlobals "_law_low" = some (some (.ref f15))) (l15 : K.lookup f15 = some ⟨oc15, od15, .func (PySem.W.fnOf "_law_low" "_law_low" (defArgs sLow) (defBody sLow) (defScope sLow) .none kV15 dc15 pm15 an15 cd15 ct15), sl15⟩) (c15 : PySem.W.codeIn K cd15 "_law_low" = true) (k15 : PySem.W.keepIn K (.ref f15) = true)
    (a16 : PySem.W.nsIn K mainGlobals "_law_step" = some (some (.ref f16))) (l16 : K.lookup f16 = some ⟨oc16, od16, .func (PySem.W.fnOf "_law_step" "_law_step" (defArgs sStep) (defBody sStep) (defScope sStep) .none kV16 dc16 pm16 an16 cd16 ct16), sl16⟩) (c16 : PySem.W.codeIn K cd16 "_law_step" = true) (k16 : PySem.W.keepIn K (.ref f16) = true)
    (a17 : PySem.W.nsIn K mainGlobals "_law_spot" = some (some (.ref f17))) (l17 : K.lookup f17 = some ⟨oc17, od17, .func (PySem.W.fnOf "_law_spot" "_law_spot" (defArgs sSpot) (defBody sSpot) (defScope sSpot) .none kV17 dc17 pm17 an17 cd17 ct17), sl17⟩) (c17 : PySem.W.codeIn K cd17 "_law_spot" = true) (k17 : PySem.W.keepIn K (.ref f17) = true)
    (a18 : PySem.W.nsIn K mainGlobals "_law_line" = some (some (.ref f18))) (l18 : K.lookup f18 = some ⟨oc18, od18, .func (PySem.W.fnOf "_law_line" "_law_line" (defArgs sLine) (defBody sLine) (defScope sLine) .none kV18 dc18 pm18 an18 cd18 ct18), sl18⟩) (c18 : PySem.W.codeIn K cd18 "_law_line" = true) (k18 : PySem.W.keepIn K (.ref f18) = true)
    (a19 : PySem.W.nsIn K mainGlobals "_law_right" = some (some (.ref f19))) (l19 : K.lookup f19 = some ⟨oc19, od19, .func (PySem.W.fnOf "_law_right" "_law_right" (defArgs sRight) (defBody sRight) (defScope sRight) .none kV19 dc19 pm19 an19 cd19 ct19), sl19⟩) (c19 : PySem.W.codeIn K cd19 "_law_right" = true) (k19 : PySem.W.keepIn K (.ref f19) = true)
    (a20 : PySem.W.nsIn K mainGlobals "law" = some (some (.ref f20))) (l20 : K.lookup f20 = some ⟨oc20, od20, .func (PySem.W.fnOf "law" "law" (defArgs sLaw) (defBody sLaw) (defScope sLaw) .none kV20 dc20 pm20 an20 cd20 ct20), sl20⟩) (c20 : PySem.W.codeIn K cd20 "law" = true) (k20 : PySem.W.keepIn K (.ref f20) = true)
    (z0 : PySem.W.nsIn K mainGlobals "len" = some none)
    (z1 : PySem.W.nsIn K mainGlobals "int" = some none)
    (z2 : PySem.W.nsIn K mainGlobals "abs" = some none)
    (z3 : PySem.W.nsIn K mainGlobals "sorted" = some none)
    (z4 : PySem.W.nsIn K mainGlobals "set" = some none)
    (z5 : PySem.W.nsIn K mainGlobals "tuple" = some none)
    (z6 : PySem.W.nsIn K mainGlobals "isinstance" = some none)
    (z7 : PySem.W.nsIn K mainGlobals "bool" = some none)
    (z8 : PySem.W.nsIn K mainGlobals "range" = some none)
    (z9 : PySem.W.nsIn K mainGlobals "repr" = some none)
    (z10 : PySem.W.nsIn K mainGlobals "list" = some none)
    (z11 : PySem.W.nsIn K mainGlobals "all" = some none)
    (z12 : PySem.W.nsIn K mainGlobals "max" = some none)
    (z13 : PySem.W.nsIn K mainGlobals "min" = some none)
    (m0 : PySem.W.nsIn K mainGlobals "gcd" = some (some (.builtin "math.gcd")))
    (m1 : PySem.W.nsIn K mainGlobals "MOST_COUNT" = some (some (.int (10 ^ 30) tk1)))
    (m2 : PySem.W.nsIn K mainGlobals "_MOST_ORDERED" = some (some (.int 60 tk2)))
    : ∃ fd : FuncData, (∀ (s : Shared) (v : Value), BindsTo s fd ⟨[v], []⟩ [("_law_script", v)]) ∧ ∀ base : Heap, K.In base → base.Ns mainGlobals mg → FnG l.prog w K mg base CX0 7 fa fd ["_law_script"] (spLaw K) := by
  cases hfa.symm.trans (PySem.W.mg_of X G a20)
  have F0 := fun_mk (st := sIsInt) l0 c0 k0
  have d0 : Df K mg "is_integer" sIsInt ["given"] f0 _ := ⟨F0, PySem.W.mg_of X G a0, F0.binds fun _ _ _ _ _ _ us hl => match us, hl with | [_], _ => rfl⟩
  have F1 := fun_mk (st := sIsFr) l1 c1 k1
  have d1 : Df K mg "is_fraction" sIsFr ["given"] f1 _ := ⟨F1, PySem.W.mg_of X G a1, F1.binds fun _ _ _ _ _ _ us hl => match us, hl with | [_], _ => rfl⟩
  have F2 := fun_mk (st := sIsStep) l2 c2 k2
  have d2 : Df K mg "is_step" sIsStep ["given"] f2 _ := ⟨F2, PySem.W.mg_of X G a2, F2.binds fun _ _ _ _ _ _ us hl => match us, hl with | [_], _ => rfl⟩
  have F3 := fun_mk (st := sChStep) l3 c3 k3
  have d3 : Df K mg "check_step" sChStep ["given"] f3 _ := ⟨F3, PySem.W.mg_of X G a3, F3.binds fun _ _ _ _ _ _ us hl => match us, hl with | [_], _ => rfl⟩
  have F4 := fun_mk (st := sIsNum) l4 c4 k4
  have d4 : Df K mg "is_number" sIsNum ["given", "least", "most"] f4 _ := ⟨F4, PySem.W.mg_of X G a4, F4.binds fun _ _ _ _ _ _ us hl => match us, hl with | [_, _, _], _ => rfl⟩
  have F5 := fun_mk (st := sChNum) l5 c5 k5
  have d5 : Df K mg "check_number" sChNum ["given", "least", "most"] f5 _ := ⟨F5, PySem.W.mg_of X G a5, F5.binds fun _ _ _ _ _ _ us hl => match us, hl with | [_, _, _], _ => rfl⟩
  have F6 := fun_mk (st := sPlace) l6 c6 k6
  have d6 : Df K mg "place" sPlace ["step", "mark"] f6 _ := ⟨F6, PySem.W.mg_of X G a6, F6.binds fun _ _ _ _ _ _ us hl => match us, hl with | [_, _], _ => rfl⟩
  have F7 := fun_mk (st := sOrder) l7 c7 k7
  have d7 : Df K mg "order" sOrder ["step", "count"] f7 _ := ⟨F7, PySem.W.mg_of X G a7, F7.binds fun _ _ _ _ _ _ us hl => match us, hl with | [_, _], _ => rfl⟩
  have F8 := fun_mk (st := sMirr) l8 c8 k8
  have d8 : Df K mg "mirrored" sMirr ["step"] f8 _ := ⟨F8, PySem.W.mg_of X G a8, F8.binds fun _ _ _ _ _ _ us hl => match us, hl with | [_], _ => rfl⟩
  have F9 := fun_mk (st := sLowest) l9 c9 k9
  have d9 : Df K mg "lowest" sLowest ["top", "bottom"] f9 _ := ⟨F9, PySem.W.mg_of X G a9, F9.binds fun _ _ _ _ _ _ us hl => match us, hl with | [_, _], _ => rfl⟩
  have F10 := fun_mk (st := sTin) l10 c10 k10
  have d10 : Df K mg "_law_tin" sTin ["_law_script", "_law_turn"] f10 _ := ⟨F10, PySem.W.mg_of X G a10, F10.binds fun _ _ _ _ _ _ us hl => match us, hl with | [_, _], _ => rfl⟩
  have F11 := fun_mk (st := sSip) l11 c11 k11
  have d11 : Df K mg "_law_sip" sSip ["_law_tin_here", "_law_top"] f11 _ := ⟨F11, PySem.W.mg_of X G a11, F11.binds fun _ _ _ _ _ _ us hl => match us, hl with | [_, _], _ => rfl⟩
  have F12 := fun_mk (st := sPick) l12 c12 k12
  have d12 : Df K mg "_law_pick" sPick ["_law_tin_here", "_law_menu"] f12 _ := ⟨F12, PySem.W.mg_of X G a12, F12.binds fun _ _ _ _ _ _ us hl => match us, hl with | [_, _], _ => rfl⟩
  have F13 := fun_mk (st := sFar) l13 c13 k13
  have d13 : Df K mg "_law_far" sFar ["_law_tin_here", "_law_most"] f13 _ := ⟨F13, PySem.W.mg_of X G a13, F13.binds fun _ _ _ _ _ _ us hl => match us, hl with | [_, _], _ => rfl⟩
  have F14 := fun_mk (st := sGcd) l14 c14 k14
  have d14 : Df K mg "_law_gcd" sGcd ["_law_one", "_law_two"] f14 _ := ⟨F14, PySem.W.mg_of X G a14, F14.binds fun _ _ _ _ _ _ us hl => match us, hl with | [_, _], _ => rfl⟩
  have F15 := fun_mk (st := sLow) l15 c15 k15
  have d15 : Df K mg "_law_low" sLow ["_law_top", "_law_bottom"] f15 _ := ⟨F15, PySem.W.mg_of X G a15, F15.binds fun _ _ _ _ _ _ us hl => match us, hl with | [_, _], _ => rfl⟩
  have F16 := fun_mk (st := sStep) l16 c16 k16
  have d16 : Df K mg "_law_step" sStep ["_law_tin_here", "_law_most"] f16 _ := ⟨F16, PySem.W.mg_of X G a16, F16.binds fun _ _ _ _ _ _ us hl => match us, hl with | [_, _], _ => rfl⟩
  have F17 := fun_mk (st := sSpot) l17 c17 k17
  have d17 : Df K mg "_law_spot" sSpot ["_law_x", "_law_k"] f17 _ := ⟨F17, PySem.W.mg_of X G a17, F17.binds fun _ _ _ _ _ _ us hl => match us, hl with | [_, _], _ => rfl⟩
  have F18 := fun_mk (st := sLine) l18 c18 k18
  have d18 : Df K mg "_law_line" sLine ["_law_x", "_law_marks", "_law_begin"] f18 _ := ⟨F18, PySem.W.mg_of X G a18, F18.binds fun _ _ _ _ _ _ us hl => match us, hl with | [_, _, _], _ => rfl⟩
  have F19 := fun_mk (st := sRight) l19 c19 k19
  have d19 : Df K mg "_law_right" sRight ["_law_tin_here"] f19 _ := ⟨F19, PySem.W.mg_of X G a19, F19.binds fun _ _ _ _ _ _ us hl => match us, hl with | [_], _ => rfl⟩
  have F20 := fun_mk (st := sLaw) l20 c20 k20
  have n0 := PySem.W.mg_none_of X G z0
  have n1 := PySem.W.mg_none_of X G z1
  have n2 := PySem.W.mg_none_of X G z2
  have n3 := PySem.W.mg_none_of X G z3
  have n4 := PySem.W.mg_none_of X G z4
  have n5 := PySem.W.mg_none_of X G z5
  have n6 := PySem.W.mg_none_of X G z6
  have n7 := PySem.W.mg_none_of X G z7
  have n8 := PySem.W.mg_none_of X G z8
  have n9 := PySem.W.mg_none_of X G z9
  have n10 := PySem.W.mg_none_of X G z10
  have n11 := PySem.W.mg_none_of X G z11
  have n12 := PySem.W.mg_none_of X G z12
  have n13 := PySem.W.mg_none_of X G z13
  have v0 := PySem.W.mg_of X G m0
  have v1 := PySem.W.mg_of X G m1
  have v2 := PySem.W.mg_of X G m2
  have bl : Bl mg := ⟨n0, n1, n2⟩
  have bc : Bc mg := ⟨n6, n1, n7, n5, n0, v0⟩
  have M : All K mg := { bi := ⟨bl, n3, n4, n5⟩, bo := ⟨bc, n8, n3, _, v2⟩, mc := ⟨_, v1⟩, rp := n9, li := n10, fi := ⟨f0, _⟩, di := d0, fr := ⟨f1, _⟩, dr := d1, fs := ⟨f2, _⟩, ds := d2, fc := ⟨f3, _⟩, dc := d3, fN := ⟨f4, _⟩, dN := d4, fn := ⟨f5, _⟩, dn := d5, fp := ⟨f6, _⟩, dp := d6, fo := ⟨f7, _⟩, dO := d7, fm := ⟨f8, _⟩, dm := d8, fl := ⟨f9, _⟩, dl := d9, gt := ⟨f10, _⟩, lt := d10, gs := ⟨f11, _⟩, ls := d11, gp := ⟨f12, _⟩, lp := d12, gf := ⟨f13, _⟩, lf := d13, gg := ⟨f14, _⟩, lg := d14, gl := ⟨f15, _⟩, ll := d15, ge := ⟨f16, _⟩, le := d16, gk := ⟨f17, _⟩, lk := d17, gn := ⟨f18, _⟩, ln := d18, dpk := kwOf2s F6 fun _ _ _ _ _ _ _ _ => rfl, dOk := kwOf2s F7 fun _ _ _ _ _ _ _ _ => rfl, dmk := kwOf1 F8 fun _ _ _ _ _ _ _ => rfl }
  exact ⟨_, fun s v => .of_eq rfl, fun base _ _ => ok_law F20 M ⟨n11, n12, n13⟩ d19⟩
theorem walk {l : PySem.W.OpenLaw} {q : Program} {loose : List Str} {XP : (Str → Option Value) → Heap → Prop} {YP : World → Heap → Prop} {d : DefRec} {K : Params → PySem.W.Frag} (hn : l.most = some 63) (hdf : d.params.defaults = [])
    (hY : ∀ (w : World) (h : Heap), YP w h → (K w.params).In h) (F : ∀ (w : World) (mg : Str → Option Value) (fa : Addr) (h : Heap), (K w.params).In h → h.Ns mainGlobals mg → mg d.name = some (.ref fa) →
      ∃ fd : FuncData, (∀ (s : Shared) (u : Value), BindsTo s fd ⟨[u], []⟩ [("_law_script", u)]) ∧ ∀ base : Heap, (K w.params).In base → base.Ns mainGlobals mg → FnG l.prog w (K w.params) mg base CX0 7 fa fd ["_law_script"] (spLaw (K w.params))) :
    PySem.W.WalkO q loose XP YP l.row.toRowW d [] (fun f vs => PySem.call f vs) :=
  walkG (n := 63) (k := 7) (x := "_law_script") (CX := fun _ => CX0) (sp := fun w => spLaw (K w.params)) hn (by decide) hdf ⟨rfl, by decide, by decide⟩ hY F (fun _ _ a ns hl _ hS => ⟨a, ns, rfl, hS, hl, fun _ => rfl⟩) fun _ _ _ _ _ z => z
end My
open PySem PySem.W PyProof.Rows
set_option maxRecDepth 100000 in
set_option maxHeartbeats 0 in
theorem PySem.Challenge.cw_rimorders_k02_whole_places_and_orders_holds : PySem.Challenge.rw_rimorders_k02_whole_places_and_orders.Holds := by
  w_on; o_law; k_head; (case hw => w_witness2)
  k_fill
  refine My.walk (l := PySem.Challenge.rw_rimorders_k02_whole_places_and_orders) rfl rfl (fun w h Y => PySem.W.kIn_of Y) ?F
  case F =>
    intro w mg fa h KX G hmg
    refine' My.all_mk KX G hmg ?a0 ?l0 ?c0 ?k0 ?a1 ?l1 ?c1 ?k1 ?a2 ?l2 ?c2 ?k2 ?a3 ?l3 ?c3 ?k3 ?a4 ?l4 ?c4 ?k4 ?a5 ?l5 ?c5 ?k5 ?a6 ?l6 ?c6 ?k6 ?a7 ?l7 ?c7 ?k7 ?a8 ?l8 ?c8 ?k8 ?a9 ?l9 ?c9 ?k9 ?a10 ?l10 ?c10 ?k10 ?a11 ?l11 ?c11 ?k11 ?a12 ?l12 ?c12 ?k12 ?a13 ?l13 ?c13 ?k13 ?a14 ?l14 ?c14 ?k14 ?a15 ?l15 ?c15 ?k15 ?a16 ?l16 ?c16 ?k16 ?a17 ?l17 ?c17 ?k17 ?a18 ?l18 ?c18 ?k18 ?a19 ?l19 ?c19 ?k19 ?a20 ?l20 ?c20 ?k20 ?z0 ?z1 ?z2 ?z3 ?z4 ?z5 ?z6 ?z7 ?z8 ?z9 ?z10 ?z11 ?z12 ?z13 ?m0 ?m1 ?m2
    (case a0 => k_is)
    (case l0 => k_is)
    (case c0 => k_is)
    (case k0 => k_is)
    (case a1 => k_is)
    (case l1 => k_is)
    (case c1 => k_is)
    (case k1 => k_is)
    (case a2 => k_is)
    (case l2 => k_is)
    (case c2 => k_is)
    (case k2 => k_is)
    (case a3 => k_is)
    (case l3 => k_is)
    (case c3 => k_is)
    (case k3 => k_is)
    (case a4 => k_is)
    (case l4 => k_is)
    (case c4 => k_is)
    (case k4 => k_is)
    (case a5 => k_is)
    (case l5 => k_is)
    (case c5 => k_is)
    (case k5 => k_is)
    (case a6 => k_is)
    (case l6 => k_is)
    (case c6 => k_is)
    (case k6 => k_is)
    (case a7 => k_is)
    (case l7 => k_is)
    (case c7 => k_is)
    (case k7 => k_is)
    (case a8 => k_is)
    (case l8 => k_is)
    (case c8 => k_is)
    (case k8 => k_is)
    (case a9 => k_is)
    (case l9 => k_is)
    (case c9 => k_is)
    (case k9 => k_is)
    (case a10 => k_is)
    (case l10 => k_is)
    (case c10 => k_is)
    (case k10 => k_is)
    (case a11 => k_is)
    (case l11 => k_is)
    (case c11 => k_is)
    (case k11 => k_is)
    (case a12 => k_is)
    (case l12 => k_is)
    (case c12 => k_is)
    (case k12 => k_is)
    (case a13 => k_is)
    (case l13 => k_is)
    (case c13 => k_is)
    (case k13 => k_is)
    (case a14 => k_is)
    (case l14 => k_is)
    (case c14 => k_is)
    (case k14 => k_is)
    (case a15 => k_is)
    (case l15 => k_is)
    (case c15 => k_is)
    (case k15 => k_is)
    (case a16 => k_is)
    (case l16 => k_is)
    (case c16 => k_is)
    (case k16 => k_is)
    (case a17 => k_is)
    (case l17 => k_is)
    (case c17 => k_is)
    (case k17 => k_is)
    (case a18 => k_is)
    (case l18 => k_is)
    (case c18 => k_is)
    (case k18 => k_is)
    (case a19 => k_is)
    (case l19 => k_is)
    (case c19 => k_is)
    (case k19 => k_is)
    (case a20 => k_is)
    (case l20 => k_is)
    (case c20 => k_is)
    (case k20 => k_is)
    (case z0 => k_is)
    (case z1 => k_is)
    (case z2 => k_is)
    (case z3 => k_is)
    (case z4 => k_is)
    (case z5 => k_is)
    (case z6 => k_is)
    (case z7 => k_is)
    (case z8 => k_is)
    (case z9 => k_is)
    (case z10 => k_is)
    (case z11 => k_is)
    (case z12 => k_is)
    (case z13 => k_is)
    (case m0 => k_is)
    (case m1 => k_is)
    (case m2 => k_is)
