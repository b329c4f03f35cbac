import PyProof.Rows.All
import Wide.All
import OpenK.AllK
import Wide.FinOn
import HandS.Words
import HandS.Defaults
import HandS.Head0
import HandS.Head1
import HandS.Head2
import HandS.Head3
import HandS.HeadEnd
import HandS.HeadHook1
import HandS.HeadHook2
import HandS.HeadHook3
import HandS.HeadHook4
import HandS.ForMost
import HandS.ForExc
import HandS.Strs
import HandS.SetFor
import HandS.SetKeys
import HandS.TupAny
import HandS.Style
import HandS.Gcd
import HandS.Wide
import HandS.IsInst
import HandS.Conv
import HandS.Flow
import PyProof.ReprRoads
import HandS.More
import PyProof.ReprLen
import HandS.ExcInit
import HandS.ExcField
import HandS.ExcIs
import KE.KExcInit
import HandS.MakeKw
import HandS.SortRule
import HandS.CallLocal
import HandS.TryOnly
import KE.KTryMore
import HandS.HotCalls
import KE.KUnpack
import HandS.Lambda
import HandS.EndTab
import KE.KNest
import PySem.Challenge.RW_rimorders_k78_whole_alike_claims_judged
set_option Elab.async false
set_option linter.all false
set_option maxRecDepth 100000
set_option maxHeartbeats 8000000
namespace My
open PySem PySem.Spec PyProof.Rows L2
def topX (i : Nat) : Stmt := PySem.Challenge.pw_rimorders_k78_whole_alike_claims_judged.main.body.getD i (.Pass ⟨0, 0, 0, 0⟩)
def nmX0 : List PySem.Str := ("gcd" : PySem.Str) :: ("lcm" : PySem.Str) :: ("_wall" : PySem.Str) :: ("NotRight" : PySem.Str) :: ("InvalidText" : PySem.Str) :: ("InvalidStep" : PySem.Str) :: ("InvalidSighting" : PySem.Str) :: ("NotALot" : PySem.Str) :: ("InvalidPieces" : PySem.Str) :: ("InvalidSightings" : PySem.Str) :: ("is_integer" : PySem.Str) :: ("is_fraction" : PySem.Str) :: ("is_step" : PySem.Str) :: ("is_part" : PySem.Str) :: ("is_less" : PySem.Str) :: ("is_number" : PySem.Str) :: ("check_step" : PySem.Str) :: ("MOST_MARK" : PySem.Str) :: ("MOST_PART" : PySem.Str) :: ("MOST_SIGHTINGS" : PySem.Str) :: ("lowest" : PySem.Str) :: ("mediant" : PySem.Str) :: ("_FIRST_CUT" : PySem.Str) :: ("_LAST_CUT" : PySem.Str) :: ("_BEYOND" : PySem.Str) :: ("_DIGITS" : PySem.Str) :: ("_GROUP" : PySem.Str) :: ("Lot" : PySem.Str) :: ("inside" : PySem.Str) :: ("both" : PySem.Str) :: ("check_lot" : PySem.Str) :: ("whole_lot" : PySem.Str) :: ("lot_where" : PySem.Str) :: ("fraction_text" : PySem.Str) :: ("_first_wrong" : PySem.Str) :: []
def nmX1 : List PySem.Str := ("_is_piece" : PySem.Str) :: ("_cuts_at" : PySem.Str) :: ("_is_ahead" : PySem.Str) :: ("_cuts_of" : PySem.Str) :: ("_lot_with" : PySem.Str) :: ("_covered" : PySem.Str) :: ("_text_of" : PySem.Str) :: ("_word_of" : PySem.Str) :: ("_digits_of" : PySem.Str) :: ("_read_pieces" : PySem.Str) :: ("_read_fraction" : PySem.Str) :: ("_are_digits" : PySem.Str) :: ("_read_digits" : PySem.Str) :: ("lot_of" : PySem.Str) :: ("lot_of_all" : PySem.Str) :: ("is_right" : PySem.Str) :: ("check_sighting" : PySem.Str) :: ("check_sightings" : PySem.Str) :: ("is_sighting" : PySem.Str) :: ("whole_points" : PySem.Str) :: ("_points" : PySem.Str) :: ("_are_marks" : PySem.Str) :: ("_is_turn" : PySem.Str) :: ("_is_on" : PySem.Str) :: ("_is_within" : PySem.Str) :: ("_is_next" : PySem.Str) :: ("_fits" : PySem.Str) :: ("_way" : PySem.Str) :: ("_turn_is_right" : PySem.Str) :: ("_on_is_right" : PySem.Str) :: ("_within_is_right" : PySem.Str) :: ("_next_is_right" : PySem.Str) :: ("_turn_points" : PySem.Str) :: ("_on_points" : PySem.Str) :: ("_within_points" : PySem.Str) :: []
def nmX2 : List PySem.Str := ("_next_points" : PySem.Str) :: ("FORMS_sightings" : PySem.Str) :: ("_RIGHT" : PySem.Str) :: ("_POINTS" : PySem.Str) :: ("accepts" : PySem.Str) :: ("_has_sightings" : PySem.Str) :: ("_has_judged" : PySem.Str) :: ("_has_steps" : PySem.Str) :: ("_are_sightings" : PySem.Str) :: ("_is_empty" : PySem.Str) :: ("_is_pair" : PySem.Str) :: ("_makes_right" : PySem.Str) :: ("_is_fit" : PySem.Str) :: ("_is_none" : PySem.Str) :: ("_is_sure" : PySem.Str) :: ("_is_open" : PySem.Str) :: ("_are_parted" : PySem.Str) :: ("_are_alike" : PySem.Str) :: ("FORMS_checker" : PySem.Str) :: ("_PROOFS" : PySem.Str) :: ("_law_reel" : PySem.Str) :: ("_law_spin" : PySem.Str) :: ("_law_one" : PySem.Str) :: ("_law_short" : PySem.Str) :: ("_law_step" : PySem.Str) :: ("_law_odd" : PySem.Str) :: ("_law_is_int" : PySem.Str) :: ("_law_close" : PySem.Str) :: ("_law_amid" : PySem.Str) :: ("_law_order" : PySem.Str) :: ("_law_is_pair" : PySem.Str) :: ("_law_shows" : PySem.Str) :: ("_law_papers" : PySem.Str) :: ("_law_right" : PySem.Str) :: []
def namesX : List PySem.Str := nmX0 ++ nmX1 ++ nmX2
def ddX0 : He.DefD := ⟨("is_integer", none), "is_integer", "is_integer", defArgs (topX 11), defBody (topX 11), defScope (topX 11), [], []⟩
def ddX1 : He.DefD := ⟨("is_fraction", none), "is_fraction", "is_fraction", defArgs (topX 12), defBody (topX 12), defScope (topX 12), [], []⟩
def ddX2 : He.DefD := ⟨("is_step", none), "is_step", "is_step", defArgs (topX 13), defBody (topX 13), defScope (topX 13), [], []⟩
def ddX3 : He.DefD := ⟨("is_less", none), "is_less", "is_less", defArgs (topX 15), defBody (topX 15), defScope (topX 15), [], []⟩
def ddX4 : He.DefD := ⟨("accepts", none), "accepts", "accepts", defArgs (topX 79), defBody (topX 79), defScope (topX 79), [], []⟩
def ddX5 : He.DefD := ⟨("_has_steps", none), "_has_steps", "_has_steps", defArgs (topX 82), defBody (topX 82), defScope (topX 82), [], []⟩
def ddX6 : He.DefD := ⟨("_is_empty", none), "_is_empty", "_is_empty", defArgs (topX 84), defBody (topX 84), defScope (topX 84), [], []⟩
def ddX7 : He.DefD := ⟨("_is_pair", none), "_is_pair", "_is_pair", defArgs (topX 85), defBody (topX 85), defScope (topX 85), [], []⟩
def ddX8 : He.DefD := ⟨("_are_alike", none), "_are_alike", "_are_alike", defArgs (topX 92), defBody (topX 92), defScope (topX 92), [], []⟩
def ddX9 : He.DefD := ⟨("_law_reel", none), "_law_reel", "_law_reel", defArgs (topX 96), defBody (topX 96), defScope (topX 96), [], []⟩
def ddX10 : He.DefD := ⟨("_law_spin", none), "_law_spin", "_law_spin", defArgs (topX 97), defBody (topX 97), defScope (topX 97), [], []⟩
def ddX11 : He.DefD := ⟨("_law_one", none), "_law_one", "_law_one", defArgs (topX 98), defBody (topX 98), defScope (topX 98), [], []⟩
def ddX12 : He.DefD := ⟨("_law_short", none), "_law_short", "_law_short", defArgs (topX 99), defBody (topX 99), defScope (topX 99), [], []⟩
def ddX13 : He.DefD := ⟨("_law_step", none), "_law_step", "_law_step", defArgs (topX 100), defBody (topX 100), defScope (topX 100), [], []⟩
def ddX14 : He.DefD := ⟨("_law_odd", none), "_law_odd", "_law_odd", defArgs (topX 101), defBody (topX 101), defScope (topX 101), [], []⟩
def ddX15 : He.DefD := ⟨("_law_is_int", none), "_law_is_int", "_law_is_int", defArgs (topX 102), defBody (topX 102), defScope (topX 102), [], []⟩
def ddX16 : He.DefD := ⟨("_law_close", none), "_law_close", "_law_close", defArgs (topX 103), defBody (topX 103), defScope (topX 103), [], []⟩
def ddX17 : He.DefD := ⟨("_law_amid", none), "_law_amid", "_law_amid", defArgs (topX 104), defBody (topX 104), defScope (topX 104), [], []⟩
def ddX18 : He.DefD := ⟨("_law_order", none), "_law_order", "_law_order", defArgs (topX 105), defBody (topX 105), defScope (topX 105), [], []⟩
def ddX19 : He.DefD := ⟨("_law_is_pair", none), "_law_is_pair", "_law_is_pair", defArgs (topX 106), defBody (topX 106), defScope (topX 106), [], []⟩
def ddX20 : He.DefD := ⟨("_law_shows", none), "_law_shows", "_law_shows", defArgs (topX 107), defBody (topX 107), defScope (topX 107), [], []⟩
def ddX21 : He.DefD := ⟨("_law_papers", none), "_law_papers", "_law_papers", defArgs (topX 108), defBody (topX 108), defScope (topX 108), [], []⟩
def ddX22 : He.DefD := ⟨("_law_right", none), "_law_right", "_law_right", defArgs (topX 109), defBody (topX 109), defScope (topX 109), [], []⟩
def ddX23 : He.DefD := ⟨("law", none), "law", "law", defArgs (topX 110), defBody (topX 110), defScope (topX 110), [], []⟩
def fnsX : List He.DefD := ddX0 :: ddX1 :: ddX2 :: ddX3 :: ddX4 :: ddX5 :: ddX6 :: ddX7 :: ddX8 :: ddX9 :: ddX10 :: ddX11 :: ddX12 :: ddX13 :: ddX14 :: ddX15 :: ddX16 :: ddX17 :: ddX18 :: ddX19 :: ddX20 :: ddX21 :: ddX22 :: ddX23 :: []
def faX0 : List He.Fa := (He.Fa.glo "is_integer") :: (He.Fa.glo "is_fraction") :: (He.Fa.glo "is_step") :: (He.Fa.glo "is_less") :: (He.Fa.glo "accepts") :: (He.Fa.glo "_has_steps") :: (He.Fa.glo "_is_empty") :: (He.Fa.glo "_is_pair") :: (He.Fa.glo "_are_alike") :: (He.Fa.glo "_law_reel") :: (He.Fa.glo "_law_spin") :: (He.Fa.glo "_law_one") :: (He.Fa.glo "_law_short") :: (He.Fa.glo "_law_step") :: (He.Fa.glo "_law_odd") :: (He.Fa.glo "_law_is_int") :: (He.Fa.glo "_law_close") :: (He.Fa.glo "_law_amid") :: (He.Fa.glo "_law_order") :: (He.Fa.glo "_law_is_pair") :: (He.Fa.glo "_law_shows") :: (He.Fa.glo "_law_papers") :: (He.Fa.glo "_law_right") :: (He.Fa.glo "law") :: (He.Fa.glo "FORMS_checker") :: (He.Fa.glo "_PROOFS") :: (He.Fa.free "len") :: (He.Fa.free "int") :: (He.Fa.free "abs") :: (He.Fa.free "divmod") :: (He.Fa.free "isinstance") :: (He.Fa.free "bool") :: (He.Fa.free "tuple") :: (He.Fa.free "str") :: (He.Fa.free "sorted") :: []
def faX1 : List He.Fa := (He.Fa.free "range") :: (He.Fa.free "list") :: (He.Fa.free "repr") :: (He.Fa.free "min") :: (He.Fa.free "max") :: (He.Fa.free "all") :: []
def fasX : List He.Fa := faX0 ++ faX1
def tbsX : List He.Tab := ((fun K => He.ga K "FORMS_checker"), (("fits" : PySem.Str) :: ("none" : PySem.Str) :: ("sure" : PySem.Str) :: ("open" : PySem.Str) :: ("parts" : PySem.Str) :: ("alike" : PySem.Str) :: [])) :: ((fun K => He.ga K "_PROOFS"), (("fits" : PySem.Str) :: ("none" : PySem.Str) :: ("sure" : PySem.Str) :: ("open" : PySem.Str) :: ("parts" : PySem.Str) :: ("alike" : PySem.Str) :: [])) :: []
def exBX (K : PySem.W.Frag) : Bool := He.eqO (PySem.W.nsIn K mainGlobals "gcd") (some (some (.builtin "math.gcd"))) && He.valsB K (He.ga K "FORMS_checker") ((("alike" : PySem.Str), He.Dv.glo "_has_steps") :: []) && He.valsB K (He.ga K "_PROOFS") ((("alike" : PySem.Str), He.Dv.glo "_are_alike") :: [])
abbrev RRX : PySem.W.OpenRow := PySem.W.OpenLaw.row PySem.Challenge.rw_rimorders_k78_whole_alike_claims_judged
abbrev hkX : PySem.W.Hook := He.hookX 2 fasX fnsX tbsX [] exBX
def obX (s : PySem.W.SharedT) : hkX.α := He.obsX 2 fasX fnsX tbsX [] exBX (HandSHeadRun.getT s)
theorem obX_eq (s : PySem.W.SharedT) : obX s = hkX.obs s.abs := He.obsX_eq (HandSHeadRun.getT_eq s)
abbrev qvX : Program := PySem.W.view RRX.prog [0, 110]
theorem runX_false (w : World) : HandSHeadRun.RunEqI RRX qvX hkX obX 6000 namesX (w.withFollow "special-get-raises" false) := by
  delta HandSHeadRun.RunEqI
  kernel_rfl
theorem runX_true (w : World) : HandSHeadRun.RunEqI RRX qvX hkX obX 6000 namesX (w.withFollow "special-get-raises" true) := by
  delta HandSHeadRun.RunEqI
  kernel_rfl
theorem runX (w : World) : HandSHeadRun.RunEqI RRX qvX hkX obX 6000 namesX w := PySem.W.byRow2 "special-get-raises" runX_false runX_true w
end My
set_option Elab.async false
set_option linter.all false
set_option maxRecDepth 100000
set_option maxHeartbeats 4000000
/-! general rules of mine: repr of data, set of a list of ints, t[:0:-1] -/
namespace Gn
open PySem PySem.Spec PyProof.Rows L2
section
variable {X : Cx}
/-! repr of lists and tuples -/
mutual
theorem dp_nodict {K : PySem.W.Frag} {H : Hp} : ∀ (d : PyData) (v : V), Dp K H v d → d.hasDict = false
  | .none, _, _ => by simp only [PyData.hasDict]
  | .bool _, _, _ => by simp only [PyData.hasDict]
  | .int _, _, _ => by simp only [PyData.hasDict]
  | .str _, _, _ => by simp only [PyData.hasDict]
  | .list ds, _, h => by
    cases h with
    | lst _ ha => simp only [PyData.hasDict]; exact dps_nodict ds _ ha
  | .tuple ds, _, h => by
    cases h with
    | tup _ ha => simp only [PyData.hasDict]; exact dps_nodict ds _ ha
  | .dict _, _, h => by cases h
theorem dps_nodict {K : PySem.W.Frag} {H : Hp} : ∀ (ds : List PyData) (vs : List V), DpAll K H vs ds → PyData.hasDictAll ds = false
  | [], _, _ => by simp only [PyData.hasDictAll]
  | d :: ds, _, h => by
    cases h with
    | cons h1 h2 => simp only [PyData.hasDictAll, dp_nodict d _ h1, dps_nodict ds _ h2, Bool.or_self]
end
/-- repr(x), x a list or a tuple of data -/
def rRepr (K : PySem.W.Frag) : List V → Hp → VK → Prop := fun xs H Q => ∃ a d, xs = [V.ref a] ∧ Dp K H (.ref a) d ∧ d.showable = true ∧ d.depth < 60 ∧ d.shown.length ≤ sizeLine ∧ Q (.str d.shown) H
theorem cr_repr (hg : X.A.guards = some []) (hu : X.A.units + 64 < cLine) : CallR X (.builtin "repr") (rRepr X.K) := by
  intro pins s σ H xs us Q I r h
  obtain ⟨a, d, rfl, hd, hs, hdp, hz, q⟩ := h
  rw [Vals.ref1 r]
  obtain ⟨as, rd⟩ := Dp.reads I d _ _ hd rfl
  exact repr_of_reads' rd hs (PySem.PyData.noDict_hsm (dp_nodict d _ hd)) hg (by omega) (fun _ _ e => e) (fun h' u tk k => ⟨.str d.shown, H, I.kept (t' := tk) k, ⟨u, rfl⟩, q⟩) hz
end
end Gn
set_option Elab.async false
set_option linter.all false
set_option maxRecDepth 100000
set_option maxHeartbeats 4000000
namespace Gn
open PySem PySem.Spec PyProof.Rows L2
/-- the empty set object as the machine lays it -/
abbrev eSet (w : World) : Obj := { cls := .type "set", dict := none, data := .set #[] 0 (.fresh 0 0 (!w.params.followText "set-order")) }
section
variable {P : Program} {w : World} {A : Around} {E : Value → Shared → Prop} {s : Shared}
/-- what the init leaves: a set of the ints ns at S, no older object changed -/
abbrev Filled (w : World) (ns : List Int) (s0 : Shared) (S : Addr) (s2 : Shared) : Prop := ∃ (h' : Heap) (tk c : Nat), s2 = { s0 with heap := h', toks := tk } ∧ SetR w h' S (fun j => decide (j ∈ ns)) c ∧ c ≤ ns.length ∧ ∀ b o, s0.heap.get? b = some o → h'.get? b = some o
set_option maxHeartbeats 6000000 in
/-- set(l), l a list of ints -/
theorem set_of_ints {l : Addr} {its : Array Value} (ns : List Int) {Q : Value → Shared → Prop} (hh : A.handled = none) (hl : s.heap.IsList l its) (hi : IntsAre its.toList ns) (hb : ns.length + 1 < scanBound)
    (h : ∀ s2, Filled w ns s s.heap.objs.size s2 → Q (.ref s.heap.objs.size) s2) : wpAny (model P w) A (call (.type "set") [.ref l]) Q E s := by
  have hN : its.size = ns.length := by have q := IntsAre.length hi; rw [Array.length_toList] at q; exact q
  obtain ⟨c, tl, hmro⟩ := F.called_set.mro; have hmade := F.called_set.made; have hsub := F.called_set.sub
  refine wpAny_call (codeAny_of_tree ?_); show wpAny _ _ (callAny (.type "set") _) _ _ _
  refine wpAny_pure ⟨Code.quiet_builtin _ (by decide +kernel), codeAny_builtin F.entry_type_call ?_⟩; rw [Around.under_plain (weight_type_call_type "set" [.ref l] []) rfl]
  have h1 := F.called_set.notType; have h2 := F.called_set.canCreate; have hct := F.typeCall_set_1 (.ref l)
  repeat (any_goals (first | assumption | wp_step))
  refine codeAny_mono (code_set_led1 (.ref l) (E := E) (Q₁ := fun v z => v = .ref s.heap.objs.size ∧ z = { s with heap := s.heap.push (eSet w) }) ⟨rfl, rfl⟩) fun r z hr => ?_
  cases r with
  | error e => exact hr
  | ok fl =>
    cases fl with
    | ret obj =>
      obtain ⟨rfl, rfl⟩ := hr
      have hS : (s.heap.push (eSet w)).get? s.heap.objs.size = some (eSet w) := Heap.get?_push_size _ rfl
      have hT : Shared.TypeIs { s with heap := s.heap.push (eSet w) } (.ref s.heap.objs.size) "set" := ⟨_, hS, rfl⟩
      have hli := F.called_set.init.lookup; have hbi := F.called_set.init.bind (.ref s.heap.objs.size)
      repeat (any_goals (first | assumption | wp_step))
      refine codeAny_mono (codeAny_call_builtin (R := wants (fun r z => r = .none ∧ Filled w ns s s.heap.objs.size z) E) F.called_set.init.plain F.entry_set_init (check_set_init_1 hT ?_)) fun r2 z2 hr2 => ?_
      · obtain ⟨⟨lc, ld, lx, ls⟩, hol, hcl, nl, hdl⟩ := hl
        simp only at hcl hdl
        subst hcl; subst hdl
        have hol' : (s.heap.push (eSet w)).get? l = some { cls := .type "list", dict := ld, data := .seq its nl, slots := ls } := Heap.get?_push_of_some _ hol
        have hsls := F.sub_list_set; have hslf := F.sub_list_frozenset; have hne : (Value.type "list" == Value.type "dict") = false := by decide
        have hl1 : (s.heap.push (eSet w)).IsList l its := ⟨_, hol', rfl, nl, rfl⟩
        unfold Builtin.«set.__init__» noKeywords Builtin.Frozenset.updateFrom
        generalize hPI : pyIter = PI
        wp_walk
        subst hPI
        refine wpAny_pyIter_list hl1 (wpAny_bind (wpAny_runValue ?_))
        have hlS : l < s.heap.objs.size := Heap.lt_size hol
        have h3 : A.in1.in1.in1.handled = none := by simp [hh]
        have z1 : (s.heap.push (eSet w)).objs.size = s.heap.objs.size + 1 := Heap.size_push ..
        have nI : l ≠ (s.heap.push (eSet w)).objs.size := by rw [z1]; exact Nat.ne_of_lt (Nat.lt_succ_of_lt hlS)
        have nF : s.heap.objs.size ∉ [(s.heap.push (eSet w)).objs.size, l] := by
          rw [z1]; intro q; rcases List.mem_cons.mp q with q | q
          · exact Nat.succ_ne_self _ q.symm
          · exact Nat.ne_of_gt hlS (List.mem_singleton.mp q)
        have hval : ∀ (i : Nat) (v : Value), its[i]? = some v → ∃ k t, ns[i]? = some k ∧ v = .int k t := fun i v hv => by
          have hil : i < ns.length := by rw [← hN]; exact (Array.getElem?_eq_some_iff.mp hv).1
          obtain ⟨t, e⟩ := IntsAre.int_at hi i v (by rw [Array.getElem?_toList]; exact hv)
          exact ⟨ns[i], t, List.getElem?_eq_getElem hil, by rw [e, List.getD_eq_getElem?_getD, List.getElem?_eq_getElem hil] <;> rfl⟩
        refine set_update_ints ((Walks.list h3 _ l nI its).toS) s.heap.objs.size nF ns hN hb hval (its.size - 0) 0 _ (by omega) (Nat.zero_le _) ⟨⟨_, Heap.get?_push_size _ rfl, rfl, rfl⟩, (hl1.push _)⟩ ⟨0, Nat.le_refl 0, setR_new_at (Heap.get?_push_of_some _ hS)⟩ ?_
        intro z' c' hm hc' hS'
        obtain ⟨h', g2, d', tk', os'⟩ := z'
        obtain rfl : g2 = s.gens := hm.gens
        obtain rfl : d' = s.drawn := hm.drawn
        obtain rfl : os' = s.os := hm.os
        show wpAny _ _ _ _ _ _
        refine wpAny_pure ?_; show wpAny _ _ (ret Value.none) _ _ _; rw [hN] at hc'
        refine wpAny_pure ⟨rfl, h', tk', c', rfl, hS', hc', fun b o e => ?_⟩
        have hb0 : b < s.heap.objs.size := Heap.lt_size e
        refine hm.heap b o (fun q => ?_) (Heap.get?_push_of_some _ (Heap.get?_push_of_some _ e))
        rcases List.mem_cons.mp q with q | q
        · exact Nat.ne_of_lt hb0 q
        · exact Nat.ne_of_lt (Nat.lt_succ_of_lt hb0) ((List.mem_singleton.mp q).trans z1)
      · cases r2 with
        | error e => exact hr2
        | ok fl2 =>
          cases fl2 with
          | ret r =>
            obtain ⟨rfl, h', tk, c', rfl, hS', hc', hk'⟩ := hr2
            repeat (any_goals (first | assumption | wp_step))
            exact h _ ⟨_, _, _, rfl, hS', hc', hk'⟩
          | _ => exact hr2.elim
    | _ => exact hr.elim
end
section
variable {X : Cx}
/-- set(l) of a list of fewer than 64 ints -/
def rSetI (K : PySem.W.Frag) (w : World) : List V → Hp → VK → Prop := fun xs H Q => ∃ (l : Addr) (ns : List Int), xs = [.ref l] ∧ SqL K H l (ns.map V.int) ∧ ns.length < 64 ∧ ∀ p c, H p = none → c ≤ ns.length → Q (.ref p) (upd H p (SetO w p (fun j => decide (j ∈ ns)) c))
theorem cr_setI (hc : X.calm = true) : CallR X (.type "set") (rSetI X.K X.w) := by
  intro pins s σ H xs us Q I r h
  obtain ⟨l, ns, rfl, hl, hf, q⟩ := h
  rw [Vals.ref1 r]
  obtain ⟨its, rv, pl, hz⟩ := I.list hl
  refine set_of_ints ns (I.ok.hd hc) pl.isList (by simpa using intsAre_of rv) (by unfold scanBound; omega) fun s2 hs => ?_
  obtain ⟨h', tk, c, rfl, hS, hcn, k⟩ := hs
  exact ⟨.ref s.heap.objs.size, _, I.laid (t' := tk) k (Nat.le_refl _) (setO_new hS), rfl, q _ c (I.hok.fresh (Nat.le_refl _)) hcn⟩
end
end Gn
set_option Elab.async false
set_option linter.all false
set_option maxRecDepth 100000
set_option maxHeartbeats 4000000
namespace Gn
open PySem PySem.Spec PyProof.Rows L2
/-! t[:0:-1], t a tuple -/
theorem back_adjust (n : Nat) : Builtin.Slice.slicePlaces (Builtin.Slice.sliceAdjust none (some 0) (-1) (n : Int)).1 (Builtin.Slice.sliceAdjust none (some 0) (-1) (n : Int)).2 (-1) = n - 1 ∧ (Builtin.Slice.sliceAdjust none (some 0) (-1) (n : Int)).1 = (n : Int) - 1 := by
  have a : (Builtin.Slice.sliceAdjust none (some 0) (-1) (n : Int)) = ((n : Int) - 1, min 0 ((n : Int) - 1)) := by
    simp only [Builtin.Slice.sliceAdjust, show ((-1 : Int) < 0) = True by decide, show ((0 : Int) < 0) = False by decide, if_true, if_false]
  rw [a]
  refine ⟨?_, rfl⟩
  unfold Builtin.Slice.slicePlaces
  simp only [show ((-1 : Int) > 0) = False by decide, if_false, show (-(-1) : Int) = 1 by decide, Int.ediv_one]
  split <;> omega
theorem back_pick (xs : Array Value) : ((List.range (xs.size - 1)).filterMap fun (m : Nat) => xs[(((xs.size : Nat) : Int) - 1 + (m : Int) * (-1)).toNat]?).toArray = (xs.toList.drop 1).reverse.toArray := by
  congr 1
  have g : ∀ k, k ≤ xs.size - 1 → ((List.range k).filterMap fun (m : Nat) => xs[(((xs.size : Nat) : Int) - 1 + (m : Int) * (-1)).toNat]?) = ((xs.toList.drop 1).reverse).take k := by
    intro k
    induction k with
    | zero => intro _; rfl
    | succ k ih =>
      intro hk
      have i1 : (((xs.size : Nat) : Int) - 1 + (k : Int) * (-1)).toNat = xs.size - 1 - k := by omega
      have i2 : xs.size - 1 - k < xs.size := by omega
      have hl : k < (xs.toList.drop 1).reverse.length := by rw [List.length_reverse, List.length_drop, Array.length_toList]; omega
      rw [List.range_succ, List.filterMap_append, ih (by omega), List.take_add_one, List.getElem?_eq_getElem hl]
      congr 1
      simp only [List.filterMap_cons, List.filterMap_nil, i1, Array.getElem?_eq_getElem i2, Option.toList]
      congr 1
      rw [List.getElem_reverse, List.getElem_drop]
      simp only [List.length_drop, Array.length_toList, Array.getElem_toList]
      congr 1
      omega
  rw [g _ (Nat.le_refl _)]
  refine List.take_of_length_le ?_
  rw [List.length_reverse, List.length_drop, Array.length_toList]
  exact Nat.le_refl _
section
variable {prog : Program} {w : World} {A : Around} {E : Value → Shared → Prop} {s : Shared}
theorem back_item {t sl : Addr} {its : Array Value} {vl vu vs : Value} {Q : Value → Shared → Prop} (ht : IsTup s.heap t its) (hs : s.heap.IsSliceOf sl vl vu vs) (pl : IsPart vl none) (pu : IsPart vu (some 0)) (ps : IsPart vs (some (-1)))
    (h : Q (.ref s.heap.objs.size) { s with heap := s.heap.push { cls := .type "tuple", data := .seq (its.toList.drop 1).reverse.toArray } }) (hz : its.size ≤ sizeLine) : wpAny (model prog w) A (getItem (.ref t) (.ref sl)) Q E s := by
  have hfit : sizeOk (.seq (its.toList.drop 1).reverse.toArray) := by
    show ((its.toList.drop 1).reverse).toArray.size ≤ sizeLine
    rw [List.size_toArray, List.length_reverse, List.length_drop, Array.length_toList]; omega
  obtain ⟨os, hos, hcs, hds⟩ := id hs
  unfold getItem
  try with_reducible refine wpAny_holding ?_
  first | refine wpAny_bind (wpAny_pure ?_) | skip
  refine wpAny_bind (wpAny_sequenceKey ht.typeIs (by decide) (wpAny_bind (wpAny_callSpecial?_slot (name := Str.ofString "__getitem__") ht.typeIs PyProof.Rows.slot_tuple_getitem (wpAny_call_entry PyProof.Rows.slot_tuple_getitem ht.typeIs PyProof.Rows.entry_tuple_getitem ?_ (PyProof.Rows.args_tuple_getitem _ _)))))
  show wpAny _ _ (Builtin.Tuple.tupleItemsOf (.ref t) >>= _) _ _ s
  refine wpAny_bind (PyProof.Rows.tupleItemsOf_ ht (wpAny_bind (wpAny_typeOf (show s.TypeIs (.ref sl) "slice" from ⟨os, hos, hcs⟩) ?_)))
  rw [if_pos (by decide)]
  refine wpAny_bind ?_
  unfold Builtin.Slice.sliceApplied Builtin.Slice.sliceFields
  refine wpAny_bind (wpAny_bind (wpAny_field hos hds (x := vl) rfl (wpAny_bind (wpAny_field hos hds (x := vu) rfl (wpAny_bind (wpAny_field hos hds (x := vs) rfl (wpAny_pure (wpAny_bind (HT.slicePart_ ps ?_)))))))))
  show wpAny _ _ (if ((-1 : Int) == 0) = true then _ else _) _ _ s
  rw [if_neg (by decide)]
  refine wpAny_bind (HT.slicePart_ pl (wpAny_bind (HT.slicePart_ pu (wpAny_bind (wpAny_pure ?_)))))
  have e1 := (back_adjust its.size).1
  have e2 := (back_adjust its.size).2
  show wpAny _ _ (pure ((Builtin.Slice.sliceAdjust none (some 0) (-1) (its.size : Int)).1, (-1 : Int), Builtin.Slice.slicePlaces (Builtin.Slice.sliceAdjust none (some 0) (-1) (its.size : Int)).1 (Builtin.Slice.sliceAdjust none (some 0) (-1) (its.size : Int)).2 (-1))) _ _ s
  rw [e1, e2]
  refine wpAny_pure ?_
  have no : ¬ ((((its.size : Nat) : Int) - 1 == 0 && (-1 : Int) == 1 && (its.size - 1) == its.size) = true) := by
    rw [show ((-1 : Int) == 1) = false by decide]; simp
  show wpAny _ _ (if ((((its.size : Nat) : Int) - 1 == 0 && (-1 : Int) == 1 && (its.size - 1) == its.size) = true) then _ else _) _ _ s
  rw [if_neg no, back_pick]
  first
    | exact wpAny_bind (m := Builtin.Tuple.tupleExact _) (wpAny_newObj_type (wpAny_pure ⟨_, rfl, wpAny_pure h⟩) hfit)
    | exact wpAny_bind (wpAny_bind (m := Builtin.Tuple.tupleExact _) (wpAny_newObj_type (wpAny_pure ⟨_, rfl, wpAny_pure h⟩) hfit))
    | exact wpAny_bind (wpAny_bind (m := Builtin.Tuple.tupleExact _) (wpAny_newObj_type (wpAny_pure (wpAny_pure ⟨_, rfl, wpAny_pure h⟩)) hfit))
end
def tBack (K : PySem.W.Frag) (te : TE) : TE := fun σ H Q => te σ H fun x H1 => ∃ a xs, x = .ref a ∧ SqT K H1 a xs ∧ ∀ p, H1 p = none → Q (.ref p) (upd H1 p (.tup (xs.drop 1).reverse))
section
variable {X : Cx}
theorem pe_back {e : Expr} {te : TE} {k k0 : Nat} {p0 p1 p2 p3 pos : Pos} (he : PE X e te) : PE X (.Subscript e (.Slice none (some (.Constant (.int 0) k0 p0)) (some (.UnaryOp .USub (.Constant (.int 1) k p1) p2)) p3) pos) (tBack X.K te) := by
  refine ⟨fun pins s σ H Q I h => ?_⟩
  refine Subscript_ (thn (he.run pins s σ H _ I h) fun v s1 ⟨x, H1, I1, r1, q1⟩ => ?_)
  obtain ⟨a, xs, ex, hx, q⟩ := q1
  subst ex
  cases r1
  have hup : PO X (some (.Constant (.int 0) k0 p0)) (tPart (tC (.int 0))) := po_some pe_int
  have hst : PO X (some (.UnaryOp .USub (.Constant (.int 1) k p1) p2)) (tPart (tUn (rU fun i => .int (-i)) (tC (.int 1)))) := po_some (pe_un un_neg pe_int)
  refine wpAny_Slice (thn (po_none.run pins s1 σ H1 (fun o H2 => o = none ∧ H2 = H1) I1 ⟨rfl, rfl⟩) fun vl s2 ⟨l, H2, I2, pl, el, e2⟩ => ?_)
  subst el e2
  refine thn (hup.run pins s2 σ H2 (fun o H3 => o = some 0 ∧ H3 = H2) I2 ⟨0, rfl, rfl, rfl⟩) fun vu s3 ⟨u, H3, I3, pu, eu, e3⟩ => ?_
  subst eu e3
  refine thn (hst.run pins s3 σ H3 (fun o H4 => o = some (-1) ∧ H4 = H3) I3 ⟨1, rfl, -1, rfl, rfl, rfl⟩) fun vs s4 ⟨o, H4, I4, ps, eo, e4⟩ => ?_
  subst eo e4
  have I5 : Inv X pins σ H4 { s4 with heap := s4.heap.push { cls := .type "slice", data := .fields #[vl, vu, vs] } } := I4.kept (t' := s4.toks) fun b ob q => Heap.get?_push_of_some _ q
  obtain ⟨its, r, ht, hz⟩ := I5.tuple hx
  have hlen := r.length
  show wpAny (model X.prog X.w) X.A (subscriptTail e (.Slice none (some (.Constant (.int 0) k0 p0)) (some (.UnaryOp .USub (.Constant (.int 1) k p1) p2)) p3) (.ref a) (.ref s4.heap.objs.size)) (EP X pins σ Q) X.xe { s4 with heap := s4.heap.push { cls := .type "slice", data := .fields #[vl, vu, vs] } }
  refine tail_any (ops := [.ref a, .ref s4.heap.objs.size]) ht.typeIs (PyProof.Rows.slot_tuple_getitem.lookup) ?_ (by with_unfolding_all rfl)
  refine back_item ht (Heap.IsSliceOf.new _ vl vu vs) pl pu ps ?_ (by rw [List.size_toArray]; omega)
  refine ⟨.ref _, _, I5.laid (t' := s4.toks) (o := .tup (xs.drop 1).reverse) (fun b ob q => Heap.get?_push_of_some _ q) (Nat.le_refl _) ?_, rfl, q _ (I5.hok.fresh (Nat.le_refl _))⟩
  exact ⟨by rw [List.length_reverse, List.length_drop]; omega, _, (Vals.drop 1 r).reverse, ⟨_, Heap.get?_push_size _ rfl, rfl, _, rfl⟩⟩
end
end Gn
set_option Elab.async false
set_option linter.all false
set_option maxRecDepth 100000
set_option maxHeartbeats 4000000
namespace Gn
open PySem PySem.Spec PyProof.Rows L2
/-- a def's promise where no repr runs around (the guards are known to be none) -/
structure FnG (P : Program) (w : World) (K : PySem.W.Frag) (mg : Str → Option Value) (base : Heap) (CX : CXT) (k : Nat) (f : Addr) (fd : FuncData) (ps : List Str) (sp : Sp) : Prop where
  len : ∀ vs H Q E, sp vs H Q E → vs.length = ps.length
  run : ∀ (A : Around) (outer : List Env) (s : Shared) (H : Hp) (args : Args) (us : List Value) (vs : List V) (Q : VK) (E : XK), A.guards = some [] → Room k A → Env0 P w K mg base A outer s H → BindsTo s fd args (ps.zip us) → Vals vs us → sp vs H Q E →
    codeAny (model P w) A (.call (.ref f) args) (CR CX outer P w H s Q E) s
section
variable {P : Program} {w : World} {K : PySem.W.Frag} {mg : Str → Option Value} {base : Heap}
theorem FnG.of {CX : CXT} {k : Nat} {f : Addr} {fd : FuncData} {ps : List Str} {sp : Sp} (F : FnOk P w K mg base CX k f fd ps sp) : FnG P w K mg base CX k f fd ps sp := ⟨F.len, fun A o s H a us vs Q E _ => F.run A o s H a us vs Q E⟩
theorem funG {CX : CXT} {x qual : Str} {st : Stmt} {f : Addr} {fd : FuncData} {N ps : List Str} {k : Nat} {sp : Sp} (F : Fun K x qual st f fd) (S : FnScope N ps (defScope st)) (len : ∀ vs H Q E, sp vs H Q E → vs.length = ps.length)
    (hbody : ∀ (cdv : Value) (A : Around) (outer : List Env) (s : Shared) (H : Hp) (vs : List V) (Q : VK) (E : XK), (A.deeper (envOfC qual (defScope st) s.heap.objs.size f cdv)).guards = some [] → Room k (A.deeper (envOfC qual (defScope st) s.heap.objs.size f cdv)) → sp vs H Q E →
      ∃ t, PSs (cxOf CX P w K mg base N qual (defScope st) f cdv A outer s H E) (defBody st) t ∧ t { nx := fun _ H' => Q .non H', rt := Q } (start N vs) H) : FnG P w K mg base CX (k + 1) f fd ps sp := by
  obtain ⟨oc, od, kV, doc, pm, an, cdv, ct, osl, rfl, lk, hcd⟩ := F.ex
  refine ⟨len, fun A outer s H args us vs Q E hg hr e0 hb r hsp => ?_⟩
  have KX : K.In s.heap := e0.mod.kin.keeps fun b o e => (e0.bs b o e).1
  have hkind : ∀ y ∈ ps.zip us, (defScope st).names.lookup y.1 = some .local ∨ ((defScope st).names.lookup y.1 = some .cell ∧ ((cellsFrom (s.heap.objs.size + 1) (defScope st).names []).lookup y.1).isSome = true) := fun y hy =>
    (S.par y.1 (List.of_mem_zip hy).1).elim .inl fun q => .inr ⟨q, PySem.W.cellsFrom_some _ _ _ (.inl q)⟩
  refine codeAny_call_function hr.depth (KX _ _ lk) rfl S.co S.gen rfl (PySem.W.codeRec_of KX hcd) (hb _ _ _ _ (wpAny_newFunctionEnv_cells S.kind hkind fun env he s1 x => ?_))
  subst he
  refine ⟨(e0.mod.nolimit.keeps fun b o e => (e0.bs b o e).1).keeps x.toInCall.keep, codeAny_func ?_⟩
  obtain ⟨t, ht, hq⟩ := hbody cdv A outer s H vs Q E hg (hr.deeper _) hsp
  have I : Inv (cxOf CX P w K mg base N qual (defScope st) f cdv A outer s H E) [] (start N vs) H s1 := inv_start S hr.hd e0 (len _ _ _ _ hsp) r x
  refine wpAny_mono (ht.run [] s1 (start N vs) H _ I hq) (fun fl s' hs => ?_) fun _ _ hs => hs
  cases fl with
  | ret u => obtain ⟨v, σ', H', J, rv, q⟩ := hs; exact ⟨v, H', J.os, J.bare, J.base, J.hok, rv, q⟩
  | next => obtain ⟨σ', H', J, q⟩ := hs; exact ⟨V.non, H', J.os, J.bare, J.base, J.hok, rfl, q⟩
  | brk => obtain ⟨_, _, _, q⟩ := hs; exact False.elim q
  | cont => obtain ⟨_, _, _, q⟩ := hs; exact False.elim q
/-- as Fun.ok: nothing leaves the def -/
theorem funG0 {x qual : Str} {st : Stmt} {f : Addr} {fd : FuncData} {N ps : List Str} {k : Nat} {sp : Sp} (F : Fun K x qual st f fd) (S : FnScope N ps (defScope st)) (len : ∀ vs H Q E, sp vs H Q E → vs.length = ps.length)
    (hbody : ∀ (cdv : Value) (A : Around) (outer : List Env) (s : Shared) (H : Hp) (vs : List V) (Q : VK) (E : XK), (A.deeper (envOfC qual (defScope st) s.heap.objs.size f cdv)).guards = some [] → Room k (A.deeper (envOfC qual (defScope st) s.heap.objs.size f cdv)) → sp vs H Q E →
      ∃ t, PSs (cxOf CX0 P w K mg base N qual (defScope st) f cdv A outer s H E).nox (defBody st) t ∧ t { nx := fun _ H' => Q .non H', rt := Q } (start N vs) H) : FnG P w K mg base CX0 (k + 1) f fd ps sp :=
  funG F S len fun cdv A outer s H vs Q E hg hr hsp => by
    obtain ⟨t, h, q⟩ := hbody cdv A outer s H vs Q E hg hr hsp
    exact ⟨t, h.nox, q⟩
end
section
variable {X : Cx} {CX : CXT} {k : Nat} {f : Addr} {fd : FuncData} {ps ks : List Str} {sp : Sp} {dvs : List V} {ds : List Value} {E : XK} {x : Str} {p pos : Pos} {e : Expr} {es : List Expr} {kws : List Keyword} {t tk : TA}
theorem back_of {pins : List (Addr × Obj)} {σ : L2.St} {H : Hp} {s s' : Shared} {Q : VK} (hx : Passes CX X E) (I : Inv X pins σ H s) {r : Result} (h : CR CX X.stack X.prog X.w H s Q E r s') :
    match r with | .ok (.ret u) => EP X pins σ Q u s' | .ok _ => False | .error e => X.xe e s' := by
  cases r with
  | error e => exact hx pins σ H s e s' I h
  | ok fl => cases fl with
    | ret u => exact I.after h
    | next => exact h
    | brk => exact h
    | cont => exact h
theorem run_fnG {pins : List (Addr × Obj)} {σ : L2.St} {H : Hp} {s : Shared} {Q : VK} {us : List Value} {vs : List V} (F : FnG X.prog X.w X.K X.mg X.base CX k f fd ps sp) (hg : X.A.guards = some []) (hr : Room k X.A) (hb : Binds X.K fd ps ds) (hd : Vals dvs ds) (hx : Passes CX X E)
    (I : Inv X pins σ H s) (r : Vals vs us) (h : sp (vs ++ dvs) H Q E) : wpAny (model X.prog X.w) X.A (call (.ref f) us) (EP X pins σ Q) X.xe s := by
  have r2 : Vals (vs ++ dvs) (us ++ ds) := r.append hd
  refine wpAny_call (codeAny_mono (F.run X.A X.stack s H ⟨us, []⟩ (us ++ ds) (vs ++ dvs) Q E hg hr I.env0 (hb s us I.kIn (by rw [← r2.length]; exact F.len _ _ _ _ h)) r2 h) fun r s' hq => ?_)
  have z := back_of hx I hq
  cases r with
  | error e => exact z
  | ok fl => cases fl with
    | ret u => exact z
    | next => exact z.elim
    | brk => exact z.elim
    | cont => exact z.elim
theorem pe_callG (F : FnG X.prog X.w X.K X.mg X.base CX k f fd ps sp) (hgu : X.A.guards = some []) (hr : Room k X.A) (hg : Gl X x) (hm : X.mg x = some (.ref f)) (hk : PySem.W.keepIn X.K (.ref f) = true) (hb : Binds X.K fd ps ds) (hd : Vals dvs ds) (hx : Passes CX X E)
    (ha : PA X (e :: es) t) (hdb : (x == ("__debug__" : Str)) = false := by decide) (he : starEach (e :: es) X.env = (false, eval e X.env) :: starEach es X.env := by rfl) (hpl : (backTo pos (starEach es X.env)).any (·.1) = false := by rfl) :
    PE X (.Call (.Name x p) (e :: es) [] pos) (tCall sp dvs E t) := ⟨fun pins s σ H Q I h =>
  wpAny_Call_Name_kw (ld_glob I hg hm (PySem.W.callWith_K (h₀ := X.base) I.ok.mod.kin hk (thn (ha.run pos pins s σ H _ I h) fun us s1 ⟨vs, H1, I1, r, q⟩ => ⟨I1.kIn, run_fnG F hgu hr hb hd hx I1 r q⟩) he hpl) hdb)⟩
end
/-! the end of a law -/
section
variable {P : Program} {w : World} {K : PySem.W.Frag} {mg mb : Str → Option Value}
theorem lawG {CX : CXT} {k : Nat} {fa a : Addr} {fd : FuncData} {x : Str} {sp : Sp} {s₁ : Shared} {vs : List Value} {ns : List Int}
    (KX : K.In s₁.heap) (hns : s₁.heap.Ns mainGlobals mg) (hb : s₁.heap.Ns builtinsNs mb) (hbb : ∀ x : Str, x ≠ "__name__" → mb x = bootBuiltins x) (hlim : s₁.heap.NoLimit) (hg : s₁.gens = #[])
    (ha : s₁.heap.get? a = some { cls := .type "list", data := .seq vs.toArray }) (hi : IntsAre vs ns) (hl : ns.length ≤ sizeLine) (hr : Room k callerA)
    (F : ∀ base : Heap, K.In base → base.Ns mainGlobals mg → FnG P w K mg base CX k fa fd [x] sp) (hbind : ∀ (s : Shared) (u : Value), BindsTo s fd ⟨[u], []⟩ [(x, u)])
    (hsp : ∀ H : Hp, Only H → SqL K H a (ns.map V.int) → sp [.ref a] H (fun v _ => v = .bl true) fun _ _ _ => False) (hCX : ∀ H e s', CX [] H s₁ (fun _ _ _ => False) e s' → False) :
    codeAny (model P w) callerA (.call (.ref fa) ⟨[.ref a], []⟩) (fun r s' => r = .ok (.ret (.bool true)) ∧ OldK s₁.heap s'.heap ∧ s'.os = s₁.os ∧ AllBare s'.gens) s₁ := by
  have rv := vals_ints hi
  have main : ∀ H : Hp, Only H → SqL K H a (ns.map V.int) → HOk P w H s₁.heap → (∀ b, H b ≠ none → b = a ∧ K.lookup a = none) →
      codeAny (model P w) callerA (.call (.ref fa) ⟨[.ref a], []⟩) (fun r s' => r = .ok (.ret (.bool true)) ∧ OldK s₁.heap s'.heap ∧ s'.os = s₁.os ∧ AllBare s'.gens) s₁ := by
    intro H hO hS hok hA
    have untr : ∀ {b : Addr}, b ≠ a ∨ K.lookup a ≠ none → H b = none := fun {b} h => by
      cases q : H b with
      | none => rfl
      | some u => have z := hA b (by rw [q]; simp); exact (h.elim (fun n => n z.1) fun n => n z.2).elim
    have ns_of : ∀ {b : Addr} {m : Str → Option Value}, s₁.heap.Ns b m → (hidT s₁.heap H).Ns b m := fun {b m} ⟨o, es, ep, e, d, r⟩ => ⟨o, es, ep, hidT_get e (untr (.inl fun z => by
      subst z
      rw [ha] at e
      cases e
      exact absurd (show Data.seq vs.toArray _ = Data.dict es ep from d) (fun z => by cases z))), d, r⟩
    have kb : K.In (hidT s₁.heap H) := fun b o e => hidT_get (KX b o e) (by
      by_cases z : b = a
      · exact untr (.inr fun y => by subst z; rw [y] at e; cases e)
      · exact untr (.inl z))
    have md : Mod K mg (hidT s₁.heap H) := ⟨kb, ns_of hns, ⟨mb, ns_of hb, hbb⟩, let ⟨mc, h1, h2⟩ := hlim; ⟨mc, ns_of h1, h2⟩⟩
    have e0 : Env0 P w K mg (hidT s₁.heap H) callerA [] s₁ H := ⟨rfl, md, fun b o e => of_hidT e, Nat.le_of_eq (hidT_size _ _), trivial, fun b hb => absurd (show b ∈ ([] : List Addr) from hb) (by simp), hok, .of_eq hg⟩
    refine codeAny_mono ((F _ kb (ns_of hns)).run callerA [] s₁ H ⟨[.ref a], []⟩ [.ref a] [.ref a] _ _ rfl hr e0 (hbind s₁ (.ref a)) (.cons rfl .nil) (hsp H hO hS)) fun r s' h => ?_
    cases r with
    | error e => exact (hCX H e s' h).elim
    | ok fl => cases fl with
      | next => exact False.elim h
      | brk => exact False.elim h
      | cont => exact False.elim h
      | ret u =>
        obtain ⟨v, H', os, bare, un, hok', r', q⟩ := h
        obtain rfl : v = .bl true := q
        obtain rfl : u = Value.bool true := r'
        refine ⟨rfl, OldK.of_keep fun b o e => ?_, os, bare⟩
        rcases hO b with z | ⟨ob, xs, z⟩
        · exact un.keep b o e z (fun y => nomatch y) (fun y => nomatch y)
        · obtain ⟨e1, _⟩ := hok b _ z
          obtain ⟨e2, _⟩ := hok' b _ (un.frzs b ob _ z)
          exact e2.trans (e1.symm.trans e)
  cases hk : K.lookup a with
  | some o =>
    have e := KX a o hk
    rw [ha] at e
    cases e
    exact main (fun _ => none) (fun _ => .inl rfl) (.inr ⟨_, vs.toArray, _, hk, rfl, rfl, rfl, by rw [List.size_toArray, hi.length]; exact hl, by simpa using rv⟩) (fun b u z => by cases (show (none : Option HO) = some u from z)) fun b z => absurd rfl z
  | none =>
    have at_ : ∀ {b : Addr} {u : HO}, (if b = a then some (HO.frz { cls := .type "list", data := .seq vs.toArray } (.lst (ns.map V.int))) else none) = some u → b = a ∧ u = .frz { cls := .type "list", data := .seq vs.toArray } (.lst (ns.map V.int)) := fun {b u} z => by
      by_cases y : b = a
      · rw [if_pos y] at z; exact ⟨y, (Option.some.inj z).symm⟩
      · rw [if_neg y] at z; cases z
    refine main (fun b => if b = a then some (.frz { cls := .type "list", data := .seq vs.toArray } (.lst (ns.map V.int))) else none) (fun b => ?_) (.inl (.inr ⟨{ cls := .type "list", data := .seq vs.toArray }, if_pos rfl⟩)) (fun b u z => ?_) fun b z => ⟨?_, hk⟩
    · by_cases y : b = a
      · exact .inr ⟨_, _, if_pos y⟩
      · exact .inl (if_neg y)
    · obtain ⟨rfl, rfl⟩ := at_ z
      exact ⟨ha, by rw [List.length_map]; exact hl, vs, _, rv, ha⟩
    · by_cases y : b = a
      · exact y
      · exact absurd (if_neg y) z
theorem walkG {l : PySem.W.OpenLaw} {n k : Nat} {q : Program} {loose : List Str} {XP : (Str → Option Value) → Heap → Prop} {YP : World → Heap → Prop} {d : DefRec} {K : Params → PySem.W.Frag} {CX : World → CXT} {sp : World → Sp} {x : Str}
    (hn : l.most = some n) (hn2 : n ≤ sizeLine) (hdf : d.params.defaults = []) (hr : Room k callerA) (hY : ∀ (w : World) (h : Heap), YP w h → (K w.params).In h)
    (F : ∀ (w : World) (mg : Str → Option Value) (fa : Addr) (h : Heap), (K w.params).In h → h.Ns mainGlobals mg → mg d.name = some (.ref fa) →
      ∃ fd : FuncData, (∀ (s : Shared) (u : Value), BindsTo s fd ⟨[u], []⟩ [(x, u)]) ∧ ∀ base : Heap, (K w.params).In base → base.Ns mainGlobals mg → FnG l.prog w (K w.params) mg base (CX w) k fa fd [x] (sp w))
    (hsp : ∀ (w : World) (H : Hp) (a : Addr) (ns : List Int), ns.length ≤ n → Only H → SqL (K w.params) H a (ns.map V.int) → sp w [.ref a] H (fun v _ => v = .bl true) fun _ _ _ => False)
    (hCX : ∀ (w : World) (H : Hp) (s : Shared) (e : Value) (s' : Shared), CX w [] H s (fun _ _ _ => False) e s' → False) : PySem.W.WalkO q loose XP YP l.row.toRowW d [] (fun f vs => PySem.call f vs) :=
  Att.attach_call hn hdf fun w s₀ s₁ mg mb fa o pm cd doc a vs ns G Y ho hd hcd hmg hobj hints hlen hg => by
    obtain ⟨fd, hb, hF⟩ := F w mg fa _ (hY w _ Y) G.T.g hmg
    exact lawG (hY w _ Y) G.T.g G.T.b G.T.builtins G.T.nolimit hg hobj hints (Nat.le_trans hlen hn2) hr hF hb (fun H hO hS => hsp w H a ns hlen hO hS) fun H e s' => hCX w H s₁ e s'
end
end Gn
set_option Elab.async false
set_option linter.all false
set_option maxRecDepth 100000
set_option maxHeartbeats 4000000
namespace Gn
open PySem PySem.Spec PyProof.Rows L2
section
variable {X : Cx} {CX : CXT} {k : Nat} {f : Addr} {fd : FuncData} {ps ks : List Str} {sp : Sp} {E : XK} {x : Str} {p pos : Pos} {kws : List Keyword} {tk : TA} {g : List Value → List Value → List Value} {gV : List V → List V → List V}
/-- f(k = v, ..): keywords alone -/
theorem pe_callK0 (F : FnOk X.prog X.w X.K X.mg X.base CX k f fd ps sp) (hr : Room k X.A) (hg : Gl X x) (hm : X.mg x = some (.ref f)) (hk : PySem.W.keepIn X.K (.ref f) = true) (hb : KBinds X.K fd ps ks g gV) (hx : Passes CX X E) (hkw : PK X kws tk)
    (hall : (backToKw pos (keywordEach kws X.env)).all (·.1.isSome) = true := by rfl) (hks : (backToKw pos (keywordEach kws X.env)).filterMap (·.1) = ks := by rfl) (hdb : (x == ("__debug__" : Str)) = false := by decide)
    (hpl : ((backTo pos (starEach [] X.env)).any (·.1) || (backToKw pos (keywordEach kws X.env)).any (·.1.isNone)) = false := by rfl) : PE X (.Call (.Name x p) [] kws pos) (tCallK sp gV E tNil tk) := ⟨fun pins s σ H Q I h =>
  wpAny_Call_Name_kw (ld_glob I hg hm (PySem.W.callWith_KW0 (h₀ := X.base) I.ok.mod.kin hk hall (thn (hkw.run pos pins s σ H _ I h) fun ws s2 ⟨zs, H2, I2, rz, q2⟩ => ⟨I2.kIn, by
    rw [hks]
    exact run_fnk (us := []) (vs := []) F hr hb hx I2 .nil rz q2⟩) hpl) hdb)⟩
end
/-! keywords in the parameters' order, and two the other way round -/
def kw1 {α : Type} : List α → List α → List α
  | [], [a] => [a]
  | _, _ => []
def kw2 {α : Type} : List α → List α → List α
  | [], [a, b] => [a, b]
  | _, _ => []
def kw2s {α : Type} : List α → List α → List α
  | [], [a, b] => [b, a]
  | _, _ => []
section
variable {K : PySem.W.Frag} {fd : FuncData} {ps ks : List Str}
theorem kb1 {p : Str} (h : ∀ a : Value, bindArgs fd ⟨[], [(p, a)]⟩ = pure [(p, a)]) : KBinds K fd [p] [p] kw1 kw1 :=
  ⟨fun s us ws _ hl => match us, ws, hl with
    | [], [a], _ => .of_eq (h a)
    | [], [], z => (nomatch z)
    | [], _ :: _ :: _, z => (nomatch z)
    | _ :: _, _, z => (nomatch z), fun {vs us zs ws} r rz => by
    cases r with
    | nil => cases rz with
      | nil => exact .nil
      | cons a b => cases b with
        | nil => exact .cons a .nil
        | cons _ _ => exact .nil
    | cons _ _ => exact .nil⟩
theorem kb2 {p q : Str} (h : ∀ a b : Value, bindArgs fd ⟨[], [(p, a), (q, b)]⟩ = pure [(p, a), (q, b)]) : KBinds K fd [p, q] [p, q] kw2 kw2 :=
  ⟨fun s us ws _ hl => match us, ws, hl with
    | [], [a, b], _ => .of_eq (h a b)
    | [], [], z => (nomatch z)
    | [], [_], z => (nomatch z)
    | [], _ :: _ :: _ :: _, z => (nomatch z)
    | _ :: _, _, z => (nomatch z), fun {vs us zs ws} r rz => by
    cases r with
    | nil => cases rz with
      | nil => exact .nil
      | cons a b => cases b with
        | nil => exact .nil
        | cons c d => cases d with
          | nil => exact .cons a (.cons c .nil)
          | cons _ _ => exact .nil
    | cons _ _ => exact .nil⟩
theorem kb2s {p q : Str} (h : ∀ a b : Value, bindArgs fd ⟨[], [(q, b), (p, a)]⟩ = pure [(p, a), (q, b)]) : KBinds K fd [p, q] [q, p] kw2s kw2s :=
  ⟨fun s us ws _ hl => match us, ws, hl with
    | [], [b, a], _ => .of_eq (h a b)
    | [], [], z => (nomatch z)
    | [], [_], z => (nomatch z)
    | [], _ :: _ :: _ :: _, z => (nomatch z)
    | _ :: _, _, z => (nomatch z), fun {vs us zs ws} r rz => by
    cases r with
    | nil => cases rz with
      | nil => exact .nil
      | cons a b => cases b with
        | nil => exact .nil
        | cons c d => cases d with
          | nil => exact .cons c (.cons a .nil)
          | cons _ _ => exact .nil
    | cons _ _ => exact .nil⟩
end
end Gn
namespace Gn
open PySem PySem.Spec PyProof.Rows L2
/-- a conditional expression whose two ways change nothing -/
theorem tif {c : Bool} {ta tb : TE} {σ : L2.St} {H : Hp} {Q : VK} (v1 v2 : V) (h1 : c = true → ∀ R : VK, R v1 H → ta σ H R) (h2 : c = false → ∀ R : VK, R v2 H → tb σ H R) (k : ∀ v, (c = true → v = v1) → (c = false → v = v2) → Q v H) : if c = true then ta σ H Q else tb σ H Q := by
  cases c with
  | true => exact iteT (h1 rfl Q (k v1 (fun _ => rfl) (fun z => nomatch z)))
  | false => exact iteF (h2 rfl Q (k v2 (fun z => nomatch z) (fun _ => rfl)))
theorem cut_mem {xs : List V} {lo hi : Option Int} {x : V} (h : x ∈ cutV xs lo hi) : x ∈ xs := by
  unfold cutV at h
  exact List.mem_of_mem_drop (List.mem_of_mem_take h)
theorem int_at {ns : List Int} {x : V} (h : x ∈ ns.map V.int) : ∃ z, x = V.int z := by
  obtain ⟨z, _, e⟩ := List.mem_map.mp h
  exact ⟨z, e.symm⟩
theorem same_put {H : Hp} {p : Addr} {o : HO} (h : H p = none) : Same H (upd H p o) := fun b x e => by
  rw [upd_ne (ne_of_none e h)]
  exact e
theorem fmod_ge {a b : Int} (h : 0 < b) : 0 ≤ a.fmod b := by
  rw [Int.fmod_eq_emod_of_nonneg _ (by omega)]; exact Int.emod_nonneg _ (by omega)
theorem fmod_lt {a b : Int} (h : 0 < b) : a.fmod b < b := by
  rw [Int.fmod_eq_emod_of_nonneg _ (by omega)]; exact Int.emod_lt_of_pos _ h
end Gn
set_option Elab.async false
set_option linter.all false
set_option maxRecDepth 100000
set_option maxHeartbeats 4000000
namespace Gn
open PySem PySem.Spec PyProof.Rows L2
/-- tuple(xs) of a list: a new tuple -/
def rTupL (K : PySem.W.Frag) : List V → Hp → VK → Prop := fun xs H Q => ∃ p ys, xs = [V.ref p] ∧ SqL K H p ys ∧ ∀ l, H l = none → Q (.ref l) (upd H l (.tup ys))
theorem cr_tupL {X : Cx} : CallR X (.type "tuple") (rTupL X.K) := by
  intro pins s σ H xs us Q I r h
  obtain ⟨p, ys, e, h1, h2⟩ := h
  exact call_tuple_of pins s σ H xs us Q I r ⟨p, ys, e, .inl ⟨h1, h2⟩⟩
end Gn
set_option Elab.async false
set_option linter.all false
set_option maxRecDepth 100000
set_option maxHeartbeats 4000000
namespace Gn
open PySem PySem.Spec PyProof.Rows L2
/-- small data: may be shown, may be compared; its text has at most c signs, its depth is at most e -/
structure Sm (c e : Nat) (d : PyData) : Prop where
  sh : d.showable = true
  ln : d.shown.length ≤ c
  dp : d.depth ≤ e
  cl : d.canLay0 = true
theorem sum_le {c : Nat} : ∀ {ts : List Str}, (∀ t ∈ ts, t.length ≤ c) → (ts.map (·.length)).sum ≤ ts.length * c
  | [], _ => by simp
  | t :: ts, h => by
    have h1 := h t List.mem_cons_self
    have h2 := sum_le fun x hx => h x (List.mem_cons_of_mem t hx)
    rw [List.map_cons, List.sum_cons, List.length_cons, Nat.succ_mul]
    omega
theorem Sm.all {c e : Nat} : ∀ {ds : List PyData}, (∀ d ∈ ds, Sm c e d) → PyData.showableAll ds = true ∧ (∀ t ∈ PyData.shownAll ds, t.length ≤ c) ∧ (PyData.shownAll ds).length = ds.length ∧ PyData.depthAll ds ≤ e ∧ PyData.canLayAll0 ds = true
  | [], _ => ⟨rfl, (fun t h => by simp [PyData.shownAll] at h), rfl, Nat.zero_le _, rfl⟩
  | d :: ds, h => by
    have a := h d List.mem_cons_self
    obtain ⟨b1, b2, b3, b4, b5⟩ := Sm.all fun x hx => h x (List.mem_cons_of_mem d hx)
    refine ⟨by simp only [PyData.showableAll, a.sh, b1, Bool.and_self], fun t ht => ?_, by simp only [PyData.shownAll, List.length_cons, b3], by simp only [PyData.depthAll]; exact Nat.max_le.mpr ⟨a.dp, b4⟩, by simp only [PyData.canLayAll0, a.cl, b5, Bool.and_self]⟩
    simp only [PyData.shownAll] at ht
    rcases List.mem_cons.mp ht with rfl | ht
    · exact a.ln
    · exact b2 t ht
theorem Sm.tup {c e n : Nat} {ds : List PyData} (h : ∀ d ∈ ds, Sm c e d) (hn : ds.length ≤ n) : Sm (n * (c + 2) + 3) (e + 1) (.tuple ds) := by
  obtain ⟨b1, b2, b3, b4, b5⟩ := Sm.all h
  refine ⟨by simpa only [PyData.showable] using b1, ?_, by simp only [PyData.depth]; omega, by simpa only [PyData.canLay0] using b5⟩
  simp only [PyData.shown]
  have z := tupleText_len_le (PyData.shownAll ds)
  have y := sum_le b2
  rw [b3] at z y
  have w := Nat.mul_le_mul_right (c + 2) hn
  rw [Nat.mul_add] at w
  omega
theorem Sm.lst {c e n : Nat} {ds : List PyData} (h : ∀ d ∈ ds, Sm c e d) (hn : ds.length ≤ n) : Sm (n * (c + 2) + 3) (e + 1) (.list ds) := by
  obtain ⟨b1, b2, b3, b4, b5⟩ := Sm.all h
  refine ⟨by simpa only [PyData.showable] using b1, ?_, by simp only [PyData.depth]; omega, by simpa only [PyData.canLay0] using b5⟩
  simp only [PyData.shown]
  have z := listText_len_le (PyData.shownAll ds)
  have y := sum_le b2
  rw [b3] at z y
  have w := Nat.mul_le_mul_right (c + 2) hn
  rw [Nat.mul_add] at w
  omega
theorem Sm.int {i : Int} (h : i.natAbs < 2 ^ 1000) : Sm 1921 0 (.int i) := by
  have hl : i.natAbs.log2 < 1920 := Nat.lt_trans (PySem.Flt.log2_lt_of (by decide) h) (by decide)
  exact ⟨by simp only [PyData.showable, hl, decide_true], by simp only [PyData.shown]; exact int_text_len_1921 hl, by simp only [PyData.depth]; exact Nat.le_refl 0, rfl⟩
theorem Sm.shaped {c e : Nat} {d : PyData} (h : Sm c e d) (he : e ≤ 64) : SeqAt.shaped d = true := by
  unfold SeqAt.shaped
  rw [h.cl, decide_eq_true (Nat.le_trans h.dp he)]; rfl
theorem Sm.ints {n : Nat} {ns : List Int} (h : ∀ i ∈ ns, i.natAbs < 2 ^ 1000) (hn : ns.length ≤ n) : Sm (n * 1923 + 3) 1 (.tuple (ns.map PyData.int)) :=
  Sm.tup (c := 1921) (e := 0) (fun d hd => by
    obtain ⟨i, hi, rfl⟩ := List.mem_map.mp hd
    exact Sm.int (h i hi)) (by rw [List.length_map]; exact hn)
end Gn
set_option Elab.async false
set_option linter.all false
set_option maxRecDepth 100000
set_option maxHeartbeats 4000000
namespace Gn
open PySem PySem.Spec PyProof.Rows L2
/-- a conditional expression whose two ways give the same data -/
theorem tIf_dp {tt : TT} {ta tb : TE} {σ : L2.St} {H : Hp} {Q : VK} {K : PySem.W.Frag} {d : PyData} (c : Bool) (ht : ∀ R : Bool → Hp → Prop, R c H → tt σ H R)
    (h1 : c = true → ∀ R : VK, (∀ v H', Same H H' → Dp K H' v d → R v H') → ta σ H R) (h2 : c = false → ∀ R : VK, (∀ v H', Same H H' → Dp K H' v d → R v H') → tb σ H R)
    (k : ∀ v H', Same H H' → Dp K H' v d → Q v H') : tIf tt ta tb σ H Q := by
  refine ht _ ?_
  cases c with
  | true => exact iteT (h1 rfl Q k)
  | false => exact iteF (h2 rfl Q k)
/-- t[lo:hi], whether it is all of t or not -/
theorem slA_of {K : PySem.W.Frag} {a : Addr} {xs : List V} {lo hi : Option Int} {H : Hp} {Q : VK} (h : SqT K H a xs) (k : ∀ b H', Same H H' → SqT K H' b (cutV xs lo hi) → Q (.ref b) H') : rSlA K (.ref a) lo hi H Q := by
  refine ⟨a, xs, rfl, h, fun hw => k a H (Same.refl H) ?_, fun _ p hp => k p _ (same_put hp) (SqT.of upd_same)⟩
  have e : cutV xs lo hi = xs := by
    unfold cutV
    rw [hw.1, hw.2, List.drop_zero, Nat.sub_zero, List.take_length]
  rw [e]; exact h
/-- t + u, whether one of them is empty or not -/
theorem catA_of {K : PySem.W.Frag} {a b : Addr} {xs ys : List V} {H : Hp} {Q : VK} (h1 : SqT K H a xs) (h2 : SqT K H b ys) (hz : xs.length + ys.length ≤ sizeLine) (k : ∀ c H', Same H H' → SqT K H' c (xs ++ ys) → Q (.ref c) H') : rCatA K (.ref a) (.ref b) H Q := by
  refine ⟨a, b, xs, ys, rfl, rfl, h1, h2, hz, fun e => k b H (Same.refl H) ?_, fun _ e => k a H (Same.refl H) ?_, fun _ _ p hp => k p _ (same_put hp) (SqT.of upd_same)⟩
  · rw [e]; exact h2
  · rw [e, List.append_nil]; exact h1
theorem cut_one (xs : List V) : cutV xs none (some 1) = xs.take 1 := by
  unfold cutV
  rw [show HT.sIx xs.length 0 none = 0 from HT.sIx_none .., show HT.sIx xs.length xs.length (some 1) = min 1 xs.length from HT.sIx_nat xs.length xs.length 1, List.drop_zero, Nat.sub_zero]
  cases xs with
  | nil => rfl
  | cons x r => rw [show min 1 (x :: r).length = 1 by rw [List.length_cons]; omega]
/-- keywords of a def of the text -/
theorem kwOf1 {K : PySem.W.Frag} {x qual : Str} {st : Stmt} {f : Addr} {fd : FuncData} {p : Str} (F : Fun K x qual st f fd)
    (h : ∀ (kV doc pm : Value) (an : Option Addr) (cdv ct a : Value), bindArgs (PySem.W.fnOf x qual (defArgs st) (defBody st) (defScope st) .none kV doc pm an cdv ct) ⟨[], [(p, a)]⟩ = pure [(p, a)]) : KBinds K fd [p] [p] kw1 kw1 := by
  obtain ⟨oc, od, kV, doc, pm, an, cdv, ct, osl, rfl, lk, hcd⟩ := F.ex
  exact kb1 fun a => h kV doc pm an cdv ct a
theorem kwOf2 {K : PySem.W.Frag} {x qual : Str} {st : Stmt} {f : Addr} {fd : FuncData} {p q : Str} (F : Fun K x qual st f fd)
    (h : ∀ (kV doc pm : Value) (an : Option Addr) (cdv ct a b : Value), bindArgs (PySem.W.fnOf x qual (defArgs st) (defBody st) (defScope st) .none kV doc pm an cdv ct) ⟨[], [(p, a), (q, b)]⟩ = pure [(p, a), (q, b)]) : KBinds K fd [p, q] [p, q] kw2 kw2 := by
  obtain ⟨oc, od, kV, doc, pm, an, cdv, ct, osl, rfl, lk, hcd⟩ := F.ex
  exact kb2 fun a b => h kV doc pm an cdv ct a b
theorem kwOf2s {K : PySem.W.Frag} {x qual : Str} {st : Stmt} {f : Addr} {fd : FuncData} {p q : Str} (F : Fun K x qual st f fd)
    (h : ∀ (kV doc pm : Value) (an : Option Addr) (cdv ct a b : Value), bindArgs (PySem.W.fnOf x qual (defArgs st) (defBody st) (defScope st) .none kV doc pm an cdv ct) ⟨[], [(q, b), (p, a)]⟩ = pure [(p, a), (q, b)]) : KBinds K fd [p, q] [q, p] kw2s kw2s := by
  obtain ⟨oc, od, kV, doc, pm, an, cdv, ct, osl, rfl, lk, hcd⟩ := F.ex
  exact kb2s fun a b => h kV doc pm an cdv ct a b
end Gn
set_option Elab.async false
set_option linter.all false
set_option maxRecDepth 100000
set_option maxHeartbeats 4000000
namespace Gn
open PySem PySem.Spec PyProof.Rows L2
/-- for x in reversed(xs): what holds behind i turns -/
theorem for_rv {K : PySem.W.Frag} {a : Addr} {xs : List V} {g : TG} {tb : TS} {D : Ends} {σ : L2.St} {H : Hp} (Pv : Nat → L2.St → Hp → Prop) (h0 : Pv 0 σ H) (hl : ∀ i σ H, i ≤ xs.length → Pv i σ H → SqL K H a xs)
    (hs : ∀ i x σ H, i < xs.length → xs[xs.length - 1 - i]? = some x → Pv i σ H → g x σ H fun σ2 H2 => tb { D with nx := Pv (i + 1), ct := Pv (i + 1), bk := D.nx } σ2 H2) (hd : ∀ σ H, Pv xs.length σ H → D.nx σ H) :
    ∃ W : Nat → Nat → L2.St → Hp → Prop, (∃ m, W 0 m σ H) ∧ ∀ i m σ H, W i m σ H →
      ((Itv K a xs.length).stop i H ∧ D.nx σ H) ∨ ((Itv K a xs.length).go i H ∧ ∃ N : L2.St → Hp → Prop, (∀ σ' H', N σ' H' → ∃ m', m' < m ∧ W (i + 1) m' σ' H') ∧ ∀ x H', (Itv K a xs.length).yld i H x H' → g x σ H' fun σ2 H2 => tb { D with nx := N, ct := N, bk := D.nx } σ2 H2) := by
  refine ⟨fun i m σ H => m = xs.length - i ∧ i ≤ xs.length ∧ Pv i σ H, ⟨xs.length, by simp, Nat.zero_le _, h0⟩, fun i m σ H ⟨em, hi, p⟩ => ?_⟩
  subst em
  have q := hl i σ H hi p
  rcases Nat.lt_or_ge i xs.length with c | c
  · have c2 : xs.length - 1 - i < xs.length := by omega
    refine .inr ⟨⟨c, xs, xs[xs.length - 1 - i], q, List.getElem?_eq_getElem c2⟩, Pv (i + 1), fun σ' H' p' => ⟨xs.length - (i + 1), by omega, rfl, c, p'⟩, fun x H' y => ?_⟩
    obtain ⟨rfl, y⟩ := y
    exact hs i x σ _ c (y xs q) p
  · obtain rfl : i = xs.length := by omega
    exact .inl ⟨Nat.le_refl _, hd σ H p⟩
end Gn
namespace Gn
open PySem PySem.Spec PyProof.Rows L2
/-- a test and a second one, their answers as one -/
theorem and_join {c : Bool} {t : TT} {σ : L2.St} {H : Hp} {Q : Bool → Hp → Prop} (e : Bool) (h1 : c = true → ∀ R : Bool → Hp → Prop, R e H → t σ H R) (h2 : c = false → e = false) (k : Q e H) : if c = true then t σ H Q else Q false H := by
  cases c with
  | true => exact iteT (h1 rfl Q k)
  | false => rw [h2 rfl] at k; exact iteF k
end Gn
set_option Elab.async false
set_option linter.all false
set_option maxRecDepth 100000
set_option maxHeartbeats 4000000
namespace Gn
open PySem PySem.Spec PyProof.Rows L2
/-! keywords in the contrary order, all of them -/
def kwR {α : Type} : List α → List α → List α
  | [], ws => ws.reverse
  | _, _ => []
theorem kbR {K : PySem.W.Frag} {fd : FuncData} {ps ks : List Str} (hk : ks = ps.reverse) (h0 : 0 < ps.length) (h : ∀ ws : List Value, ws.length = ps.length → bindArgs fd ⟨[], ks.zip ws⟩ = pure (ps.zip ws.reverse)) : KBinds K fd ps ks kwR kwR :=
  ⟨fun s us ws _ hl => match us, hl with
    | [], hl => .of_eq (h ws (by rw [← hl]; show ws.length = ws.reverse.length; rw [List.length_reverse]))
    | _ :: _, hl => absurd hl (by show ¬ 0 = ps.length; omega), fun {vs us zs ws} r rz => by
    cases r with
    | nil => exact Vals.reverse rz
    | cons _ _ => exact .nil⟩
theorem kwOfR {K : PySem.W.Frag} {x qual : Str} {st : Stmt} {f : Addr} {fd : FuncData} {ps ks : List Str} (F : Fun K x qual st f fd) (hk : ks = ps.reverse) (h0 : 0 < ps.length)
    (h : ∀ (kV doc pm : Value) (an : Option Addr) (cdv ct : Value) (ws : List Value), ws.length = ps.length → bindArgs (PySem.W.fnOf x qual (defArgs st) (defBody st) (defScope st) .none kV doc pm an cdv ct) ⟨[], ks.zip ws⟩ = pure (ps.zip ws.reverse)) : KBinds K fd ps ks kwR kwR := by
  obtain ⟨oc, od, kV, doc, pm, an, cdv, ct, osl, rfl, lk, hcd⟩ := F.ex
  exact kbR hk h0 fun ws hl => h kV doc pm an cdv ct ws hl
/-- divmod by a positive divisor of any size -/
theorem call_divmodW {X : Cx} : CallR X (.builtin "divmod") (fun xs H Q => ∃ i j, xs = [.int i, .int j] ∧ CDivW i j ∧ ∀ p, H p = none → Q (.ref p) (upd H p (.tup [.int (i / j), .int (i % j)]))) := by
  intro pins s σ H xs us Q I r h
  obtain ⟨i, j, rfl, ⟨h1, h2⟩, q⟩ := h
  obtain ⟨u, w', rfl, ⟨t, rfl⟩, ⟨t', rfl⟩⟩ := vals2 r
  refine divmod_int (by omega) ?_ (.inl (PyProof.noPylong_of_log2 h2))
  rw [Int.fdiv_eq_ediv_of_nonneg i (by omega), Int.fmod_eq_emod_of_nonneg i (by omega)]
  have hn : H s.heap.objs.size = none := I.hok.fresh (Nat.le_refl _)
  refine ⟨.ref s.heap.objs.size, _, ?_, rfl, q _ hn⟩
  refine I.laid (fun b o e => Heap.get?_push_of_some _ e) (Nat.le_refl _) ⟨by simp only [List.length_cons, List.length_nil]; rw [sizeLine_eq]; decide, [.int (i / j) s.toks, .int (i % j) (s.toks + 1)], .cons ⟨_, rfl⟩ (.cons ⟨_, rfl⟩ .nil), ?_⟩
  exact ⟨_, Heap.get?_push_size s.heap rfl, rfl, 0, rfl⟩
end Gn
namespace Gn
open PySem PySem.Spec PyProof.Rows L2
theorem pair_eqv {a b c d : Int} : PyData.eqv (.tuple [.int a, .int b]) (.tuple [.int c, .int d]) = decide (a = c ∧ b = d) := by
  rw [Bool.eq_iff_iff]
  simp [PyData.eqv, PyData.eqvAll]
/-- either branch, what holds of either -/
theorem tIf_anyG {tt : TT} {ta tb : TE} {σ : L2.St} {H : Hp} {Q : VK} (Φ : V → Hp → Prop) (c : Bool) (ht : ∀ R : Bool → Hp → Prop, R c H → tt σ H R)
    (h1 : c = true → ∀ R : VK, (∀ v H', Φ v H' → R v H') → ta σ H R) (h2 : c = false → ∀ R : VK, (∀ v H', Φ v H' → R v H') → tb σ H R) (k : ∀ v H', Φ v H' → Q v H') : tIf tt ta tb σ H Q := by
  refine ht _ ?_
  cases c with
  | true => exact iteT (h1 rfl Q k)
  | false => exact iteF (h2 rfl Q k)
end Gn
namespace Gn
open PySem PySem.Spec PyProof.Rows L2
/-- either branch, what holds of either; all may make new objects -/
theorem tIf_same {tt : TT} {ta tb : TE} {σ : L2.St} {H : Hp} {Q : VK} (Φ : V → Hp → Prop) (c : Bool) (ht : ∀ R : Bool → Hp → Prop, (∀ H', Same H H' → R c H') → tt σ H R)
    (h1 : c = true → ∀ H', Same H H' → ∀ R : VK, (∀ v H2, Φ v H2 → R v H2) → ta σ H' R) (h2 : c = false → ∀ H', Same H H' → ∀ R : VK, (∀ v H2, Φ v H2 → R v H2) → tb σ H' R) (k : ∀ v H', Φ v H' → Q v H') : tIf tt ta tb σ H Q := by
  refine ht _ fun H' s => ?_
  cases c with
  | true => exact iteT (h1 rfl H' s Q k)
  | false => exact iteF (h2 rfl H' s Q k)
end Gn
set_option Elab.async false
set_option linter.all false
set_option maxRecDepth 100000
set_option maxHeartbeats 4000000
set_option exponentiation.threshold 2000
namespace My
open PySem PySem.Spec PyProof.Rows L2 Gn
def top (i : Nat) : Stmt := PySem.Challenge.pw_rimorders_k78_whole_alike_claims_judged.main.body.getD i (.Pass ⟨0, 0, 0, 0⟩)
/-! the reel: what the laws of papers draw from -/
abbrev sReel : Stmt := top 96
abbrev sSpin : Stmt := top 97
abbrev sOne : Stmt := top 98
abbrev sShort : Stmt := top 99
abbrev sStepR : Stmt := top 100
theorem scReel : FnScope ["_law_script", "_law_at", "_law_mixed", "_law_cell", "_law_own"] ["_law_script", "_law_at"] (defScope sReel) := ⟨rfl, rfl, rfl, by decide +kernel, rfl, by decide +kernel, by decide +kernel⟩
theorem scSpin : FnScope ["_law_reel_here", "_law_many", "_law_figure", "_law_mixed"] ["_law_reel_here", "_law_many"] (defScope sSpin) := ⟨rfl, rfl, rfl, by decide +kernel, rfl, by decide +kernel, by decide +kernel⟩
theorem scOne : FnScope ["_law_reel_here", "_law_menu"] ["_law_reel_here", "_law_menu"] (defScope sOne) := ⟨rfl, rfl, rfl, by decide +kernel, rfl, by decide +kernel, by decide +kernel⟩
theorem scShort : FnScope ["_law_top", "_law_bottom", "_law_first", "_law_last"] ["_law_top", "_law_bottom"] (defScope sShort) := ⟨rfl, rfl, rfl, by decide +kernel, rfl, by decide +kernel, by decide +kernel⟩
theorem scStepR : FnScope ["_law_reel_here", "_law_bottom"] ["_law_reel_here"] (defScope sStepR) := ⟨rfl, rfl, rfl, by decide +kernel, rfl, by decide +kernel, by decide +kernel⟩
/-- the built-ins that the text calls are still the built-ins -/
structure Bl (mg : Str → Option Value) : Prop where
  len : mg "len" = none
  int : mg "int" = none
  abs : mg "abs" = none
  dv : mg "divmod" = none
/-- a reel at t: the mixed number, what is left of the great cell, how often it was spun, N times at most -/
def Reel (H : Hp) (t : Addr) (N : Int) : Prop := ∃ a b c : Int, H t = some (.lst [.int a, .int b, .int c]) ∧ 0 ≤ a ∧ a < 2147482313 ∧ 0 ≤ b ∧ 0 ≤ c ∧ c ≤ N
/-- all but t is as it was, t is a reel -/
structure Spun (H H' : Hp) (t : Addr) (N : Int) : Prop where
  r : Reel H' t N
  keep : ∀ b o, H b = some o → b ≠ t → H' b = some o
theorem Reel.not {H : Hp} {t b : Addr} {N : Int} (T : Reel H t N) (h : H b = none) : b ≠ t := by
  obtain ⟨_, _, _, h1, _⟩ := T
  exact (ne_of_none h1 h).symm
theorem Reel.same {H H1 : Hp} {t : Addr} {N : Int} (T : Reel H t N) (s : Same H H1) : Reel H1 t N := by
  obtain ⟨a, b, c, h, r⟩ := T
  exact ⟨a, b, c, s _ _ h, r⟩
theorem Reel.le {H : Hp} {t : Addr} {N M : Int} (T : Reel H t N) (h : N ≤ M) : Reel H t M := by
  obtain ⟨a, b, c, z, h1, h2, h3, h4, h5⟩ := T
  exact ⟨a, b, c, z, h1, h2, h3, h4, by omega⟩
theorem Spun.trans {H H1 H2 : Hp} {t : Addr} {N M : Int} (a : Spun H H1 t N) (b : Spun H1 H2 t M) : Spun H H2 t M := ⟨b.r, fun c o e n => b.keep c o (a.keep c o e n) n⟩
theorem Spun.ofSame {H H1 : Hp} {t : Addr} {N : Int} (T : Reel H t N) (s : Same H H1) : Spun H H1 t N := ⟨T.same s, fun c o e _ => s c o e⟩
theorem Spun.le {H H1 : Hp} {t : Addr} {N M : Int} (a : Spun H H1 t N) (h : N ≤ M) : Spun H H1 t M := ⟨a.r.le h, a.keep⟩
theorem Spun.free {H H1 : Hp} {t p : Addr} {N : Int} (s : Spun H H1 t N) (h : H1 p = none) : H p = none := by
  cases q : H p with
  | none => rfl
  | some o =>
    have n : p ≠ t := by
      rintro rfl
      obtain ⟨_, _, _, e, _⟩ := s.r
      rw [h] at e; cases e
    rw [s.keep p o q n] at h
    cases h
def spReel (K : PySem.W.Frag) : Sp := fun vs H Q _ => ∃ (a : Addr) (ns : List Int) (t : Int), vs = [.ref a, .int t] ∧ SqL K H a (ns.map V.int) ∧ 0 ≤ t ∧ t ≤ 100 ∧
  ∀ p H', Same H H' → H p = none → Reel H' p 0 → Q (.ref p) H'
def spSpin : Sp := fun vs H Q _ => ∃ (t : Addr) (n N : Int), vs = [.ref t, .int n] ∧ Reel H t N ∧ N < 2 ^ 60 ∧ 0 < n ∧ n.natAbs < 2 ^ 200 ∧ ∀ d H', 0 ≤ d → d < n → Spun H H' t (N + 1) → Q (.int d) H'
theorem nzA : (2147482291 : Int) ≠ 0 := by decide
theorem nzB : (2147482313 : Int) ≠ 0 := by decide
theorem nzC : (3607 : Int) ≠ 0 := by decide
section
variable {P : Program} {w : World} {K : PySem.W.Frag} {mg : Str → Option Value} {base : Heap}
theorem ok_reel {f : Addr} {fd : FuncData} (F : Fun K "_law_reel" "_law_reel" sReel f fd) (B : Bl mg) : FnOk P w K mg base CX0 1 f fd ["_law_script", "_law_at"] (spReel K) := by
  refine F.ok scReel (fun vs H Q E h => ?_) (fun cdv A outer s H vs Q E hr h => ?_)
  · obtain ⟨a, ns, t, rfl, _⟩ := h
    rfl
  · obtain ⟨a, ns, t, rfl, hS, t0, t1, q⟩ := h
    refine ⟨_, pss_cons (ps_set (i := 2) scReel.nd rfl (.inl rfl) (pe_op op_add pe_int (pe_op op_mul pe_int (pv 1))))
      (pss_cons (ps_for PassesOwn.never rfl (pi_list (pe_slice sl_list (pv 0) po_none (po_some pe_int))) (pg_name (i := 3) scReel.nd rfl (.inl rfl))
        (pss_one (ps_set (i := 2) scReel.nd rfl (.inl rfl) (pe_op op_modN (pe_callTy call_int1 (by rfl) B.int (by decide +kernel) (pa_cons (pe_op op_add (pe_op op_mul (pv 2) pe_int) (pv 3)) pa_nil)) pe_int))))
      (pss_cons (ps_set (i := 4) scReel.nd rfl (.inl rfl) (pe_ifExp (pt_cmpR op_lt (pv 1) (pe_callB call_len_seq (by rfl) B.len PySem.boot_len (pa_cons (pv 0) pa_nil)) (nomark _))
        (pe_ix ix_list (pv 0) (pv 1) (fun _ _ => rfl)) (pe_op op_add (pe_op op_mul pe_int (pv 1)) pe_int)))
      (pss_one (ps_ret (pe_lst (pa_cons (pe_op op_modN (pe_callTy call_int1 (by rfl) B.int (by decide +kernel) (pa_cons (pe_op op_add (pe_op op_add (pe_op op_mul (pv 2) pe_int) (pe_op op_mul (pv 4) pe_int)) pe_int) pa_nil)) pe_int)
          (pa_cons (pe_ifExp (pt_cmpR op_ge (pe_callB call_abs (by rfl) B.abs (by decide +kernel) (pa_cons (pv 4) pa_nil)) (pe_op op_pow pe_int pe_int) (nomark _)) (pe_callB call_abs (by rfl) B.abs (by decide +kernel) (pa_cons (pv 4) pa_nil)) pe_int)
          (pa_cons pe_int pa_nil)))))))), ?_⟩
    refine ⟨_, rfl, _, _, rfl, rfl, .inl ⟨by decide, by decide⟩, _, _, rfl, rfl, ?_⟩
    refine ⟨_, rfl, 5, rfl, a, _, rfl, hS, fun p hp => ⟨p, rfl, ⟨_, .inl (.inl upd_same)⟩, ?_⟩⟩
    have sm := same_put (o := .lst (cutV (ns.map V.int) none (some 5))) hp
    refine for_list (K := K) (a := p) (xs := cutV (ns.map V.int) none (some 5)) (fun i σ H' => ∃ (st : Int) (y : Option V), σ = [some (.ref a), some (.int t), some (.int st), y, none] ∧ 0 ≤ st ∧ st ≤ 2147483647 ∧ H' = upd H p (.lst (cutV (ns.map V.int) none (some 5))))
      ⟨90007 + 8009 * t, none, rfl, by omega, by omega, rfl⟩ (fun i σ H' _ ⟨_, _, _, _, _, e⟩ => by rw [e]; exact .inl (.inl upd_same)) ?_ ?_
    · rintro i x σ H' hi ⟨st, y, rfl, s0, s1, rfl⟩
      obtain ⟨z, rfl⟩ := int_at (cut_mem (List.mem_of_getElem? hi))
      refine ⟨_, rfl, _, _, rfl, rfl, .inl ⟨by omega, by omega⟩, _, rfl, _, _, rfl, rfl, .inl ⟨_, rfl, _, _, rfl, rfl, nzA, ?_⟩⟩
      exact ⟨_, _, rfl, fmod_ge (by decide), Int.le_trans (Int.le_of_lt (fmod_lt (by decide))) (by decide), rfl⟩
    · rintro σ H' ⟨st, y, rfl, s0, s1, rfl⟩
      refine ⟨_, rfl, _, rfl, a, _, rfl, .inl (sm.seq hS), _, _, rfl, rfl, _, rfl, ?_⟩
      refine tif (.int (ns.getD t.toNat 0)) (.int (37 * t + 19)) (fun hc R z => ?_) (fun _ R z => ?_) (fun v e1 e2 => ?_)
      · have hl : t.toNat < ns.length := by have := of_decide_eq_true hc; rw [List.length_map] at this; omega
        exact ⟨_, rfl, _, rfl, a, _, t, .int (ns.getD t.toNat 0), rfl, rfl, sm.seq hS, at_of (j := t.toNat) (by omega) (by rw [List.getElem?_map, List.getElem?_eq_getElem hl, List.getD_eq_getElem?_getD, List.getElem?_eq_getElem hl]; rfl), z⟩
      · exact ⟨_, rfl, _, _, rfl, rfl, .inl ⟨by decide, by decide⟩, _, _, rfl, rfl, z⟩
      obtain ⟨e, rfl⟩ : ∃ e, v = V.int e := by
        rcases Bool.eq_false_or_eq_true (decide (t < ↑(List.map V.int ns).length)) with z | z
        · exact ⟨_, e1 z⟩
        · exact ⟨_, e2 z⟩
      refine ⟨_, rfl, _, _, rfl, rfl, .inl ⟨by omega, by omega⟩, _, rfl, _, _, rfl, rfl, .inr ⟨by decide, by decide⟩, _, _, rfl, rfl, _, _, rfl, rfl, .inl ⟨_, rfl, _, _, rfl, rfl, nzA, ?_⟩⟩
      refine ⟨_, rfl, _, rfl, _, _, rfl, rfl, ⟨by decide, by decide, by decide⟩, _, _, rfl, rfl, _, rfl, ?_⟩
      refine tif (.int (if e < 0 then -e else e)) (.int 0) (fun _ R z => ⟨_, rfl, _, rfl, z⟩) (fun _ R z => z) (fun v e1 e2 => ?_)
      obtain ⟨b, rfl, hb⟩ : ∃ b, v = V.int b ∧ 0 ≤ b := by
        rcases Bool.eq_false_or_eq_true (decide ((10 : Int) ^ (17 : Int).toNat ≤ if e < 0 then -e else e)) with z | z
        · exact ⟨_, e1 z, by split <;> omega⟩
        · exact ⟨_, e2 z, by decide⟩
      refine ⟨(by show 3 ≤ sizeLine; decide), fun r hr' => ?_⟩
      exact q r _ (sm.trans (same_put hr')) (sm.free hr') ⟨_, _, _, upd_same, fmod_ge (by decide), Int.lt_of_lt_of_le (fmod_lt (by decide)) (by decide), hb, by decide, by decide⟩
theorem ok_spin {f : Addr} {fd : FuncData} (F : Fun K "_law_spin" "_law_spin" sSpin f fd) (B : Bl mg) : FnOk P w K mg base CX0 1 f fd ["_law_reel_here", "_law_many"] spSpin := by
  refine F.ok scSpin (fun vs H Q E h => ?_) (fun cdv A outer s H vs Q E hr h => ?_)
  · obtain ⟨t, n, N, rfl, _⟩ := h
    rfl
  · obtain ⟨t, n, N, rfl, ⟨a, b, c, hT, a0, a1, b0, c0, cN⟩, NN, n0, n1, q⟩ := h
    have c60 : c < 2 ^ 60 := by omega
    refine ⟨_, pss_cons (ps_if (pt_cmpR op_gt (pe_ix ix_list (pv 0) pe_int (fun _ _ => rfl)) pe_int (nomark _))
        (pss_cons (ps_asg (pe_callB call_divmodW (by rfl) B.dv (by decide +kernel) (pa_cons (pe_ix ix_list (pv 0) pe_int (fun _ _ => rfl)) (pa_cons (pv 1) pa_nil))) (pg_tup (by rfl) (pgs_cons (pg_sub (pv 0) pe_int set_list) (pgs_cons (pg_name (i := 2) scSpin.nd rfl (.inl rfl)) pgs_nil))))
        (pss_one (ps_ret (pv 2)))) pss_nil)
      (pss_cons (ps_asg (pe_op op_add (pe_ix ix_list (pv 0) pe_int (fun _ _ => rfl)) pe_int) (pg_sub (pv 0) pe_int set_list))
      (pss_cons (ps_set (i := 3) scSpin.nd rfl (.inl rfl) (pe_op op_modN (pe_callTy call_int1 (by rfl) B.int (by decide +kernel) (pa_cons (pe_op op_add (pe_op op_add (pe_op op_mul (pe_ix ix_list (pv 0) pe_int (fun _ _ => rfl)) pe_int) (pe_op op_mul (pe_op op_mul (pe_ix ix_list (pv 0) pe_int (fun _ _ => rfl)) (pe_ix ix_list (pv 0) pe_int (fun _ _ => rfl))) pe_int)) pe_int) pa_nil)) pe_int))
      (pss_cons (ps_asg (pe_op op_modN (pe_callTy call_int1 (by rfl) B.int (by decide +kernel) (pa_cons (pe_op op_add (pe_op op_mul (pv 3) (pe_op op_add pe_int (pe_op op_modN (pe_callTy call_int1 (by rfl) B.int (by decide +kernel) (pa_cons (pv 3) pa_nil)) pe_int))) pe_int) pa_nil)) pe_int) (pg_sub (pv 0) pe_int set_list))
      (pss_one (ps_ret (pe_op op_modN (pe_callTy call_int1 (by rfl) B.int (by decide +kernel) (pa_cons (pe_op op_fdivW (pe_ix ix_list (pv 0) pe_int (fun _ _ => rfl)) pe_int) pa_nil)) (pv 1))))))), ?_⟩
    refine ⟨_, rfl, t, _, 1, .int b, rfl, rfl, SqL.of hT, at_of (j := 1) rfl rfl, _, _, rfl, rfl, _, rfl, ?_⟩
    refine ite2 (fun hc => ?_) (fun hc => ?_)
    · have hb : 0 < b := of_decide_eq_true hc
      refine ⟨_, rfl, t, _, 1, .int b, rfl, rfl, SqL.of hT, at_of (j := 1) rfl rfl, _, rfl, b, n, rfl, wide_div n0 n1 (by decide) (by decide), fun p hp => ?_⟩
      have s1 := same_put (o := HO.tup [.int (b / n), .int (b % n)]) hp
      refine ⟨p, _, rfl, SqT.of upd_same, rfl, ?_⟩
      refine ⟨_, _, rfl, _, rfl, t, _, _, 1, rfl, rfl, s1 _ _ hT, rfl, _, _, rfl, rfl, _, rfl, ?_⟩
      refine q _ _ (Int.emod_nonneg _ (by omega)) (Int.emod_lt_of_pos _ n0) ⟨⟨_, _, _, upd_same, a0, a1, Int.ediv_nonneg b0 (by omega), c0, by omega⟩, fun z o e hz => ?_⟩
      rw [upd_ne hz]
      exact s1 _ _ e
    · refine ⟨_, rfl, t, _, 2, .int c, rfl, rfl, SqL.of hT, at_of (j := 2) rfl rfl, _, _, rfl, rfl, _, rfl, t, _, _, 2, rfl, rfl, hT, rfl, ?_⟩
      have h1 : upd H t (.lst ([V.int a, V.int b, V.int c].set 2 (V.int (c + 1)))) t = some (.lst [.int a, .int b, .int (c + 1)]) := upd_same
      refine ⟨_, rfl, t, _, 0, .int a, rfl, rfl, SqL.of h1, at_of (j := 0) rfl rfl, _, _, rfl, rfl, .inl ⟨by omega, by omega⟩, _, rfl, t, _, 2, .int (c + 1), rfl, rfl, SqL.of h1, at_of (j := 2) rfl rfl, _, rfl, t, _, 2, .int (c + 1), rfl, rfl, SqL.of h1, at_of (j := 2) rfl rfl, _, _, rfl, rfl, .inl ⟨by omega, by omega⟩, ?_⟩
      refine ⟨_, _, rfl, rfl, .inr ⟨by decide, by decide⟩, _, _, rfl, rfl, _, _, rfl, rfl, .inl ⟨_, rfl, _, _, rfl, rfl, nzA, ?_⟩⟩
      have m0 := fmod_ge (a := a * 41011 + (c + 1) * (c + 1) * 101 + 71) (show (0 : Int) < 2147482291 by decide)
      have m1 := fmod_lt (a := a * 41011 + (c + 1) * (c + 1) * 101 + 71) (show (0 : Int) < 2147482291 by decide)
      refine ⟨_, rfl, _, rfl, .inl ⟨_, rfl, _, _, rfl, rfl, nzC, _, _, rfl, rfl, _, _, rfl, rfl, .inl ⟨by omega, by omega⟩, _, _, rfl, rfl, .inl ⟨_, rfl, _, _, rfl, rfl, nzB, _, rfl, t, _, _, 0, rfl, rfl, h1, rfl, ?_⟩⟩⟩
      have h2 : ∀ z : Int, upd (upd H t (.lst ([V.int a, V.int b, V.int c].set 2 (V.int (c + 1))))) t (.lst ([V.int a, V.int b, V.int (c + 1)].set 0 (V.int z))) t = some (.lst [.int z, .int b, .int (c + 1)]) := fun z => upd_same
      refine ⟨_, rfl, t, _, 0, _, rfl, rfl, SqL.of (h2 _), at_of (j := 0) rfl rfl, _, _, rfl, rfl, wide_div (b := 9) (by decide) (by decide) (by decide) (by decide), .inl ⟨_, rfl, _, rfl, _, _, rfl, rfl, (show n ≠ 0 by omega), ?_⟩⟩
      refine q _ _ (fmod_ge n0) (fmod_lt n0) ⟨⟨_, _, _, h2 _, fmod_ge (by decide), fmod_lt (by decide), b0, by omega, by omega⟩, fun z o e hz => ?_⟩
      rw [upd_ne hz, upd_ne hz]; exact e
end
end My
set_option Elab.async false
set_option linter.all false
set_option maxRecDepth 100000
set_option maxHeartbeats 4000000
set_option exponentiation.threshold 2000
namespace My
open PySem PySem.Spec PyProof.Rows L2 Gn
/-- x / y is a step: lowest terms, from 0 on, below 1 -/
structure IsStep (x y : Int) : Prop where
  x0 : 0 ≤ x
  xy : x < y
  co : Nat.gcd x.natAbs y.natAbs = 1
theorem low_step {a b : Int} (h0 : 0 ≤ a) (h : a < b) : IsStep (a / ((Nat.gcd a.natAbs b.natAbs : Nat) : Int)) (b / ((Nat.gcd a.natAbs b.natAbs : Nat) : Int)) ∧ b / ((Nat.gcd a.natAbs b.natAbs : Nat) : Int) ≤ b := by
  obtain ⟨x, rfl⟩ := Int.eq_ofNat_of_zero_le h0
  obtain ⟨y, rfl⟩ := Int.eq_ofNat_of_zero_le (show 0 ≤ b by omega)
  simp only [Int.natAbs_natCast]
  have hy : 0 < y := by omega
  have g0 : 0 < Nat.gcd x y := Nat.gcd_pos_of_pos_right _ hy
  have e1 : ((x : Int) / ((Nat.gcd x y : Nat) : Int)) = ((x / Nat.gcd x y : Nat) : Int) := by simp
  have e2 : ((y : Int) / ((Nat.gcd x y : Nat) : Int)) = ((y / Nat.gcd x y : Nat) : Int) := by simp
  rw [e1, e2]
  obtain ⟨u, hu⟩ := Nat.gcd_dvd_left x y
  obtain ⟨v, hv⟩ := Nat.gcd_dvd_right x y
  have du : x / Nat.gcd x y = u := Nat.div_eq_of_eq_mul_right g0 hu
  have dv : y / Nat.gcd x y = v := Nat.div_eq_of_eq_mul_right g0 hv
  refine ⟨⟨by omega, ?_, ?_⟩, ?_⟩
  · rw [du, dv]
    have : Nat.gcd x y * u < Nat.gcd x y * v := by rw [← hu, ← hv]; omega
    have := Nat.lt_of_mul_lt_mul_left this
    omega
  · simp only [Int.natAbs_natCast]
    exact Nat.coprime_div_gcd_div_gcd g0
  · have := Nat.div_le_self y (Nat.gcd x y)
    omega
/-- a def that the module holds under its own name, and how it binds -/
structure Df (K : PySem.W.Frag) (mg : Str → Option Value) (x : Str) (st : Stmt) (ps : List Str) (f : Addr) (fd : FuncData) : Prop where
  F : Fun K x x st f fd
  g : mg x = some (.ref f)
  b : Binds K fd ps []
def spOne : Sp := fun vs H Q _ => ∃ (t m : Addr) (xs : List V) (N : Int), vs = [.ref t, .ref m] ∧ Reel H t N ∧ N < 2 ^ 60 ∧ H m = some (.lst xs) ∧ m ≠ t ∧ 0 < xs.length ∧ xs.length ≤ 1000 ∧ ∀ x H', x ∈ xs → Spun H H' t (N + 1) → Q x H'
def spShort : Sp := fun vs H Q _ => ∃ (a b : Int), vs = [.int a, .int b] ∧ 0 ≤ a ∧ 0 < b ∧ b.natAbs < 2 ^ 300 ∧
  ∀ p, H p = none → Q (.ref p) (upd H p (.tup [.int (a / ((Nat.gcd a.natAbs b.natAbs : Nat) : Int)), .int (b / ((Nat.gcd a.natAbs b.natAbs : Nat) : Int))]))
def spStepR : Sp := fun vs H Q _ => ∃ (t : Addr) (N : Int), vs = [.ref t] ∧ Reel H t N ∧ N < 2 ^ 59 ∧
  ∀ x y p H', IsStep x y → y ≤ 10 ^ 30 → Spun H H' t (N + 3) → H p = none → H' p = some (.tup [.int x, .int y]) → Q (.ref p) H'
section
variable {P : Program} {w : World} {K : PySem.W.Frag} {mg : Str → Option Value} {base : Heap}
theorem ok_one {f fS : Addr} {fd fdS : FuncData} (F : Fun K "_law_one" "_law_one" sOne f fd) (B : Bl mg) (S : Df K mg "_law_spin" sSpin ["_law_reel_here", "_law_many"] fS fdS) : FnOk P w K mg base CX0 2 f fd ["_law_reel_here", "_law_menu"] spOne := by
  have GS : FnOk P w K mg base CX0 1 fS fdS ["_law_reel_here", "_law_many"] spSpin := ok_spin S.F B
  refine F.ok scOne (fun vs H Q E h => ?_) (fun cdv A outer s H vs Q E hr h => ?_)
  · obtain ⟨t, m, xs, N, rfl, _⟩ := h
    rfl
  · obtain ⟨t, m, xs, N, rfl, T, NN, hm, ne, x0, x1, q⟩ := h
    refine ⟨_, pss_one (ps_ret (pe_ix ix_list (pv 1) (pe_call GS hr (by rfl) S.g S.F.kp S.b .nil pass0 (pa_cons (pv 0) (pa_cons (pe_callB call_len_seq (by rfl) B.len PySem.boot_len (pa_cons (pv 1) pa_nil)) pa_nil))) (fun _ _ => rfl))), ?_⟩
    refine ⟨_, rfl, _, rfl, _, rfl, m, xs, rfl, .inl (SqL.of hm), t, _, N, rfl, T, NN, by omega, ?_, fun d H' d0 d1 sp => ?_⟩
    · rw [Int.natAbs_natCast]; exact Nat.lt_of_le_of_lt x1 (by decide)
    have hd : d.toNat < xs.length := by omega
    refine ⟨m, xs, d, xs[d.toNat], rfl, rfl, SqL.of (sp.keep m _ hm ne), at_of (j := d.toNat) (by omega) (List.getElem?_eq_getElem hd), q _ _ (List.getElem_mem hd) sp⟩
theorem ok_short {f : Addr} {fd : FuncData} (F : Fun K "_law_short" "_law_short" sShort f fd) (B : Bl mg) : FnOk P w K mg base CX0 1 f fd ["_law_top", "_law_bottom"] spShort := by
  refine F.ok scShort (fun vs H Q E h => ?_) (fun cdv A outer s H vs Q E hr h => ?_)
  · obtain ⟨a, b, rfl, _⟩ := h
    rfl
  · obtain ⟨a, b, rfl, a0, b0, b1, q⟩ := h
    refine ⟨_, pss_cons (ps_par (i := 2) (j := 3) (by rfl) scShort.nd rfl rfl (by decide) rfl rfl (pa_cons (pv 0) (pa_cons (pv 1) pa_nil)) (by rfl))
      (pss_cons (ps_while PassesOwn.never (pt_cmpR op_gt (pv 3) pe_int (nomark _)) (pss_one (ps_par (i := 2) (j := 3) (by rfl) scShort.nd rfl rfl (by decide) rfl rfl
        (pa_cons (pv 3) (pa_cons (pe_op op_modN (pe_callTy call_int1 (by rfl) B.int (by decide +kernel) (pa_cons (pv 2) pa_nil)) (pv 3)) pa_nil)) (by rfl))))
      (pss_one (ps_ret (pe_tup (pa_cons (pe_op op_fdivW (pv 0) (pv 2)) (pa_cons (pe_op op_fdivW (pv 1) (pv 2)) pa_nil)))))), ?_⟩
    have g0 : (0 : Int) < ((Nat.gcd a.natAbs b.natAbs : Nat) : Int) := by
      have := Nat.gcd_pos_of_pos_right a.natAbs (show 0 < b.natAbs by omega); omega
    have g1 : (((Nat.gcd a.natAbs b.natAbs : Nat) : Int)).natAbs < 2 ^ 300 := by
      rw [Int.natAbs_natCast]
      exact Nat.lt_of_le_of_lt (Nat.le_of_dvd (by omega) (Nat.gcd_dvd_right _ _)) b1
    refine ⟨_, rfl, _, rfl, _, _, rfl, ?_⟩
    refine while_by (fun σ H' => ∃ x y : Int, σ = [some (.int a), some (.int b), some (.int x), some (.int y)] ∧ 0 ≤ x ∧ 0 ≤ y ∧ Nat.gcd x.natAbs y.natAbs = Nat.gcd a.natAbs b.natAbs ∧ H' = H)
      (fun σ _ => match σ with | [_, _, _, some (.int y)] => y.natAbs | _ => 0) ⟨a, b, rfl, a0, by omega, rfl, rfl⟩ ?_ ?_
    · rintro σ H' ⟨x, y, rfl, x0, y0, hg, rfl⟩
      refine ⟨_, rfl, _, _, rfl, rfl, _, rfl, ?_⟩
      refine ite2 (fun hc => ?_) (fun hc => ?_)
      · have hy : 0 < y := of_decide_eq_true hc
        refine ⟨_, rfl, _, rfl, .inl ⟨_, rfl, _, rfl, _, _, rfl, rfl, (show y ≠ 0 by omega), _, _, rfl, ⟨y, x.fmod y, rfl, y0, fmod_ge hy, ?_, rfl⟩, ?_⟩⟩
        · rw [← hg, Int.fmod_eq_emod_of_nonneg _ y0]
          obtain ⟨m, rfl⟩ := Int.eq_ofNat_of_zero_le x0
          obtain ⟨n, rfl⟩ := Int.eq_ofNat_of_zero_le y0
          rw [← Int.natCast_emod, Int.natAbs_natCast, Int.natAbs_natCast, Int.natAbs_natCast]
          rw [Nat.gcd_comm n, ← Nat.gcd_rec, Nat.gcd_comm]
        · show (x.fmod y).natAbs < y.natAbs
          have h1 := fmod_ge (a := x) hy
          have h2 := fmod_lt (a := x) hy
          omega
      · have hy : y = 0 := by have : ¬ (0 : Int) < y := fun z => hc (decide_eq_true z); omega
        subst hy
        have ex : x = ((Nat.gcd a.natAbs b.natAbs : Nat) : Int) := by
          rw [← hg]; simp [Int.natAbs_of_nonneg x0]
        subst ex
        exact ⟨_, rfl, _, rfl, _, _, rfl, rfl, wide_div g0 g1 (by decide) (by decide), _, rfl, _, rfl, _, _, rfl, rfl, wide_div g0 g1 (by decide) (by decide), (by show 2 ≤ sizeLine; decide), fun p hp => q p hp⟩
    · rintro σ H' Q1 Q2 mo ⟨v, e1, i, j, e2, e3, k, e4, h⟩
      exact ⟨v, e1, i, j, e2, e3, k, e4, mo _ _ h⟩
theorem ok_stepR {f fS fP fG : Addr} {fd fdS fdP fdG : FuncData} (F : Fun K "_law_step" "_law_step" sStepR f fd) (B : Bl mg) (S : Df K mg "_law_spin" sSpin ["_law_reel_here", "_law_many"] fS fdS) (Pk : Df K mg "_law_one" sOne ["_law_reel_here", "_law_menu"] fP fdP)
    (G : Df K mg "_law_short" sShort ["_law_top", "_law_bottom"] fG fdG) : FnOk P w K mg base CX0 3 f fd ["_law_reel_here"] spStepR := by
  have GS : FnOk P w K mg base CX0 1 fS fdS ["_law_reel_here", "_law_many"] spSpin := ok_spin S.F B
  have GP : FnOk P w K mg base CX0 2 fP fdP ["_law_reel_here", "_law_menu"] spOne := ok_one Pk.F B S
  have GG : FnOk P w K mg base CX0 1 fG fdG ["_law_top", "_law_bottom"] spShort := ok_short G.F B
  refine F.ok scStepR (fun vs H Q E h => ?_) (fun cdv A outer s H vs Q E hr h => ?_)
  · obtain ⟨t, N, rfl, _⟩ := h
    rfl
  · obtain ⟨t, N, rfl, T, NN, q⟩ := h
    have hr1 : Room 1 _ := hr.mono (by decide)
    refine ⟨_, pss_cons (ps_set (i := 1) scStepR.nd rfl (.inl rfl) (pe_op op_add pe_int (pe_call GS hr1 (by rfl) S.g S.F.kp S.b .nil pass0 (pa_cons (pv 0) (pa_cons (pe_call GP hr (by rfl) Pk.g Pk.F.kp Pk.b .nil pass0 (pa_cons (pv 0) (pa_cons (pe_lst (pa_cons pe_int (pa_cons pe_int (pa_cons pe_int (pa_cons (pe_op op_pow pe_int pe_int) (pa_cons (pe_op op_pow pe_int pe_int) pa_nil)))))) pa_nil))) pa_nil)))))
      (pss_one (ps_ret (pe_call GG hr1 (by rfl) G.g G.F.kp G.b .nil pass0 (pa_cons (pe_call GS hr1 (by rfl) S.g S.F.kp S.b .nil pass0 (pa_cons (pv 0) (pa_cons (pv 1) pa_nil))) (pa_cons (pv 1) pa_nil))))), ?_⟩
    refine ⟨_, rfl, _, rfl, _, _, rfl, rfl, ⟨by decide, by decide, by decide⟩, _, _, rfl, rfl, ⟨by decide, by decide, by decide⟩, (by show 5 ≤ sizeLine; decide), fun m hm => ?_⟩
    have e0 := same_put (o := HO.lst (([6, 12, 41, 10 ^ 6, 10 ^ 30] : List Int).map V.int)) hm
    refine ⟨t, m, ([6, 12, 41, 10 ^ 6, 10 ^ 30] : List Int).map V.int, N, rfl, T.same e0, by omega, upd_same, T.not hm, by decide, by decide, fun x H1 hx s1 => ?_⟩
    obtain ⟨z, hz, rfl⟩ := List.mem_map.mp hx
    have zb : 0 < z ∧ z ≤ 10 ^ 30 := by
      have : ∀ z ∈ ([6, 12, 41, 10 ^ 6, 10 ^ 30] : List Int), 0 < z ∧ z ≤ 10 ^ 30 := by decide
      exact this z hz
    have l30 : (10 : Int) ^ 30 < ((2 ^ 100 : Nat) : Int) := by decide
    have l2 : (2 : Nat) ^ 100 < 2 ^ 200 := by decide
    have l3 : (2 : Nat) ^ 100 < 2 ^ 300 := by decide
    have s01 := (Spun.ofSame T e0).trans s1
    refine ⟨t, z, N + 1, rfl, s1.r, by omega, zb.1, by omega, fun d H2 d0 d1 s2 => ?_⟩
    refine ⟨_, _, rfl, rfl, _, rfl, _, rfl, t, 1 + d, N + 1 + 1, rfl, s2.r, by omega, by omega, by omega, fun e H3 e0 e1 s3 => ?_⟩
    refine ⟨_, rfl, e, 1 + d, rfl, e0, by omega, by omega, fun p hp => ?_⟩
    obtain ⟨st, le⟩ := low_step (a := e) (b := 1 + d) e0 e1
    have s4 := Spun.ofSame s3.r (same_put (o := .tup [.int (e / ((Nat.gcd e.natAbs (1 + d).natAbs : Nat) : Int)), .int ((1 + d) / ((Nat.gcd e.natAbs (1 + d).natAbs : Nat) : Int))]) hp)
    exact q _ _ p _ st (by omega) ((((s01.trans s2).trans s3).trans s4).le (by omega)) (((s01.trans s2).trans s3).free hp) upd_same
end
end My
set_option Elab.async false
set_option linter.all false
set_option maxRecDepth 100000
set_option maxHeartbeats 4000000
namespace My
open PySem PySem.Spec PyProof.Rows L2 Gn
abbrev sIsInt : Stmt := top 11
abbrev sIsFr : Stmt := top 12
abbrev sIsStep : Stmt := top 13
abbrev sIsNum : Stmt := top 16
theorem scIsInt : FnScope ["given"] ["given"] (defScope sIsInt) := ⟨rfl, rfl, rfl, by decide +kernel, rfl, by decide +kernel, by decide +kernel⟩
theorem scIsFr : FnScope ["given", "top", "bottom"] ["given"] (defScope sIsFr) := ⟨rfl, rfl, rfl, by decide +kernel, rfl, by decide +kernel, by decide +kernel⟩
theorem scIsStep : FnScope ["given"] ["given"] (defScope sIsStep) := ⟨rfl, rfl, rfl, by decide +kernel, rfl, by decide +kernel, by decide +kernel⟩
theorem scIsNum : FnScope ["given", "least", "most"] ["given", "least", "most"] (defScope sIsNum) := ⟨rfl, rfl, rfl, by decide +kernel, rfl, by decide +kernel, by decide +kernel⟩
/-- the step x / y stands at t -/
def StepAt (H : Hp) (t : Addr) (x y : Int) : Prop := H t = some (.tup [.int x, .int y]) ∧ IsStep x y
def spIsInt : Sp := fun vs H Q _ => ∃ i : Int, vs = [.int i] ∧ Q (.bl true) H
def spIsSt (r : V) : Sp := fun vs H Q _ => ∃ (t : Addr) (x y : Int), vs = [.ref t] ∧ StepAt H t x y ∧ Q r H
def spIsNum : Sp := fun vs H Q _ => ∃ (i a b : Int), vs = [.int i, .int a, .int b] ∧ a ≤ i ∧ i ≤ b ∧ Q (.bl true) H
structure Bc (mg : Str → Option Value) : Prop where
  isi : mg "isinstance" = none
  int : mg "int" = none
  bool : mg "bool" = none
  tuple : mg "tuple" = none
  len : mg "len" = none
  gcd : mg "gcd" = some (.builtin "math.gcd")
section
variable {P : Program} {w : World} {K : PySem.W.Frag} {mg : Str → Option Value} {base : Heap}
end
end My
set_option Elab.async false
set_option linter.all false
set_option maxRecDepth 100000
set_option maxHeartbeats 4000000
/-! own exceptions over any built-in base: kept as values -/
namespace Gn
open PySem PySem.Spec PyProof.Rows L2
/-- own classes, then a tail -/
inductive Past (t : List Value) : List Value → Prop
  | base : Past t t
  | own {c : Addr} {r : List Value} : Past t r → Past t (.ref c :: r)
section
variable {t l : List Value}
theorem Past.has (h : Past t l) (n : String) : l.contains (.type n) = t.contains (.type n) := by
  induction h with
  | base => rfl
  | own _ ih =>
    rw [List.contains_cons, ih]
    rfl
theorem Past.pass (h : Past t l) {u : Value} {x : Str} (ht : refuseLoop u x t = pure ()) : refuseLoop u x l = pure () := by
  induction h with
  | base => exact ht
  | own _ ih => exact (refuseLoop_ref u x _ _).trans ih
end
/-- what is built in of a base class -/
structure Bas (B nw it : String) (t : List Value) : Prop where
  ex : ExcBaseFacts B nw it t
  st : StoreFacts B t "object.__setattr__" "object"
theorem basV : Bas "ValueError" "ValueError.__new__" "ValueError.__init__" [.type "ValueError", .type "Exception", .type "BaseException", .type "object"] := ⟨F.excBase_ValueError, F.store_ValueError⟩
theorem basL : Bas "LookupError" "LookupError.__new__" "LookupError.__init__" [.type "LookupError", .type "Exception", .type "BaseException", .type "object"] := ⟨F.excBase_LookupError, F.store_LookupError⟩
theorem basA : Bas "ArithmeticError" "ArithmeticError.__new__" "ArithmeticError.__init__" [.type "ArithmeticError", .type "Exception", .type "BaseException", .type "object"] := ⟨F.excBase_ArithmeticError, F.store_ArithmeticError⟩
/-- what the written part says of an own class over such a base -/
structure OwC (K : PySem.W.Frag) (C : Addr) : Prop where
  cls : ∃ (nm q : Str) (N : Addr) (bs bm : List Value) (sn : List Str) (sub : List Value) (ab : Bool) (col : Option Bool) (dd : Option Addr) (k0 k1 k2 k3 k5 : Option Value) (B nw it : String) (tl : List Value),
    K.lookup C = some (excClassObj nm q C N bs bm true sn sub ab col dd k0 k1 k2 k3 k5 nw) ∧ Past tl bm ∧ Bas B nw it tl
  sa : PySem.W.findIn K (.ref C) "__setattr__" = some (some (.builtin "object.__setattr__"))
  exC : PySem.W.subIn K (.ref C) (.type "BaseException") = some true
  tyC : PySem.W.typeIn K (.ref C) = some (.type "type")
  kC : PySem.W.keepIn K (.ref C) = true
section
open Builtin Builtin.ObjectAttr
variable {P : Program} {w : World} {A : Around} {R : Result → Shared → Prop} {hp : Heap} {g : Array GenState} {d : Drawn} {t : Nat} {os : OsState} {K : PySem.W.Frag}
  {f : Str} {tk : Tok} {v : Value} {x C dx : Addr} {fv : Array Value} {cd : ClassData} {m0 : Str → Option Value} {nl : List Str} {tl : List Value} {B nw it : String}
theorem hasO (T : Bas B nw it tl) : tl.contains (.type "object") = true := T.st.hasOwner
/-- x.f = v, x without a dict -/
theorem own_put (T : Bas B nw it tl) (KX : K.In hp) (ox : hp.get? x = some { cls := .ref C, data := .fields fv }) (oc : PySem.W.clsIn K C = some cd)
    (om : Past tl cd.mro) (od : cd.hasDict = true) (on : PySem.W.findIn K (.ref C) f = some none)
    (fin : ∀ h' k' dx, (∀ b o, b ≠ x → hp.get? b = some o → h'.get? b = some o) → hp.objs.size ≤ dx → dx ≠ x →
      h'.get? x = some { cls := .ref C, dict := some dx, data := .fields fv } → h'.Ns1 dx (fun y => if y = f then some v else none) → R (.ok (.ret .none)) ⟨h', g, d, k', os⟩) :
    codeAny (model P w) A (.call (.builtin "object.__setattr__") ⟨[.ref x, .str f tk, v], []⟩) R ⟨hp, g, d, t, os⟩ := by
  have J : PySem.W.InstAt hp x { cls := .ref C, data := .fields fv } C none := ⟨ox, rfl, rfl, trivial⟩
  have S0 := F.store_object
  have hob : cd.mro.contains (.type "object") = true := (om.has "object").trans (hasO T)
  have nem : cd.mro.isEmpty = false := by
    cases e : cd.mro with
    | nil =>
      rw [e] at hob
      cases hob
    | cons _ _ => rfl
  have xs : x ≠ hp.objs.size := Nat.ne_of_lt (Heap.lt_size ox)
  have isO : PySem.W.Looks (model P w) hp (isInstance (.ref x) (.type "object")) true := J.type.andThen (PySem.W.looks_mroIn KX (by
    unfold PySem.W.mroIn
    rw [oc, Option.bind_some, if_neg (by rw [nem]; decide), hob]))
  refine codeAny_call_builtin S0.slot.plain S0.entry (@PySem.W.check_slot (model P w) _ _ ⟨hp, g, d, t, os⟩ "object.__setattr__" "object" "__setattr__"
    (.ref x) [.str f tk, v] [] _ S0.kind S0.split isO (S0.args (.ref x) (.str f tk) v) ?_)
  have l1 : PySem.W.Looks (model P w) hp (mroOf (.ref C)) cd.mro := (PySem.W.looks_clsIn KX oc).andThen .now
  have l2 : PySem.W.Looks (model P w) hp (storeTaker? none) none := .now
  have l3 : PySem.W.Looks (model P w) hp (classData C) cd := PySem.W.looks_clsIn KX oc
  rw [PySem.W.osa_eq, refuse_eq]
  refine wpAny_bind (wpAny_bind (J.type.at (wpAny_bind (l1.at ?_))))
  rw [om.pass (T.st.passes _)]
  refine wpAny_pure (wpAny_bind (J.type.at (wpAny_bind ((PySem.W.looks_findIn KX on).at (wpAny_bind (l2.at ?_))))))
  show wpAny _ _ (storeInOwnDict (.ref x) (.ref C) (.str f tk) f v false) _ _ _
  obtain ⟨c1, c2, c3, c4, c5, c6, c7, c8, c9, c10, c11⟩ := cd
  dsimp only at od
  subst od
  unfold storeInOwnDict ownDictForStores
  repeat (first
    | with_reducible refine PySem.HandSPX.store_in_new ?_ ?_
    | with_reducible refine wpAny_loadPart_at ox ?_
    | with_reducible refine l3.at ?_
    | wp_step)
  · exact ⟨_, #[], _, (Heap.get?_update_ne _ _ _ _ xs.symm).trans (Heap.get?_push_at rfl rfl), rfl, fun e z => absurd z (by simp), fun _ => rfl⟩
  · intro h' k' hn hs
    have ox1 : (hp.push { cls := .type "dict", data := .dict #[] }).get? x = some { cls := .ref C, data := .fields fv } := Heap.get?_push_of_some _ ox
    refine fin h' k' hp.objs.size (fun b o hb q => ?_) (Nat.le_refl _) xs.symm ?_ hn
    · exact (hs.2 b (Nat.ne_of_lt (Heap.lt_size q))).trans ((Heap.get?_update_ne _ _ _ _ hb).trans (Heap.get?_push_of_some _ q))
    · exact (hs.2 x xs).trans (Heap.get?_update_self _ ox1 rfl)
/-- x.f = v, x with its dict -/
theorem own_put2 (T : Bas B nw it tl) (KX : K.In hp) (ox : hp.get? x = some { cls := .ref C, dict := some dx, data := .fields fv }) (hns : hp.Ns1 dx m0) (hw : Within m0 nl) (hz : nl.length ≤ 1000)
    (oc : PySem.W.clsIn K C = some cd) (om : Past tl cd.mro) (od : cd.hasDict = true) (on : PySem.W.findIn K (.ref C) f = some none)
    (fin : ∀ h' k', (∀ b o, b ≠ dx → hp.get? b = some o → h'.get? b = some o) → h'.Ns1 dx (fun y => if y = f then some v else m0 y) → R (.ok (.ret .none)) ⟨h', g, d, k', os⟩) :
    codeAny (model P w) A (.call (.builtin "object.__setattr__") ⟨[.ref x, .str f tk, v], []⟩) R ⟨hp, g, d, t, os⟩ := by
  obtain ⟨oD, _, _, qD, _, _⟩ := hns.count hw
  have J : PySem.W.InstAt hp x { cls := .ref C, dict := some dx, data := .fields fv } C (some oD) := ⟨ox, rfl, rfl, qD⟩
  have S0 := F.store_object
  have hob : cd.mro.contains (.type "object") = true := (om.has "object").trans (hasO T)
  have nem : cd.mro.isEmpty = false := by
    cases e : cd.mro with
    | nil =>
      rw [e] at hob
      cases hob
    | cons _ _ => rfl
  have isO : PySem.W.Looks (model P w) hp (isInstance (.ref x) (.type "object")) true := J.type.andThen (PySem.W.looks_mroIn KX (by
    unfold PySem.W.mroIn
    rw [oc, Option.bind_some, if_neg (by rw [nem]; decide), hob]))
  refine codeAny_call_builtin S0.slot.plain S0.entry (@PySem.W.check_slot (model P w) _ _ ⟨hp, g, d, t, os⟩ "object.__setattr__" "object" "__setattr__"
    (.ref x) [.str f tk, v] [] _ S0.kind S0.split isO (S0.args (.ref x) (.str f tk) v) ?_)
  have l1 : PySem.W.Looks (model P w) hp (mroOf (.ref C)) cd.mro := (PySem.W.looks_clsIn KX oc).andThen .now
  have l2 : PySem.W.Looks (model P w) hp (storeTaker? none) none := .now
  have l3 : PySem.W.Looks (model P w) hp (classData C) cd := PySem.W.looks_clsIn KX oc
  rw [PySem.W.osa_eq, refuse_eq]
  refine wpAny_bind (wpAny_bind (J.type.at (wpAny_bind (l1.at ?_))))
  rw [om.pass (T.st.passes _)]
  refine wpAny_pure (wpAny_bind (J.type.at (wpAny_bind ((PySem.W.looks_findIn KX on).at (wpAny_bind (l2.at ?_))))))
  show wpAny _ _ (storeInOwnDict (.ref x) (.ref C) (.str f tk) f v false) _ _ _
  obtain ⟨c1, c2, c3, c4, c5, c6, c7, c8, c9, c10, c11⟩ := cd
  dsimp only at od
  subst od
  unfold storeInOwnDict ownDictForStores
  repeat (first
    | with_reducible refine PySem.OEX.store_in_old hns hw hz ?_
    | with_reducible refine wpAny_loadPart_at ox ?_
    | with_reducible refine l3.at ?_
    | wp_step)
  intro h' k' hn hs
  exact fin h' k' (fun b o hb q => (hs.2 b hb).trans q) hn
end
end Gn
set_option Elab.async false
set_option linter.all false
set_option maxRecDepth 100000
set_option maxHeartbeats 4000000
namespace Gn
open PySem PySem.Spec PyProof.Rows L2
section
variable {X : Cx} {pins : List (Addr × Obj)} {σ : L2.St} {H : Hp} {s : Shared} {a C dx : Addr} {f : Str} {y : V} {u : Value} {fs : List (Str × V)} {Q : Unit → Shared → Prop} {E : Value → Shared → Prop} {A : Around}
theorem put_new (T : OwC X.K C) (I : Inv X pins σ H s) (ea : H a = some (exo a C none)) (on : PySem.W.findIn X.K (.ref C) f = some none) (ry : RelV y u)
    (fin : ∀ dx s', H dx = none → dx ≠ a → Inv X pins σ (upd (upd H dx (exd dx [(f, y)])) a (exo a C (some dx))) s' → Q () s') : wpAny (model X.prog X.w) A (setAttr (.ref a) f u) Q E s := by
  obtain ⟨nm, q, N, bs, bm, sn, sub, ab, col, dd, k0, k1, k2, k3, k5, B, nw, it, tl, lk, pt, TB⟩ := T.cls
  have oc : PySem.W.clsIn X.K C = some { name := nm, bases := bs, mro := .ref C :: bm, ns := N, qualname := q, hasDict := true, slotNames := sn, subclasses := sub, abstract := ab, collection := col, hasDel := false } := by
    unfold PySem.W.clsIn
    rw [lk] <;> rfl
  obtain ⟨t1, ho⟩ := exo_at I.hok ea
  obtain ⟨hp, g, d, t, os⟩ := s
  refine PySem.W.set_plain I.kIn (ox := { cls := .ref C, dict := none, data := .fields #[.ref t1, .none, .none, .none, .bool false, .none] }) (od := none) ⟨ho, rfl, rfl, trivial⟩ T.sa ?_
  refine own_put TB I.kIn ho oc (.own pt) rfl on fun h' t' dx kp dn dne hx hn => ?_
  have fd : H dx = none := I.hok.fresh dn
  have old : ∀ {b : Addr} {o : Obj}, hp.get? b = some o → b ≠ dx := fun {b o} z => Nat.ne_of_lt (Nat.lt_of_lt_of_le (Heap.lt_size z) dn)
  have noa : ∀ {b : Addr}, H b = none → b ≠ a := fun {b} n z => by
    rw [z, ea] at n
    cases n
  have U : Un X.fs [] H (upd (upd H dx (exd dx [(f, y)])) a (exo a C (some dx))) hp h' := {
    keep := fun b o z n _ _ => kp b o (noa n) z
    slot := fun b o z n _ _ => ⟨o.slots, kp b o (noa n) z⟩
    free := fun b o z n _ => by
      rw [upd_ne (noa n), upd_ne (old z)]
      exact n
    there := fun b o z _ => by
      by_cases hb : b = a
      · exact ⟨_, by rw [hb]; exact hx⟩
      · exact ⟨o, kp b o hb z⟩
    tups := fun b xs z => by
      rw [upd_ne (at_ne ea z exo_tup), upd_ne (ne_of_none z fd)]
      exact z
    frzs := fun b o v z => by
      rw [upd_ne (at_ne ea z exo_frz), upd_ne (ne_of_none z fd)]
      exact z
    tbls := fun b ps z => ⟨#[], by
      rw [upd_ne (at_ne ea z exo_tbl), upd_ne (ne_of_none z fd), z]
      simp⟩ }
  refine fin dx _ fd dne (I.un (t' := t') U fun b o z => ?_)
  by_cases ba : b = a
  · subst ba
    rw [upd_same] at z
    cases z
    exact exo_ok hx
  · rw [upd_ne ba] at z
    by_cases bd : b = dx
    · subst bd
      rw [upd_same] at z
      cases z
      exact exd_ok hn (relO_put (fs := []) ry fun g => True.intro)
    · rw [upd_ne bd] at z
      refine (I.hok b o z).stay (fun c v hc q => kp c v ?_ q) (fun c hc => ?_) fun c xs hc => ?_
      · rcases hc with hc | hc
        · rw [hc]
          exact ba
        · exact at_ne ea hc exo_own
      · rw [upd_ne (at_ne ea hc exo_own), upd_ne (ne_of_none hc fd)]
        exact hc
      · rw [upd_ne (at_ne ea hc exo_tup), upd_ne (ne_of_none hc fd)]
        exact hc
theorem put_old (T : OwC X.K C) (I : Inv X pins σ H s) (ea : H a = some (exo a C (some dx))) (ed : H dx = some (exd dx fs)) (hl : fs.length ≤ 900) (on : PySem.W.findIn X.K (.ref C) f = some none) (ry : RelV y u)
    (fin : ∀ s', Inv X pins σ (upd H dx (exd dx ((f, y) :: fs))) s' → Q () s') : wpAny (model X.prog X.w) A (setAttr (.ref a) f u) Q E s := by
  obtain ⟨nm, q, N, bs, bm, sn, sub, ab, col, dd, k0, k1, k2, k3, k5, B, nw, it, tl, lk, pt, TB⟩ := T.cls
  have oc : PySem.W.clsIn X.K C = some { name := nm, bases := bs, mro := .ref C :: bm, ns := N, qualname := q, hasDict := true, slotNames := sn, subclasses := sub, abstract := ab, collection := col, hasDel := false } := by
    unfold PySem.W.clsIn
    rw [lk] <;> rfl
  obtain ⟨t1, ho⟩ := exo_at I.hok ea
  obtain ⟨mA, hns, rel⟩ := exd_at I.hok ed
  have hw := within_of rel
  obtain ⟨hp, g, d, t, os⟩ := s
  obtain ⟨oD, _, _, qD, _, _⟩ := hns.count hw
  refine PySem.W.set_plain I.kIn (ox := { cls := .ref C, dict := some dx, data := .fields #[.ref t1, .none, .none, .none, .bool false, .none] }) (od := some oD) ⟨ho, rfl, rfl, qD⟩ T.sa ?_
  have small : (fs.map (·.1)).length ≤ 1000 := by
    rw [List.length_map]
    omega
  refine own_put2 TB I.kIn ho hns hw small oc (.own pt) rfl on fun h' t' kp hn => ?_
  have hd : ∃ o, h'.get? dx = some o := by
    obtain ⟨o, _, _, z, _⟩ := hn
    exact ⟨o, z⟩
  exact fin _ (I.write (t' := t') (x := dx) (e := dx) (o := exd dx ((f, y) :: fs)) (by rw [ed]; exact True.intro) (.inl rfl) kp hd (exd_ok hn (relO_put ry rel)))
end
/-- self.f = e -/
def tPut (K : PySem.W.Frag) (f : Str) (to te : TE) : TS := fun D σ H => te σ H fun y H1 => to σ H1 fun x H2 => ∃ a C : Addr, x = .ref a ∧ OwC K C ∧ PySem.W.findIn K (.ref C) f = some none ∧
  ((H2 a = some (exo a C none) ∧ ∀ d, H2 d = none → d ≠ a → D.nx σ (upd (upd H2 d (exd d [(f, y)])) a (exo a C (some d)))) ∨
    ∃ (d : Addr) (fs : List (Str × V)), H2 a = some (exo a C (some d)) ∧ H2 d = some (exd d fs) ∧ fs.length ≤ 900 ∧ D.nx σ (upd H2 d (exd d ((f, y) :: fs))))
/-- C(e, ..) kept -/
def tOwn (C : Addr) (sp : Sp) (dvs : List V) (ta : TA) : TE := fun σ H Q => ta σ H fun vs H1 => vs.length ≤ 1000 ∧ ∀ a, H1 a = none →
  sp (.ref a :: (vs ++ dvs)) (upd H1 a (exo a C none)) (fun v H2 => v = .non ∧ Q (.ref a) H2) (fun _ _ _ => False)
section
variable {X : Cx} {o e : Expr} {es : List Expr} {to te : TE} {ta : TA} {f : Str} {p p' pos : Pos}
theorem ps_put (ho : PE X o to) (he : PE X e te) (hs : swapsWith e (some (.Attribute o f p')) pos.line X.env = pure false := by rfl) : PS X (.Assign [.Attribute o f p'] e pos) (tPut X.K f to te) := by
  refine ⟨fun pins s σ H D I h => ?_⟩
  refine plainObj_wpAny_Assign_Attribute (thn (he.run pins s σ H _ I h) fun v s1 ⟨y, H1, I1, r1, q1⟩ => ?_) hs
  refine thn (ho.run pins s1 σ H1 _ I1 q1) fun u s2 ⟨x, H2, I2, r2, a, C, ex, T, on, q⟩ => ?_
  subst ex
  obtain rfl : u = Value.ref a := r2
  rcases q with ⟨ea, q⟩ | ⟨dx, fs, ea, ed, hl, q⟩
  · exact put_new T I2 ea on r1 fun dx s' n ne J => ⟨σ, _, J, q dx n ne⟩
  · exact put_old T I2 ea ed hl on r1 fun s' J => ⟨σ, _, J, q⟩
theorem own_made {CX : CXT} {C fI : Addr} {k : Nat} {fd : FuncData} {ps : List Str} {sp : Sp} {ds us : List Value} {dvs vs : List V} {pins : List (Addr × Obj)} {σ : L2.St} {H1 : Hp} {s1 : Shared} {Q : VK} (T : OwC X.K C)
    (iC : PySem.W.findIn X.K (.ref C) "__init__" = some (some (.ref fI))) (tI : PySem.W.typeIn X.K (.ref fI) = some (.type "function")) (F1 : FnOk X.prog X.w X.K X.mg X.base CX k fI fd ps sp) (hr : Room (k + 1) X.A) (hb : Binds X.K fd ps ds) (hd : Vals dvs ds)
    (hx : Passes CX X (fun _ _ _ => False)) (I1 : Inv X pins σ H1 s1) (r1 : Vals vs us) (q1 : ∀ a, H1 a = none → sp (.ref a :: (vs ++ dvs)) (upd H1 a (exo a C none)) (fun v H2 => v = .non ∧ Q (.ref a) H2) (fun _ _ _ => False)) (hz : vs.length ≤ 1000) :
    wpAny (model X.prog X.w) X.A (call (.ref C) us) (EP X pins σ Q) X.xe s1 := by
  obtain ⟨nm, q, N, bs, bm, sn, sub, ab, col, dd, k0, k1, k2, k3, k5, B, nw, it, tl, lk, pt, TB⟩ := T.cls
  obtain ⟨hp, g, dr, tk, os⟩ := s1
  have up : hp.objs.size ≤ hp.objs.size + 1 := Nat.le_succ _
  have hn : H1 (hp.objs.size + 1) = none := I1.hok.fresh up
  have hq := q1 (hp.objs.size + 1) hn
  have kk : ∀ b o, hp.get? b = some o → ((hp.push (PySem.W.kdv_tup us)).push (PySem.HandSPX.excO C hp.objs.size)).get? b = some o := fun b o z =>
    Heap.get?_push_of_some _ (Heap.get?_push_of_some _ z)
  have got : ((hp.push (PySem.W.kdv_tup us)).push (PySem.HandSPX.excO C hp.objs.size)).get? (hp.objs.size + 1) = some (PySem.HandSPX.excO C hp.objs.size) := by heap_get
  have I2 := I1.laid (t' := tk) (a := hp.objs.size + 1) (o := exo (hp.objs.size + 1) C none) kk up (exo_ok got)
  have r2 : Vals (V.ref (hp.objs.size + 1) :: (vs ++ dvs)) (Value.ref (hp.objs.size + 1) :: (us ++ ds)) := .cons rfl (r1.append hd)
  have hl : (Value.ref (hp.objs.size + 1) :: us ++ ds).length = ps.length := by
    have z := r2.length
    rw [F1.len _ _ _ _ hq] at z
    exact z.symm
  have few : us.length ≤ sizeLine := by
    rw [← Paired.length r1, sizeLine_eq]
    omega
  refine wpAny_call (PySem.HandSPX.call_own TB.ex (fun n => pt.has n) (I1.kIn _ _ lk) (PySem.W.looks_findIn I1.kIn iC) (fun me => PySem.W.bind_fn I1.kIn me tI) few (codeAny_mono
    (F1.run _ X.stack _ _ ⟨Value.ref (hp.objs.size + 1) :: us, []⟩ (Value.ref (hp.objs.size + 1) :: (us ++ ds)) _ _ (fun _ _ _ => False) (hr.make C us []) (I2.env0.make C us []) (hb _ (Value.ref (hp.objs.size + 1) :: us) I2.kIn hl) r2 hq) fun r s' z => ?_))
  cases r with
  | error er => exact hx pins σ _ _ er s' I2 z
  | ok fl =>
    cases fl with
    | ret u =>
      obtain ⟨v, H2, os2, bare2, un2, hok2, rv, ev, q2⟩ := z
      subst ev
      obtain ⟨h2, g2, d2, t2, os'⟩ := s'
      exact ⟨rv, .ref (hp.objs.size + 1), H2, I1.call' (ch := []) os2 ((Un.laid kk up hn).trans un2) hok2 bare2 (fun b y => absurd y (by simp)), rfl, q2⟩
    | next => exact False.elim z
    | brk => exact False.elim z
    | cont => exact False.elim z
theorem pe_own {CX : CXT} {x : Str} {C fI : Addr} {k : Nat} {fd : FuncData} {ps : List Str} {sp : Sp} {ds : List Value} {dvs : List V} (T : OwC X.K C) (iC : PySem.W.findIn X.K (.ref C) "__init__" = some (some (.ref fI)))
    (tI : PySem.W.typeIn X.K (.ref fI) = some (.type "function")) (F1 : FnOk X.prog X.w X.K X.mg X.base CX k fI fd ps sp) (hr : Room (k + 1) X.A) (hb : Binds X.K fd ps ds) (hd : Vals dvs ds) (hx : Passes CX X (fun _ _ _ => False)) (hg : Gl X x)
    (hm : X.mg x = some (.ref C)) (ha : PA X (e :: es) ta) (hdb : (x == ("__debug__" : Str)) = false := by decide) (he : starEach (e :: es) X.env = (false, eval e X.env) :: starEach es X.env := by rfl) (hpl : (backTo pos (starEach es X.env)).any (·.1) = false := by rfl) :
    PE X (.Call (.Name x p) (e :: es) [] pos) (tOwn C sp dvs ta) := ⟨fun pins s σ H Q I h =>
  wpAny_Call_Name_kw (ld_glob I hg hm (PySem.W.callWith_K (h₀ := X.base) I.ok.mod.kin T.kC (thn (ha.run pos pins s σ H _ I h) fun us s1 ⟨vs, H1, I1, r1, hz, q1⟩ => ⟨I1.kIn, own_made T iC tI F1 hr hb hd hx I1 r1 q1 hz⟩) he hpl) hdb)⟩
theorem pe_own0 {CX : CXT} {x : Str} {C fI : Addr} {k : Nat} {fd : FuncData} {ps : List Str} {sp : Sp} {ds : List Value} {dvs : List V} (T : OwC X.K C) (iC : PySem.W.findIn X.K (.ref C) "__init__" = some (some (.ref fI)))
    (tI : PySem.W.typeIn X.K (.ref fI) = some (.type "function")) (F1 : FnOk X.prog X.w X.K X.mg X.base CX k fI fd ps sp) (hr : Room (k + 1) X.A) (hb : Binds X.K fd ps ds) (hd : Vals dvs ds) (hx : Passes CX X (fun _ _ _ => False)) (hg : Gl X x)
    (hm : X.mg x = some (.ref C)) (hdb : (x == ("__debug__" : Str)) = false := by decide) : PE X (.Call (.Name x p) [] [] pos) (tOwn C sp dvs tNil) := ⟨fun pins s σ H Q I h =>
  wpAny_Call_Name_kw (ld_glob I hg hm (PySem.W.callWith_K0 I.kIn T.kC (own_made (us := []) (vs := []) T iC tI F1 hr hb hd hx I .nil h.2 h.1)) hdb)⟩
end
end Gn
set_option Elab.async false
set_option linter.all false
set_option maxRecDepth 100000
set_option maxHeartbeats 4000000
namespace Gn
open PySem PySem.Spec PyProof.Rows L2
section
variable {X : Cx} {e : Expr} {es : List Expr} {ta : TA} {p pos : Pos}
/-- the exception without a dict is let go -/
theorem bare_gone {pins : List (Addr × Obj)} {σ : L2.St} {H1 H2 : Hp} {Q : XK} {hp hp2 h2 : Heap} {g1 g2 : Array GenState} {d1 d2 : Drawn} {t1 t2 : Nat} {os1 os2 : OsState} {a C : Addr} (T : Raises X (.ref C)) (I1 : Inv X pins σ H1 ⟨hp, g1, d1, t1, os1⟩)
    (ha : hp.objs.size ≤ a) (kp : ∀ b o, hp.get? b = some o → hp2.get? b = some o) (un : Un (frs X.stack) [] (upd H1 a (exo a C none)) H2 hp2 h2) (hok : HOk X.prog X.w H2 h2) (ho : os2 = os1) (hb : AllBare g2)
    (ea : H2 a = some (exo a C none)) (q : Q (.ref C) none (del H2 a)) : MkP X pins σ Q (.ref a) ⟨h2, g2, d2, t2, os2⟩ := by
  obtain ⟨t0, hoe⟩ := exo_at hok ea
  have hn : H1 a = none := I1.hok.fresh ha
  obtain ⟨G, y1, y2⟩ := restrict h2 fun b => decide (b ≠ a)
  have gk : ∀ b, b ≠ a → G.get? b = h2.get? b := fun b z => y1 b (decide_eq_true z)
  have ge : G.get? a = none := y2 a (by simp)
  have old : ∀ {b : Addr} {o : Obj}, hp.get? b = some o → b ≠ a := fun {b o} z => Nat.ne_of_lt (Nat.lt_of_lt_of_le (Heap.lt_size z) ha)
  have fr : ∀ {b : Addr}, b ≠ a → H1 b = none → upd H1 a (exo a C none) b = none := fun {b} z n => (upd_ne z).trans n
  have U : Un (frs X.stack) [] H1 (del H2 a) hp G := {
    keep := fun b o z n hf hx => (gk b (old z)).trans (un.keep b o (kp b o z) (fr (old z) n) hf hx)
    slot := fun b o z n hf hx => by
      rw [gk b (old z)]
      exact un.slot b o (kp b o z) (fr (old z) n) hf hx
    free := fun b o z n hx => (del_ne (old z)).trans (un.free b o (kp b o z) (fr (old z) n) hx)
    there := fun b o z hx => by
      rw [gk b (old z)]
      exact un.there b o (kp b o z) hx
    tups := fun b xs z => (del_ne (ne_of_none z hn)).trans (un.tups b xs ((upd_ne (ne_of_none z hn)).trans z))
    frzs := fun b o v z => (del_ne (ne_of_none z hn)).trans (un.frzs b o v ((upd_ne (ne_of_none z hn)).trans z))
    tbls := fun b ps z => by
      rw [del_ne (ne_of_none z hn)]
      exact un.tbls b ps ((upd_ne (ne_of_none z hn)).trans z) }
  have hok3 : HOk X.prog X.w (del H2 a) G := fun b o z => by
    have ba : b ≠ a := fun e => by
      rw [e, del_same] at z
      cases z
    rw [del_ne ba] at z
    have noa : ∀ {c : Addr}, H2 c = some (.own b) → c ≠ a := fun {c} hc => at_ne ea hc exo_own
    refine (hok b o z).stay (fun c v hc y => ?_) (fun c hc => (del_ne (noa hc)).trans hc) fun c xs hc => (del_ne (at_ne ea hc exo_tup)).trans hc
    have ca : c ≠ a := by
      rcases hc with hc | hc
      · rw [hc]
        exact ba
      · exact noa hc
    exact (gk c ca).trans y
  have J : Inv X pins σ (del H2 a) ⟨G, g2, d2, t2, os2⟩ := I1.call' (ch := []) ho U hok3 hb (fun b z => absurd z (by simp))
  refine ⟨a, _, _, ⟨G, g2, d2, t2, os2⟩, _, .ref C, none, rfl, J, fun b o z => ?_, ge, hoe, ⟨rfl, rfl⟩, rfl, rfl, del_same, rfl, hb, T, q⟩
  by_cases ba : b = a
  · rw [ba, ge] at z
    cases z
  · exact (gk b ba).symm.trans z
/-- C(e, ..) raised -/
def tThr (C : Addr) (sp : Sp) (dvs : List V) (ta : TA) : L2.St → Hp → XK → Prop := fun σ H Q => ta σ H fun vs H1 => vs.length ≤ 1000 ∧ ∀ a, H1 a = none →
  sp (.ref a :: (vs ++ dvs)) (upd H1 a (exo a C none)) (fun v H2 => v = .non ∧
    ((∃ (d : Addr) (fs : List (Str × V)), H2 a = some (exo a C (some d)) ∧ H2 d = some (exd d fs) ∧ H1 d = none ∧ Q (.ref C) (some d) (upd (del H2 a) d (.xd fs))) ∨ (H2 a = some (exo a C none) ∧ Q (.ref C) none (del H2 a)))) (fun _ _ _ => False)
theorem own_thrown {CX : CXT} {C fI : Addr} {k : Nat} {fd : FuncData} {ps : List Str} {sp : Sp} {ds us : List Value} {dvs vs : List V} {pins : List (Addr × Obj)} {σ : L2.St} {H1 : Hp} {s1 : Shared} {Q : XK} (T : OwC X.K C)
    (iC : PySem.W.findIn X.K (.ref C) "__init__" = some (some (.ref fI))) (tI : PySem.W.typeIn X.K (.ref fI) = some (.type "function")) (F1 : FnOk X.prog X.w X.K X.mg X.base CX k fI fd ps sp) (hr : Room (k + 1) X.A) (hb : Binds X.K fd ps ds) (hd : Vals dvs ds)
    (hx : Passes CX X (fun _ _ _ => False)) (I1 : Inv X pins σ H1 s1) (r1 : Vals vs us) (hz : vs.length ≤ 1000)
    (q1 : ∀ a, H1 a = none → sp (.ref a :: (vs ++ dvs)) (upd H1 a (exo a C none)) (fun v H2 => v = .non ∧
      ((∃ (d : Addr) (fs : List (Str × V)), H2 a = some (exo a C (some d)) ∧ H2 d = some (exd d fs) ∧ H1 d = none ∧ Q (.ref C) (some d) (upd (del H2 a) d (.xd fs))) ∨ (H2 a = some (exo a C none) ∧ Q (.ref C) none (del H2 a)))) (fun _ _ _ => False)) :
    wpAny (model X.prog X.w) X.A (call (.ref C) us) (MkP X pins σ Q) X.xe s1 := by
  obtain ⟨nm, q, N, bs, bm, sn, sub, ab, col, dd, k0, k1, k2, k3, k5, B, nw, it, tl, lk, pt, TB⟩ := T.cls
  obtain ⟨hp, g, dr, tk, os⟩ := s1
  have up : hp.objs.size ≤ hp.objs.size + 1 := Nat.le_succ _
  have hn : H1 (hp.objs.size + 1) = none := I1.hok.fresh up
  have hq := q1 (hp.objs.size + 1) hn
  have kk : ∀ b o, hp.get? b = some o → ((hp.push (PySem.W.kdv_tup us)).push (PySem.HandSPX.excO C hp.objs.size)).get? b = some o := fun b o z =>
    Heap.get?_push_of_some _ (Heap.get?_push_of_some _ z)
  have got : ((hp.push (PySem.W.kdv_tup us)).push (PySem.HandSPX.excO C hp.objs.size)).get? (hp.objs.size + 1) = some (PySem.HandSPX.excO C hp.objs.size) := by heap_get
  have I2 := I1.laid (t' := tk) (a := hp.objs.size + 1) (o := exo (hp.objs.size + 1) C none) kk up (exo_ok got)
  have r2 : Vals (V.ref (hp.objs.size + 1) :: (vs ++ dvs)) (Value.ref (hp.objs.size + 1) :: (us ++ ds)) := .cons rfl (r1.append hd)
  have hl : (Value.ref (hp.objs.size + 1) :: us ++ ds).length = ps.length := by
    have z := r2.length
    rw [F1.len _ _ _ _ hq] at z
    exact z.symm
  have few : us.length ≤ sizeLine := by
    rw [← Paired.length r1, sizeLine_eq]
    omega
  refine wpAny_call (PySem.HandSPX.call_own TB.ex (fun n => pt.has n) (I1.kIn _ _ lk) (PySem.W.looks_findIn I1.kIn iC) (fun me => PySem.W.bind_fn I1.kIn me tI) few (codeAny_mono
    (F1.run _ X.stack _ _ ⟨Value.ref (hp.objs.size + 1) :: us, []⟩ (Value.ref (hp.objs.size + 1) :: (us ++ ds)) _ _ (fun _ _ _ => False) (hr.make C us []) (I2.env0.make C us []) (hb _ (Value.ref (hp.objs.size + 1) :: us) I2.kIn hl) r2 hq) fun r s' z => ?_))
  cases r with
  | error er => exact hx pins σ _ _ er s' I2 z
  | ok fl =>
    cases fl with
    | ret u =>
      obtain ⟨v, H2, os2, bare2, un2, hok2, rv, ev, z2⟩ := z
      subst ev
      obtain ⟨h2, g2, d2, t2, os'⟩ := s'
      rcases z2 with ⟨dq, fs, ea, ed, hd1, q2⟩ | ⟨ea, q2⟩
      · exact ⟨rv, mk_end (raises_own T.exC T.tyC) I1 up kk un2 hok2 os2 bare2 ea ed hd1 q2⟩
      · exact ⟨rv, bare_gone (raises_own T.exC T.tyC) I1 up kk un2 hok2 os2 bare2 ea q2⟩
    | next => exact False.elim z
    | brk => exact False.elim z
    | cont => exact False.elim z
/-- raise C(e, ..) -/
theorem pmk_exo {CX : CXT} {x : Str} {C fI : Addr} {k : Nat} {fd : FuncData} {ps : List Str} {sp : Sp} {ds : List Value} {dvs : List V} (T : OwC X.K C) (iC : PySem.W.findIn X.K (.ref C) "__init__" = some (some (.ref fI)))
    (tI : PySem.W.typeIn X.K (.ref fI) = some (.type "function")) (F1 : FnOk X.prog X.w X.K X.mg X.base CX k fI fd ps sp) (hr : Room (k + 1) X.A) (hb : Binds X.K fd ps ds) (hd : Vals dvs ds) (hx : Passes CX X (fun _ _ _ => False)) (hg : Gl X x)
    (hm : X.mg x = some (.ref C)) (ha : PA X (e :: es) ta) (hdb : (x == ("__debug__" : Str)) = false := by decide) (he : starEach (e :: es) X.env = (false, eval e X.env) :: starEach es X.env := by rfl) (hpl : (backTo pos (starEach es X.env)).any (·.1) = false := by rfl) :
    PMk X (.Call (.Name x p) (e :: es) [] pos) (tThr C sp dvs ta) := fun pins s σ H Q I h =>
  wpAny_Call_Name_kw (ld_glob I hg hm (PySem.W.callWith_K (h₀ := X.base) I.ok.mod.kin T.kC (thn (ha.run pos pins s σ H _ I h) fun us s1 ⟨vs, H1, I1, r1, hz, q1⟩ => ⟨I1.kIn, own_thrown T iC tI F1 hr hb hd hx I1 r1 hz q1⟩) he hpl) hdb)
/-- raise C() -/
theorem pmk_exo0 {CX : CXT} {x : Str} {C fI : Addr} {k : Nat} {fd : FuncData} {ps : List Str} {sp : Sp} {ds : List Value} {dvs : List V} (T : OwC X.K C) (iC : PySem.W.findIn X.K (.ref C) "__init__" = some (some (.ref fI)))
    (tI : PySem.W.typeIn X.K (.ref fI) = some (.type "function")) (F1 : FnOk X.prog X.w X.K X.mg X.base CX k fI fd ps sp) (hr : Room (k + 1) X.A) (hb : Binds X.K fd ps ds) (hd : Vals dvs ds) (hx : Passes CX X (fun _ _ _ => False)) (hg : Gl X x)
    (hm : X.mg x = some (.ref C)) (hdb : (x == ("__debug__" : Str)) = false := by decide) : PMk X (.Call (.Name x p) [] [] pos) (tThr C sp dvs tNil) := fun pins s σ H Q I h =>
  wpAny_Call_Name_kw (ld_glob I hg hm (PySem.W.callWith_K0 I.kIn T.kC (own_thrown (us := []) (vs := []) T iC tI F1 hr hb hd hx I .nil h.1 h.2)) hdb)
end
/-! ### such a value: its fields, and of which classes it is -/
/-- e.f -/
def tFld (K : PySem.W.Frag) (f : Str) (te : TE) : TE := fun σ H Q => te σ H fun x H1 => ∃ (a C d : Addr) (fs : List (Str × V)) (v : V), x = .ref a ∧ H1 a = some (exo a C (some d)) ∧ H1 d = some (exd d fs) ∧ XfC K C ∧ PySem.W.findIn K (.ref C) f = some none ∧ fs.lookup f = some v ∧ Q v H1
theorem inst_at {X : Cx} {pins : List (Addr × Obj)} {σ : L2.St} {H : Hp} {s : Shared} {a C d : Addr} (I : Inv X pins σ H s) (ea : H a = some (exo a C (some d))) {fs : List (Str × V)} (ed : H d = some (exd d fs)) :
    ∃ (ox od : Obj), PySem.W.InstAt s.heap a ox C (some od) ∧ ∀ n, ∃ o, PySem.W.lookIn n od = some o ∧ RelO (fs.lookup n) o := by
  obtain ⟨t1, ho⟩ := exo_at I.hok ea
  obtain ⟨mA, hns, rel⟩ := exd_at I.hok ed
  obtain ⟨od, hd, hl⟩ := lookIn_ns hns
  exact ⟨_, od, ⟨ho, rfl, rfl, hd⟩, fun n => ⟨_, hl n, rel n⟩⟩
theorem pe_fld {X : Cx} {e : Expr} {te : TE} {pos : Pos} {f : Str} (he : PE X e te) (hb : attributeBase e f X.env (eval e X.env) = eval e X.env := by rfl) : PE X (.Attribute e f pos) (tFld X.K f te) := by
  refine ⟨fun pins s σ H Q I h => ?_⟩
  refine attr_of hb (thn (he.run pins s σ H _ I h) fun u s1 ⟨x, H1, I1, rx, a, C, d, fs, v, ex, ea, ed, T, on, lf, q⟩ => ?_)
  subst ex
  obtain rfl : u = Value.ref a := rx
  obtain ⟨ox, od, J, rel⟩ := inst_at I1 ea ed
  obtain ⟨o1, l1, r1⟩ := rel f
  obtain ⟨y, hy, ry⟩ := RelO.some_of (v := v) (o := o1) (by rw [← lf]; exact r1)
  subst hy
  exact HandSPX.exc_get I1.kIn J T.ga T.gg T.exC (PySem.W.findObj_own T.hdC on rfl l1) (handed_of ry) ⟨v, H1, I1.tok _, ry, q⟩
end Gn
set_option Elab.async false
set_option linter.all false
set_option maxRecDepth 100000
set_option maxHeartbeats 4000000
/-! isinstance of such a value, with a dict or none -/
namespace PySem.W
open PySem PySem.Spec PySem.Calls PyProof.Rows
section
variable {P : Program} {w : World} {A : Around} {E : Value → Shared → Prop} {s : Shared} {K : Frag} {x D : Addr} {ox : Obj} {od : Option Obj}
theorem gn_found {C : Addr} {n : Str} {a g : Value} (hc : (clsIn K C).isSome = true) (ha : findIn K (.ref C) n = some (some a)) (hg : specialIn K a "__get__" = some (some g)) (ht : takesIn K a = some true) : findObj K C od n = some (.bind g a) := by
  obtain ⟨cd, hc⟩ := Option.isSome_iff_exists.mp hc
  unfold findObj
  simp [hc, ha, hg, ht]
theorem gn_class {Q : Option Value → Shared → Prop} (C : L2.ExcC K D) (X : K.In s.heap) (I : InstAt s.heap x ox D od) (h : Q (some (.ref D)) { s with toks := s.toks + 1 }) : wpAny (model P w) A (getAttr? (.ref x) "__class__") Q E s := by
  obtain ⟨hga, hgt, hsub, hdct, ha, hn, htk, hm⟩ := C
  have fd : findObj K D od "__class__" = some (.bind (.builtin "getset_descriptor.__get__") (.builtin "object.__class__")) :=
    gn_found (by
      obtain ⟨cd, z, _⟩ := any_some hdct
      rw [z]
      rfl) ha hn htk
  obtain ⟨hp, g, d, t, os⟩ := s
  have T0 := I.type (M := model P w)
  have T1 := looks_findIn (M := model P w) X hga
  have T2 := looks_findIn (M := model P w) X hgt
  have T3 := looks_find (M := model P w) X I fd
  have isB : Looks (model P w) hp (isInstance (.ref x) (.type "BaseException")) true := T0.andThen (looks_subIn X hsub)
  have n0 : (false && onTheHeap (Value.builtin "BaseException.__getattribute__")) = false := rfl
  have n2 : (Value.builtin "BaseException.__getattribute__" == Value.builtin "object.__getattribute__") = false := by decide +kernel
  have n1 : (onTheHeap (Value.ref D) && Value.builtin "BaseException.__getattribute__" == Value.builtin "object.__getattribute__") = false := by
    rw [n2]
    rfl
  unfold getAttr? getAttrBy? getAttrBy
  refine wpAny_bind (wpAny_mkText (wpAny_bind (wpAny_attempt (wpAny_holding (wpAny_bind (T0.at (wpAny_bind (T1.at ?_))))))))
  show wpAny _ _ (if (onTheHeap (Value.ref D) && Value.builtin "BaseException.__getattribute__" == Value.builtin "object.__getattribute__") = true then _ else _) _ _ _
  rw [n1, if_neg Bool.false_ne_true]
  unfold getAttrByItsOwn hookBefore
  refine wpAny_bind ?_
  rw [if_pos (show onTheHeap (Value.ref D) = true from rfl)]
  refine T2.at ?_
  refine wpAny_bind (wpAny_attempt (wpAny_holding ?_))
  unfold callGetattribute
  rw [n0, if_neg Bool.false_ne_true]
  unfold boundAndCalled
  rw [PySem.F.excAttr_ValueError.ga.bind (.ref x)]
  refine wpAny_bind (wpAny_pure ?_)
  show wpAny _ _ (call (.builtin "BaseException.__getattribute__") [.ref x, .str "__class__" t]) _ _ _
  refine wpAny_call (codeAny_call_builtin PySem.F.excAttr_ValueError.ga.plain PySem.F.entry_bexc_ga ?_)
  refine @check_slot (model P w) _ _ ⟨hp, g, d, t + 1, os⟩ "BaseException.__getattribute__" "BaseException" "__getattribute__" (.ref x)
    [.str "__class__" t] [] _ (by decide +kernel) (by decide +kernel) isB (PySem.F.args_bexc_ga (.ref x) (.str "__class__" t)) ?_
  unfold Builtin.«object.__getattribute__»
  refine wpAny_bind (wpAny_of_eq (a := ((Value.ref x : Value), [Value.str "__class__" t])) (by first
    | rfl
    | (simp only [slotArgs]; rfl)) ?_)
  refine wpAny_bind (wpAny_pure (wpAny_bind (T0.at (wpAny_bind (T3.at ?_)))))
  show wpAny _ _ (holding [Value.builtin "object.__class__"] (call (.builtin "getset_descriptor.__get__") [.builtin "object.__class__", .ref x, .ref D]) >>= ret) _ _ _
  refine wpAny_bind (wpAny_holding (wpAny_call (class_get (s := ⟨hp, g, d, t + 1, os⟩) (ox := ox) (od := od) X I hm ?_)))
  refine wpAny_pure ?_
  show wpAny _ _ (handedOut (.ref D)) _ _ _
  rw [handedOut_of (v := .ref D) rfl]
  first
    | exact wpAny_pure (wpAny_pure h)
    | exact wpAny_pure h
    | exact wpAny_pure (wpAny_bind (wpAny_pure (wpAny_pure h)))
theorem gn_kit (C : L2.ExcC K D) : KitX K (.ref x) (.ref D) (fun h => ∃ ox od, InstAt h x ox D od) where
  ty := fun _ _ _ ⟨_, _, I⟩ => I.type
  it := fun _ _ X _ => by
    obtain ⟨cdD, z, _⟩ := any_some C.hd
    unfold clsIn at z
    split at z
    · rename_i c' d' cd' sl' ho
      intro A' Q' E' s' k q
      unfold isType loadHead
      exact wpAny_bind (wpAny_loadPart (k _ _ (X _ _ ho)) (wpAny_pure q))
    · cases z
  ne := fun h tp dd its n sl X htp => by
    obtain ⟨cdD, z, _⟩ := any_some C.hd
    refine Bool.eq_false_iff.mpr fun q => ?_
    have e : D = tp := Value.ref.inj (beq_iff_eq.mp q)
    subst e
    unfold clsIn at z
    split at z
    · rename_i c' d' cd' sl' ho
      have y := (X _ _ ho).symm.trans htp
      cases y
    · cases z
  ca := fun X ⟨_, _, I⟩ k => gn_class C X I k
end
end PySem.W
namespace Gn
open PySem PySem.Spec PyProof.Rows L2
theorem inst_any {X : Cx} {pins : List (Addr × Obj)} {σ : L2.St} {H : Hp} {s : Shared} {a C : Addr} {d : Option Addr} (I : Inv X pins σ H s) (ea : H a = some (exo a C d)) (hd : ∀ y, d = some y → ∃ fs, H y = some (exd y fs)) :
    ∃ ox od, PySem.W.InstAt s.heap a ox C od := by
  cases d with
  | none =>
    obtain ⟨t1, ho⟩ := exo_at I.hok ea
    exact ⟨_, none, ho, rfl, rfl, trivial⟩
  | some y =>
    obtain ⟨fs, ed⟩ := hd y rfl
    obtain ⟨ox, od, J, _⟩ := inst_at I ea ed
    exact ⟨ox, _, J⟩
/-- isinstance(e, c), e an own exception that is kept -/
def rIsO (K : PySem.W.Frag) : List V → Hp → VK → Prop := fun xs H Q => ∃ (a D : Addr) (d : Option Addr) (c : V) (cv : Value) (b : Bool), xs = [.ref a, c] ∧ ExcC K D ∧ H a = some (exo a D d) ∧ (∀ y, d = some y → ∃ fs, H y = some (exd y fs)) ∧
  (∀ u, RelV c u → u = cv) ∧ PySem.W.kitOne K (.ref D) cv = some b ∧ Q (.bl b) H
theorem cr_isO {X : Cx} : CallR X (.builtin "isinstance") (rIsO X.K) := by
  intro pins s σ H xs us Q I r h
  obtain ⟨a, D, d, c, cv, b, rfl, C, ea, hd, hcv, e, q⟩ := h
  cases r with
  | cons rx rr =>
    cases rr with
    | cons rt rr =>
      cases rr
      cases rx
      have ec := hcv _ rt
      subst ec
      exact PySem.W.kia_one (PySem.W.gn_kit C) I.kIn (inst_any I ea hd) e (fun z => nomatch z) fun tk => ⟨.bl b, H, I.kept (t' := tk) fun _ _ z => z, rfl, q⟩
/-- isinstance(e, c), e the exception that the suite holds, with a dict or none -/
def rIsH (K : PySem.W.Frag) (D a : Addr) (d : Option Addr) : List V → Hp → VK → Prop := fun xs H Q => ∃ (c : V) (cv : Value) (b : Bool), xs = [.ref a, c] ∧ (∀ y, d = some y → ∃ fs, H y = some (.xd fs)) ∧ (∀ u, RelV c u → u = cv) ∧ PySem.W.kitOne K (.ref D) cv = some b ∧ Q (.bl b) H
theorem cr_isH {X : Cx} {a D : Addr} {d : Option Addr} {oe : Obj} {pn : List (Addr × Obj)} (C : ExcC X.K D) (hz : Zc (.ref D) d oe) (hf : ∃ vs, oe.data = .fields vs) : CallR (X.suite a ((a, oe) :: pn)) (.builtin "isinstance") (rIsH X.K D a d) := by
  intro pins s σ H xs us Q I r h
  obtain ⟨c, cv, b, rfl, hd, hcv, e, q⟩ := h
  cases r with
  | cons rx rr =>
    cases rr with
    | cons rt rr =>
      cases rr
      cases rx
      have ec := hcv _ rt
      subst ec
      obtain ⟨at0, _⟩ := I.pin (a, oe) (List.mem_append.mpr (.inl List.mem_cons_self))
      obtain ⟨vs, hv⟩ := hf
      have J : ∃ ox od, PySem.W.InstAt s.heap a ox D od := by
        obtain ⟨oc, dd, oda, osl⟩ := oe
        obtain ⟨h1, h2⟩ := hz
        dsimp only at h1 h2 hv
        subst h1 h2 hv
        cases dd with
        | none => exact ⟨_, none, at0, rfl, rfl, trivial⟩
        | some y =>
          obtain ⟨fs, ed⟩ := hd y rfl
          obtain ⟨mA, hns, _⟩ := (show ObjOk X.prog X.w H s.heap y (.xd fs) from I.hok y _ ed)
          obtain ⟨od, ho, _⟩ := lookIn_ns hns
          exact ⟨_, some od, at0, rfl, rfl, ho⟩
      exact PySem.W.kia_one (PySem.W.gn_kit C) I.kIn J e (fun z => nomatch z) fun tk => ⟨.bl b, H, I.kept (t' := tk) fun _ _ z => z, rfl, q⟩
end Gn
set_option Elab.async false
set_option linter.all false
set_option maxRecDepth 100000
set_option maxHeartbeats 4000000
/-! the same made by keywords -/
namespace Gn
open PySem PySem.Spec PyProof.Rows L2
section
variable {M : Model} {A : Around} {E : Value → Shared → Prop} {h : Heap} {g : Array GenState} {d : Drawn} {t : Nat} {os : OsState}
variable {nm q : Str} {C N : Addr} {bs bm tl : List Value} {hd : Bool} {sn : List Str} {sub : List Value} {ab : Bool} {col : Option Bool} {dd : Option Addr} {k0 k1 k2 k3 k5 : Option Value} {B nw it : String} {rest : List Value} {kw : List (Str × Value)}
theorem kw_new_check (T : ExcBaseFacts B nw it tl) (pt : ∀ n : String, bm.contains (.type n) = tl.contains (.type n)) {Q : Unit → Shared → Prop}
    (lk : h.get? C = some (excClassObj nm q C N bs bm hd sn sub ab col dd k0 k1 k2 k3 k5 nw)) (fin : Q () ⟨h, g, d, t, os⟩) : wpAny M A (checkBuiltinCall nw ⟨.ref C :: rest, kw⟩) Q E ⟨h, g, d, t, os⟩ := by
  have inB : (Value.ref C :: bm).contains (.type B) = true := by
    rw [List.contains_cons, pt, T.hasB, Bool.or_true]
  have ns := T.noStar
  simp only [checkBuiltinCall, T.newKind, T.newSplit, T.newRow]
  repeat (first
    | refine wpAny_loadPart_at lk ?_
    | (refine wpAny_isSubtype_exc lk ?_; rw [inB])
    | refine wpAny_staticBase_exc lk ?_
    | refine wpAny_madeBy_exc lk ?_
    | simp only [bne_self_eq_false, Bool.false_eq_true, if_false]
    | wp_step)
  exact fin
end
section
variable {P : Program} {w : World} {A : Around} {E : Value → Shared → Prop} {R : Result → Shared → Prop} {h : Heap} {g : Array GenState} {d : Drawn} {t : Nat} {os : OsState}
variable {nm q : Str} {C N : Addr} {bs bm tl : List Value} {hd : Bool} {sn : List Str} {sub : List Value} {ab : Bool} {col : Option Bool} {dd : Option Addr} {k0 k1 k2 k3 k5 : Option Value} {B nw it : String} {rest : List Value} {kw : List (Str × Value)} {fI : Addr}
theorem kw_new (T : ExcBaseFacts B nw it tl) (pt : ∀ n : String, bm.contains (.type n) = tl.contains (.type n)) (lk : h.get? C = some (excClassObj nm q C N bs bm hd sn sub ab col dd k0 k1 k2 k3 k5 nw))
    (fin : R (.ok (.ret (.ref (h.objs.size + 1)))) ⟨(h.push (PySem.W.kdv_tup rest)).push (PySem.HandSPX.excO C h.objs.size), g, d, t, os⟩) (few : rest.length ≤ sizeLine) : codeAny (model P w) A (.builtin nw ⟨.ref C :: rest, kw⟩) R ⟨h, g, d, t, os⟩ := by
  have y0 := T.ends
  have y1 : (Value.ref C :: bm).contains (.type B) = true := by
    rw [List.contains_cons, pt, T.hasB, Bool.or_true]
  have y2 : (Value.ref C :: bm).contains (.type "AttributeError") = false := by
    rw [List.contains_cons, pt, T.noAttr]
    rfl
  have y3 : (Value.ref C :: bm).contains (.type "NameError") = false := by
    rw [List.contains_cons, pt, T.noName]
    rfl
  refine codeAny_builtinAt T.entry ?_
  unfold Builtin.«BaseException.__new__»
  refine PySem.wpAt_bind ?_
  show PySem.wpAt _ _ _ (stack >>= _) _ _ _
  refine PySem.wpAt_bind (PySem.wpAt_stack fun p below => PySem.wpAt_of_wpAny ?_)
  wp_walk
  refine PySem.wpAt_of_wpAny ?_
  rw [T.owner]
  repeat (first
    | with_reducible refine wpAny_madeHere_exc T.canon lk ?_
    | with_reducible refine wpAny_loadPart_at lk ?_
    | (with_reducible refine wpAny_isSubtype_exc lk ?_; first | rw [y1] | rw [y2] | rw [y3])
    | wp_step)
  show R _ _
  rw [Heap.size_push]
  exact fin
theorem kw_type_call (T : ExcBaseFacts B nw it tl) (pt : ∀ n : String, bm.contains (.type n) = tl.contains (.type n)) {Q : Fin → Shared → Prop} (lk : h.get? C = some (excClassObj nm q C N bs bm hd sn sub ab col dd k0 k1 k2 k3 k5 nw))
    (li : PySem.W.Looks (model P w) h (typeLookup (.ref C) "__init__") (some (.ref fI))) (lb : ∀ me, PySem.W.Looks (model P w) h (bindSpecial (.ref fI) me) (.ref fI, [me])) (few : rest.length ≤ sizeLine)
    (fin : codeAny (model P w) A (.call (.ref fI) ⟨.ref (h.objs.size + 1) :: rest, kw⟩) (fun r s' => match r with | .ok (.ret v) => v = .none ∧ Q (.done (.ret (.ref (h.objs.size + 1)))) s' | .ok _ => False | .error e => E e s')
      ⟨(h.push (PySem.W.kdv_tup rest)).push (PySem.HandSPX.excO C h.objs.size), g, d, t, os⟩) : wpAny (model P w) A (Builtin.«type.__call__» ⟨.ref C :: rest, kw⟩) Q E ⟨h, g, d, t, os⟩ := by
  repeat (first
    | with_reducible refine wpAny_loadPart_at lk ?_
    | with_reducible refine wpAny_madeBy_exc lk ?_
    | wp_step)
  refine codeAny_call_builtin_code (Code.quiet_builtin _ T.quiet) (kw_new_check T pt lk ?_)
  refine kw_new T pt lk ?_ few
  show wpAny _ _ _ _ _ _
  have kp : ∀ b o, h.get? b = some o → ((h.push (PySem.W.kdv_tup rest)).push (PySem.HandSPX.excO C h.objs.size)).get? b = some o := fun b o z =>
    Heap.get?_push_of_some _ (Heap.get?_push_of_some _ z)
  have lk1 := kp _ _ lk
  have at1 : ((h.push (PySem.W.kdv_tup rest)).push (PySem.HandSPX.excO C h.objs.size)).get? (h.objs.size + 1) = some (PySem.HandSPX.excO C h.objs.size) := by heap_get
  have inC : (Value.ref C :: bm).contains (.ref C) = true := by simp
  have i1 := li.keeps kp
  have b1 := (lb (.ref (h.objs.size + 1))).keeps kp
  unfold isInstance
  repeat (first
    | with_reducible refine wpAny_loadPart_at at1 ?_
    | (with_reducible refine wpAny_isSubtype_exc lk1 ?_; rw [inC])
    | wp_step)
  show wpAny _ _ (typeLookup (.ref C) _) _ _ _
  refine i1.at ?_
  refine wpAny_holding (wpAny_bind (b1.at ?_))
  refine wpAny_bind (wpAny_call (codeAny_mono fin fun r s' z => ?_))
  rcases r with e | (v | _ | _ | _)
  · exact z
  all_goals first
    | exact False.elim z
    | skip
  obtain ⟨rfl, z⟩ := z
  first
    | exact wpAny_pure (wpAny_pure z)
    | (wp_walk; exact z)
theorem kw_call (T : ExcBaseFacts B nw it tl) (pt : ∀ n : String, bm.contains (.type n) = tl.contains (.type n)) (lk : h.get? C = some (excClassObj nm q C N bs bm hd sn sub ab col dd k0 k1 k2 k3 k5 nw))
    (li : PySem.W.Looks (model P w) h (typeLookup (.ref C) "__init__") (some (.ref fI))) (lb : ∀ me, PySem.W.Looks (model P w) h (bindSpecial (.ref fI) me) (.ref fI, [me])) (few : rest.length ≤ sizeLine)
    (fin : codeAny (model P w) (A.under (.builtin "type.__call__" ⟨.ref C :: rest, kw⟩)) (.call (.ref fI) ⟨.ref (h.objs.size + 1) :: rest, kw⟩) (PySem.W.InitBack (h.objs.size + 1) R) ⟨(h.push (PySem.W.kdv_tup rest)).push (PySem.HandSPX.excO C h.objs.size), g, d, t, os⟩) :
    codeAny (model P w) A (.call (.ref C) ⟨rest, kw⟩) R ⟨h, g, d, t, os⟩ := by
  have f1 := tc_lookup
  have f2 := tc_bind (.ref C)
  have ty : (⟨h, g, d, t, os⟩ : Shared).TypeIs (.ref C) "type" := ⟨_, lk, rfl⟩
  have isT : PySem.W.Looks (model P w) h (isInstance (.ref C) (.type "type")) true := by
    intro A' Q' E' s' k q
    have lk2 := k _ _ lk
    have f3 := tc_sub
    unfold isInstance
    obtain ⟨h', g', d', t', os'⟩ := s'
    repeat (first
      | assumption
      | with_reducible refine wpAny_loadPart_at lk2 ?_
      | wp_step)
  refine codeAny_of_tree ?_
  show wpAny _ _ (callAny (.ref C) _) _ _ _
  repeat (any_goals (first
    | assumption
    | with_reducible refine wpAny_loadPart_at lk ?_
    | wp_step))
  refine ⟨rfl, ?_⟩
  refine codeAny_call_builtin_at (Code.quiet_builtin _ (by decide +kernel)) entry_typeCall (@PySem.W.check_slot (model P w) _ _ _ "type.__call__" "type" "__call__" (.ref C) rest kw _ tc_kind tc_split isT (PySem.W.tc_args _ _ _) (kw_type_call T pt lk li lb few ?_))
  refine codeAny_mono fin fun r s' z => ?_
  rcases r with e | (v | _ | _ | _) <;> exact z
end
end Gn
set_option Elab.async false
set_option linter.all false
set_option maxRecDepth 100000
set_option maxHeartbeats 4000000
namespace Gn
open PySem PySem.Spec PyProof.Rows L2
/-- C(k = e, ..) kept -/
def tOwnK (C : Addr) (m : Nat) (sp : Sp) (gV : List V → List V → List V) (tk : TA) : TE := fun σ H Q => tk σ H fun zs H1 => zs.length = m ∧ ∀ a, H1 a = none →
  sp (gV [.ref a] zs) (upd H1 a (exo a C none)) (fun v H2 => v = .non ∧ Q (.ref a) H2) (fun _ _ _ => False)
section
variable {X : Cx} {tk : TA} {kws : List Keyword} {p pos : Pos}
theorem own_madeK {CX : CXT} {C fI : Addr} {k : Nat} {fd : FuncData} {ps ks : List Str} {sp : Sp} {ws : List Value} {zs : List V} {g : List Value → List Value → List Value} {gV : List V → List V → List V} {pins : List (Addr × Obj)} {σ : L2.St} {H1 : Hp} {s1 : Shared} {Q : VK} (T : OwC X.K C)
    (iC : PySem.W.findIn X.K (.ref C) "__init__" = some (some (.ref fI))) (tI : PySem.W.typeIn X.K (.ref fI) = some (.type "function")) (F1 : FnOk X.prog X.w X.K X.mg X.base CX k fI fd ps sp) (hr : Room (k + 1) X.A) (hb : KBn X.K fd ps 1 ks g gV)
    (hx : Passes CX X (fun _ _ _ => False)) (I1 : Inv X pins σ H1 s1) (rz : Vals zs ws) (lz : zs.length = ks.length) (q1 : ∀ a, H1 a = none → sp (gV [.ref a] zs) (upd H1 a (exo a C none)) (fun v H2 => v = .non ∧ Q (.ref a) H2) (fun _ _ _ => False)) :
    wpAny (model X.prog X.w) X.A (call (.ref C) [] (ks.zip ws)) (EP X pins σ Q) X.xe s1 := by
  obtain ⟨nm, q, N, bs, bm, sn, sub, ab, col, dd, k0, k1, k2, k3, k5, B, nw, it, tl, lk, pt, TB⟩ := T.cls
  obtain ⟨hp, gg, dr, tok, os⟩ := s1
  have up : hp.objs.size ≤ hp.objs.size + 1 := Nat.le_succ _
  have hn : H1 (hp.objs.size + 1) = none := I1.hok.fresh up
  have hq := q1 (hp.objs.size + 1) hn
  have kk : ∀ b o, hp.get? b = some o → ((hp.push (PySem.W.kdv_tup [])).push (PySem.HandSPX.excO C hp.objs.size)).get? b = some o := fun b o z =>
    Heap.get?_push_of_some _ (Heap.get?_push_of_some _ z)
  have got : ((hp.push (PySem.W.kdv_tup [])).push (PySem.HandSPX.excO C hp.objs.size)).get? (hp.objs.size + 1) = some (PySem.HandSPX.excO C hp.objs.size) := by heap_get
  have I2 := I1.laid (t' := tok) (a := hp.objs.size + 1) (o := exo (hp.objs.size + 1) C none) kk up (exo_ok got)
  have rs : Vals [V.ref (hp.objs.size + 1)] [Value.ref (hp.objs.size + 1)] := .cons rfl .nil
  have r2 := hb.rel rs rz
  have l2 : ws.length = ks.length := rz.length.symm.trans lz
  refine wpAny_call (kw_call TB.ex (fun n => pt.has n) (I1.kIn _ _ lk) (PySem.W.looks_findIn I1.kIn iC) (fun me => PySem.W.bind_fn I1.kIn me tI) (by rw [sizeLine_eq]; decide) (codeAny_mono
    (F1.run _ X.stack _ _ ⟨[Value.ref (hp.objs.size + 1)], ks.zip ws⟩ (g [Value.ref (hp.objs.size + 1)] ws) _ _ (fun _ _ _ => False) (hr.make C [] (ks.zip ws)) (I2.env0.make C [] (ks.zip ws)) (hb.to _ [Value.ref (hp.objs.size + 1)] ws I2.kIn rfl l2) r2 hq) fun r s' z => ?_))
  cases r with
  | error er => exact hx pins σ _ _ er s' I2 z
  | ok fl =>
    cases fl with
    | ret u =>
      obtain ⟨v, H2, os2, bare2, un2, hok2, rv, ev, q2⟩ := z
      subst ev
      obtain ⟨h2, g2, d2, t2, os'⟩ := s'
      exact ⟨rv, .ref (hp.objs.size + 1), H2, I1.call' (ch := []) os2 ((Un.laid kk up hn).trans un2) hok2 bare2 (fun b y => absurd y (by simp)), rfl, q2⟩
    | next => exact False.elim z
    | brk => exact False.elim z
    | cont => exact False.elim z
theorem pe_ownK {CX : CXT} {x : Str} {C fI : Addr} {k : Nat} {fd : FuncData} {ps ks : List Str} {sp : Sp} {g : List Value → List Value → List Value} {gV : List V → List V → List V} (T : OwC X.K C) (iC : PySem.W.findIn X.K (.ref C) "__init__" = some (some (.ref fI)))
    (tI : PySem.W.typeIn X.K (.ref fI) = some (.type "function")) (F1 : FnOk X.prog X.w X.K X.mg X.base CX k fI fd ps sp) (hr : Room (k + 1) X.A) (hb : KBn X.K fd ps 1 ks g gV) (hx : Passes CX X (fun _ _ _ => False)) (hg : Gl X x)
    (hm : X.mg x = some (.ref C)) (hkw : PK X kws tk) (hall : (backToKw pos (keywordEach kws X.env)).all (·.1.isSome) = true := by rfl) (hks : (backToKw pos (keywordEach kws X.env)).filterMap (·.1) = ks := by rfl) (hdb : (x == ("__debug__" : Str)) = false := by decide)
    (hpl : ((backTo pos (starEach [] X.env)).any (·.1) || (backToKw pos (keywordEach kws X.env)).any (·.1.isNone)) = false := by rfl) :
    PE X (.Call (.Name x p) [] kws pos) (tOwnK C ks.length sp gV tk) := ⟨fun pins s σ H Q I h =>
  wpAny_Call_Name_kw (ld_glob I hg hm (PySem.W.callWith_KW0 (h₀ := X.base) I.ok.mod.kin T.kC hall (thn (hkw.run pos pins s σ H _ I h) fun ws s2 ⟨zs, H2, I2, rz, lz, q2⟩ => ⟨I2.kIn, by
    rw [hks]
    exact own_madeK T iC tI F1 hr hb hx I2 rz lz q2⟩) hpl) hdb)⟩
end
/-! one keyword, and two the other way round, behind the object itself -/
def kq1 {α : Type} : List α → List α → List α
  | [s], [a] => [s, a]
  | _, _ => []
def kq2s {α : Type} : List α → List α → List α
  | [s], [a, b] => [s, b, a]
  | _, _ => []
section
variable {K : PySem.W.Frag} {fd : FuncData}
theorem kn1 {p0 p : Str} (h : ∀ s a : Value, bindArgs fd ⟨[s], [(p, a)]⟩ = pure [(p0, s), (p, a)]) : KBn K fd [p0, p] 1 [p] kq1 kq1 :=
  ⟨fun s us ws _ l1 l2 => match us, ws, l1, l2 with
    | [x], [a], _, _ => .of_eq (h x a), fun {vs us zs ws} r rz => by
    cases r with
    | nil => exact .nil
    | cons a b => cases b with
      | nil => cases rz with
        | nil => exact .nil
        | cons c d => cases d with
          | nil => exact .cons a (.cons c .nil)
          | cons _ _ => exact .nil
      | cons _ _ => exact .nil⟩
theorem kn2s {p0 p q : Str} (h : ∀ s a b : Value, bindArgs fd ⟨[s], [(q, b), (p, a)]⟩ = pure [(p0, s), (p, a), (q, b)]) : KBn K fd [p0, p, q] 1 [q, p] kq2s kq2s :=
  ⟨fun s us ws _ l1 l2 => match us, ws, l1, l2 with
    | [x], [b, a], _, _ => .of_eq (h x a b), fun {vs us zs ws} r rz => by
    cases r with
    | nil => exact .nil
    | cons a b => cases b with
      | nil => cases rz with
        | nil => exact .nil
        | cons c d => cases d with
          | nil => exact .nil
          | cons e f => cases f with
            | nil => exact .cons a (.cons e (.cons c .nil))
            | cons _ _ => exact .nil
      | cons _ _ => exact .nil⟩
end
end Gn
set_option Elab.async false
set_option linter.all false
set_option maxRecDepth 100000
set_option maxHeartbeats 4000000
/-! own exceptions whose __init__ keeps what is passed -/
namespace Gn
open PySem PySem.Spec PyProof.Rows L2
/-- at a: an exception of the class at C that has these fields -/
def Kept (H : Hp) (a C : Addr) (fs : List (Str × V)) : Prop := (fs = [] ∧ H a = some (exo a C none)) ∨ ∃ d, H a = some (exo a C (some d)) ∧ H d = some (exd d fs)
theorem Kept.same {H H' : Hp} {a C : Addr} {fs : List (Str × V)} (h : Kept H a C fs) (e : Same H H') : Kept H' a C fs := by
  rcases h with ⟨z, h⟩ | ⟨d, h1, h2⟩
  · exact .inl ⟨z, e _ _ h⟩
  · exact .inr ⟨d, e _ _ h1, e _ _ h2⟩
/-- the same, its dict new -/
def NewE (H H' : Hp) (a C : Addr) (fs : List (Str × V)) : Prop := (fs = [] ∧ H' a = some (exo a C none)) ∨ ∃ d, H d = none ∧ H' a = some (exo a C (some d)) ∧ H' d = some (exd d fs)
theorem NewE.kept {H H' : Hp} {a C : Addr} {fs : List (Str × V)} (h : NewE H H' a C fs) : Kept H' a C fs := by
  rcases h with h | ⟨d, _, h⟩
  · exact .inl h
  · exact .inr ⟨d, h⟩
/-- all but a is as it was -/
def But (H H' : Hp) (a : Addr) : Prop := ∀ b o, b ≠ a → H b = some o → H' b = some o
def spIni (K : PySem.W.Frag) (fl : List Str) : Sp := fun vs H Q _ => ∃ (a C : Addr) (xs : List V), vs = .ref a :: xs ∧ xs.length = fl.length ∧ OwC K C ∧ (∀ f ∈ fl, PySem.W.findIn K (.ref C) f = some none) ∧ H a = some (exo a C none) ∧
  ∀ H', But H H' a → NewE H H' a C (fl.zip xs).reverse → Q .non H'
section
variable {P : Program} {w : World} {K : PySem.W.Frag} {mg : Str → Option Value} {base : Heap} {f : Addr} {fd : FuncData} {qual : Str} {st : Stmt}
theorem but_put {H : Hp} {a d : Addr} {o o' : HO} (hd : H d = none) : But H (upd (upd H d o) a o') a := fun b u hb z => by
  rw [upd_ne hb, upd_ne (ne_of_none z hd)]
  exact z
theorem ini0 {pos : Pos} (F : Fun K "__init__" qual st f fd) (S : FnScope ["self"] ["self"] (defScope st)) (hb : defBody st = [.Pass pos]) : FnOk P w K mg base CX0 1 f fd ["self"] (spIni K []) := by
  refine F.ok S (fun vs H Q E h => ?_) (fun cdv A outer s H vs Q E hr h => ?_)
  · obtain ⟨a, C, xs, rfl, l, _⟩ := h
    cases xs with
    | nil => rfl
    | cons _ _ => cases l
  · obtain ⟨a, C, xs, rfl, l, _, _, ea, q⟩ := h
    rw [hb]
    match xs, l with
    | [], _ => exact ⟨_, pss_one ps_pass, q H (fun b o _ z => z) (.inl ⟨rfl, ea⟩)⟩
theorem ini1 {n : Str} {p1 p2 p3 pos : Pos} (F : Fun K "__init__" qual st f fd) (S : FnScope ["self", n] ["self", n] (defScope st)) (hb : defBody st = [.Assign [.Attribute (.Name "self" p1) n p2] (.Name n p3) pos])
    (v0 : Vis (defScope st) "self") (v1 : Vis (defScope st) n) (d1 : (n == ("__debug__" : Str)) = false) (c1 : (n == ("__classdict__" : Str)) = false) :
    FnOk P w K mg base CX0 1 f fd ["self", n] (spIni K [n]) := by
  refine F.ok S (fun vs H Q E h => ?_) (fun cdv A outer s H vs Q E hr h => ?_)
  · obtain ⟨a, C, xs, rfl, l, _⟩ := h
    rw [List.length_cons, l]
    rfl
  · obtain ⟨a, C, xs, rfl, l, T, no, ea, q⟩ := h
    rw [hb]
    match xs, l with
    | [x], _ =>
      refine ⟨_, pss_one (ps_put (pv 0 rfl v0) (pv 1 rfl v1 d1 c1)), ?_⟩
      exact ⟨_, rfl, _, rfl, a, C, rfl, T, no n (List.mem_singleton.mpr rfl), .inl ⟨ea, fun d hd ne => q _ (but_put hd) (.inr ⟨d, hd, upd_same, by rw [upd_ne ne, upd_same]; rfl⟩)⟩⟩
theorem ini2 {n m : Str} {p1 p2 p3 p4 p5 p6 pos pos' : Pos} (F : Fun K "__init__" qual st f fd) (S : FnScope ["self", n, m] ["self", n, m] (defScope st))
    (hb : defBody st = [.Assign [.Attribute (.Name "self" p1) n p2] (.Name n p3) pos, .Assign [.Attribute (.Name "self" p4) m p5] (.Name m p6) pos'])
    (v0 : Vis (defScope st) "self") (v1 : Vis (defScope st) n) (d1 : (n == ("__debug__" : Str)) = false) (c1 : (n == ("__classdict__" : Str)) = false) (v2 : Vis (defScope st) m) (d2 : (m == ("__debug__" : Str)) = false) (c2 : (m == ("__classdict__" : Str)) = false) :
    FnOk P w K mg base CX0 1 f fd ["self", n, m] (spIni K [n, m]) := by
  refine F.ok S (fun vs H Q E h => ?_) (fun cdv A outer s H vs Q E hr h => ?_)
  · obtain ⟨a, C, xs, rfl, l, _⟩ := h
    rw [List.length_cons, l]
    rfl
  · obtain ⟨a, C, xs, rfl, l, T, no, ea, q⟩ := h
    rw [hb]
    match xs, l with
    | [x, y], _ =>
      refine ⟨_, pss_cons (ps_put (pv 0 rfl v0) (pv 1 rfl v1 d1 c1)) (pss_one (ps_put (pv 0 rfl v0) (pv 2 rfl v2 d2 c2))), ?_⟩
      refine ⟨_, rfl, _, rfl, a, C, rfl, T, no n (by simp), .inl ⟨ea, fun d hd ne => ?_⟩⟩
      refine ⟨_, rfl, _, rfl, a, C, rfl, T, no m (by simp), .inr ⟨d, _, upd_same, by rw [upd_ne ne, upd_same], by show 1 ≤ 900; decide, ?_⟩⟩
      refine q _ (fun b o hb z => ?_) (.inr ⟨d, hd, by rw [upd_ne (Ne.symm ne), upd_same], upd_same⟩)
      rw [upd_ne (ne_of_none z hd), upd_ne hb, upd_ne (ne_of_none z hd)]
      exact z
end
/-- such a class of the text: its name, the fields in the order of its parameters -/
structure OwE (P : Program) (w : World) (K : PySem.W.Frag) (mg : Str → Option Value) (base : Heap) (nm : Str) (fl : List Str) (C f : Addr) (fd : FuncData) : Prop where
  own : OwC K C
  ini : PySem.W.findIn K (.ref C) "__init__" = some (some (.ref f))
  ty : PySem.W.typeIn K (.ref f) = some (.type "function")
  xf : XfC K C
  ex : ExcC K C
  no : ∀ n ∈ fl, PySem.W.findIn K (.ref C) n = some none
  g : mg nm = some (.ref C)
  run : FnOk P w K mg base CX0 1 f fd ("self" :: fl) (spIni K fl)
  b : Binds K fd ("self" :: fl) []
def tMk (C : Addr) (fl : List Str) (ta : TA) : TE := fun σ H Q => ta σ H fun vs H1 => vs.length = fl.length ∧ ∀ a H2, Same H1 H2 → Kept H2 a C (fl.zip vs).reverse → Q (.ref a) H2
def tMkK (C : Addr) (fl : List Str) (gV : List V → List V) (n : Nat) (ta : TA) : TE := fun σ H Q => ta σ H fun zs H1 => zs.length = n ∧ ∀ a H2, Same H1 H2 → Kept H2 a C (fl.zip (gV zs)).reverse → Q (.ref a) H2
theorem PE.imp {X : Cx} {e : Expr} {t t' : TE} (h : PE X e t) (k : ∀ σ H Q, t' σ H Q → t σ H Q) : PE X e t' := ⟨fun pins s σ H Q I z => h.run pins s σ H Q I (k σ H Q z)⟩
theorem same_but {H H2 : Hp} {a : Addr} {o : HO} (ha : H a = none) (h : But (upd H a o) H2 a) : Same H H2 := fun b u z => h b u (ne_of_none z ha) (by rw [upd_ne (ne_of_none z ha)]; exact z)
section
variable {X : Cx} {nm : Str} {fl : List Str} {C f : Addr} {fd : FuncData} {e : Expr} {es : List Expr} {ta : TA} {p pos : Pos}
theorem pe_mk (T : OwE X.prog X.w X.K X.mg X.base nm fl C f fd) (hl : fl.length ≤ 1000) (hr : Room 2 X.A) (hg : Gl X nm) (hx : Passes CX0 X (fun _ _ _ => False)) (ha : PA X (e :: es) ta) (hdb : (nm == ("__debug__" : Str)) = false := by decide)
    (he : starEach (e :: es) X.env = (false, eval e X.env) :: starEach es X.env := by rfl) (hpl : (backTo pos (starEach es X.env)).any (·.1) = false := by rfl) : PE X (.Call (.Name nm p) (e :: es) [] pos) (tMk C fl ta) :=
  ⟨fun pins s σ H Q I h => wpAny_Call_Name_kw (ld_glob I hg T.g (PySem.W.callWith_K (h₀ := X.base) I.ok.mod.kin T.own.kC (thn (ha.run pos pins s σ H _ I h) fun us s1 ⟨vs, H1, I1, r1, l, k⟩ => ⟨I1.kIn,
    own_made (dvs := []) T.own T.ini T.ty T.run hr T.b .nil hx I1 r1 (fun a n => ⟨a, C, vs, by rw [List.append_nil], l, T.own, T.no, upd_same, fun H2 bt kt => ⟨rfl, k a H2 (same_but n bt) kt.kept⟩⟩) (by omega)⟩) he hpl) hdb)⟩
theorem pe_mk0 (T : OwE X.prog X.w X.K X.mg X.base nm [] C f fd) (hr : Room 2 X.A) (hg : Gl X nm) (hx : Passes CX0 X (fun _ _ _ => False)) (hdb : (nm == ("__debug__" : Str)) = false := by decide) :
    PE X (.Call (.Name nm p) [] [] pos) (tMk C [] tNil) :=
  ⟨fun pins s σ H Q I h => wpAny_Call_Name_kw (ld_glob I hg T.g (PySem.W.callWith_K0 I.kIn T.own.kC
    (own_made (us := []) (vs := []) (dvs := []) T.own T.ini T.ty T.run hr T.b .nil hx I .nil (fun a n => ⟨a, C, [], rfl, rfl, T.own, T.no, upd_same, fun H2 bt kt => ⟨rfl, h.2 a H2 (same_but n bt) kt.kept⟩⟩) (by decide))) hdb)⟩
theorem pe_mkK {kws : List Keyword} {tk : TA} {ks : List Str} {g : List Value → List Value → List Value} {gV : List V → List V → List V} (T : OwE X.prog X.w X.K X.mg X.base nm fl C f fd) (hb : KBn X.K fd ("self" :: fl) 1 ks g gV) (hr : Room 2 X.A) (hg : Gl X nm)
    (hgV : ∀ (s : V) (zs : List V), zs.length = ks.length → ∃ ys, gV [s] zs = s :: ys ∧ ys.length = fl.length ∧ ∀ s', gV [s'] zs = s' :: ys) (hx : Passes CX0 X (fun _ _ _ => False)) (hkw : PK X kws tk)
    (hall : (backToKw pos (keywordEach kws X.env)).all (·.1.isSome) = true := by rfl) (hks : (backToKw pos (keywordEach kws X.env)).filterMap (·.1) = ks := by rfl) (hdb : (nm == ("__debug__" : Str)) = false := by decide)
    (hpl : ((backTo pos (starEach [] X.env)).any (·.1) || (backToKw pos (keywordEach kws X.env)).any (·.1.isNone)) = false := by rfl) :
    PE X (.Call (.Name nm p) [] kws pos) (tMkK C fl (fun zs => (gV [.non] zs).tail) ks.length tk) :=
  ⟨fun pins s σ H Q I h => wpAny_Call_Name_kw (ld_glob I hg T.g (PySem.W.callWith_KW0 (h₀ := X.base) I.ok.mod.kin T.own.kC hall (thn (hkw.run pos pins s σ H _ I h) fun ws s2 ⟨zs, H2, I2, rz, lz, q2⟩ => ⟨I2.kIn, by
    rw [hks]
    obtain ⟨ys, e0, l0, e1⟩ := hgV .non zs lz
    exact own_madeK T.own T.ini T.ty T.run hr hb hx I2 rz lz fun a n => ⟨a, C, ys, e1 _, l0, T.own, T.no, upd_same, fun H3 bt kt => ⟨rfl, q2 a H3 (same_but n bt) (by show Kept H3 a C (fl.zip (gV [V.non] zs).tail).reverse; rw [e0]; exact kt.kept)⟩⟩⟩) hpl) hdb)⟩
/-- the rest of what is asked of such a value -/
theorem Kept.at {H : Hp} {a C : Addr} {fs : List (Str × V)} (h : Kept H a C fs) : ∃ d, H a = some (exo a C d) ∧ ∀ y, d = some y → ∃ fs, H y = some (exd y fs) := by
  rcases h with ⟨_, h⟩ | ⟨d, h1, h2⟩
  · exact ⟨none, h, fun y z => nomatch z⟩
  · exact ⟨some d, h1, fun y z => by cases z; exact ⟨_, h2⟩⟩
end
/-- such a one raised: what a handler gets -/
theorem thr_of {K : PySem.W.Frag} {C : Addr} {n : Str} {i : Nat} {x : V} {σ : L2.St} {H : Hp} {Q : XK} (T : OwC K C) (no : PySem.W.findIn K (.ref C) n = some none) (hs : σ[i]? = some (some x))
    (k : ∀ d H', Same H H' → H d = none → H' d = some (.xd [(n, x)]) → Q (.ref C) (some d) H') : tThr C (spIni K [n]) [] (tCons (tVar i) tNil) σ H Q := by
  refine ⟨x, hs, Nat.le_of_ble_eq_true rfl, fun a ha => ⟨a, C, [x], rfl, rfl, T, fun f hf => by rw [List.mem_singleton.mp hf]; exact no, upd_same, fun H2 bt kt => ⟨rfl, .inl ?_⟩⟩⟩
  rcases kt with ⟨z, _⟩ | ⟨d, hd, h1, h2⟩
  · cases z
  · have da : d ≠ a := fun z => by
      rw [z, upd_same] at hd
      cases hd
    have hd1 : H d = none := by
      rw [upd_ne da] at hd
      exact hd
    refine ⟨d, _, h1, h2, hd1, k d _ (fun b o z => ?_) hd1 upd_same⟩
    rw [upd_ne (ne_of_none z hd1), del_ne (ne_of_none z ha)]
    exact bt b o (ne_of_none z ha) (by rw [upd_ne (ne_of_none z ha)]; exact z)
end Gn
set_option Elab.async false
set_option linter.all false
set_option maxRecDepth 100000
set_option maxHeartbeats 4000000
/-! what a term makes, told by what holds of its value whatever is made behind it -/
namespace Gn
open PySem PySem.Spec PyProof.Rows L2
abbrev Fact := Hp → V → Prop
def Lasts (R : Fact) : Prop := ∀ H H' v, Same H H' → R H v → R H' v
def Fm (te : TE) (σ : L2.St) (H : Hp) (R : Fact) : Prop := ∀ H1, Same H H1 → ∀ Q : VK, (∀ v H2, Same H1 H2 → R H2 v → Q v H2) → te σ H1 Q
/-- facts of a row of values -/
def AllF : List Fact → Hp → List V → Prop
  | [], _, vs => vs = []
  | R :: Rs, H, v :: vs => R H v ∧ AllF Rs H vs
  | _ :: _, _, [] => False
def LastsAll (Rs : List Fact) : Prop := ∀ R ∈ Rs, Lasts R
def FmA (ta : TA) (σ : L2.St) (H : Hp) (Rs : List Fact) : Prop := ∀ H1, Same H H1 → ∀ Q : List V → Hp → Prop, (∀ vs H2, Same H1 H2 → AllF Rs H2 vs → Q vs H2) → ta σ H1 Q
theorem AllF.lasts : ∀ {Rs : List Fact} {H H' : Hp} {vs : List V}, LastsAll Rs → Same H H' → AllF Rs H vs → AllF Rs H' vs
  | [], _, _, _, _, _, h => h
  | R :: Rs, H, H', v :: vs, m, e, ⟨h, hs⟩ => ⟨m R (List.mem_cons_self ..) H H' v e h, AllF.lasts (fun q z => m q (List.mem_cons_of_mem _ z)) e hs⟩
  | _ :: _, _, _, [], _, _, h => h
theorem AllF.len : ∀ {Rs : List Fact} {H : Hp} {vs : List V}, AllF Rs H vs → vs.length = Rs.length
  | [], _, vs, h => by
    rw [show vs = [] from h]
    rfl
  | R :: Rs, H, v :: vs, ⟨_, hs⟩ => by rw [List.length_cons, hs.len, List.length_cons]
  | _ :: _, _, [], h => h.elim
theorem AllF.app : ∀ {Rs Ss : List Fact} {H : Hp} {vs us : List V}, AllF Rs H vs → AllF Ss H us → AllF (Rs ++ Ss) H (vs ++ us)
  | [], _, _, vs, us, h, g => by
    rw [show vs = [] from h]
    exact g
  | R :: Rs, _, _, v :: vs, us, ⟨h, hs⟩, g => ⟨h, hs.app g⟩
  | _ :: _, _, _, [], _, h, _ => h.elim
theorem AllF.at : ∀ {Rs : List Fact} {H : Hp} {vs : List V} {i : Nat}, AllF Rs H vs → ∀ R, Rs[i]? = some R → ∃ v, vs[i]? = some v ∧ R H v
  | [], _, _, i, _, R, e => by cases e
  | R :: Rs, _, v :: vs, 0, ⟨h, _⟩, R', e => by
    cases e
    exact ⟨v, rfl, h⟩
  | R :: Rs, _, v :: vs, i + 1, ⟨_, hs⟩, R', e => hs.at (i := i) R' e
  | _ :: _, _, [], _, h, _, _ => h.elim
theorem lastsAll_nil : LastsAll [] := fun _ z => nomatch z
theorem lastsAll_cons {R : Fact} {Rs : List Fact} (h : Lasts R) (hs : LastsAll Rs) : LastsAll (R :: Rs) := fun q z => by
  rcases List.mem_cons.mp z with z | z
  · rw [z]
    exact h
  · exact hs q z
theorem lastsAll_app {Rs Ss : List Fact} (h : LastsAll Rs) (g : LastsAll Ss) : LastsAll (Rs ++ Ss) := fun q z => (List.mem_append.mp z).elim (h q) (g q)
section
variable {K : PySem.W.Frag} {σ : L2.St} {H : Hp} {te tb : TE} {ta : TA} {R S : Fact} {Rs Ss : List Fact}
/-- it is this value -/
def isV (v : V) : Fact := fun _ u => u = v
theorem lasts_is {v : V} : Lasts (isV v) := fun _ _ _ _ h => h
theorem fm_c {v : V} : Fm (tC v) σ H (isV v) := fun H1 _ Q q => q v H1 (Same.refl _) rfl
theorem fm_var {i : Nat} {v : V} (h : σ[i]? = some (some v)) : Fm (tVar i) σ H (isV v) := fun H1 _ Q q => ⟨v, h, q v H1 (Same.refl _) rfl⟩
theorem fmA_nil : FmA tNil σ H [] := fun H1 _ Q q => q [] H1 (Same.refl _) rfl
theorem fmA_cons (m : Lasts R) (h : Fm te σ H R) (hs : FmA ta σ H Rs) : FmA (tCons te ta) σ H (R :: Rs) := fun H1 e Q q =>
  h H1 e _ fun v H2 e2 r => hs H2 (e.trans e2) _ fun vs H3 e3 rs => q (v :: vs) H3 (e2.trans e3) ⟨m _ _ _ e3 r, rs⟩
/-- a list of these -/
def isL (Rs : List Fact) : Fact := fun H u => ∃ p vs, u = .ref p ∧ H p = some (.lst vs) ∧ AllF Rs H vs
theorem lasts_L (m : LastsAll Rs) : Lasts (isL Rs) := fun H H' v e ⟨p, vs, q, h, hs⟩ => ⟨p, vs, q, e _ _ h, hs.lasts m e⟩
theorem fm_lst (m : LastsAll Rs) (hl : Rs.length ≤ 1000) (hs : FmA ta σ H Rs) : Fm (tLst ta) σ H (isL Rs) := fun H1 e Q q => hs H1 e _ fun vs H2 e2 rs =>
  ⟨by rw [rs.len, sizeLine_eq]; omega, fun p hp => q _ _ (e2.trans (same_put hp)) ⟨p, vs, rfl, upd_same, rs.lasts m (same_put hp)⟩⟩
theorem fm_cat (m : LastsAll Rs) (n : LastsAll Ss) (hl : Rs.length + Ss.length ≤ 1000) (h : Fm te σ H (isL Rs)) (g : Fm tb σ H (isL Ss)) : Fm (tOp rCat te tb) σ H (isL (Rs ++ Ss)) := fun H1 e Q q =>
  h H1 e _ fun u H2 e2 ⟨p, vs, eu, hp, rs⟩ => g H2 (e.trans e2) _ fun y H3 e3 ⟨p', us, ey, hp', ss⟩ => by
    subst eu ey
    have l1 := rs.len
    have l2 := ss.len
    refine ⟨p, p', vs, us, rfl, rfl, e3 _ _ hp, hp', by rw [l1, l2, sizeLine_eq]; omega, fun r hr => ?_⟩
    exact q _ _ ((e2.trans e3).trans (same_put hr)) ⟨r, vs ++ us, rfl, upd_same, ((rs.lasts m e3).app ss).lasts (lastsAll_app m n) (same_put hr)⟩
/-- an exception of the class at C -/
def isE (C : Addr) (fs : List (Str × V)) : Fact := fun H u => ∃ a, u = .ref a ∧ Kept H a C fs
theorem lasts_E {C : Addr} {fs : List (Str × V)} : Lasts (isE C fs) := fun H H' v e ⟨a, q, h⟩ => ⟨a, q, h.same e⟩
theorem same_all {v : List V} {H : Hp} : AllF (v.map isV) H v := by
  induction v with
  | nil => rfl
  | cons x r ih => exact ⟨rfl, ih⟩
theorem allF_is : ∀ {xs vs : List V} {H : Hp}, AllF (xs.map isV) H vs → vs = xs
  | [], _, _, h => h
  | x :: xs, v :: vs, H, ⟨h, hs⟩ => by rw [show v = x from h, allF_is hs]
  | _ :: _, [], _, h => h.elim
theorem fm_mk {C : Addr} {fl : List Str} {xs : List V} (h : FmA ta σ H (xs.map isV)) (hl : xs.length = fl.length) : Fm (tMk C fl ta) σ H (isE C (fl.zip xs).reverse) := fun H1 e Q q =>
  h H1 e _ fun vs H2 e2 rs => by
    have z := allF_is rs
    subst z
    exact ⟨hl, fun a H3 e3 k => q _ _ (e2.trans e3) ⟨a, rfl, k⟩⟩
theorem fm_mkK {C : Addr} {fl : List Str} {xs : List V} {gV : List V → List V} {n : Nat} (h : FmA ta σ H (xs.map isV)) (hl : xs.length = n) : Fm (tMkK C fl gV n ta) σ H (isE C (fl.zip (gV xs)).reverse) := fun H1 e Q q =>
  h H1 e _ fun vs H2 e2 rs => by
    have z := allF_is rs
    subst z
    exact ⟨hl, fun a H3 e3 k => q _ _ (e2.trans e3) ⟨a, rfl, k⟩⟩
end
end Gn
set_option Elab.async false
set_option linter.all false
set_option maxRecDepth 100000
set_option maxHeartbeats 4000000
/-! arguments of any kind: what isinstance, the checks' questions, tell of them -/
namespace Gn
open PySem PySem.Spec PyProof.Rows L2
mutual
/-- a value that holds d, its lists, tuples and empty dicts being made by the law itself -/
inductive An (K : PySem.W.Frag) (H : Hp) : V → PyData → Prop
  | non : An K H .non .none
  | bl (b : Bool) : An K H (.bl b) (.bool b)
  | int (i : Int) : An K H (.int i) (.int i)
  | str (x : Str) : An K H (.str x) (.str x)
  | lst {a : Addr} {xs : List V} {ds : List PyData} (h : H a = some (.lst xs)) (t : AnAll K H xs ds) : An K H (.ref a) (.list ds)
  | tup {a : Addr} {xs : List V} {ds : List PyData} (h : H a = some (.tup xs)) (t : AnAll K H xs ds) : An K H (.ref a) (.tuple ds)
  | dct {a : Addr} {kvs : List (Key × V)} (h : H a = some (.dK kvs)) : An K H (.ref a) (.dict [])
inductive AnAll (K : PySem.W.Frag) (H : Hp) : List V → List PyData → Prop
  | nil : AnAll K H [] []
  | cons {v : V} {vs : List V} {d : PyData} {ds : List PyData} (h : An K H v d) (t : AnAll K H vs ds) : AnAll K H (v :: vs) (d :: ds)
end
theorem tyx_sqt {K : PySem.W.Frag} {H : Hp} {a : Addr} {xs : List V} (h : SqT K H a xs) : TyX K H (.ref a) (.type "tuple") := by
  rcases h with (h | ⟨o, h⟩) | ⟨o, its, n, h, hc, _⟩
  · exact .base (.tup h)
  · exact .fTuple h
  · exact .kTuple h hc
theorem tyx_sql {K : PySem.W.Frag} {H : Hp} {a : Addr} {xs : List V} (h : SqL K H a xs) : TyX K H (.ref a) (.type "list") := by
  rcases h with (h | ⟨o, h⟩) | ⟨o, its, n, h, hc, _⟩
  · exact .base (.lst h)
  · exact .base (.frz h)
  · exact .kList h hc
/-- the name of its type -/
def tyn : PyData → String
  | .none => "NoneType"
  | .bool _ => "bool"
  | .int _ => "int"
  | .str _ => "str"
  | .list _ => "list"
  | .tuple _ => "tuple"
  | .dict _ => "dict"
theorem An.ty {K : PySem.W.Frag} {H : Hp} {v : V} {d : PyData} (h : An K H v d) : TyX K H v (.type (tyn d)) := by
  cases h with
  | dct h => exact .base (.dK h)
  | non => exact .base .non
  | bl b => exact .base (.bl b)
  | int i => exact .base (.int i)
  | str x => exact .base (.str x)
  | lst a _ => exact .base (.lst a)
  | tup a _ => exact .base (.tup a)
def isIntB (d : PyData) : Bool := match d with | .int _ => true | .bool _ => true | _ => false
def isBoolB (d : PyData) : Bool := match d with | .bool _ => true | _ => false
def isTupB (d : PyData) : Bool := match d with | .tuple _ => true | _ => false
theorem kit_int {d : PyData} : kitB (tyn d) "int" = some (isIntB d) := by cases d <;> (simp only [tyn, isIntB]; decide +kernel)
theorem kit_bool {d : PyData} : kitB (tyn d) "bool" = some (isBoolB d) := by cases d <;> (simp only [tyn, isBoolB]; decide +kernel)
theorem kit_tup {d : PyData} : kitB (tyn d) "tuple" = some (isTupB d) := by cases d <;> (simp only [tyn, isTupB]; decide +kernel)
/-- an integer, as the program asks it -/
def isInt (d : PyData) : Bool := match d with | .int _ => true | _ => false
def isFr (d : PyData) : Bool := match d with | .tuple [.int t, .int b] => decide (1 ≤ b) && decide (Int.gcd t b = 1) | _ => false
def isSt (d : PyData) : Bool := match d with | .tuple [.int t, .int b] => isFr d && (decide (0 ≤ t) && decide (t < b)) | _ => false
def isPt (d : PyData) : Bool := match d with | .tuple [.int t, .int b] => isFr d && (decide (0 ≤ t) && decide (t ≤ b)) | _ => false
def isNum (d : PyData) (a b : Int) : Bool := match d with | .int i => decide (a ≤ i ∧ i ≤ b) | _ => false
theorem An.isI {K : PySem.W.Frag} {H : Hp} {v : V} {d : PyData} (h : An K H v d) (e : isInt d = true) : ∃ i, v = .int i ∧ d = .int i := by
  cases h with
  | int i => exact ⟨i, rfl, rfl⟩
  | _ => cases e
theorem An.isT {K : PySem.W.Frag} {H : Hp} {v : V} {d : PyData} (h : An K H v d) (e : isTupB d = true) : ∃ a xs ds, v = .ref a ∧ d = .tuple ds ∧ H a = some (.tup xs) ∧ AnAll K H xs ds := by
  cases h with
  | tup a b => exact ⟨_, _, _, rfl, rfl, a, b⟩
  | _ => cases e
theorem dpAll_len {K : PySem.W.Frag} {H : Hp} : ∀ {xs : List V} {ds : List PyData}, AnAll K H xs ds → xs.length = ds.length
  | _, _, .nil => rfl
  | _, _, .cons _ t => congrArg (· + 1) (dpAll_len t)
theorem dpAll_two {K : PySem.W.Frag} {H : Hp} {xs : List V} {ds : List PyData} (h : AnAll K H xs ds) (e : xs.length = 2) : ∃ x y p q, xs = [x, y] ∧ ds = [p, q] ∧ An K H x p ∧ An K H y q := by
  match xs, ds, h, e with
  | [x, y], [p, q], .cons a (.cons b .nil), _ => exact ⟨x, y, p, q, rfl, rfl, a, b⟩
theorem isFr_no {p q : PyData} (h : isInt p = false ∨ isInt q = false) : isFr (.tuple [p, q]) = false := by
  rcases h with h | h
  · cases p with
    | int i => cases h
    | _ => rfl
  · cases q with
    | int i => cases h
    | _ => cases p <;> rfl
theorem isFr_len {ds : List PyData} (h : ds.length ≠ 2) : isFr (.tuple ds) = false := by
  unfold isFr
  split
  · rename_i e
    cases e
    exact absurd rfl h
  · rfl
theorem isFr_ty {d : PyData} (h : isTupB d = false) : isFr d = false := by cases d <;> first | rfl | cases h
theorem isSt_fr {d : PyData} (h : isFr d = false) : isSt d = false := by
  unfold isSt
  split
  · rw [h]; rfl
  · rfl
theorem isPt_fr {d : PyData} (h : isFr d = false) : isPt d = false := by
  unfold isPt
  split
  · rw [h]; rfl
  · rfl
theorem isFr_of {d : PyData} (h : isFr d = true) : ∃ t b, d = .tuple [.int t, .int b] ∧ 1 ≤ b ∧ Int.gcd t b = 1 := by
  unfold isFr at h
  split at h
  · rename_i t b
    simp only [Bool.and_eq_true, decide_eq_true_eq] at h
    exact ⟨t, b, rfl, h.1, h.2⟩
  · cases h
mutual
theorem An.same {K : PySem.W.Frag} {H H' : Hp} (e : Same H H') : ∀ {v : V} {d : PyData}, An K H v d → An K H' v d
  | _, _, .non => .non
  | _, _, .bl b => .bl b
  | _, _, .int i => .int i
  | _, _, .str x => .str x
  | _, _, .lst h t => .lst (e _ _ h) (AnAll.same e t)
  | _, _, .tup h t => .tup (e _ _ h) (AnAll.same e t)
  | _, _, .dct h => .dct (e _ _ h)
theorem AnAll.same {K : PySem.W.Frag} {H H' : Hp} (e : Same H H') : ∀ {vs : List V} {ds : List PyData}, AnAll K H vs ds → AnAll K H' vs ds
  | _, _, .nil => .nil
  | _, _, .cons h t => .cons (An.same e h) (AnAll.same e t)
end
/-- no dict in it -/
def flat : PyData → Bool
  | .dict _ => false
  | .list ds => flats ds
  | .tuple ds => flats ds
  | _ => true
where flats : List PyData → Bool
  | [] => true
  | d :: ds => flat d && flats ds
mutual
theorem An.dp {K : PySem.W.Frag} {H : Hp} : ∀ {v : V} {d : PyData}, An K H v d → flat d = true → Dp K H v d
  | _, _, .non, _ => .non
  | _, _, .bl b, _ => .bl b
  | _, _, .int i, _ => .int i
  | _, _, .str x, _ => .str x
  | _, _, .lst h t, f => .lst (.inl (.inl h)) (AnAll.dp t (by simpa only [flat] using f))
  | _, _, .tup h t, f => .tup (.inl (.inl h)) (AnAll.dp t (by simpa only [flat] using f))
  | _, _, .dct h, f => by simp only [flat] at f; cases f
theorem AnAll.dp {K : PySem.W.Frag} {H : Hp} : ∀ {vs : List V} {ds : List PyData}, AnAll K H vs ds → flat.flats ds = true → DpAll K H vs ds
  | _, _, .nil, _ => .nil
  | _, _, .cons h t, f => by
    simp only [flat.flats, Bool.and_eq_true] at f
    exact .cons (An.dp h f.1) (AnAll.dp t f.2)
end
end Gn
set_option Elab.async false
set_option linter.all false
set_option maxRecDepth 100000
set_option maxHeartbeats 8000000
namespace My
open PySem PySem.Spec PyProof.Rows L2 Gn
/-! the program's questions, of arguments of any kind -/
abbrev sIsPart : Stmt := top 14
theorem scIsPart : FnScope ["given"] ["given"] (defScope sIsPart) := ⟨rfl, rfl, rfl, by decide +kernel, rfl, by decide +kernel, by decide +kernel⟩
def spAsk (K : PySem.W.Frag) (r : PyData → Bool) : Sp := fun vs H Q _ => ∃ v d, vs = [v] ∧ An K H v d ∧ Q (.bl (r d)) H
def spNumA (K : PySem.W.Frag) : Sp := fun vs H Q _ => ∃ (v : V) (d : PyData) (a b : Int), vs = [v, .int a, .int b] ∧ An K H v d ∧ Q (.bl (isNum d a b)) H
section
variable {P : Program} {w : World} {K : PySem.W.Frag} {mg : Str → Option Value} {base : Heap}
theorem ok_isIntA {f : Addr} {fd : FuncData} (F : Fun K "is_integer" "is_integer" sIsInt f fd) (B : Bc mg) : FnOk P w K mg base CX0 1 f fd ["given"] (spAsk K isInt) := by
  refine F.ok scIsInt (fun vs H Q E h => ?_) (fun cdv A outer s H vs Q E hr h => ?_)
  · obtain ⟨v, d, rfl, _⟩ := h
    rfl
  · obtain ⟨v, d, rfl, an, q⟩ := h
    refine ⟨_, pss_one (ps_ret (pe_and (pe_callB call_isi (by rfl) B.isi (by decide +kernel) (pa_cons (pv 0) (pa_cons (pe_bltn (v := .ty "int") (by rfl) B.int (by decide +kernel) rfl) pa_nil)))
      (pe_one (pe_not (pe_callB call_isi (by rfl) B.isi (by decide +kernel) (pa_cons (pv 0) (pa_cons (pe_bltn (v := .ty "bool") (by rfl) B.bool (by decide +kernel) rfl) pa_nil))))))), ?_⟩
    refine ⟨_, rfl, v, .ty "int", _, _, _, rfl, .ty "int", an.ty, kit_ty kit_int, _, rfl, ?_⟩
    cases ei : isIntB d with
    | false =>
      refine iteF ?_
      have e : isInt d = false := by cases d <;> first | rfl | cases ei
      rw [e] at q
      exact q
    | true =>
      refine iteT ⟨_, rfl, v, .ty "bool", _, _, _, rfl, .ty "bool", an.ty, kit_ty kit_bool, _, rfl, ?_⟩
      have e : isInt d = !(isBoolB d) := by cases d <;> first | rfl | cases ei
      rw [e] at q
      exact q
theorem ok_isFrA {f fI : Addr} {fd fdI : FuncData} (F : Fun K "is_fraction" "is_fraction" sIsFr f fd) (B : Bc mg) (D : Df K mg "is_integer" sIsInt ["given"] fI fdI) : FnOk P w K mg base CX0 2 f fd ["given"] (spAsk K isFr) := by
  have GI : FnOk P w K mg base CX0 1 fI fdI ["given"] (spAsk K isInt) := ok_isIntA D.F B
  refine F.ok scIsFr (fun vs H Q E h => ?_) (fun cdv A outer s H vs Q E hr h => ?_)
  · obtain ⟨v, d, rfl, _⟩ := h
    rfl
  · obtain ⟨v, d, rfl, an, q⟩ := h
    refine ⟨_, pss_cons (ps_if (PW.pt (pw_or (pt_not (pt_val (pe_callB call_isi (by rfl) B.isi (by decide +kernel) (pa_cons (pv 0) (pa_cons (pe_bltn (v := .ty "tuple") (by rfl) B.tuple (by decide +kernel) rfl) pa_nil)))))
        (pw_or1 (pt_cmpR op_ne (pe_callB call_len_seq (by rfl) B.len PySem.boot_len (pa_cons (pv 0) pa_nil)) pe_int (nomark _))))) (pss_one (ps_ret pe_bl)) pss_nil)
      (pss_cons (ps_asg (pv 0) (pg_tup (by rfl) (pgs_cons (pg_name (i := 1) scIsFr.nd rfl (.inl rfl)) (pgs_cons (pg_name (i := 2) scIsFr.nd rfl (.inl rfl)) pgs_nil))))
      (pss_cons (ps_if (PW.pt (pw_or (pt_not (pt_val (pe_call GI hr (by rfl) D.g D.F.kp D.b .nil pass0 (pa_cons (pv 1) pa_nil)))) (pw_or1 (pt_not (pt_val (pe_call GI hr (by rfl) D.g D.F.kp D.b .nil pass0 (pa_cons (pv 2) pa_nil))))))) (pss_one (ps_ret pe_bl)) pss_nil)
      (pss_one (ps_ret (pe_and (pe_cmpR op_ge (pv 2) pe_int (nomark _)) (pe_one (pe_cmpR op_eq (pe_callBfun cr_gcd (by rfl) B.gcd (pa_cons (pv 1) (pa_cons (pv 2) pa_nil))) pe_int (nomark _)))))))), ?_⟩
    refine ⟨_, rfl, v, .ty "tuple", _, _, _, rfl, .ty "tuple", an.ty, kit_ty kit_tup, _, rfl, ?_⟩
    cases et : isTupB d with
    | false =>
      rw [isFr_ty et] at q
      exact iteT q
    | true =>
      refine iteF ?_
      obtain ⟨a, xs, ds, rfl, rfl, hT, all⟩ := an.isT et
      have sq : SqT K H a xs := SqT.of hT
      refine ⟨_, rfl, a, xs, rfl, .inr sq, rfl, _, rfl, ?_⟩
      by_cases hl : xs.length = 2
      · obtain ⟨x, y, p, p', rfl, rfl, dx, dy⟩ := dpAll_two all hl
        refine iteF ⟨_, rfl, a, _, rfl, sq, rfl, _, _, rfl, _, _, rfl, rfl, ?_⟩
        refine ⟨_, rfl, x, p, rfl, dx, _, rfl, ?_⟩
        cases e1 : isInt p with
        | false =>
          rw [isFr_no (.inl e1)] at q
          exact iteT q
        | true =>
          refine iteF ⟨_, rfl, y, p', rfl, dy, _, rfl, ?_⟩
          cases e2 : isInt p' with
          | false =>
            rw [isFr_no (.inr e2)] at q
            exact iteT q
          | true =>
            refine iteF ?_
            obtain ⟨i, rfl, rfl⟩ := dx.isI e1
            obtain ⟨j, rfl, rfl⟩ := dy.isI e2
            refine ⟨_, rfl, _, _, rfl, rfl, _, rfl, ?_⟩
            by_cases c : (1 : Int) ≤ j
            · rw [decide_eq_true c]
              refine iteT ⟨_, rfl, _, rfl, i, j, rfl, ?_⟩
              simp only [isFr, decide_eq_true c, Bool.true_and] at q
              have e : decide (V.int ((Nat.gcd i.natAbs j.natAbs : Nat) : Int) = V.int 1) = decide (Int.gcd i j = 1) := by
                rw [decide_eq_decide, V.int.injEq]
                show ((Int.gcd i j : Nat) : Int) = 1 ↔ _
                omega
              rw [← e] at q
              exact ⟨rfl, q⟩
            · rw [decide_eq_false c]
              refine iteF ?_
              simp only [isFr, decide_eq_false c, Bool.false_and] at q
              exact q
      · rw [isFr_len (fun z => hl ((dpAll_len all).trans z))] at q
        have e : (!(decide (V.int (xs.length : Int) = V.int 2))) = true := by
          rw [decide_eq_false, Bool.not_false]
          intro z
          rw [V.int.injEq] at z
          exact hl (by omega)
        show if (!(decide (V.int (xs.length : Int) = V.int 2))) = true then _ else _
        rw [e]
        exact iteT q
theorem ok_isStepA {f fI fR : Addr} {fd fdI fdR : FuncData} (F : Fun K "is_step" "is_step" sIsStep f fd) (B : Bc mg) (D : Df K mg "is_integer" sIsInt ["given"] fI fdI) (R : Df K mg "is_fraction" sIsFr ["given"] fR fdR) : FnOk P w K mg base CX0 3 f fd ["given"] (spAsk K isSt) := by
  have GR : FnOk P w K mg base CX0 2 fR fdR ["given"] (spAsk K isFr) := ok_isFrA R.F B D
  refine F.ok scIsStep (fun vs H Q E h => ?_) (fun cdv A outer s H vs Q E hr h => ?_)
  · obtain ⟨v, d, rfl, _⟩ := h
    rfl
  · obtain ⟨v, d, rfl, an, q⟩ := h
    refine ⟨_, pss_one (ps_ret (pe_and (pe_call GR hr (by rfl) R.g R.F.kp R.b .nil pass0 (pa_cons (pv 0) pa_nil)) (pe_one (pe_chain op_le op_lt pe_int (pe_ix ix_tup (pv 0) pe_int (fun _ _ => rfl)) (pe_ix ix_tup (pv 0) pe_int (fun _ _ => rfl)))))), ?_⟩
    refine ⟨_, rfl, v, d, rfl, an, _, rfl, ?_⟩
    cases ef : isFr d with
    | false =>
      rw [isSt_fr ef] at q
      exact iteF q
    | true =>
      obtain ⟨t, b, rfl, b1, co⟩ := isFr_of ef
      obtain ⟨a, xs, ds, rfl, z, hT, all⟩ := an.isT rfl
      cases z
      obtain ⟨x, y, p, p', rfl, z, dx, dy⟩ := dpAll_two all ((dpAll_len all).trans rfl)
      cases z
      cases dx
      cases dy
      have sq : SqT K H a [.int t, .int b] := SqT.of hT
      simp only [isSt, ef, Bool.true_and] at q
      refine iteT ⟨_, rfl, a, _, 0, .int t, rfl, rfl, sq, at_of (j := 0) rfl rfl, _, _, rfl, rfl, _, rfl, ?_⟩
      refine ite2 (fun hc => ?_) (fun hc => ?_)
      · refine ⟨_, rfl, a, _, 1, .int b, rfl, rfl, sq, at_of (j := 1) rfl rfl, _, _, rfl, rfl, ?_⟩
        rw [hc, Bool.true_and] at q
        exact q
      · rw [Bool.eq_false_iff.mpr hc, Bool.false_and] at q
        exact q
theorem ok_isPartA {f fI fR : Addr} {fd fdI fdR : FuncData} (F : Fun K "is_part" "is_part" sIsPart f fd) (B : Bc mg) (D : Df K mg "is_integer" sIsInt ["given"] fI fdI) (R : Df K mg "is_fraction" sIsFr ["given"] fR fdR) : FnOk P w K mg base CX0 3 f fd ["given"] (spAsk K isPt) := by
  have GR : FnOk P w K mg base CX0 2 fR fdR ["given"] (spAsk K isFr) := ok_isFrA R.F B D
  refine F.ok scIsPart (fun vs H Q E h => ?_) (fun cdv A outer s H vs Q E hr h => ?_)
  · obtain ⟨v, d, rfl, _⟩ := h
    rfl
  · obtain ⟨v, d, rfl, an, q⟩ := h
    refine ⟨_, pss_one (ps_ret (pe_and (pe_call GR hr (by rfl) R.g R.F.kp R.b .nil pass0 (pa_cons (pv 0) pa_nil)) (pe_one (pe_chain op_le op_le pe_int (pe_ix ix_tup (pv 0) pe_int (fun _ _ => rfl)) (pe_ix ix_tup (pv 0) pe_int (fun _ _ => rfl)))))), ?_⟩
    refine ⟨_, rfl, v, d, rfl, an, _, rfl, ?_⟩
    cases ef : isFr d with
    | false =>
      rw [isPt_fr ef] at q
      exact iteF q
    | true =>
      obtain ⟨t, b, rfl, b1, co⟩ := isFr_of ef
      obtain ⟨a, xs, ds, rfl, z, hT, all⟩ := an.isT rfl
      cases z
      obtain ⟨x, y, p, p', rfl, z, dx, dy⟩ := dpAll_two all ((dpAll_len all).trans rfl)
      cases z
      cases dx
      cases dy
      have sq : SqT K H a [.int t, .int b] := SqT.of hT
      simp only [isPt, ef, Bool.true_and] at q
      refine iteT ⟨_, rfl, a, _, 0, .int t, rfl, rfl, sq, at_of (j := 0) rfl rfl, _, _, rfl, rfl, _, rfl, ?_⟩
      refine ite2 (fun hc => ?_) (fun hc => ?_)
      · refine ⟨_, rfl, a, _, 1, .int b, rfl, rfl, sq, at_of (j := 1) rfl rfl, _, _, rfl, rfl, ?_⟩
        rw [hc, Bool.true_and] at q
        exact q
      · rw [Bool.eq_false_iff.mpr hc, Bool.false_and] at q
        exact q
theorem ok_isNumA {f fI : Addr} {fd fdI : FuncData} (F : Fun K "is_number" "is_number" sIsNum f fd) (B : Bc mg) (D : Df K mg "is_integer" sIsInt ["given"] fI fdI) : FnOk P w K mg base CX0 2 f fd ["given", "least", "most"] (spNumA K) := by
  have GI : FnOk P w K mg base CX0 1 fI fdI ["given"] (spAsk K isInt) := ok_isIntA D.F B
  refine F.ok scIsNum (fun vs H Q E h => ?_) (fun cdv A outer s H vs Q E hr h => ?_)
  · obtain ⟨v, d, a, b, rfl, _⟩ := h
    rfl
  · obtain ⟨v, d, a, b, rfl, an, q⟩ := h
    refine ⟨_, pss_one (ps_ret (pe_and (pe_call GI hr (by rfl) D.g D.F.kp D.b .nil pass0 (pa_cons (pv 0) pa_nil)) (pe_one (pe_chain op_le op_le (pv 1) (pv 0) (pv 2))))), ?_⟩
    refine ⟨_, rfl, v, d, rfl, an, _, rfl, ?_⟩
    cases ei : isInt d with
    | false =>
      have e : isNum d a b = false := by cases d <;> first | rfl | cases ei
      rw [e] at q
      exact iteF q
    | true =>
      obtain ⟨i, rfl, rfl⟩ := an.isI ei
      refine iteT ⟨_, rfl, _, rfl, _, _, rfl, rfl, _, rfl, ?_⟩
      refine ite2 (fun hc => ?_) (fun hc => ?_)
      · have h1 : a ≤ i := of_decide_eq_true hc
        refine ⟨_, rfl, _, _, rfl, rfl, ?_⟩
        have e : isNum (.int i) a b = decide (i ≤ b) := by
          show decide (a ≤ i ∧ i ≤ b) = _
          rw [decide_eq_decide]; exact ⟨fun z => z.2, fun z => ⟨h1, z⟩⟩
        rw [e] at q
        exact q
      · have h1 : ¬ a ≤ i := fun z => hc (decide_eq_true z)
        have e : isNum (.int i) a b = false := decide_eq_false fun z => h1 z.1
        have e2 : decide (a ≤ i) = false := decide_eq_false h1
        rw [e] at q
        exact q
end
end My
set_option Elab.async false
set_option linter.all false
set_option maxRecDepth 100000
set_option maxHeartbeats 8000000
set_option exponentiation.threshold 2000
namespace My
open PySem PySem.Spec PyProof.Rows L2 Gn
/-! the program's checks, of arguments of any kind: let in, or refused -/
abbrev sIsLess : Stmt := top 15
theorem scIsLess : FnScope ["one", "other"] ["one", "other"] (defScope sIsLess) := ⟨rfl, rfl, rfl, by decide +kernel, rfl, by decide +kernel, by decide +kernel⟩
def Bd (d : PyData) : Prop := match d with | .tuple [.int t, .int b] => t.natAbs < 2 ^ 1000 ∧ b.natAbs < 2 ^ 1000 | _ => True
def lessD (d e : PyData) : Bool := match d, e with | .tuple [.int a, .int b], .tuple [.int c, .int f] => decide (a * f < c * b) | _, _ => false
def spLess (K : PySem.W.Frag) : Sp := fun vs H Q _ => ∃ (v u : V) (d e : PyData), vs = [v, u] ∧ An K H v d ∧ An K H u e ∧ isFr d = true ∧ isFr e = true ∧ Bd d ∧ Bd e ∧ Q (.bl (lessD d e)) H
theorem fr_of {K : PySem.W.Frag} {H : Hp} {v : V} {d : PyData} (h : An K H v d) (e : isFr d = true) : ∃ a t b, v = .ref a ∧ d = .tuple [.int t, .int b] ∧ H a = some (.tup [.int t, .int b]) ∧ 1 ≤ b ∧ Int.gcd t b = 1 := by
  obtain ⟨t, b, rfl, b1, co⟩ := isFr_of e
  obtain ⟨a, xs, ds, rfl, z, sq, all⟩ := h.isT rfl
  cases z
  obtain ⟨x, y, p, p', rfl, z, dx, dy⟩ := dpAll_two all ((dpAll_len all).trans rfl)
  cases z
  cases dx
  cases dy
  exact ⟨a, t, b, rfl, rfl, sq, b1, co⟩
section
variable {P : Program} {w : World} {K : PySem.W.Frag} {mg : Str → Option Value} {base : Heap}
theorem ok_less {f : Addr} {fd : FuncData} (F : Fun K "is_less" "is_less" sIsLess f fd) : FnOk P w K mg base CX0 1 f fd ["one", "other"] (spLess K) := by
  refine F.ok scIsLess (fun vs H Q E h => ?_) (fun cdv A outer s H vs Q E hr h => ?_)
  · obtain ⟨v, u, d, e, rfl, _⟩ := h
    rfl
  · obtain ⟨v, u, d, e, rfl, an, am, f1, f2, b1, b2, q⟩ := h
    obtain ⟨a, t, b, rfl, rfl, sq, _, _⟩ := fr_of an f1
    obtain ⟨a', t', b', rfl, rfl, sq', _, _⟩ := fr_of am f2
    have c1 : CMulW t b' := wide_mul b1.1 b2.2 (by decide) (by decide) (by decide)
    have c2 : CMulW t' b := wide_mul b2.1 b1.2 (by decide) (by decide) (by decide)
    refine ⟨_, pss_one (ps_ret (pe_cmpR op_lt (pe_op op_mulW (pe_ix ix_tup (pv 0) pe_int (fun _ _ => rfl)) (pe_ix ix_tup (pv 1) pe_int (fun _ _ => rfl))) (pe_op op_mulW (pe_ix ix_tup (pv 1) pe_int (fun _ _ => rfl)) (pe_ix ix_tup (pv 0) pe_int (fun _ _ => rfl))) (nomark _))), ?_⟩
    refine ⟨_, rfl, a, _, 0, .int t, rfl, rfl, SqT.of sq, at_of (j := 0) rfl rfl, ?_⟩
    refine ⟨_, rfl, a', _, 1, .int b', rfl, rfl, SqT.of sq', at_of (j := 1) rfl rfl, _, _, rfl, rfl, c1, ?_⟩
    refine ⟨_, rfl, a', _, 0, .int t', rfl, rfl, SqT.of sq', at_of (j := 0) rfl rfl, ?_⟩
    exact ⟨_, rfl, a, _, 1, .int b, rfl, rfl, SqT.of sq, at_of (j := 1) rfl rfl, _, _, rfl, rfl, c2, _, _, rfl, rfl, q⟩
end
end My
set_option Elab.async false
set_option linter.all false
set_option maxRecDepth 100000
set_option maxHeartbeats 8000000
set_option exponentiation.threshold 2000
namespace My
open PySem PySem.Spec PyProof.Rows L2 Gn
/-! the law's own questions of any value; values of any kind in what it draws -/
abbrev sIsIntL : Stmt := top 102
theorem scIsIntL : FnScope ["_law_value", "_law_least", "_law_greatest"] ["_law_value", "_law_least", "_law_greatest"] (defScope sIsIntL) := ⟨rfl, rfl, rfl, by decide +kernel, rfl, by decide +kernel, by decide +kernel⟩
def isA (K : PySem.W.Frag) (d : PyData) : Fact := fun H v => An K H v d
theorem lasts_A {K : PySem.W.Frag} {d : PyData} : Lasts (isA K d) := fun _ _ _ e h => An.same e h
theorem lastsAll_A {K : PySem.W.Frag} {ds : List PyData} : LastsAll (ds.map (isA K)) := fun q h => by
  obtain ⟨d, _, rfl⟩ := List.mem_map.mp h
  exact lasts_A
theorem allF_A {K : PySem.W.Frag} {H : Hp} : ∀ {ds : List PyData} {vs : List V}, AllF (ds.map (isA K)) H vs → AnAll K H vs ds
  | [], vs, h => by
    have e : vs = [] := h
    subst e
    exact .nil
  | d :: ds, v :: vs, h => .cons h.1 (allF_A h.2)
section
variable {K : PySem.W.Frag} {σ : L2.St} {H : Hp} {d : PyData} {ds : List PyData} {te : TE} {ta : TA}
/-- ints, texts and the like as they are -/
def plain : V → Option PyData
  | .non => some .none
  | .bl b => some (.bool b)
  | .int i => some (.int i)
  | .str x => some (.str x)
  | _ => none
theorem fa_c (v : V) (h : plain v = some d := by rfl) : Fm (tC v) σ H (isA K d) := fun H1 _ Q q => q v H1 (Same.refl _) (by
  cases v with
  | non => cases h; exact .non
  | bl b => cases h; exact .bl b
  | int i => cases h; exact .int i
  | str x => cases h; exact .str x
  | _ => cases h)
theorem fa_neg {i : Int} : Fm (tUn (rU fun i => .int (-i)) (tC (.int i))) σ H (isA K (.int (-i))) := fun H1 _ Q q => ⟨i, rfl, q _ H1 (Same.refl _) (.int _)⟩
theorem fa_pow {n : Int} (h : 0 ≤ n ∧ n ≤ 1000000 := by decide) : Fm (tOp (rI CPow fun i j => .int (i ^ j.toNat)) (tC (.int 10)) (tC (.int n))) σ H (isA K (.int (10 ^ n.toNat))) := fun H1 _ Q q =>
  ⟨10, n, rfl, rfl, ⟨h.1, h.2, by decide⟩, q _ H1 (Same.refl _) (.int _)⟩
theorem fa_disp : Fm (tDisp [(tC (.int 0), tC (.int 1))]) σ H (isA K (.dict [])) := fun H1 e Q q => fun p hp =>
  ⟨upd_same, [(Sum.inl 0, .int 1)], rfl, by decide, q _ _ (fun b o z => by rw [upd_ne (ne_of_none z hp), upd_ne (ne_of_none z hp)]; exact z) (.dct upd_same)⟩
structure FmD (K : PySem.W.Frag) (ta : TA) (σ : L2.St) (H : Hp) (ds : List PyData) : Prop where
  fm : FmA ta σ H (ds.map (isA K))
theorem faA_nil : FmD K tNil σ H [] := ⟨fmA_nil⟩
theorem faA_cons (h : Fm te σ H (isA K d)) (hs : FmD K ta σ H ds) : FmD K (tCons te ta) σ H (d :: ds) := ⟨fmA_cons lasts_A h hs.fm⟩
theorem fa_tup (hl : ds.length ≤ 1000) (hs : FmD K ta σ H ds) : Fm (tTup ta) σ H (isA K (.tuple ds)) := fun H1 e Q q => hs.fm H1 e _ fun vs H2 e2 rs =>
  ⟨by rw [rs.len, List.length_map, sizeLine_eq]; omega, fun p hp => q _ _ (e2.trans (same_put hp)) (.tup upd_same ((allF_A rs).same (same_put hp)))⟩
theorem fa_lst (hl : ds.length ≤ 1000) (hs : FmD K ta σ H ds) : Fm (tLst ta) σ H (isA K (.list ds)) := fun H1 e Q q => hs.fm H1 e _ fun vs H2 e2 rs =>
  ⟨by rw [rs.len, List.length_map, sizeLine_eq]; omega, fun p hp => q _ _ (e2.trans (same_put hp)) (.lst upd_same ((allF_A rs).same (same_put hp)))⟩
theorem fa_dct : Fm tDNewK σ H (isA K (.dict [])) := fun H1 e Q q => fun p hp => q _ _ (same_put hp) (.dct upd_same)
end
/-- lists in it are not three long: no tin -/
def no3 : PyData → Bool
  | .list ds => ds.length != 3 && no3s ds
  | .tuple ds => no3s ds
  | _ => true
where no3s : List PyData → Bool
  | [] => true
  | d :: ds => no3 d && no3s ds
mutual
theorem an_spun {K : PySem.W.Frag} {H H' : Hp} {t : Addr} {N M : Int} (T : Reel H t N) (e : Spun H H' t M) : ∀ {v : V} {d : PyData}, An K H v d → no3 d = true → An K H' v d
  | _, _, .non, _ => .non
  | _, _, .bl b, _ => .bl b
  | _, _, .int i, _ => .int i
  | _, _, .str x, _ => .str x
  | _, _, .lst (a := a) (xs := xs) h s, f => by
    simp only [no3, Bool.and_eq_true] at f
    refine .lst (e.keep _ _ h fun z => ?_) (anAll_spun T e s f.2)
    obtain ⟨_, _, _, ht, _⟩ := T
    rw [z, ht] at h
    cases h
    have l := dpAll_len s
    have l3 := f.1
    rw [← l] at l3
    exact absurd l3 (by simp)
  | _, _, .tup (a := a) h s, f => by
    simp only [no3] at f
    refine .tup (e.keep _ _ h fun z => ?_) (anAll_spun T e s f)
    obtain ⟨_, _, _, ht, _⟩ := T
    rw [z, ht] at h
    cases h
  | _, _, .dct (a := a) h, _ => by
    refine .dct (e.keep _ _ h fun z => ?_)
    obtain ⟨_, _, _, ht, _⟩ := T
    rw [z, ht] at h
    cases h
theorem anAll_spun {K : PySem.W.Frag} {H H' : Hp} {t : Addr} {N M : Int} (T : Reel H t N) (e : Spun H H' t M) : ∀ {vs : List V} {ds : List PyData}, AnAll K H vs ds → no3.no3s ds = true → AnAll K H' vs ds
  | _, _, .nil, _ => .nil
  | _, _, .cons h s, f => by
    simp only [no3.no3s, Bool.and_eq_true] at f
    exact .cons (an_spun T e h f.1) (anAll_spun T e s f.2)
end
theorem anAll_at {K : PySem.W.Frag} {H : Hp} : ∀ {vs : List V} {ds : List PyData} (i : Nat), AnAll K H vs ds → i < vs.length → ∃ v d, vs[i]? = some v ∧ d ∈ ds ∧ An K H v d
  | _, _, 0, .cons h _, _ => ⟨_, _, rfl, List.mem_cons_self, h⟩
  | _, _, i + 1, .cons _ s, l => by
    obtain ⟨v, d, e, m, a⟩ := anAll_at i s (Nat.lt_of_succ_lt_succ l)
    exact ⟨v, d, by simpa using e, List.mem_cons_of_mem _ m, a⟩
theorem no3_mem : ∀ {ds : List PyData} {d : PyData}, no3.no3s ds = true → d ∈ ds → no3 d = true
  | e :: ds, d, h, m => by
    simp only [no3.no3s, Bool.and_eq_true] at h
    rcases List.mem_cons.mp m with rfl | m
    · exact h.1
    · exact no3_mem h.2 m
/-- bottoms and tops not too great -/
structure Gq (d : PyData) : Prop where
  fr : ∀ t b : Int, d = .tuple [.int t, .int b] → t.natAbs < 2 ^ 200 ∧ b.natAbs < 2 ^ 200
theorem Gq.bd {d : PyData} (h : Gq d) : Bd d := by
  unfold Bd
  split
  · have z := h.fr _ _ rfl
    exact ⟨Nat.lt_of_lt_of_le z.1 (Nat.pow_le_pow_right (by decide) (by decide)), Nat.lt_of_lt_of_le z.2 (Nat.pow_le_pow_right (by decide) (by decide))⟩
  · trivial
section
variable {P : Program} {w : World} {K : PySem.W.Frag} {mg : Str → Option Value} {base : Heap}
theorem ok_isIntL {f : Addr} {fd : FuncData} (F : Fun K "_law_is_int" "_law_is_int" sIsIntL f fd) (B : Bc mg) : FnOk P w K mg base CX0 1 f fd ["_law_value", "_law_least", "_law_greatest"] (spNumA K) := by
  refine F.ok scIsIntL (fun vs H Q E h => ?_) (fun cdv A outer s H vs Q E hr h => ?_)
  · obtain ⟨v, d, a, b, rfl, _⟩ := h
    rfl
  · obtain ⟨v, d, a, b, rfl, an, q⟩ := h
    refine ⟨_, pss_one (ps_ret (pe_and (pe_callB call_isi (by rfl) B.isi (by decide +kernel) (pa_cons (pv 0) (pa_cons (pe_bltn (v := .ty "int") (by rfl) B.int (by decide +kernel) rfl) pa_nil)))
      (pe_and (pe_not (pe_callB call_isi (by rfl) B.isi (by decide +kernel) (pa_cons (pv 0) (pa_cons (pe_bltn (v := .ty "bool") (by rfl) B.bool (by decide +kernel) rfl) pa_nil)))) (pe_one (pe_chain op_le op_le (pv 1) (pv 0) (pv 2)))))), ?_⟩
    refine ⟨_, rfl, v, .ty "int", _, _, _, rfl, .ty "int", an.ty, kit_ty kit_int, _, rfl, ?_⟩
    cases ei : isIntB d with
    | false =>
      have e : isNum d a b = false := by cases d <;> first | rfl | cases ei
      rw [e] at q
      exact iteF q
    | true =>
      refine iteT ⟨_, rfl, v, .ty "bool", _, _, _, rfl, .ty "bool", an.ty, kit_ty kit_bool, ?_⟩
      cases eb : isBoolB d with
      | true =>
        have e : isNum d a b = false := by cases d <;> first | rfl | cases eb
        rw [e] at q
        exact ⟨_, rfl, _, rfl, iteF q⟩
      | false =>
        have e3 : isInt d = true := by cases d <;> first | rfl | (cases ei; done) | (cases eb; done)
        obtain ⟨i, rfl, rfl⟩ := an.isI e3
        refine ⟨_, rfl, _, rfl, iteT ⟨_, rfl, _, rfl, _, _, rfl, rfl, _, rfl, ?_⟩⟩
        refine ite2 (fun hc => ?_) (fun hc => ?_)
        · have h1 : a ≤ i := of_decide_eq_true hc
          refine ⟨_, rfl, _, _, rfl, rfl, ?_⟩
          have e : isNum (.int i) a b = decide (i ≤ b) := by
            show decide (a ≤ i ∧ i ≤ b) = _
            rw [decide_eq_decide]; exact ⟨fun z => z.2, fun z => ⟨h1, z⟩⟩
          rw [e] at q
          exact q
        · have h1 : ¬ a ≤ i := fun z => hc (decide_eq_true z)
          have e : isNum (.int i) a b = false := decide_eq_false fun z => h1 z.1
          rw [e] at q
          exact q
end
end My
set_option Elab.async false
set_option linter.all false
set_option maxRecDepth 100000
set_option maxHeartbeats 8000000
set_option exponentiation.threshold 2000
namespace My
open PySem PySem.Spec PyProof.Rows L2 Gn
abbrev sOddR : Stmt := top 101
theorem scOddR : FnScope ["_law_reel_here", "_law_some"] ["_law_reel_here"] (defScope sOddR) := ⟨rfl, rfl, rfl, by decide +kernel, rfl, by decide +kernel, by decide +kernel⟩
def odd1 : List PyData := [.none, .bool true, .bool false, .int 0, .int (-1), .int 7, .int (10 ^ ((31 : Int).toNat)), .str "", .str "turn", .str "on", .tuple [], .tuple [.int 0], .tuple [.int 1, .int 2], .tuple [.int 1, .int 3], .tuple [.tuple [.int 0, .int 1]], .list [], .list [.int 0]]
def odd2 : List PyData := [.dict [], .dict [], .tuple [.none], .tuple [.str "turn", .int 0, .int 1], .tuple [.str "on", .int 1, .int 1], .tuple [.str "turn", .int 0, .int 1, .int 2], .tuple [.str "on", .int 0, .int 3, .int 1], .tuple [.tuple []]]
def odds : List PyData := odd1 ++ odd2
theorem odds_no3 : no3.no3s odds = true := by decide +kernel
def tOdd1 : TA := (tCons (tC .non) (tCons (tC (.bl true)) (tCons (tC (.bl false)) (tCons (tC (.int 0)) (tCons (tUn (rU fun i => .int (-i)) (tC (.int 1))) (tCons (tC (.int 7)) (tCons (tOp (rI CPow fun i j => .int (i ^ j.toNat)) (tC (.int 10)) (tC (.int 31))) (tCons (tC (.str "")) (tCons (tC (.str "turn")) (tCons (tC (.str "on")) (tCons (tTup tNil) (tCons (tTup (tCons (tC (.int 0)) tNil)) (tCons (tTup (tCons (tC (.int 1)) (tCons (tC (.int 2)) tNil))) (tCons (tTup (tCons (tC (.int 1)) (tCons (tC (.int 3)) tNil))) (tCons (tTup (tCons (tTup (tCons (tC (.int 0)) (tCons (tC (.int 1)) tNil))) tNil)) (tCons (tLst tNil) (tCons (tLst (tCons (tC (.int 0)) tNil)) tNil)))))))))))))))))
def tOdd2 : TA := (tCons tDNewK (tCons (tDisp [(tC (.int 0), tC (.int 1))]) (tCons (tTup (tCons (tC .non) tNil)) (tCons (tTup (tCons (tC (.str "turn")) (tCons (tC (.int 0)) (tCons (tC (.int 1)) tNil)))) (tCons (tTup (tCons (tC (.str "on")) (tCons (tC (.int 1)) (tCons (tC (.int 1)) tNil)))) (tCons (tTup (tCons (tC (.str "turn")) (tCons (tC (.int 0)) (tCons (tC (.int 1)) (tCons (tC (.int 2)) tNil))))) (tCons (tTup (tCons (tC (.str "on")) (tCons (tC (.int 0)) (tCons (tC (.int 3)) (tCons (tC (.int 1)) tNil))))) (tCons (tTup (tCons (tTup tNil) tNil)) tNil))))))))
theorem fm_odd1 {K : PySem.W.Frag} {σ : L2.St} {H : Hp} : FmD K tOdd1 σ H odd1 := by unfold tOdd1; exact (faA_cons (fa_c .non) (faA_cons (fa_c (.bl true)) (faA_cons (fa_c (.bl false)) (faA_cons (fa_c (.int 0)) (faA_cons (fa_neg) (faA_cons (fa_c (.int 7)) (faA_cons (fa_pow) (faA_cons (fa_c (.str "")) (faA_cons (fa_c (.str "turn")) (faA_cons (fa_c (.str "on")) (faA_cons (fa_tup (by decide) faA_nil) (faA_cons (fa_tup (by decide) (faA_cons (fa_c (.int 0)) faA_nil)) (faA_cons (fa_tup (by decide) (faA_cons (fa_c (.int 1)) (faA_cons (fa_c (.int 2)) faA_nil))) (faA_cons (fa_tup (by decide) (faA_cons (fa_c (.int 1)) (faA_cons (fa_c (.int 3)) faA_nil))) (faA_cons (fa_tup (by decide) (faA_cons (fa_tup (by decide) (faA_cons (fa_c (.int 0)) (faA_cons (fa_c (.int 1)) faA_nil))) faA_nil)) (faA_cons (fa_lst (by decide) faA_nil) (faA_cons (fa_lst (by decide) (faA_cons (fa_c (.int 0)) faA_nil)) faA_nil)))))))))))))))))
theorem fm_odd2 {K : PySem.W.Frag} {σ : L2.St} {H : Hp} : FmD K tOdd2 σ H odd2 := by unfold tOdd2; exact (faA_cons fa_dct (faA_cons fa_disp (faA_cons (fa_tup (by decide) (faA_cons (fa_c .non) faA_nil)) (faA_cons (fa_tup (by decide) (faA_cons (fa_c (.str "turn")) (faA_cons (fa_c (.int 0)) (faA_cons (fa_c (.int 1)) faA_nil)))) (faA_cons (fa_tup (by decide) (faA_cons (fa_c (.str "on")) (faA_cons (fa_c (.int 1)) (faA_cons (fa_c (.int 1)) faA_nil)))) (faA_cons (fa_tup (by decide) (faA_cons (fa_c (.str "turn")) (faA_cons (fa_c (.int 0)) (faA_cons (fa_c (.int 1)) (faA_cons (fa_c (.int 2)) faA_nil))))) (faA_cons (fa_tup (by decide) (faA_cons (fa_c (.str "on")) (faA_cons (fa_c (.int 0)) (faA_cons (fa_c (.int 3)) (faA_cons (fa_c (.int 1)) faA_nil))))) (faA_cons (fa_tup (by decide) (faA_cons (fa_tup (by decide) faA_nil) faA_nil)) faA_nil))))))))
def spOddR (K : PySem.W.Frag) : Sp := fun vs H Q _ => ∃ (t : Addr) (N : Int), vs = [.ref t] ∧ Reel H t N ∧ N < 2 ^ 60 ∧ ∀ v d H', d ∈ odds → An K H' v d → Spun H H' t (N + 1) → Q v H'
section
variable {P : Program} {w : World} {K : PySem.W.Frag} {mg : Str → Option Value} {base : Heap}
theorem ok_oddR {f fS fP : Addr} {fd fdS fdP : FuncData} (F : Fun K "_law_odd" "_law_odd" sOddR f fd) (B : Bl mg) (S : Df K mg "_law_spin" sSpin ["_law_reel_here", "_law_many"] fS fdS) (Pk : Df K mg "_law_one" sOne ["_law_reel_here", "_law_menu"] fP fdP) : FnOk P w K mg base CX0 3 f fd ["_law_reel_here"] (spOddR K) := by
  have GP : FnOk P w K mg base CX0 2 fP fdP ["_law_reel_here", "_law_menu"] spOne := ok_one Pk.F B S
  refine F.ok scOddR (fun vs H Q E h => ?_) (fun cdv A outer s H vs Q E hr h => ?_)
  · obtain ⟨t, N, rfl, _⟩ := h
    rfl
  · obtain ⟨t, N, rfl, T, NN, q⟩ := h
    refine ⟨_, pss_cons (ps_set (i := 1) scOddR.nd rfl (.inl rfl) (pe_lst (t := tOdd1) (by unfold tOdd1; exact (pa_cons pe_non (pa_cons pe_bl (pa_cons pe_bl (pa_cons pe_int (pa_cons (pe_un un_neg pe_int) (pa_cons pe_int (pa_cons (pe_op op_pow pe_int pe_int) (pa_cons pe_str (pa_cons pe_str (pa_cons pe_str (pa_cons (pe_tup pa_nil) (pa_cons (pe_tup (pa_cons pe_int pa_nil)) (pa_cons (pe_tup (pa_cons pe_int (pa_cons pe_int pa_nil))) (pa_cons (pe_tup (pa_cons pe_int (pa_cons pe_int pa_nil))) (pa_cons (pe_tup (pa_cons (pe_tup (pa_cons pe_int (pa_cons pe_int pa_nil))) pa_nil)) (pa_cons (pe_lst pa_nil) (pa_cons (pe_lst (pa_cons pe_int pa_nil)) pa_nil))))))))))))))))))))
      (pss_cons (ps_set (i := 1) scOddR.nd rfl (.inl rfl) (pe_op op_cat (pv 1) (pe_lst (t := tOdd2) (by unfold tOdd2; exact (pa_cons pe_dnewK (pa_cons (pe_disp (pps_cons pe_int pe_int pps_nil) (by rfl) rfl (by simp) (by decide)) (pa_cons (pe_tup (pa_cons pe_non pa_nil)) (pa_cons (pe_tup (pa_cons pe_str (pa_cons pe_int (pa_cons pe_int pa_nil)))) (pa_cons (pe_tup (pa_cons pe_str (pa_cons pe_int (pa_cons pe_int pa_nil)))) (pa_cons (pe_tup (pa_cons pe_str (pa_cons pe_int (pa_cons pe_int (pa_cons pe_int pa_nil))))) (pa_cons (pe_tup (pa_cons pe_str (pa_cons pe_int (pa_cons pe_int (pa_cons pe_int pa_nil))))) (pa_cons (pe_tup (pa_cons (pe_tup pa_nil) pa_nil)) pa_nil))))))))))))
      (pss_one (ps_ret (pe_call GP hr (by rfl) Pk.g Pk.F.kp Pk.b .nil pass0 (pa_cons (pv 0) (pa_cons (pv 1) pa_nil)))))), ?_⟩
    unfold tSeq tAsg
    have fm := fm_lst (lastsAll_A) (by rw [List.length_map]; decide) (FmD.fm (fm_odd1 (K := K) (σ := start ["_law_reel_here", "_law_some"] [V.ref t]) (H := H)))
    refine fm H (Same.refl _) _ fun v1 H1 e1 l1 => ?_
    unfold gName
    have fm2 := fm_cat (Rs := odd1.map (isA K)) (Ss := odd2.map (isA K)) (te := tVar 1) (σ := (start ["_law_reel_here", "_law_some"] [V.ref t]).set 1 (some v1)) (H := H1) (lastsAll_A) (lastsAll_A) (by rw [List.length_map, List.length_map]; decide) (fun Hx ex R r => ⟨v1, rfl, r v1 Hx (Same.refl _) (lasts_L lastsAll_A _ _ _ ex l1)⟩) (fm_lst (lastsAll_A) (by rw [List.length_map]; decide) (FmD.fm fm_odd2))
    refine fm2 H1 (Same.refl _) _ fun v2 H2 e2 l2 => ?_
    rw [← List.map_append] at l2
    obtain ⟨p, vs, rfl, hp, af⟩ := l2
    have al : AnAll K H2 vs odds := allF_A af
    have ln : vs.length = 25 := (dpAll_len al).trans rfl
    have S2 := Spun.ofSame T (e1.trans e2)
    have pt : p ≠ t := by
      obtain ⟨_, _, _, ht, _⟩ := S2.r
      rintro rfl
      rw [ht] at hp
      cases hp
      cases ln
    refine ⟨_, rfl, _, rfl, t, p, vs, N, rfl, S2.r, NN, hp, pt, by omega, by omega, fun x H3 hx s3 => ?_⟩
    obtain ⟨i, hi, ei⟩ := List.getElem_of_mem hx
    obtain ⟨v, d, hv, hd, an⟩ := anAll_at i al hi
    rw [List.getElem?_eq_getElem hi, ei] at hv
    cases hv
    exact q x d H3 hd (an_spun S2.r s3 an (no3_mem odds_no3 hd)) (S2.trans s3)
end
end My
set_option Elab.async false
set_option maxRecDepth 100000
/-! orders as lists: places sorted, marks at one place together. Plain lists of ints -/
namespace Mt
def insU (v : Int) : List Int → List Int
  | [] => [v]
  | a :: l => if v < a then v :: a :: l else if v = a then a :: l else a :: insU v l
/-- sorted, each once -/
def sortU (l : List Int) : List Int := l.foldr insU []
theorem insU_mem {v u : Int} : ∀ {l : List Int}, u ∈ insU v l ↔ u = v ∨ u ∈ l
  | [] => by simp [insU]
  | a :: l => by
    unfold insU
    split
    · simp
    · split
      · rename_i h1 h2
        subst h2
        simp
      · simp only [List.mem_cons, insU_mem (l := l)]
        constructor
        · rintro (h | h | h)
          · exact .inr (.inl h)
          · exact .inl h
          · exact .inr (.inr h)
        · rintro (h | h | h)
          · exact .inr (.inl h)
          · exact .inl h
          · exact .inr (.inr h)
theorem insU_pw {v : Int} : ∀ {l : List Int}, l.Pairwise (· < ·) → (insU v l).Pairwise (· < ·)
  | [], _ => by simp [insU]
  | a :: l, h => by
    obtain ⟨h1, h2⟩ := List.pairwise_cons.mp h
    unfold insU
    split
    · rename_i c
      refine List.pairwise_cons.mpr ⟨fun b hb => ?_, h⟩
      rcases List.mem_cons.mp hb with rfl | hb
      · exact c
      · exact Int.lt_trans c (h1 b hb)
    · split
      · exact h
      · rename_i c d
        refine List.pairwise_cons.mpr ⟨fun b hb => ?_, insU_pw h2⟩
        rcases insU_mem.mp hb with rfl | hb
        · omega
        · exact h1 b hb
theorem sortU_mem {v : Int} : ∀ {l : List Int}, v ∈ sortU l ↔ v ∈ l
  | [] => by simp [sortU]
  | a :: l => by
    show v ∈ insU a (sortU l) ↔ _
    rw [insU_mem, sortU_mem, List.mem_cons]
theorem sortU_pw : ∀ l : List Int, (sortU l).Pairwise (· < ·)
  | [] => List.Pairwise.nil
  | a :: l => insU_pw (sortU_pw l)
/-- a strictly rising list is told by its members -/
theorem strict_one : ∀ {l m : List Int}, l.Pairwise (· < ·) → m.Pairwise (· < ·) → (∀ v, v ∈ l ↔ v ∈ m) → l = m
  | [], [], _, _, _ => rfl
  | [], b :: m, _, _, h => by have := (h b).mpr List.mem_cons_self; simp at this
  | a :: l, [], _, _, h => by have := (h a).mp List.mem_cons_self; simp at this
  | a :: l, b :: m, h1, h2, h => by
    obtain ⟨p1, q1⟩ := List.pairwise_cons.mp h1
    obtain ⟨p2, q2⟩ := List.pairwise_cons.mp h2
    have e : a = b := by
      rcases List.mem_cons.mp ((h a).mp List.mem_cons_self) with x | x
      · exact x
      · rcases List.mem_cons.mp ((h b).mpr List.mem_cons_self) with y | y
        · exact y.symm
        · have := p2 a x; have := p1 b y; omega
    subst e
    have : l = m := strict_one q1 q2 fun v => by
      constructor
      · intro hv
        rcases List.mem_cons.mp ((h v).mp (List.mem_cons_of_mem _ hv)) with x | x
        · subst x; have := p1 v hv; omega
        · exact x
      · intro hv
        rcases List.mem_cons.mp ((h v).mpr (List.mem_cons_of_mem _ hv)) with x | x
        · subst x; have := p2 v hv; omega
        · exact x
    rw [this]
theorem le_nodup_lt {l : List Int} (h : l.Pairwise (· ≤ ·)) (n : l.Nodup) : l.Pairwise (· < ·) := by
  induction l with
  | nil => exact .nil
  | cons a l ih =>
    obtain ⟨p, q⟩ := List.pairwise_cons.mp h
    obtain ⟨r, s⟩ := List.nodup_cons.mp n
    refine List.pairwise_cons.mpr ⟨fun b hb => ?_, ih q s⟩
    have h1 := p b hb
    have h2 : a ≠ b := fun e => r (by rw [e]; exact hb)
    omega
/-- a rising list is told by what it is a permutation of -/
theorem le_one : ∀ {l m : List Int}, l.Pairwise (· ≤ ·) → m.Pairwise (· ≤ ·) → l.Perm m → l = m
  | [], m, _, _, h => by rw [List.nil_perm] at h; exact h.symm
  | a :: l, [], _, _, h => by have := h.length_eq; simp at this
  | a :: l, b :: m, h1, h2, h => by
    obtain ⟨p1, q1⟩ := List.pairwise_cons.mp h1
    obtain ⟨p2, q2⟩ := List.pairwise_cons.mp h2
    have e : a = b := by
      rcases List.mem_cons.mp (h.mem_iff.mp (List.mem_cons_self (a := a) (l := l))) with x | x
      · exact x
      · rcases List.mem_cons.mp (h.mem_iff.mpr (List.mem_cons_self (a := b) (l := m))) with y | y
        · exact y.symm
        · have := p2 a x; have := p1 b y; omega
    subst e
    rw [le_one q1 q2 ((List.perm_cons a).mp h)]
def iota (n : Nat) : List Int := (List.range n).map Int.ofNat
theorem iota_len (n : Nat) : (iota n).length = n := by simp [iota]
theorem iota_succ (n : Nat) : iota (n + 1) = iota n ++ [(n : Int)] := by simp [iota, List.range_succ]
theorem iota_mem {n : Nat} {k : Int} : k ∈ iota n ↔ 0 ≤ k ∧ k < n := by
  unfold iota
  rw [List.mem_map]
  constructor
  · rintro ⟨m, hm, rfl⟩
    have := List.mem_range.mp hm
    exact ⟨Int.natCast_nonneg _, by show (m : Int) < n; omega⟩
  · rintro ⟨h1, h2⟩
    exact ⟨k.toNat, List.mem_range.mpr (by omega), by show ((k.toNat : Nat) : Int) = k; omega⟩
theorem iota_pw (n : Nat) : (iota n).Pairwise (· < ·) := by
  unfold iota
  rw [List.pairwise_map]
  exact List.pairwise_lt_range.imp fun h => by show ((_ : Nat) : Int) < ((_ : Nat) : Int); omega
/-- the marks at the place v -/
def grp (f : Int → Int) (ms : List Int) (v : Int) : List Int := ms.filter fun k => f k == v
/-- the order: places rising, the marks at each -/
def ord (f : Int → Int) (ms : List Int) : List (List Int) := (sortU (ms.map f)).map (grp f ms)
theorem grp_snoc {f : Int → Int} {ms : List Int} {k v : Int} : grp f (ms ++ [k]) v = if f k = v then grp f ms v ++ [k] else grp f ms v := by
  unfold grp
  rw [List.filter_append]
  by_cases h : f k = v
  · rw [if_pos h]; simp [h]
  · rw [if_neg h]; simp [h]
theorem grp_none {f : Int → Int} {ms : List Int} {v : Int} (h : v ∉ ms.map f) : grp f ms v = [] := by
  unfold grp
  rw [List.filter_eq_nil_iff]
  intro k hk e
  exact h (List.mem_map.mpr ⟨k, hk, by simpa using e⟩)
theorem ord_congr {f g : Int → Int} {ms : List Int} (h : ∀ k ∈ ms, f k = g k) : ord f ms = ord g ms := by
  unfold ord
  have e : ms.map f = ms.map g := List.map_congr_left h
  rw [e]
  refine List.map_congr_left fun v _ => ?_
  unfold grp
  exact List.filter_congr fun k hk => by rw [h k hk]
theorem pw_rev_map {y : Int} {W : List Int} (h : W.Pairwise (· < ·)) : ((W.map (y - ·)).reverse).Pairwise (· < ·) := by
  rw [List.pairwise_reverse, List.pairwise_map]
  exact h.imp fun h => by omega
/-- the other way round -/
theorem ord_mirror {f g : Int → Int} {ms : List Int} {y : Int} (hf : ∀ k ∈ ms, 0 ≤ f k ∧ f k < y) (hg : ∀ k ∈ ms, g k = if f k = 0 then 0 else y - f k) {k0 : Int} (h0 : k0 ∈ ms) (z0 : f k0 = 0) :
    ord g ms = (ord f ms).take 1 ++ ((ord f ms).drop 1).reverse := by
  have hm : ∀ v, v ∈ sortU (ms.map f) → 0 ≤ v ∧ v < y := fun v hv => by
    obtain ⟨k, hk, rfl⟩ := List.mem_map.mp (sortU_mem.mp hv)
    exact hf k hk
  have m0 : (0 : Int) ∈ sortU (ms.map f) := sortU_mem.mpr (List.mem_map.mpr ⟨k0, h0, z0⟩)
  obtain ⟨W, hW⟩ : ∃ W, sortU (ms.map f) = 0 :: W := by
    cases e : sortU (ms.map f) with
    | nil => rw [e] at m0; simp at m0
    | cons a W =>
      have p := sortU_pw (ms.map f)
      rw [e] at p m0 hm
      obtain ⟨p1, _⟩ := List.pairwise_cons.mp p
      rcases List.mem_cons.mp m0 with q | q
      · exact ⟨W, by rw [← q]⟩
      · have := p1 0 q
        have := (hm a List.mem_cons_self).1
        omega
  have pw : (0 :: W).Pairwise (· < ·) := by rw [← hW]; exact sortU_pw _
  obtain ⟨pW, qW⟩ := List.pairwise_cons.mp pw
  have mW : ∀ v ∈ W, 0 < v ∧ v < y := fun v hv => ⟨pW v hv, (hm v (by rw [hW]; exact List.mem_cons_of_mem _ hv)).2⟩
  have eV : sortU (ms.map g) = 0 :: (W.map (y - ·)).reverse := by
    refine strict_one (sortU_pw _) (List.pairwise_cons.mpr ⟨fun b hb => ?_, pw_rev_map qW⟩) fun v => ?_
    · obtain ⟨u, hu, rfl⟩ := List.mem_map.mp (List.mem_reverse.mp hb)
      have := (mW u hu).2
      show 0 < y - u
      omega
    · rw [sortU_mem, List.mem_map, List.mem_cons, List.mem_reverse, List.mem_map]
      constructor
      · rintro ⟨k, hk, rfl⟩
        rw [hg k hk]
        by_cases e : f k = 0
        · rw [if_pos e]; exact .inl rfl
        · rw [if_neg e]
          refine .inr ⟨f k, ?_, rfl⟩
          have : f k ∈ sortU (ms.map f) := sortU_mem.mpr (List.mem_map.mpr ⟨k, hk, rfl⟩)
          rw [hW] at this
          exact (List.mem_cons.mp this).resolve_left e
      · rintro (rfl | ⟨u, hu, rfl⟩)
        · exact ⟨k0, h0, by rw [hg k0 h0, if_pos z0]⟩
        · have : u ∈ sortU (ms.map f) := by rw [hW]; exact List.mem_cons_of_mem _ hu
          obtain ⟨k, hk, e⟩ := List.mem_map.mp (sortU_mem.mp this)
          refine ⟨k, hk, ?_⟩
          have := (mW u hu).1
          rw [hg k hk, e, if_neg (by omega)]
  have g0 : grp g ms 0 = grp f ms 0 := List.filter_congr fun k hk => by
    rw [hg k hk]
    have := hf k hk
    by_cases e : f k = 0
    · rw [if_pos e, e]
    · rw [if_neg e]
      rw [beq_eq_false_iff_ne.mpr e, beq_eq_false_iff_ne.mpr (by omega)]
  have gW : ∀ u ∈ W, grp g ms (y - u) = grp f ms u := fun u hu => List.filter_congr fun k hk => by
    rw [hg k hk]
    have h1 := hf k hk
    have h2 := mW u hu
    by_cases e : f k = 0
    · rw [if_pos e, beq_eq_false_iff_ne.mpr (by omega), beq_eq_false_iff_ne.mpr (by omega)]
    · rw [if_neg e]
      by_cases e2 : f k = u
      · rw [e2]; simp
      · rw [beq_eq_false_iff_ne.mpr e2, beq_eq_false_iff_ne.mpr (by omega)]
  unfold ord
  rw [eV, hW, List.map_cons, List.map_cons, g0, List.map_reverse, List.map_map]
  show _ = [grp f ms 0] ++ (List.map (grp f ms) W).reverse
  rw [List.singleton_append]
  congr 2
  exact List.map_congr_left fun u hu => gW u hu
end Mt
namespace Mt
theorem map_inj {α β : Type} {g : α → β} : ∀ {l : List α}, (l.map g).Nodup → ∀ {a b : α}, a ∈ l → b ∈ l → g a = g b → a = b
  | [], _, _, _, h, _, _ => by simp at h
  | c :: l, n, a, b, ha, hb, e => by
    obtain ⟨n1, n2⟩ := List.nodup_cons.mp (show (g c :: l.map g).Nodup from n)
    rcases List.mem_cons.mp ha with x | x
    · rcases List.mem_cons.mp hb with y | y
      · rw [x, y]
      · subst x
        exact absurd (List.mem_map.mpr ⟨b, y, e.symm⟩) n1
    · rcases List.mem_cons.mp hb with y | y
      · subst y
        exact absurd (List.mem_map.mpr ⟨a, x, e⟩) n1
      · exact map_inj n2 x y e
end Mt
namespace Mt
theorem insU_len (v : Int) : ∀ m : List Int, (insU v m).length ≤ m.length + 1
  | [] => Nat.le_refl 1
  | b :: m => by
    unfold insU
    split
    · exact Nat.le_refl _
    · split
      · exact Nat.le_succ _
      · exact Nat.succ_le_succ (insU_len v m)
theorem sortU_len : ∀ l : List Int, (sortU l).length ≤ l.length
  | [] => Nat.le_refl 0
  | a :: l => Nat.le_trans (insU_len a (sortU l)) (Nat.succ_le_succ (sortU_len l))
end Mt
set_option Elab.async false
set_option linter.all false
set_option maxRecDepth 100000
set_option maxHeartbeats 4000000
namespace My
open PySem PySem.Spec PyProof.Rows L2 Gn Mt
/-- data lasts while nothing tracked changes -/
theorem sqT_same {H H' : Hp} {a : Addr} {xs : List V} {K : PySem.W.Frag} (e : Same H H') (h : SqT K H a xs) : SqT K H' a xs := by
  rcases h with (h | ⟨o, h⟩) | h
  · exact .inl (.inl (e _ _ h))
  · exact .inl (.inr ⟨o, e _ _ h⟩)
  · exact .inr h
mutual
theorem dp_same {K : PySem.W.Frag} {H H' : Hp} (e : Same H H') : ∀ (d : PyData) (v : V), Dp K H v d → Dp K H' v d
  | .none, _, h => by cases h; exact .non
  | .bool b, _, h => by cases h; exact .bl b
  | .int i, _, h => by cases h; exact .int i
  | .str x, _, h => by cases h; exact .str x
  | .list ds, _, h => by cases h with | lst a b => exact .lst (e.seq a) (dps_same e ds _ b)
  | .tuple ds, _, h => by cases h with | tup a b => exact .tup (sqT_same e a) (dps_same e ds _ b)
  | .dict _, _, h => by cases h
theorem dps_same {K : PySem.W.Frag} {H H' : Hp} (e : Same H H') : ∀ (ds : List PyData) (vs : List V), DpAll K H vs ds → DpAll K H' vs ds
  | [], _, h => by cases h; exact .nil
  | d :: ds, _, h => by cases h with | cons a b => exact .cons (dp_same e d _ a) (dps_same e ds _ b)
end
theorem dp_ints {K : PySem.W.Frag} {H : Hp} : ∀ ns : List Int, DpAll K H (ns.map V.int) (ns.map PyData.int)
  | [] => .nil
  | n :: ns => .cons (.int n) (dp_ints ns)
/-- tuples of ints stand at these addresses, as these lists tell -/
def Tups (H : Hp) : List Addr → List (List Int) → Prop
  | [], [] => True
  | r :: rs, g :: gs => H r = some (.tup (g.map V.int)) ∧ Tups H rs gs
  | _, _ => False
theorem Tups.mono {H H' : Hp} : ∀ {rs : List Addr} {gs : List (List Int)}, Tups H rs gs → (∀ r g, H r = some (.tup g) → H' r = some (.tup g)) → Tups H' rs gs
  | [], [], _, _ => trivial
  | _ :: _, _ :: _, h, k => ⟨k _ _ h.1, h.2.mono k⟩
  | [], _ :: _, h, _ => h.elim
  | _ :: _, [], h, _ => h.elim
theorem Tups.snoc {H : Hp} {r : Addr} {g : List Int} (hr : H r = some (.tup (g.map V.int))) : ∀ {rs : List Addr} {gs : List (List Int)}, Tups H rs gs → Tups H (rs ++ [r]) (gs ++ [g])
  | [], [], _ => ⟨hr, trivial⟩
  | _ :: _, _ :: _, h => ⟨h.1, Tups.snoc hr h.2⟩
  | [], _ :: _, h => h.elim
  | _ :: _, [], h => h.elim
theorem Tups.len {H : Hp} : ∀ {rs : List Addr} {gs : List (List Int)}, Tups H rs gs → rs.length = gs.length
  | [], [], _ => rfl
  | _ :: _, _ :: _, h => congrArg Nat.succ h.2.len
  | [], _ :: _, h => h.elim
  | _ :: _, [], h => h.elim
theorem Tups.dps {K : PySem.W.Frag} {H : Hp} : ∀ {rs : List Addr} {gs : List (List Int)}, Tups H rs gs → DpAll K H (rs.map V.ref) (gs.map fun g => PyData.tuple (g.map PyData.int))
  | [], [], _ => .nil
  | _ :: _, _ :: _, h => .cons (.tup (SqT.of h.1) (dp_ints _)) h.2.dps
  | [], _ :: _, h => h.elim
  | _ :: _, [], h => h.elim
/-- an order as data -/
def ordD (gs : List (List Int)) : PyData := .tuple (gs.map fun g => PyData.tuple (g.map PyData.int))
/-- an order stands at r: a tuple of tuples of ints -/
def OrdAt (H : Hp) (r : Addr) (gs : List (List Int)) : Prop := ∃ rs : List Addr, H r = some (.tup (rs.map V.ref)) ∧ Tups H rs gs
theorem OrdAt.dp {K : PySem.W.Frag} {H : Hp} {r : Addr} {gs : List (List Int)} (h : OrdAt H r gs) : Dp K H (.ref r) (ordD gs) := by
  obtain ⟨rs, h1, h2⟩ := h
  exact .tup (SqT.of h1) h2.dps
theorem OrdAt.same {H H' : Hp} {r : Addr} {gs : List (List Int)} (h : OrdAt H r gs) (e : Same H H') : OrdAt H' r gs := by
  obtain ⟨rs, h1, h2⟩ := h
  exact ⟨rs, e _ _ h1, h2.mono fun r g z => e _ _ z⟩
end My
set_option Elab.async false
set_option maxRecDepth 100000
set_option linter.all false
/-! an order by sorted pairs of place and mark, group by group -/
namespace Mt
/-- the marks of the pairs with this place -/
def sel (P : List (Int × Int)) (v : Int) : List Int := (P.filter fun q => q.1 == v).map (·.2)
def plc (P : List (Int × Int)) : List Int := sortU (P.map (·.1))
def grps (P : List (Int × Int)) : List (List Int) := (plc P).map (sel P)
/-- place, then mark -/
def lexL (p q : Int × Int) : Prop := p.1 < q.1 ∨ (p.1 = q.1 ∧ p.2 < q.2)
theorem sel_snoc {P : List (Int × Int)} {q : Int × Int} {v : Int} : sel (P ++ [q]) v = if q.1 = v then sel P v ++ [q.2] else sel P v := by
  unfold sel
  rw [List.filter_append, List.map_append]
  by_cases h : q.1 = v
  · rw [if_pos h]; simp [h]
  · rw [if_neg h]; simp [h]
theorem sel_none {P : List (Int × Int)} {v : Int} (h : v ∉ P.map (·.1)) : sel P v = [] := by
  unfold sel
  rw [List.filter_eq_nil_iff.mpr, List.map_nil]
  intro q hq
  simp only [beq_iff_eq]
  intro e
  exact h (List.mem_map.mpr ⟨q, hq, e⟩)
theorem plc_mem {P : List (Int × Int)} {v : Int} : v ∈ plc P ↔ v ∈ P.map (·.1) := sortU_mem
theorem snoc_pw {l : List Int} {v : Int} (h : l.Pairwise (· < ·)) (hv : ∀ u ∈ l, u < v) : (l ++ [v]).Pairwise (· < ·) :=
  List.pairwise_append.mpr ⟨h, List.pairwise_singleton _ _, fun a ha b hb => by rw [List.mem_singleton.mp hb]; exact hv a ha⟩
/-- a new place -/
theorem plc_new {P : List (Int × Int)} {v m : Int} (h : ∀ u ∈ P.map (·.1), u < v) : plc (P ++ [(v, m)]) = plc P ++ [v] := by
  refine strict_one (sortU_pw _) (snoc_pw (sortU_pw _) fun u hu => h u (plc_mem.mp hu)) fun u => ?_
  rw [plc_mem, List.map_append, List.mem_append, List.mem_append, plc_mem]
  exact Iff.rfl
/-- the place of the last one -/
theorem plc_old {P : List (Int × Int)} {v m : Int} (h : v ∈ P.map (·.1)) : plc (P ++ [(v, m)]) = plc P := by
  refine strict_one (sortU_pw _) (sortU_pw _) fun u => ?_
  rw [plc_mem, plc_mem, List.map_append, List.mem_append]
  constructor
  · rintro (z | z)
    · exact z
    · rw [List.mem_singleton.mp z]; exact h
  · exact .inl
theorem grps_new {P : List (Int × Int)} {v m : Int} (h : ∀ u ∈ P.map (·.1), u < v) : grps (P ++ [(v, m)]) = grps P ++ [[m]] := by
  unfold grps
  rw [plc_new h, List.map_append]
  have nv : v ∉ P.map (·.1) := fun z => absurd (h v z) (by omega)
  congr 1
  · refine List.map_congr_left fun u hu => ?_
    rw [sel_snoc, if_neg]
    show ¬ v = u
    rintro rfl
    exact nv (plc_mem.mp hu)
  · show [sel (P ++ [(v, m)]) v] = _
    rw [sel_snoc, if_pos rfl, sel_none nv]; rfl
/-- the greatest stands last -/
theorem last_max {l : List Int} (h : l.Pairwise (· < ·)) {v : Int} (hv : v ∈ l) (hm : ∀ u ∈ l, u ≤ v) : ∃ l0, l = l0 ++ [v] := by
  have ne : l ≠ [] := by rintro rfl; simp at hv
  refine ⟨l.dropLast, ?_⟩
  have e := (List.dropLast_concat_getLast ne).symm
  have : l.getLast ne = v := by
    have h1 := hm _ (List.getLast_mem ne)
    rw [e] at hv h
    rcases List.mem_append.mp hv with z | z
    · have := (List.pairwise_append.mp h).2.2 v z _ (List.mem_singleton.mpr rfl)
      omega
    · exact (List.mem_singleton.mp z).symm
  rw [this] at e
  exact e
theorem grps_old {P : List (Int × Int)} {v m : Int} (h : ∀ u ∈ P.map (·.1), u ≤ v) (hv : v ∈ P.map (·.1)) : ∃ g0, grps P = g0 ++ [sel P v] ∧ grps (P ++ [(v, m)]) = g0 ++ [sel P v ++ [m]] := by
  obtain ⟨l0, e⟩ := last_max (show (plc P).Pairwise (· < ·) from sortU_pw _) (plc_mem.mpr hv) fun u hu => h u (plc_mem.mp hu)
  have pw : (l0 ++ [v]).Pairwise (· < ·) := by rw [← e]; exact sortU_pw _
  refine ⟨l0.map (sel P), by unfold grps; rw [e, List.map_append]; rfl, ?_⟩
  unfold grps
  rw [plc_old hv, e, List.map_append]
  congr 1
  · refine List.map_congr_left fun u hu => ?_
    have := (List.pairwise_append.mp pw).2.2 u hu v (List.mem_singleton.mpr rfl)
    rw [sel_snoc, if_neg (by show ¬ v = u; omega)]
  · show [sel (P ++ [(v, m)]) v] = _
    rw [sel_snoc, if_pos rfl]
/-- the last group: it has a first mark; one mark more at its place joins it -/
theorem grps_last {P : List (Int × Int)} (ne : P ≠ []) : ∃ g0 u h t, grps P = g0 ++ [h :: t] ∧ (u, h) ∈ P ∧ (∀ w ∈ P.map (·.1), w ≤ u) ∧ ∀ m, grps (P ++ [(u, m)]) = g0 ++ [(h :: t) ++ [m]] := by
  have pn : plc P ≠ [] := by
    cases P with
    | nil => exact absurd rfl ne
    | cons p P =>
      intro z
      have := plc_mem (P := p :: P) (v := p.1) |>.mpr (by simp)
      rw [z] at this
      simp at this
  have e := (List.dropLast_concat_getLast pn).symm
  generalize (plc P).dropLast = l0 at e
  generalize (plc P).getLast pn = u at e
  have um : u ∈ P.map (·.1) := plc_mem.mp (by rw [e]; exact List.mem_append.mpr (.inr (List.mem_singleton.mpr rfl)))
  have pw : (l0 ++ [u]).Pairwise (· < ·) := by rw [← e]; exact sortU_pw _
  have mx : ∀ w ∈ P.map (·.1), w ≤ u := fun w hw => by
    have := plc_mem.mpr hw
    rw [e] at this
    rcases List.mem_append.mp this with z | z
    · exact Int.le_of_lt ((List.pairwise_append.mp pw).2.2 w z u (List.mem_singleton.mpr rfl))
    · rw [List.mem_singleton.mp z]; exact Int.le_refl _
  obtain ⟨q, hq, eq⟩ := List.mem_map.mp um
  have hs : q.2 ∈ sel P u := by
    unfold sel
    exact List.mem_map.mpr ⟨q, List.mem_filter.mpr ⟨hq, by simpa using eq⟩, rfl⟩
  cases es : sel P u with
  | nil => rw [es] at hs; simp at hs
  | cons h t =>
    have hh : h ∈ sel P u := by rw [es]; exact List.mem_cons_self
    unfold sel at hh
    obtain ⟨q', hq', e'⟩ := List.mem_map.mp hh
    have q1 := List.mem_filter.mp hq'
    have qu : q'.1 = u := by simpa using q1.2
    have g1 : grps P = l0.map (sel P) ++ [h :: t] := by unfold grps; rw [e, List.map_append, ← es]; rfl
    refine ⟨l0.map (sel P), u, h, t, g1, ?_, mx, fun m => ?_⟩
    · have : q' = (u, h) := by rw [← qu, ← e']
      rw [← this]; exact q1.1
    · obtain ⟨g0, a1, a2⟩ := grps_old (m := m) mx um
      rw [es] at a1 a2
      rw [a2]
      have := List.append_inj' (g1.symm.trans a1) rfl
      rw [this.1]
/-- sorted pairs of all marks: the order -/
theorem grps_ord {f : Int → Int} {ms : List Int} (hm : ms.Pairwise (· < ·)) {P : List (Int × Int)} (hp : P.Perm (ms.map fun m => (f m, m))) (hl : P.Pairwise lexL) : grps P = ord f ms := by
  have hmem : ∀ q : Int × Int, q ∈ P ↔ q.2 ∈ ms ∧ q.1 = f q.2 := fun q => by
    rw [hp.mem_iff, List.mem_map]
    constructor
    · rintro ⟨m, h1, rfl⟩; exact ⟨h1, rfl⟩
    · rintro ⟨h1, h2⟩; exact ⟨q.2, h1, by rw [← h2]⟩
  have e : plc P = sortU (ms.map f) := by
    refine strict_one (sortU_pw _) (sortU_pw _) fun u => ?_
    rw [plc_mem, sortU_mem, List.mem_map, List.mem_map]
    constructor
    · rintro ⟨q, hq, rfl⟩
      obtain ⟨h1, h2⟩ := (hmem q).mp hq
      exact ⟨q.2, h1, h2.symm⟩
    · rintro ⟨m, h1, rfl⟩
      exact ⟨(f m, m), (hmem _).mpr ⟨h1, rfl⟩, rfl⟩
  unfold grps ord
  rw [e]
  refine List.map_congr_left fun v _ => ?_
  refine strict_one ?_ (hm.filter _) fun u => ?_
  · unfold sel
    rw [List.pairwise_map]
    have := hl.filter fun q => q.1 == v
    refine (List.Pairwise.imp_of_mem (fun {a b} ha hb r => ?_) this)
    have h1 : a.1 = v := by simpa using (List.mem_filter.mp ha).2
    have h2 : b.1 = v := by simpa using (List.mem_filter.mp hb).2
    rcases r with r | r
    · omega
    · exact r.2
  · unfold sel grp
    rw [List.mem_map, List.mem_filter]
    constructor
    · rintro ⟨q, hq, rfl⟩
      obtain ⟨h1, h2⟩ := List.mem_filter.mp hq
      obtain ⟨h3, h4⟩ := (hmem q).mp h1
      exact ⟨h3, by rw [← h4]; exact h2⟩
    · rintro ⟨h1, h2⟩
      exact ⟨(f u, u), List.mem_filter.mpr ⟨(hmem _).mpr ⟨h1, rfl⟩, h2⟩, rfl⟩
end Mt
set_option Elab.async false
set_option linter.all false
set_option maxRecDepth 100000
set_option maxHeartbeats 4000000
/-! repr of such values, empty dicts too -/
namespace Gn
open PySem PySem.Spec PyProof.Rows L2
section
variable {X : Cx}
def rNeNil (K : PySem.W.Frag) : R2 := fun x y H Q => ∃ a b xs, x = .ref a ∧ y = .ref b ∧ SqL K H a xs ∧ SqL K H b [] ∧ Q (.bl (!xs.isEmpty)) H
theorem op_neNil (hu : X.A.units < cLine) : OpR X (compareOp .NotEq) (rNeNil X.K) := by
  intro pins s σ H x y v u Q I rx ry h
  obtain ⟨a, b, xs, rfl, rfl, ha, hb, q⟩ := h
  cases (show v = Value.ref a from rx)
  cases (show u = Value.ref b from ry)
  obtain ⟨us, r1, p1, _⟩ := I.list ha
  obtain ⟨ws, r2, p2, _⟩ := I.list hb
  cases r2
  cases r1 with
  | nil => exact SeqAt.RcNeAt.lists (e := fun _ => true) p1.isList p2.isList rfl hu (fun j h1 h2 => absurd h2 (Nat.not_lt_zero j)) _ _ _ _ ⟨.bl _, H, I, rfl, q⟩
  | cons r1 r2 => exact SeqAt.RcNeAt.lists_lengths p1.isList p2.isList (by simp) hu _ _ _ _ ⟨.bl _, H, I, rfl, q⟩
end
end Gn
set_option Elab.async false
set_option linter.all false
set_option maxRecDepth 100000
set_option maxHeartbeats 8000000
set_option exponentiation.threshold 2000
namespace My
open PySem PySem.Spec PyProof.Rows L2 Gn Mt
/-! orders by sorted pairs -/
abbrev sOrderL : Stmt := top 105
abbrev NO : List Str := ["_law_value", "_law_many", "_law_m", "_law_spots", "_law_found", "_law_spot"]
theorem scOrderL : FnScope NO ["_law_value", "_law_many"] (defScope sOrderL) := ⟨rfl, rfl, rfl, by decide +kernel, rfl, by decide +kernel, by decide +kernel⟩
structure Bs (mg : Str → Option Value) : Prop where
  b : Bl mg
  tuple : mg "tuple" = none
  sorted : mg "sorted" = none
  range : mg "range" = none
def spOrderL : Sp := fun vs H Q _ => ∃ (t : Addr) (x y n : Int), vs = [.ref t, .int n] ∧ H t = some (.tup [.int x, .int y]) ∧ 0 < y ∧ x.natAbs < 2 ^ 200 ∧ 1 ≤ n ∧ n ≤ 60 ∧
  ∀ r H', Same H H' → OrdAt H' r (ord (fun k => (k * x).fmod y) (iota n.toNat)) → Q (.ref r) H'
/-- the pair that stands there -/
def prAt (H : Hp) (v : V) : Int × Int := match v with
  | .ref a => (match H a with | some (.tup [.int i, .int j]) => (i, j) | _ => (0, 0))
  | _ => (0, 0)
theorem prAt_of {H : Hp} {a : Addr} {i j : Int} (h : H a = some (.tup [.int i, .int j])) : prAt H (.ref a) = (i, j) := by
  unfold prAt
  simp only [h]
theorem pair_lex {p q : Int × Int} (h : SrtO.lexB q p = false) (ne : p.2 ≠ q.2) : lexL p q := by
  have z : ¬ (q.1 < p.1 ∨ (q.1 = p.1 ∧ q.2 < p.2)) := fun y => by
    rw [SrtO.lexB_iff.mpr y] at h; cases h
  unfold lexL
  by_cases e : p.1 = q.1
  · right
    refine ⟨e, ?_⟩
    have : ¬ q.2 < p.2 := fun y => z (.inr ⟨e.symm, y⟩)
    omega
  · left
    have : ¬ q.1 < p.1 := fun y => z (.inl y)
    omega
/-- groups stand in a list -/
def GrpsAt (H : Hp) (D : Addr) (gs : List (List Int)) : Prop := ∃ rs : List Addr, H D = some (.lst (rs.map V.ref)) ∧ Tups H rs gs
theorem tups_snoc {H : Hp} : ∀ {rs : List Addr} {gs : List (List Int)} {r : Addr} {g : List Int}, Tups H rs gs → H r = some (.tup (g.map V.int)) → Tups H (rs ++ [r]) (gs ++ [g])
  | [], [], _, _, _, h => ⟨h, trivial⟩
  | _ :: _, _ :: _, _, _, ⟨h1, h2⟩, h => ⟨h1, tups_snoc h2 h⟩
theorem tups_len {H : Hp} : ∀ {rs : List Addr} {gs : List (List Int)}, Tups H rs gs → rs.length = gs.length
  | [], [], _ => rfl
  | _ :: _, _ :: _, ⟨_, h⟩ => congrArg (· + 1) (tups_len h)
theorem tups_split {H : Hp} : ∀ {rs : List Addr} {gs : List (List Int)} {g : List Int}, Tups H rs (gs ++ [g]) → ∃ rs0 r, rs = rs0 ++ [r] ∧ Tups H rs0 gs ∧ H r = some (.tup (g.map V.int))
  | [], [], _, h => h.elim
  | [], _ :: _, _, h => h.elim
  | r :: rs, [], g, ⟨h1, h2⟩ => by
    cases rs with
    | nil => exact ⟨[], r, rfl, trivial, h1⟩
    | cons _ _ => exact h2.elim
  | r :: rs, _ :: gs, g, ⟨h1, h2⟩ => by
    obtain ⟨rs0, r', rfl, a, b⟩ := tups_split h2
    exact ⟨r :: rs0, r', rfl, ⟨h1, a⟩, b⟩
theorem sel_len (P : List (Int × Int)) (v : Int) : (sel P v).length ≤ P.length := by
  unfold sel
  rw [List.length_map]
  exact List.length_filter_le _ _
theorem grps_len (P : List (Int × Int)) : (grps P).length ≤ P.length := by
  unfold grps plc
  rw [List.length_map]
  have := sortU_len (P.map (·.1))
  rw [List.length_map] at this
  exact this
theorem at_last {xs : List V} {v : V} : atI (xs ++ [v]) (-1) = some v := by
  unfold atI ixN
  rw [if_neg (by omega), if_pos (by rw [List.length_append]; show -(((xs.length + 1 : Nat) : Int)) ≤ -1; omega), Option.bind_some, show ((-1 : Int) + ((xs ++ [v]).length : Int)).toNat = xs.length by rw [List.length_append]; simp; omega]
  simp
theorem ix_last {xs : List V} {v : V} : ixN (xs ++ [v]).length (-1) = some xs.length := by
  unfold ixN
  rw [if_neg (by omega), if_pos (by rw [List.length_append]; show -(((xs.length + 1 : Nat) : Int)) ≤ -1; omega), show ((-1 : Int) + ((xs ++ [v]).length : Int)).toNat = xs.length by rw [List.length_append]; simp; omega]
theorem set_last {xs : List V} {v u : V} : (xs ++ [v]).set xs.length u = xs ++ [u] := by simp
section
variable {P : Program} {w : World} {K : PySem.W.Frag} {mg : Str → Option Value} {base : Heap}
theorem ok_orderL {f : Addr} {fd : FuncData} (F : Fun K "_law_order" "_law_order" sOrderL f fd) (B : Bs mg) : FnOk P w K mg base CX0 1 f fd ["_law_value", "_law_many"] spOrderL := by
  refine F.ok scOrderL (fun vs H Q E h => ?_) (fun cdv A outer s H vs Q E hr h => ?_)
  · obtain ⟨t, x, y, n, rfl, _⟩ := h
    rfl
  · obtain ⟨t, x, y, n, rfl, hT, y0, xb, n1, n60, q⟩ := h
    have hu := Nat.lt_of_le_of_lt (Nat.le_add_right _ 64) hr.units
    refine ⟨_, pss_cons (ps_set (i := 3) scOrderL.nd rfl (.inl rfl) (pe_callB cr_sortedPO (by rfl) B.sorted (by decide +kernel) (pa_cons
        (pe_lc (te := tTup (tCons (tOp (rI (fun _ j => j ≠ 0) fun i j => .int (i.fmod j)) (tCB (fun xs H Q => (∃ i, xs = [V.int i] ∧ Q (V.int i) H) ∨ ∃ k, xs = [V.bl k] ∧ Q (V.int (if k = true then 1 else 0)) H) (tCons (tOp (rI CMulW fun i j => .int (i * j)) (tVar 2) (tOp (rIxT K) (tVar 0) (tC (.int 0)))) tNil)) (tOp (rIxT K) (tVar 0) (tC (.int 1)))) (tCons (tVar 2) tNil)))
          (own := [("_law_m", 2)]) (g := gName 2) (tt := tYes) rfl scOrderL.nd (pi_range1 rfl B.range (pa_cons (pv 1) pa_nil))
          (blkOk_by (N := NO) (sc := defScope sOrderL) (by decide +kernel)) (fun _ _ _ _ _ => pg_name (i := 2) scOrderL.nd rfl (.inl rfl)) (fun _ _ _ _ _ => pts_nil)
          (fun _ _ _ _ _ => pe_tup (pa_cons (pe_op op_modN (pe_callTy call_int1 (by rfl) B.b.int (by decide +kernel) (pa_cons (pe_op op_mulW (pv 2) (pe_ix ix_tup (pv 0) pe_int (fun _ _ => rfl))) pa_nil)) (pe_ix ix_tup (pv 0) pe_int (fun _ _ => rfl))) (pa_cons (pv 2) pa_nil)))) pa_nil)))
      (pss_cons (ps_set (i := 4) scOrderL.nd rfl (.inl rfl) (pe_lst pa_nil))
      (pss_cons (ps_for PassesOwn.never rfl (pi_list (pv 3)) (pg_tup (by rfl) (pgs_cons (pg_name (i := 5) scOrderL.nd rfl (.inl rfl)) (pgs_cons (pg_name (i := 2) scOrderL.nd rfl (.inl rfl)) pgs_nil)))
        (pss_one (ps_if (PW.pt (pw_and (pt_cmpR (op_neNil hu) (pv 4) (pe_lst pa_nil) (nomark _)) (pw_and1 (pt_cmpR op_eq (pe_op op_modN (pe_callTy call_int1 (by rfl) B.b.int (by decide +kernel) (pa_cons (pe_op op_mulW (pe_ix ix_tup (pe_ix ix_list (pv 4) (pe_un un_neg pe_int) (fun _ _ => rfl)) pe_int (fun _ _ => rfl)) (pe_ix ix_tup (pv 0) pe_int (fun _ _ => rfl))) pa_nil)) (pe_ix ix_tup (pv 0) pe_int (fun _ _ => rfl))) (pv 5) (nomark _)))))
          (pss_one (ps_asg (pe_op op_catT (pe_ix ix_list (pv 4) (pe_un un_neg pe_int) (fun _ _ => rfl)) (pe_tup (pa_cons (pv 2) pa_nil))) (pg_sub (pv 4) (pe_un un_neg pe_int) set_list)))
          (pss_one (ps_expr (pe_bm PySem.F.plainAttrs_list PySem.F.slot_list_append PySem.F.type_list_append mt_append (pv 4) (pa_cons (pe_tup (pa_cons (pv 2) pa_nil)) pa_nil)))))))
      (pss_one (ps_ret (pe_callTy cr_tupL (by rfl) B.tuple (by decide +kernel) (pa_cons (pv 4) pa_nil)))))), ?_⟩
    obtain ⟨f, hf⟩ : ∃ f : Int → Int, f = fun k => (k * x).fmod y := ⟨_, rfl⟩
    have kb : ∀ k : Int, 0 ≤ k → k < n → k.natAbs < 2 ^ 200 := fun k h1 h2 => Nat.lt_of_le_of_lt (show k.natAbs ≤ 60 by omega) (by decide)
    -- the pairs
    refine ⟨_, rfl, n, rfl, by omega, by omega, fun D hD => ?_⟩
    refine lc_range (lo := 0) (n := n.toNat) (fun i H' => ∃ as : List Addr, H' D = some (.lst (as.map V.ref)) ∧ as.length = i ∧ (∀ (j : Nat) (a : Addr), as[j]? = some a → H' a = some (.tup [.int (f (j : Int)), .int (j : Int)])) ∧ Same H H') ⟨[], upd_same, rfl, (fun j a z => by simp at z), same_put hD⟩ ?_ ?_
    · rintro i H1 hi ⟨as, g1, g2, g3, g4⟩
      rw [Int.zero_add]
      have hT1 := g4 _ _ hT
      refine ⟨rfl, _, rfl, _, rfl, t, _, 0, .int x, rfl, rfl, SqT.of hT1, at_of (j := 0) rfl rfl, _, _, rfl, rfl, wide_mul (a := 200) (b := 200) (kb i (by omega) (by omega)) xb (by decide) (by decide) (by decide), .inl ⟨_, rfl, _, rfl, t, _, 1, .int y, rfl, rfl, SqT.of hT1, at_of (j := 1) rfl rfl, _, _, rfl, rfl, (show y ≠ 0 by omega), _, rfl, (by show 2 ≤ sizeLine; decide), fun a ha => ?_⟩⟩
      have na : D ≠ a := ne_of_none g1 ha
      refine ⟨_, by rw [upd_ne na]; exact g1, by rw [List.length_map, g2]; exact small1000 (by omega), as ++ [a], by rw [upd_same, List.map_append]; rfl, by rw [List.length_append, g2]; rfl, fun j b hj => ?_, fun b o e => ?_⟩
      · rcases Nat.lt_or_ge j as.length with c | c
        · rw [List.getElem?_append_left c] at hj
          have z := g3 j b hj
          have n1 : b ≠ a := fun e => by rw [e, ha] at z; cases z
          have n2 : b ≠ D := fun e => by rw [e, g1] at z; cases z
          rw [upd_ne n2, upd_ne n1]
          exact z
        · have jl := (List.getElem?_eq_some_iff.mp hj).1
          rw [List.length_append] at jl
          have ej : j = as.length := by simp at jl; omega
          subst ej
          rw [List.getElem?_append_right (Nat.le_refl _), Nat.sub_self] at hj
          cases hj
          rw [upd_ne na.symm, upd_same, g2, hf]
      · rw [upd_ne (ne_of_none e hD), upd_ne (ne_of_none (g4 _ _ e) ha)]
        exact g4 _ _ e
    rintro H1 ⟨as, g1, g2, g3, g4⟩
    have eL : (as.map V.ref).map (prAt H1) = (iota n.toNat).map fun m => (f m, m) := by
      refine List.ext_getElem? fun j => ?_
      rw [List.getElem?_map, List.getElem?_map, List.getElem?_map]
      unfold iota
      rw [List.getElem?_map]
      rcases Nat.lt_or_ge j n.toNat with c | c
      · rw [List.getElem?_range c, List.getElem?_eq_getElem (by omega : j < as.length)]
        have z := g3 j _ (List.getElem?_eq_getElem (by omega : j < as.length))
        show some (prAt H1 (.ref _)) = some _
        rw [prAt_of z]
        rfl
      · rw [List.getElem?_eq_none (by omega : as.length ≤ j), List.getElem?_eq_none (by simpa using c : (List.range n.toNat).length ≤ j)]
        rfl
    refine ⟨D, as.map V.ref, prAt H1, rfl, SqL.of g1, fun v hv => ?_, fun ys p hs st hp => ?_⟩
    · obtain ⟨a, ha, rfl⟩ := List.mem_map.mp hv
      obtain ⟨j, hj, ej⟩ := List.getElem_of_mem ha
      have z := g3 j a (by rw [List.getElem?_eq_getElem hj, ej])
      refine ⟨a, rfl, ?_⟩
      show H1 a = some (.tup [.int (prAt H1 (.ref a)).1, .int (prAt H1 (.ref a)).2])
      rw [prAt_of z]
      exact z
    have s2 := same_put (o := HO.lst ys) hp
    have hY : upd H1 p (HO.lst ys) p = some (.lst ys) := upd_same
    have perm : (ys.map (prAt H1)).Perm ((iota n.toNat).map fun m => (f m, m)) := by rw [← eL]; exact st.perm.map _
    have nd : ((ys.map (prAt H1)).map (·.2)).Nodup := by
      refine (perm.map (·.2)).nodup_iff.mpr ?_
      rw [List.map_map]
      have : ((fun x : Int × Int => x.2) ∘ fun m => (f m, m)) = id := rfl
      rw [this, List.map_id]
      exact (iota_pw _).imp fun h => by omega
    have pw : (ys.map (prAt H1)).Pairwise lexL := by
      have h1 : (ys.map (prAt H1)).Pairwise fun p q => SrtO.lexB q p = false := List.pairwise_map.mpr hs
      have h2 : (ys.map (prAt H1)).Pairwise fun p q => p.2 ≠ q.2 := List.pairwise_map.mp nd
      exact (h1.and h2).imp fun h => pair_lex h.1 h.2
    have mem : ∀ q ∈ ys.map (prAt H1), q.1 = f q.2 ∧ 0 ≤ q.2 ∧ q.2 < n := fun q hq => by
      obtain ⟨m, hm, rfl⟩ := List.mem_map.mp (perm.mem_iff.mp hq)
      have := iota_mem.mp hm
      exact ⟨rfl, this.1, by omega⟩
    have elt : ∀ (j : Nat) (v : V), ys[j]? = some v → ∃ a, v = .ref a ∧ upd H1 p (HO.lst ys) a = some (.tup [.int (prAt H1 v).1, .int (prAt H1 v).2]) := fun j v hj => by
      have hv : v ∈ as.map V.ref := st.perm.mem_iff.mp (List.mem_of_getElem? hj)
      obtain ⟨a, ha, rfl⟩ := List.mem_map.mp hv
      obtain ⟨i, hi, ei⟩ := List.getElem_of_mem ha
      have z := g3 i a (by rw [List.getElem?_eq_getElem hi, ei])
      refine ⟨a, rfl, ?_⟩
      rw [s2 _ _ z, prAt_of z]
    have ylen : ys.length = n.toNat := by rw [st.perm.length_eq, List.length_map, g2]
    have S2 := g4.trans s2
    generalize hL : ys.map (prAt H1) = L at *
    generalize upd H1 p (HO.lst ys) = H2 at *
    -- found
    refine ⟨(by show 0 ≤ sizeLine; decide), fun D2 hD2 => ?_⟩
    have s3 := same_put (o := HO.lst []) hD2
    have g0 : upd H2 D2 (HO.lst []) D2 = some (.lst []) := upd_same
    generalize upd H2 D2 (HO.lst []) = H3 at *
    refine ⟨_, rfl, p, rfl, ⟨_, SqL.of (s3 _ _ hY)⟩, for_list (K := K) (a := p) (xs := ys) (fun j σ H' => ∃ u2 u5, σ = [some (.ref t), some (.int n), u2, some (.ref p), some (.ref D2), u5] ∧ GrpsAt H' D2 (grps (L.take j)) ∧ Same H2 H') ⟨_, _, rfl, ⟨[], g0, trivial⟩, s3⟩ (fun j σ H' _ ⟨_, _, _, _, e⟩ => SqL.of (e _ _ hY)) ?_ ?_⟩
    · rintro j v σ H4 hj ⟨u2, u5, rfl, ⟨rs, hr, tu⟩, s4⟩
      obtain ⟨a, rfl, ha⟩ := elt j v hj
      have hLj : L[j]? = some (prAt H1 (.ref a)) := by rw [← hL, List.getElem?_map, hj]; rfl
      generalize prAt H1 (.ref a) = pr at ha hLj
      obtain ⟨v0, m0⟩ := pr
      have jl : j < L.length := (List.getElem?_eq_some_iff.mp hLj).1
      have hm0 := mem _ (List.mem_of_getElem? hLj)
      have tk : L.take (j + 1) = L.take j ++ [(v0, m0)] := by rw [List.take_add_one, hLj]; rfl
      have Lsplit : L = L.take j ++ (v0, m0) :: L.drop (j + 1) := by
        have e1 := (List.take_append_drop j L).symm
        rw [List.drop_eq_getElem_cons jl] at e1
        have e2 : L[j] = (v0, m0) := by rw [List.getElem?_eq_getElem jl] at hLj; exact Option.some.inj hLj
        rw [e2] at e1
        exact e1
      have lo : ∀ u ∈ (L.take j).map (·.1), u ≤ v0 := fun u hu => by
        obtain ⟨q, hq, rfl⟩ := List.mem_map.mp hu
        rw [Lsplit] at pw
        have := (List.pairwise_append.mp pw).2.2 q hq (v0, m0) List.mem_cons_self
        rcases this with z | z
        · exact Int.le_of_lt z
        · exact Int.le_of_eq z.1
      have ha4 := s4 _ _ ha
      refine ⟨a, _, rfl, SqT.of ha4, rfl, _, _, rfl, _, _, rfl, rfl, ?_⟩
      have gl := grps_len (L.take j)
      have tl : (L.take j).length ≤ 60 := by rw [List.length_take, ← hL, List.length_map, ylen]; omega
      have rl := tups_len tu
      refine ⟨_, rfl, (by show 0 ≤ sizeLine; decide), fun z hz => ?_⟩
      have s5 := same_put (o := HO.lst []) hz
      refine ⟨D2, z, rs.map V.ref, rfl, rfl, SqL.of (s5 _ _ hr), SqL.of upd_same, _, rfl, ?_⟩
      have tu := tu.mono fun r g h => s5 r (.tup g) h
      have hr := s5 _ _ hr
      have ha5 := s5 _ _ ha4
      have hT5 := s5 _ _ (s4 _ _ (S2 _ _ hT))
      have S5 := s4.trans s5
      generalize upd H4 z (HO.lst []) = H5 at *
      -- one group more
      have more : grps (L.take (j + 1)) = grps (L.take j) ++ [[m0]] → ∀ b, H5 b = none → upd H5 b (.tup [.int m0]) D2 = some (.lst (rs.map V.ref)) ∧ GrpsAt (upd (upd H5 b (.tup [.int m0])) D2 (.lst (rs.map V.ref ++ [.ref b]))) D2 (grps (L.take (j + 1))) ∧ Same H2 (upd (upd H5 b (.tup [.int m0])) D2 (.lst (rs.map V.ref ++ [.ref b]))) := fun e b hb => by
        refine ⟨?_, ?_, fun c o hc => ?_⟩
        · rw [upd_ne (ne_of_none hr hb)]; exact hr
        · rw [e]
          refine ⟨rs ++ [b], by rw [upd_same, List.map_append]; rfl, tups_snoc (tu.mono fun r g h => ?_) ?_⟩
          · have n1 : r ≠ D2 := fun e => by rw [e, hr] at h; cases h
            rw [upd_ne n1, upd_ne (ne_of_none h hb)]
            exact h
          · rw [upd_ne (ne_of_none hr hb).symm, upd_same]
            rfl
        · rw [upd_ne (ne_of_none hc hD2), upd_ne (ne_of_none (S5 _ _ hc) hb)]
          exact S5 _ _ hc
      by_cases e0 : L.take j = []
      · have er : rs = [] := by
          rw [e0] at tu
          cases rs with
          | nil => rfl
          | cons _ _ => exact tu.elim
        have en : grps (L.take (j + 1)) = grps (L.take j) ++ [[m0]] := by
          rw [tk]
          exact grps_new fun u hu => by rw [e0] at hu; simp at hu
        subst er
        refine iteF ⟨_, rfl, .inl ⟨rfl, _, SqL.of hr⟩, _, rfl, (by show 1 ≤ sizeLine; decide), fun b hb => ?_⟩
        obtain ⟨m1, m2, m3⟩ := more en b hb
        exact ⟨D2, _, .ref b, rfl, rfl, m1, (by show 0 < sizeLine; decide), _, _, rfl, m2, m3⟩
      · obtain ⟨g1, u, h, t', eg, huP, mx, joins⟩ := grps_last e0
        rw [eg] at tu
        obtain ⟨rs0, r, rfl, tu0, hr'⟩ := tups_split tu
        have huL : (u, h) ∈ L := List.mem_of_mem_take huP
        obtain ⟨fu, h0, hn⟩ := mem _ huL
        have eM : (rs0 ++ [r]).map V.ref = rs0.map V.ref ++ [.ref r] := by rw [List.map_append]; rfl
        rw [eM] at hr
        have at1 : atI ((rs0 ++ [r]).map V.ref) (-1) = some (.ref r) := by rw [eM]; exact at_last
        rw [show (!((rs0 ++ [r]).map V.ref).isEmpty) = true by rw [eM]; simp]
        refine iteT ⟨_, rfl, _, rfl, D2, _, _, .ref r, rfl, rfl, SqL.of hr, at_last, r, _, 0, .int h, rfl, rfl, SqT.of hr', at_of (j := 0) rfl rfl, _, rfl, t, _, 0, .int x, rfl, rfl, SqT.of hT5, at_of (j := 0) rfl rfl, _, _, rfl, rfl, wide_mul (a := 200) (b := 200) (kb h h0 hn) xb (by decide) (by decide) (by decide), .inl ⟨_, rfl, _, rfl, t, _, 1, .int y, rfl, rfl, SqT.of hT5, at_of (j := 1) rfl rfl, _, _, rfl, rfl, (show y ≠ 0 by omega), _, rfl, rfl, _, rfl, ?_⟩⟩
        refine ite2 (fun hc => ?_) (fun hc => ?_)
        · have euv : u = v0 := by
            have z := V.int.inj (of_decide_eq_true hc)
            have fu' : u = f h := fu
            rw [hf] at fu'
            exact fu'.trans z
          have en : grps (L.take (j + 1)) = g1 ++ [(h :: t') ++ [m0]] := by rw [tk, ← euv]; exact joins m0
          have lt : (h :: t').length ≤ 60 := by
            have z : (h :: t') ∈ grps (L.take j) := by rw [eg]; simp
            unfold grps at z
            obtain ⟨w0, _, ew⟩ := List.mem_map.mp z
            rw [← ew]
            exact Nat.le_trans (sel_len _ _) tl
          refine ⟨_, rfl, _, rfl, D2, _, _, .ref r, rfl, rfl, SqL.of hr, at_last, _, rfl, (by show 1 ≤ sizeLine; decide), fun b hb => ?_⟩
          have s6 := same_put (o := HO.tup [.int m0]) hb
          have e6 : upd H5 b (HO.tup [.int m0]) b = some (.tup [.int m0]) := upd_same
          have hr6 := s6 _ _ hr
          have hr6' := s6 _ _ hr'
          have tu6 := tu0.mono fun r g h => s6 r (.tup g) h
          have S6 := S5.trans s6
          generalize upd H5 b (HO.tup [.int m0]) = H6 at *
          refine ⟨r, b, _, _, rfl, rfl, SqT.of hr6', SqT.of e6, (by simp), ?_, (fun z => by cases z), fun _ q' hq' => ?_⟩
          · rw [List.length_map]
            exact Nat.le_of_lt (small1000 (by simp only [List.length_cons, List.length_nil] at lt ⊢; omega))
          have nq : q' ≠ D2 := (ne_of_none hr6 hq').symm
          refine ⟨_, rfl, _, rfl, D2, rs0.map V.ref ++ [.ref r], _, (rs0.map V.ref).length, rfl, rfl, by rw [upd_ne nq.symm]; exact hr6, ix_last, _, _, rfl, ?_, fun c o hc => ?_⟩
          · rw [en]
            refine ⟨rs0 ++ [q'], by rw [upd_same, set_last, List.map_append]; rfl, tups_snoc (tu6.mono fun r2 g h2 => ?_) ?_⟩
            · have n1 : r2 ≠ D2 := fun e => by rw [e, hr6] at h2; cases h2
              rw [upd_ne n1, upd_ne (ne_of_none h2 hq')]
              exact h2
            · rw [upd_ne nq, upd_same, List.map_append]
              rfl
          · rw [upd_ne (ne_of_none hc hD2), upd_ne (ne_of_none (S6 _ _ hc) hq')]
            exact S6 _ _ hc
        · have nuv : u ≠ v0 := fun z => hc (decide_eq_true (by
            have fu' : u = f h := fu
            rw [hf] at fu'
            show V.int ((h * x).fmod y) = V.int v0
            rw [← z, fu']))
          have ul : u < v0 := by
            have := lo u (List.mem_map.mpr ⟨_, huP, rfl⟩)
            omega
          have en : grps (L.take (j + 1)) = grps (L.take j) ++ [[m0]] := by
            rw [tk]
            exact grps_new fun w hw => by have := mx w hw; omega
          refine ⟨_, rfl, .inl ⟨rfl, _, SqL.of hr⟩, _, rfl, (by show 1 ≤ sizeLine; decide), fun b hb => ?_⟩
          rw [← eM] at hr
          obtain ⟨m1, m2, m3⟩ := more en b hb
          refine ⟨D2, _, .ref b, rfl, rfl, m1, ?_, _, _, rfl, m2, m3⟩
          rw [List.length_map]
          exact small1000 (by omega)
    · rintro σ H4 ⟨u2, u5, rfl, ⟨rs, hr, tu⟩, s4⟩
      rw [ylen.trans (by rw [← ylen, ← List.length_map (f := prAt H1), hL] : n.toNat = L.length), List.take_length, grps_ord (iota_pw _) perm pw, hf] at tu
      refine ⟨_, rfl, D2, rs.map V.ref, rfl, SqL.of hr, fun r hr' => ?_⟩
      have s5 := same_put (o := HO.tup (rs.map V.ref)) hr'
      refine q r _ ((S2.trans s4).trans s5) ⟨rs, upd_same, tu.mono fun r g h => s5 r (.tup g) h⟩
end
end My
set_option Elab.async false
set_option linter.all false
set_option maxRecDepth 100000
set_option maxHeartbeats 8000000
set_option exponentiation.threshold 2000
namespace My
open PySem PySem.Spec PyProof.Rows L2 Gn Mt
/-! the checker asked about two steps that are alike -/
abbrev sAcc : Stmt := top 79
abbrev sHasSteps : Stmt := top 82
abbrev sIsEmpty : Stmt := top 84
abbrev sIsPair : Stmt := top 85
abbrev sAlike : Stmt := top 92
abbrev NK : List Str := ["told", "paper", "one", "other", "count", "low", "high", "step"]
abbrev NA : List Str := ["claim", "paper", "word", "told", "has_form", "is_proved"]
theorem scAcc : FnScope NA ["claim", "paper"] (defScope sAcc) := ⟨rfl, rfl, rfl, by decide +kernel, rfl, by decide +kernel, by decide +kernel⟩
theorem scHasSteps : FnScope ["told"] ["told"] (defScope sHasSteps) := ⟨rfl, rfl, rfl, by decide +kernel, rfl, by decide +kernel, by decide +kernel⟩
theorem scIsEmpty : FnScope ["paper"] ["paper"] (defScope sIsEmpty) := ⟨rfl, rfl, rfl, by decide +kernel, rfl, by decide +kernel, by decide +kernel⟩
theorem scIsPair : FnScope ["paper"] ["paper"] (defScope sIsPair) := ⟨rfl, rfl, rfl, by decide +kernel, rfl, by decide +kernel, by decide +kernel⟩
theorem scAlike : FnScope NK ["told", "paper"] (defScope sAlike) := ⟨rfl, rfl, rfl, by decide +kernel, rfl, by decide +kernel, by decide +kernel⟩
/-- a step with a bottom not too great -/
structure Stq (H : Hp) (a : Addr) (x y : Int) : Prop where
  s : StepAt H a x y
  b : y.natAbs < 2 ^ 200
theorem Stq.same {H H' : Hp} {a : Addr} {x y : Int} (h : Stq H a x y) (e : Same H H') : Stq H' a x y := ⟨⟨e _ _ h.s.1, h.s.2⟩, h.b⟩
theorem Stq.an {K : PySem.W.Frag} {H : Hp} {a : Addr} {x y : Int} (h : Stq H a x y) : An K H (.ref a) (.tuple [.int x, .int y]) := .tup h.s.1 (.cons (.int x) (.cons (.int y) .nil))
theorem Stq.xb {H : Hp} {a : Addr} {x y : Int} (h : Stq H a x y) : x.natAbs < 2 ^ 200 := by
  have := h.b; have h0 := h.s.2.x0; have h1 := h.s.2.xy; omega
theorem fr_st {x y : Int} (h : IsStep x y) : isFr (.tuple [.int x, .int y]) = true := by
  have h0 := h.x0; have h1 := h.xy
  have hc : Int.gcd x y = 1 := h.co
  simp only [isFr, decide_eq_true (show 1 ≤ y by omega), hc, decide_true, Bool.and_self]
theorem st_st {x y : Int} (h : IsStep x y) : isSt (.tuple [.int x, .int y]) = true := by
  simp only [isSt, fr_st h, decide_eq_true h.x0, decide_eq_true h.xy, Bool.and_self]
theorem Stq.bd {H : Hp} {a : Addr} {x y : Int} (h : Stq H a x y) : Bd (.tuple [.int x, .int y]) :=
  ⟨Nat.lt_of_lt_of_le h.xb (Nat.pow_le_pow_right (by decide) (by decide)), Nat.lt_of_lt_of_le h.b (Nat.pow_le_pow_right (by decide) (by decide))⟩
/-- a tuple of so many -/
def isLenD (n : Nat) (d : PyData) : Bool := match d with | .tuple ds => decide (ds.length = n) | _ => false
/-- the numbers of a paper -/
def numsD (x1 y1 x2 y2 n a b c e : Int) : Bool := decide (0 ≤ a) && (decide (c * b - a * e = 1) && (decide (n ≤ b + e) && ((decide (a * y1 < x1 * b) && decide (x1 * e < c * y1)) && (decide (a * y2 < x2 * b) && decide (x2 * e < c * y2)))))
/-- a paper of two fractions -/
def twoD (x1 y1 x2 y2 n : Int) (d : PyData) : Bool := match d with
  | .tuple [.tuple [.int a, .int b], .tuple [.int c, .int e]] => isFr (.tuple [.int a, .int b]) && (isFr (.tuple [.int c, .int e]) && numsD x1 y1 x2 y2 n a b c e)
  | _ => false
/-- as the program asks it -/
def alikeD (x1 y1 x2 y2 n : Int) (d : PyData) : Bool := if (x1 = x2 ∧ y1 = y2) ∨ n = 1 then isLenD 0 d else twoD x1 y1 x2 y2 n d
/-- the numbers of a paper are not too great -/
structure Gp (d : PyData) : Prop where
  fr : ∀ a b c e, d = .tuple [.tuple [.int a, .int b], .tuple [.int c, .int e]] → a.natAbs ≤ 10 ^ 64 ∧ b.natAbs ≤ 10 ^ 64 ∧ c.natAbs ≤ 10 ^ 64 ∧ e.natAbs ≤ 10 ^ 64
theorem twoD_no {x1 y1 x2 y2 n : Int} {d : PyData} (z : ∀ p q, d = .tuple [p, q] → isFr p = false ∨ isFr q = false) : twoD x1 y1 x2 y2 n d = false := by
  unfold twoD
  split
  · rename_i a b c e
    rcases z _ _ rfl with h | h
    · rw [h, Bool.false_and]
    · rw [h, Bool.false_and, Bool.and_false]
  · rfl
theorem isLen_ty {n : Nat} {d : PyData} (h : isTupB d = false) : isLenD n d = false := by cases d <;> first | rfl | cases h
theorem le64 {z : Int} {m : Nat} (h : z.natAbs ≤ 10 ^ 64) (hm : 220 ≤ m) : z.natAbs < 2 ^ m :=
  Nat.lt_of_lt_of_le (Nat.lt_of_le_of_lt h (show (10 : Nat) ^ 64 < 2 ^ 220 by decide)) (Nat.pow_le_pow_right (by decide) hm)
def spHasS : Sp := fun vs H Q _ => ∃ (a p q : Addr) (x1 y1 x2 y2 n : Int), vs = [.ref a] ∧ H a = some (.tup [.ref p, .ref q, .int n]) ∧ Stq H p x1 y1 ∧ Stq H q x2 y2 ∧ 1 ≤ n ∧ Q (.bl true) H
def spAlike (K : PySem.W.Frag) : Sp := fun vs H Q _ => ∃ (a p q : Addr) (x1 y1 x2 y2 n : Int) (v : V) (d : PyData), vs = [.ref a, v] ∧ H a = some (.tup [.ref p, .ref q, .int n]) ∧ Stq H p x1 y1 ∧ Stq H q x2 y2 ∧ An K H v d ∧ Gp d ∧ ∀ H', Same H H' → Q (.bl (alikeD x1 y1 x2 y2 n d)) H'
def spAcc (K : PySem.W.Frag) : Sp := fun vs H Q _ => ∃ (c p q : Addr) (x1 y1 x2 y2 n : Int) (v : V) (d : PyData), vs = [.ref c, v] ∧ H c = some (.tup [.str "alike", .ref p, .ref q, .int n]) ∧ Stq H p x1 y1 ∧ Stq H q x2 y2 ∧ 1 ≤ n ∧ An K H v d ∧ Gp d ∧ ∀ H', Same H H' → Q (.bl (alikeD x1 y1 x2 y2 n d)) H'
section
variable {P : Program} {w : World} {K : PySem.W.Frag} {mg : Str → Option Value} {base : Heap}
theorem ok_empty {f : Addr} {fd : FuncData} (F : Fun K "_is_empty" "_is_empty" sIsEmpty f fd) (B : Bc mg) : FnOk P w K mg base CX0 1 f fd ["paper"] (spAsk K (isLenD 0)) := by
  refine F.ok scIsEmpty (fun vs H Q E h => ?_) (fun cdv A outer s H vs Q E hr h => ?_)
  · obtain ⟨v, d, rfl, _⟩ := h
    rfl
  · obtain ⟨v, d, rfl, an, q⟩ := h
    refine ⟨_, pss_one (ps_ret (pe_and (pe_callB call_isi (by rfl) B.isi (by decide +kernel) (pa_cons (pv 0) (pa_cons (pe_bltn (v := .ty "tuple") (by rfl) B.tuple (by decide +kernel) rfl) pa_nil)))
      (pe_one (pe_cmpR op_eq (pe_callB call_len_seq (by rfl) B.len PySem.boot_len (pa_cons (pv 0) pa_nil)) pe_int (nomark _))))), ?_⟩
    refine ⟨_, rfl, v, .ty "tuple", _, _, _, rfl, .ty "tuple", an.ty, kit_ty kit_tup, _, rfl, ?_⟩
    cases et : isTupB d with
    | false =>
      rw [isLen_ty et] at q
      exact iteF q
    | true =>
      obtain ⟨a, xs, ds, rfl, rfl, hT, all⟩ := an.isT et
      refine iteT ⟨_, rfl, a, xs, rfl, .inr (SqT.of hT), rfl, ?_⟩
      have e : decide (V.int (xs.length : Int) = V.int 0) = isLenD 0 (.tuple ds) := by
        show _ = decide (ds.length = 0)
        rw [decide_eq_decide, V.int.injEq, dpAll_len all]
        omega
      rw [← e] at q
      exact q
theorem ok_two {f : Addr} {fd : FuncData} (F : Fun K "_is_pair" "_is_pair" sIsPair f fd) (B : Bc mg) : FnOk P w K mg base CX0 1 f fd ["paper"] (spAsk K (isLenD 2)) := by
  refine F.ok scIsPair (fun vs H Q E h => ?_) (fun cdv A outer s H vs Q E hr h => ?_)
  · obtain ⟨v, d, rfl, _⟩ := h
    rfl
  · obtain ⟨v, d, rfl, an, q⟩ := h
    refine ⟨_, pss_one (ps_ret (pe_and (pe_callB call_isi (by rfl) B.isi (by decide +kernel) (pa_cons (pv 0) (pa_cons (pe_bltn (v := .ty "tuple") (by rfl) B.tuple (by decide +kernel) rfl) pa_nil)))
      (pe_one (pe_cmpR op_eq (pe_callB call_len_seq (by rfl) B.len PySem.boot_len (pa_cons (pv 0) pa_nil)) pe_int (nomark _))))), ?_⟩
    refine ⟨_, rfl, v, .ty "tuple", _, _, _, rfl, .ty "tuple", an.ty, kit_ty kit_tup, _, rfl, ?_⟩
    cases et : isTupB d with
    | false =>
      rw [isLen_ty et] at q
      exact iteF q
    | true =>
      obtain ⟨a, xs, ds, rfl, rfl, hT, all⟩ := an.isT et
      refine iteT ⟨_, rfl, a, xs, rfl, .inr (SqT.of hT), rfl, ?_⟩
      have e : decide (V.int (xs.length : Int) = V.int 2) = isLenD 2 (.tuple ds) := by
        show _ = decide (ds.length = 2)
        rw [decide_eq_decide, V.int.injEq, dpAll_len all]
        omega
      rw [← e] at q
      exact q
/-- the program's questions -/
structure Qs (K : PySem.W.Frag) (mg : Str → Option Value) where
  c : Bc mg
  str : mg "str" = none
  fi : Addr × FuncData
  fr : Addr × FuncData
  fs : Addr × FuncData
  fl : Addr × FuncData
  di : Df K mg "is_integer" sIsInt ["given"] fi.1 fi.2
  dr : Df K mg "is_fraction" sIsFr ["given"] fr.1 fr.2
  ds : Df K mg "is_step" sIsStep ["given"] fs.1 fs.2
  dl : Df K mg "is_less" sIsLess ["one", "other"] fl.1 fl.2
  all : mg "all" = none
  fe : Addr × FuncData
  fp : Addr × FuncData
  de : Df K mg "_is_empty" sIsEmpty ["paper"] fe.1 fe.2
  dp : Df K mg "_is_pair" sIsPair ["paper"] fp.1 fp.2
theorem ok_hasSteps {f : Addr} {fd : FuncData} (F : Fun K "_has_steps" "_has_steps" sHasSteps f fd) (M : Qs K mg) : FnOk P w K mg base CX0 4 f fd ["told"] spHasS := by
  have GS : FnOk P w K mg base CX0 3 M.fs.1 M.fs.2 ["given"] (spAsk K isSt) := ok_isStepA M.ds.F M.c M.di M.dr
  have GI : FnOk P w K mg base CX0 1 M.fi.1 M.fi.2 ["given"] (spAsk K isInt) := ok_isIntA M.di.F M.c
  refine F.ok scHasSteps (fun vs H Q E h => ?_) (fun cdv A outer s H vs Q E hr h => ?_)
  · obtain ⟨a, p, q, x1, y1, x2, y2, n, rfl, _⟩ := h
    rfl
  · obtain ⟨a, p, q, x1, y1, x2, y2, n, rfl, hA, s1, s2, n1, k⟩ := h
    have hr1 : Room 1 _ := hr.mono (by decide)
    refine ⟨_, pss_cons (ps_if (PW.pt (pw_or (pt_cmpR op_ne (pe_callB call_len_seq (by rfl) M.c.len PySem.boot_len (pa_cons (pv 0) pa_nil)) pe_int (nomark _))
        (pw_or (pt_not (pt_val (pe_call GS hr (by rfl) M.ds.g M.ds.F.kp M.ds.b .nil pass0 (pa_cons (pe_ix ix_tup (pv 0) pe_int (fun _ _ => rfl)) pa_nil))))
        (pw_or1 (pt_not (pt_val (pe_call GS hr (by rfl) M.ds.g M.ds.F.kp M.ds.b .nil pass0 (pa_cons (pe_ix ix_tup (pv 0) pe_int (fun _ _ => rfl)) pa_nil)))))))) (pss_one (ps_ret pe_bl)) pss_nil)
      (pss_one (ps_ret (pe_and (pe_call GI hr1 (by rfl) M.di.g M.di.F.kp M.di.b .nil pass0 (pa_cons (pe_ix ix_tup (pv 0) pe_int (fun _ _ => rfl)) pa_nil)) (pe_one (pe_cmpR op_ge (pe_ix ix_tup (pv 0) pe_int (fun _ _ => rfl)) pe_int (nomark _)))))), ?_⟩
    refine ⟨_, rfl, a, _, rfl, .inr (SqT.of hA), rfl, _, rfl, iteF ?_⟩
    refine ⟨_, rfl, a, _, 0, .ref p, rfl, rfl, SqT.of hA, at_of (j := 0) rfl rfl, _, _, rfl, s1.an, _, rfl, ?_⟩
    rw [st_st s1.s.2]
    refine iteF ⟨_, rfl, a, _, 1, .ref q, rfl, rfl, SqT.of hA, at_of (j := 1) rfl rfl, _, _, rfl, s2.an, _, rfl, ?_⟩
    rw [st_st s2.s.2]
    refine iteF ⟨_, rfl, a, _, 2, .int n, rfl, rfl, SqT.of hA, at_of (j := 2) rfl rfl, _, _, rfl, .int n, _, rfl, iteT ?_⟩
    refine ⟨_, rfl, a, _, 2, .int n, rfl, rfl, SqT.of hA, at_of (j := 2) rfl rfl, _, _, rfl, rfl, ?_⟩
    show Q (.bl (decide (1 ≤ n))) H
    rw [decide_eq_true n1]
    exact k
theorem ok_alike {f : Addr} {fd : FuncData} (F : Fun K "_are_alike" "_are_alike" sAlike f fd) (M : Qs K mg) : FnOk P w K mg base CX0 3 f fd ["told", "paper"] (spAlike K) := by
  have GF : FnOk P w K mg base CX0 2 M.fr.1 M.fr.2 ["given"] (spAsk K isFr) := ok_isFrA M.dr.F M.c M.di
  have GL : FnOk P w K mg base CX0 1 M.fl.1 M.fl.2 ["one", "other"] (spLess K) := ok_less M.dl.F
  have GE : FnOk P w K mg base CX0 1 M.fe.1 M.fe.2 ["paper"] (spAsk K (isLenD 0)) := ok_empty M.de.F M.c
  have GT : FnOk P w K mg base CX0 1 M.fp.1 M.fp.2 ["paper"] (spAsk K (isLenD 2)) := ok_two M.dp.F M.c
  refine F.ok scAlike (fun vs H Q E h => ?_) (fun cdv A outer s H vs Q E hr h => ?_)
  · obtain ⟨a, p, q, x1, y1, x2, y2, n, v, d, rfl, _⟩ := h
    rfl
  · obtain ⟨a, p, q, x1, y1, x2, y2, n, v, d, rfl, hA, s1, s2, an, gp, k⟩ := h
    have hr1 : Room 1 _ := hr.mono (by decide)
    have hu := hr.units
    refine ⟨_, pss_cons (ps_asg (pv 0) (pg_tup (by rfl) (pgs_cons (pg_name (i := 2) scAlike.nd rfl (.inl rfl)) (pgs_cons (pg_name (i := 3) scAlike.nd rfl (.inl rfl)) (pgs_cons (pg_name (i := 4) scAlike.nd rfl (.inl rfl)) pgs_nil)))))
      (pss_cons (ps_if (PW.pt (pw_or (pt_cmpR (op_eqD hu) (pv 2) (pv 3) (nomark _)) (pw_or1 (pt_cmpR op_eq (pv 4) pe_int (nomark _))))) (pss_one (ps_ret (pe_call GE hr1 (by rfl) M.de.g M.de.F.kp M.de.b .nil pass0 (pa_cons (pv 1) pa_nil)))) pss_nil)
      (pss_cons (ps_if (PW.pt (pw_or (pt_not (pt_val (pe_call GT hr1 (by rfl) M.dp.g M.dp.F.kp M.dp.b .nil pass0 (pa_cons (pv 1) pa_nil))))
          (pw_or (pt_not (pt_val (pe_call GF hr (by rfl) M.dr.g M.dr.F.kp M.dr.b .nil pass0 (pa_cons (pe_ix ix_tup (pv 1) pe_int (fun _ _ => rfl)) pa_nil))))
          (pw_or1 (pt_not (pt_val (pe_call GF hr (by rfl) M.dr.g M.dr.F.kp M.dr.b .nil pass0 (pa_cons (pe_ix ix_tup (pv 1) pe_int (fun _ _ => rfl)) pa_nil)))))))) (pss_one (ps_ret pe_bl)) pss_nil)
      (pss_cons (ps_asg (pv 1) (pg_tup (by rfl) (pgs_cons (pg_name (i := 5) scAlike.nd rfl (.inr rfl)) (pgs_cons (pg_name (i := 6) scAlike.nd rfl (.inr rfl)) pgs_nil))))
      (pss_cons (ps_if (PW.pt (pw_or (pt_cmpR op_lt (pe_ix ix_tup (pv 5) pe_int (fun _ _ => rfl)) pe_int (nomark _))
          (pw_or (pt_cmpR op_ne (pe_op op_sub (pe_op op_mulW (pe_ix ix_tup (pv 6) pe_int (fun _ _ => rfl)) (pe_ix ix_tup (pv 5) pe_int (fun _ _ => rfl))) (pe_op op_mulW (pe_ix ix_tup (pv 5) pe_int (fun _ _ => rfl)) (pe_ix ix_tup (pv 6) pe_int (fun _ _ => rfl)))) pe_int (nomark _))
          (pw_or1 (pt_cmpR op_lt (pe_op op_add (pe_ix ix_tup (pv 5) pe_int (fun _ _ => rfl)) (pe_ix ix_tup (pv 6) pe_int (fun _ _ => rfl))) (pv 4) (nomark _)))))) (pss_one (ps_ret pe_bl)) pss_nil)
      (pss_one (ps_ret (pe_callB (cr_all rfl) (by rfl) M.all (by decide +kernel) (pa_cons
        (pe_lc (te := tAndV (tCall (spLess K) [] E0 (tCons (tVar 5) (tCons (tVar 7) tNil))) (tCall (spLess K) [] E0 (tCons (tVar 7) (tCons (tVar 6) tNil)))) (own := [("step", 7)]) (g := gName 7) (tt := tYes) rfl scAlike.nd
          (pi_tup (pe_tup (pa_cons (pv 2) (pa_cons (pv 3) pa_nil))))
          (blkOk_by (N := NK) (sc := defScope sAlike) (by decide +kernel)) (fun _ _ _ _ _ => pg_name (i := 7) scAlike.nd rfl (.inl rfl)) (fun _ _ _ _ _ => pts_nil)
          (fun _ _ _ _ _ => pe_and (pe_call GL hr1 (by rfl) M.dl.g M.dl.F.kp M.dl.b .nil pass0 (pa_cons (pv 5) (pa_cons (pv 7) pa_nil))) (pe_one (pe_call GL hr1 (by rfl) M.dl.g M.dl.F.kp M.dl.b .nil pass0 (pa_cons (pv 7) (pa_cons (pv 6) pa_nil)))))) pa_nil)))))))), ?_⟩
    refine ⟨_, rfl, a, _, rfl, SqT.of hA, rfl, _, _, rfl, _, _, rfl, _, _, rfl, rfl, ?_⟩
    have up : ∀ {z : Int}, z.natAbs < 2 ^ 200 → z.natAbs < 2 ^ 1000 := fun h => Nat.lt_of_lt_of_le h (Nat.pow_le_pow_right (by decide) (by decide))
    have sh : ∀ u z : Int, u.natAbs < 2 ^ 1000 → z.natAbs < 2 ^ 1000 → SeqAt.shaped (PyData.tuple [.int u, .int z]) = true := fun u z hu hz => (Sm.ints (n := 2) (ns := [u, z]) (fun k hk => by
      rcases List.mem_cons.mp hk with rfl | hk
      · exact hu
      · rw [List.mem_singleton.mp hk]; exact hz) (Nat.le_refl _)).shaped (by decide)
    refine ⟨_, rfl, _, rfl, .tuple [.int x1, .int y1], .tuple [.int x2, .int y2], .tup (SqT.of s1.s.1) (.cons (.int _) (.cons (.int _) .nil)), .tup (SqT.of s2.s.1) (.cons (.int _) (.cons (.int _) .nil)), sh _ _ (up s1.xb) (up s1.b), sh _ _ (up s2.xb) (up s2.b), _, rfl, ?_⟩
    rw [pair_eqv]
    have short : (x1 = x2 ∧ y1 = y2) ∨ n = 1 → Q (.bl (isLenD 0 d)) H := fun c => by
      have k := k _ (Same.refl _)
      unfold alikeD at k
      rw [if_pos c] at k
      exact k
    by_cases ee : x1 = x2 ∧ y1 = y2
    · rw [decide_eq_true ee]
      exact iteT ⟨_, rfl, v, d, rfl, an, short (.inl ee)⟩
    · rw [decide_eq_false ee]
      refine iteF ⟨_, rfl, rfl, _, rfl, ?_⟩
      by_cases en : n = 1
      · rw [decide_eq_true (show V.int n = V.int 1 from congrArg V.int en)]
        exact iteT ⟨_, rfl, v, d, rfl, an, short (.inr en)⟩
      · rw [decide_eq_false (show ¬ V.int n = V.int 1 from fun z => en (V.int.inj z))]
        refine iteF ?_
        have k : ∀ H', Same H H' → Q (.bl (twoD x1 y1 x2 y2 n d)) H' := fun H' e => by
          have k := k H' e
          unfold alikeD at k
          rw [if_neg (fun z => z.elim ee en)] at k
          exact k
        refine ⟨_, rfl, v, d, rfl, an, _, rfl, ?_⟩
        cases e2 : isLenD 2 d with
        | false =>
          rw [twoD_no (fun p q z => by subst z; exact nomatch e2)] at k
          exact iteT (k _ (Same.refl _))
        | true =>
          obtain ⟨ap, xs, ds, rfl, rfl, hP, all⟩ := an.isT (show isTupB d = true by cases d <;> first | rfl | cases e2)
          obtain ⟨u, z, du, dz, rfl, rfl, au, az⟩ := dpAll_two all ((dpAll_len all).trans (of_decide_eq_true e2))
          refine iteF ⟨_, rfl, ap, _, 0, u, rfl, rfl, SqT.of hP, at_of (j := 0) rfl rfl, u, du, rfl, au, _, rfl, ?_⟩
          cases f1 : isFr du with
          | false =>
            rw [twoD_no (fun p q z => by cases z; exact .inl f1)] at k
            exact iteT (k _ (Same.refl _))
          | true =>
            refine iteF ⟨_, rfl, ap, _, 1, z, rfl, rfl, SqT.of hP, at_of (j := 1) rfl rfl, z, dz, rfl, az, _, rfl, ?_⟩
            cases f2 : isFr dz with
            | false =>
              rw [twoD_no (fun p q z => by cases z; exact .inr f2)] at k
              exact iteT (k _ (Same.refl _))
            | true =>
              obtain ⟨lo, ta, tb, rfl, rfl, hLo, b1, _⟩ := fr_of au f1
              obtain ⟨hi, tc, te, rfl, rfl, hHi, e1, _⟩ := fr_of az f2
              obtain ⟨ga, gb, gc, ge⟩ := gp.fr _ _ _ _ rfl
              have kk : ∀ H', Same H H' → Q (.bl (numsD x1 y1 x2 y2 n ta tb tc te)) H' := fun H' e => by
                have k := k H' e
                simp only [twoD, f1, f2, Bool.true_and] at k
                exact k
              clear k
              refine iteF ⟨_, rfl, ap, _, rfl, SqT.of hP, rfl, _, _, rfl, _, _, rfl, rfl, ?_⟩
              refine ⟨_, rfl, lo, _, 0, .int ta, rfl, rfl, SqT.of hLo, at_of (j := 0) rfl rfl, _, _, rfl, rfl, _, rfl, ?_⟩
              by_cases c0 : ta < 0
              · rw [decide_eq_true c0]
                have e : numsD x1 y1 x2 y2 n ta tb tc te = false := by
                  unfold numsD
                  rw [decide_eq_false (by omega), Bool.false_and]
                rw [e] at kk
                exact iteT (kk _ (Same.refl _))
              · rw [decide_eq_false c0]
                refine iteF ⟨_, rfl, hi, _, 0, .int tc, rfl, rfl, SqT.of hHi, at_of (j := 0) rfl rfl, _, rfl, lo, _, 1, .int tb, rfl, rfl, SqT.of hLo, at_of (j := 1) rfl rfl, _, _, rfl, rfl, wide_mul (a := 300) (b := 300) (le64 gc (by decide)) (le64 gb (by decide)) (by decide) (by decide) (by decide), ?_⟩
                refine ⟨_, rfl, lo, _, 0, .int ta, rfl, rfl, SqT.of hLo, at_of (j := 0) rfl rfl, _, rfl, hi, _, 1, .int te, rfl, rfl, SqT.of hHi, at_of (j := 1) rfl rfl, _, _, rfl, rfl, wide_mul (a := 300) (b := 300) (le64 ga (by decide)) (le64 ge (by decide)) (by decide) (by decide) (by decide), _, _, rfl, rfl, rfl, _, rfl, ?_⟩
                by_cases c1 : tc * tb - ta * te = 1
                · rw [show (!(decide (V.int (tc * tb - ta * te) = V.int 1))) = false by rw [decide_eq_true (congrArg V.int c1)]; rfl]
                  refine iteF ⟨_, rfl, lo, _, 1, .int tb, rfl, rfl, SqT.of hLo, at_of (j := 1) rfl rfl, _, rfl, hi, _, 1, .int te, rfl, rfl, SqT.of hHi, at_of (j := 1) rfl rfl, _, _, rfl, rfl, _, rfl, _, _, rfl, rfl, _, rfl, ?_⟩
                  by_cases c2 : tb + te < n
                  · rw [decide_eq_true c2]
                    have e : numsD x1 y1 x2 y2 n ta tb tc te = false := by
                      unfold numsD
                      rw [decide_eq_false (show ¬ n ≤ tb + te by omega), Bool.false_and, Bool.and_false, Bool.and_false]
                    rw [e] at kk
                    exact iteT (kk _ (Same.refl _))
                  · rw [decide_eq_false c2]
                    have e : numsD x1 y1 x2 y2 n ta tb tc te = ((decide (ta * y1 < x1 * tb) && decide (x1 * te < tc * y1)) && (decide (ta * y2 < x2 * tb) && decide (x2 * te < tc * y2))) := by
                      unfold numsD
                      rw [decide_eq_true (show 0 ≤ ta by omega), decide_eq_true c1, decide_eq_true (show n ≤ tb + te by omega), Bool.true_and, Bool.true_and, Bool.true_and]
                    rw [e] at kk
                    refine iteF ⟨_, rfl, _, rfl, (by show 2 ≤ sizeLine; decide), fun l hl => ?_⟩
                    have e1 := same_put (o := HO.tup [.ref p, .ref q]) hl
                    have hL : upd H l (HO.tup [.ref p, .ref q]) l = some (.tup [.ref p, .ref q]) := upd_same
                    have s1 := s1.same e1
                    have s2 := s2.same e1
                    have hLo := e1 _ _ hLo
                    have hHi := e1 _ _ hHi
                    have anL : An K (upd H l (HO.tup [.ref p, .ref q])) (.ref lo) (.tuple [.int ta, .int tb]) := .tup hLo (.cons (.int _) (.cons (.int _) .nil))
                    have anH : An K (upd H l (HO.tup [.ref p, .ref q])) (.ref hi) (.tuple [.int tc, .int te]) := .tup hHi (.cons (.int _) (.cons (.int _) .nil))
                    generalize upd H l (HO.tup [.ref p, .ref q]) = H1 at *
                    have bdL : Bd (.tuple [.int ta, .int tb]) := ⟨le64 ga (by decide), le64 gb (by decide)⟩
                    have bdH : Bd (.tuple [.int tc, .int te]) := ⟨le64 gc (by decide), le64 ge (by decide)⟩
                    refine ⟨l, rfl, ⟨_, SqT.of hL⟩, fun D hD => ?_⟩
                    have one : ∀ (r : Addr) (x y : Int) (H' : Hp), Same H1 H' → Stq H' r x y → ∀ (σ : L2.St) (R : VK), σ[5]? = some (some (.ref lo)) → σ[6]? = some (some (.ref hi)) → σ[7]? = some (some (.ref r)) → R (.bl (decide (ta * y < x * tb) && decide (x * te < tc * y))) H' →
                        tAndV (tCall (spLess K) [] E0 (tCons (tVar 5) (tCons (tVar 7) tNil))) (tCall (spLess K) [] E0 (tCons (tVar 7) (tCons (tVar 6) tNil))) σ H' R := fun r x y H' e st σ R h5 h6 h7 z => by
                      refine ⟨_, h5, _, h7, _, _, _, _, rfl, anL.same e, st.an, f1, fr_st st.s.2, bdL, st.bd, _, rfl, ?_⟩
                      show if decide (ta * y < x * tb) = true then _ else _
                      by_cases c : ta * y < x * tb
                      · rw [decide_eq_true c, Bool.true_and] at z
                        rw [decide_eq_true c]
                        exact iteT ⟨_, h7, _, h6, _, _, _, _, rfl, st.an, anH.same e, fr_st st.s.2, f2, st.bd, bdH, z⟩
                      · rw [decide_eq_false c, Bool.false_and] at z
                        rw [decide_eq_false c]
                        exact iteF z
                    refine lc_tup (K := K) (a := l) (xs := [.ref p, .ref q]) (fun i H' => H' D = some (.lst (([(decide (ta * y1 < x1 * tb) && decide (x1 * te < tc * y1)), (decide (ta * y2 < x2 * tb) && decide (x2 * te < tc * y2))].take i).map V.bl)) ∧ Same H1 H') ⟨upd_same, same_put hD⟩ (fun i H' _ h => SqT.of (h.2 _ _ hL)) ?_ ?_
                    · rintro i v H2 hv ⟨g1, g2⟩
                      have i2 : i < 2 := (List.getElem?_eq_some_iff.mp hv).1
                      generalize hb1 : (decide (ta * y1 < x1 * tb) && decide (x1 * te < tc * y1)) = t1 at *
                      generalize hb2 : (decide (ta * y2 < x2 * tb) && decide (x2 * te < tc * y2)) = t2 at *
                      have fin : ∀ z : Bool, [t1, t2][i]? = some z → ∃ acc, H2 D = some (HO.lst acc) ∧ acc.length < sizeLine ∧ upd H2 D (HO.lst (acc ++ [.bl z])) D = some (.lst (([t1, t2].take (i + 1)).map V.bl)) ∧ Same H1 (upd H2 D (HO.lst (acc ++ [.bl z]))) := fun z hz =>
                        ⟨_, g1, by rw [List.length_map, List.length_take]; exact small1000 (by simp; omega), by rw [upd_same, List.take_add_one, hz, List.map_append]; rfl, fun b o e => by rw [upd_ne (ne_of_none e hD)]; exact g2 _ _ e⟩
                      match i, i2, hv, fin with
                      | 0, _, hv, fin =>
                        cases hv
                        refine ⟨rfl, one p x1 y1 H2 g2 (s1.same g2) _ _ rfl rfl rfl ?_⟩
                        rw [hb1]
                        exact fin _ rfl
                      | 1, _, hv, fin =>
                        cases hv
                        refine ⟨rfl, one q x2 y2 H2 g2 (s2.same g2) _ _ rfl rfl rfl ?_⟩
                        rw [hb2]
                        exact fin _ rfl
                    rintro H2 ⟨g1, g2⟩
                    refine ⟨D, [(decide (ta * y1 < x1 * tb) && decide (x1 * te < tc * y1)), (decide (ta * y2 < x2 * tb) && decide (x2 * te < tc * y2))], rfl, SqL.of g1, ?_⟩
                    have kz := kk H2 (e1.trans g2)
                    simp only [List.all_cons, List.all_nil, id, Bool.and_true]
                    exact kz
                · rw [show (!(decide (V.int (tc * tb - ta * te) = V.int 1))) = true by rw [decide_eq_false (fun z => c1 (V.int.inj z))]; rfl]
                  have e : numsD x1 y1 x2 y2 n ta tb tc te = false := by
                    unfold numsD
                    rw [decide_eq_false c1, Bool.false_and, Bool.and_false]
                  rw [e] at kk
                  exact iteT (kk _ (Same.refl _))
end
end My
set_option Elab.async false
set_option linter.all false
set_option maxRecDepth 100000
set_option maxHeartbeats 8000000
set_option exponentiation.threshold 2000
namespace My
open PySem PySem.Spec PyProof.Rows L2 Gn Mt
theorem kit_strS : kitB "str" "str" = some true := by decide +kernel
/-- where the checker's words lead -/
structure Ac (P : Program) (w : World) (K : PySem.W.Frag) (mg : Str → Option Value) where
  q : Qs K mg
  dF : Addr
  dP : Addr
  gF : mg "FORMS_checker" = some (.ref dF)
  gP : mg "_PROOFS" = some (.ref dP)
  es : Array DictEntry
  n : Nat
  D : KDict K w dF es n
  es2 : Array DictEntry
  n2 : Nat
  D2 : KDict K w dP es2 n2
  fh : Addr × FuncData
  fp : Addr × FuncData
  eF : PySem.W.nsIn K dF "alike" = some (some (.ref fh.1))
  eP : PySem.W.nsIn K dP "alike" = some (some (.ref fp.1))
  dh : Df K mg "_has_steps" sHasSteps ["told"] fh.1 fh.2
  dp : Df K mg "_are_alike" sAlike ["told", "paper"] fp.1 fp.2
section
variable {P : Program} {w : World} {K : PySem.W.Frag} {mg : Str → Option Value} {base : Heap}
theorem ok_acc {f : Addr} {fd : FuncData} (F : Fun K "accepts" "accepts" sAcc f fd) (M : Ac P w K mg) : FnOk P w K mg base CX0 5 f fd ["claim", "paper"] (spAcc K) := by
  have GH : FnOk P w K mg base CX0 4 M.fh.1 M.fh.2 ["told"] spHasS := ok_hasSteps M.dh.F M.q
  have GP : FnOk P w K mg base CX0 3 M.fp.1 M.fp.2 ["told", "paper"] (spAlike K) := ok_alike M.dp.F M.q
  refine F.ok scAcc (fun vs H Q E h => ?_) (fun cdv A outer s H vs Q E hr h => ?_)
  · obtain ⟨c, p, q, x1, y1, x2, y2, n, v, d, rfl, _⟩ := h
    rfl
  · obtain ⟨c, p, q, x1, y1, x2, y2, n, v, d, rfl, hC, s1, s2, n1, an, gp, k⟩ := h
    have hr3 : Room 3 _ := hr.mono (by decide)
    refine ⟨_, pss_cons (ps_if (PW.pt (pw_or (pt_not (pt_val (pe_callB call_isi (by rfl) M.q.c.isi (by decide +kernel) (pa_cons (pv 0) (pa_cons (pe_bltn (v := .ty "tuple") (by rfl) M.q.c.tuple (by decide +kernel) rfl) pa_nil)))))
        (pw_or (pt_not (pt_truth (pv 0) (by intro _; rfl)))
        (pw_or1 (pt_not (pt_val (pe_callB call_isi (by rfl) M.q.c.isi (by decide +kernel) (pa_cons (pe_ix ix_tup (pv 0) pe_int (fun _ _ => rfl)) (pa_cons (pe_bltn (v := .ty "str") (by rfl) M.q.str (by decide +kernel) rfl) pa_nil))))))))) (pss_one (ps_ret pe_bl)) pss_nil)
      (pss_cons (ps_par (i := 2) (j := 3) (by rfl) scAcc.nd rfl rfl (by decide) rfl rfl (pa_cons (pe_ix ix_tup (pv 0) pe_int (fun _ _ => rfl)) (pa_cons (pe_slice sl_tup (pv 0) (po_some pe_int) po_none) pa_nil)) (by rfl))
      (pss_cons (ps_if (pt_cmpR (op_notIn_kd M.D) (pv 2) (pe_glob (v := .ref M.dF) rfl M.gF rfl) (by rfl)) (pss_one (ps_ret pe_bl)) pss_nil)
      (pss_cons (ps_set (i := 4) scAcc.nd rfl (.inl rfl) (pe_ix ix_kdict (pe_glob (v := .ref M.dF) rfl M.gF rfl) (pv 2) (fun _ _ => rfl)))
      (pss_cons (ps_set (i := 5) scAcc.nd rfl (.inl rfl) (pe_ix ix_kdict (pe_glob (v := .ref M.dP) rfl M.gP rfl) (pv 2) (fun _ _ => rfl)))
      (pss_one (ps_ret (pe_and (pe_callL (i := 4) (f := M.fh.1) GH hr rfl (.inl rfl) M.dh.F.kp M.dh.b .nil pass0 (pa_cons (pv 3) pa_nil))
        (pe_one (pe_callL (i := 5) (f := M.fp.1) GP hr3 rfl (.inl rfl) M.dp.F.kp M.dp.b .nil pass0 (pa_cons (pv 3) (pa_cons (pv 1) pa_nil))))))))))), ?_⟩
    have anc : An K H (.ref c) (.tuple [.str "alike", .tuple [.int x1, .int y1], .tuple [.int x2, .int y2], .int n]) := .tup hC (.cons (.str _) (.cons s1.an (.cons s2.an (.cons (.int _) .nil))))
    refine ⟨_, rfl, _, .ty "tuple", _, _, _, rfl, .ty "tuple", anc.ty, kit_ty kit_tup, _, rfl, iteF ?_⟩
    refine ⟨_, rfl, true, .inr (.inl ⟨_, SqT.of hC, rfl⟩), iteF ?_⟩
    refine ⟨_, rfl, c, _, 0, .str "alike", rfl, rfl, SqT.of hC, at_of (j := 0) rfl rfl, _, .ty "str", _, _, _, rfl, .ty "str", (An.str (K := K) (H := H) "alike").ty, kit_ty kit_strS, _, rfl, iteF ?_⟩
    refine ⟨_, rfl, c, _, 0, .str "alike", rfl, rfl, SqT.of hC, at_of (j := 0) rfl rfl, _, rfl, 1, rfl, c, _, rfl, SqT.of hC, (by show ¬ (HT.sIx 4 0 (some 1) = 0 ∧ HT.sIx 4 4 none = 4); decide), fun a ha => ⟨_, _, rfl, ?_⟩⟩
    have s3 := same_put (o := HO.tup (cutV [V.str "alike", .ref p, .ref q, .int n] (some 1) none)) ha
    have hA : upd H a (HO.tup (cutV [V.str "alike", .ref p, .ref q, .int n] (some 1) none)) a = some (.tup [.ref p, .ref q, .int n]) := upd_same
    generalize upd H a (HO.tup (cutV [V.str "alike", .ref p, .ref q, .int n] (some 1) none)) = H1 at *
    refine ⟨_, rfl, "alike", _, rfl, rfl, M.eF, _, rfl, iteF ?_⟩
    refine ⟨_, rfl, M.dF, "alike", .ref M.fh.1, rfl, rfl, ⟨M.es, M.n, _, M.D.at_, M.D.lit, M.eF, rfl⟩, ?_⟩
    refine ⟨_, rfl, M.dP, "alike", .ref M.fp.1, rfl, rfl, ⟨M.es2, M.n2, _, M.D2.at_, M.D2.lit, M.eP, rfl⟩, ?_⟩
    refine ⟨rfl, _, rfl, a, p, q, x1, y1, x2, y2, n, rfl, hA, s1.same s3, s2.same s3, n1, _, rfl, iteT ?_⟩
    exact ⟨rfl, _, rfl, _, rfl, a, p, q, x1, y1, x2, y2, n, v, d, rfl, hA, s1.same s3, s2.same s3, an.same s3, gp, fun H2 s4 => k _ (s3.trans s4)⟩
end
end My
set_option Elab.async false
set_option linter.all false
set_option maxRecDepth 100000
set_option maxHeartbeats 8000000
set_option exponentiation.threshold 2000
namespace My
open PySem PySem.Spec PyProof.Rows L2 Gn Mt
/-! neighbours, and steps between them -/
abbrev sCloseL : Stmt := top 103
abbrev sAmidL : Stmt := top 104
abbrev NCl : List Str := ["_law_reel_here", "_law_a", "_law_b", "_law_c", "_law_d", "_law_lap", "_law_many"]
abbrev NAm : List Str := ["_law_reel_here", "_law_first", "_law_last", "_law_k", "_law_m"]
theorem scCloseL : FnScope NCl ["_law_reel_here"] (defScope sCloseL) := ⟨rfl, rfl, rfl, by decide +kernel, rfl, by decide +kernel, by decide +kernel⟩
theorem scAmidL : FnScope NAm ["_law_reel_here", "_law_first", "_law_last"] (defScope sAmidL) := ⟨rfl, rfl, rfl, by decide +kernel, rfl, by decide +kernel, by decide +kernel⟩
/-- a / b and c / d are neighbours, k laps old -/
structure Nb (k : Nat) (a b c d : Int) : Prop where
  a0 : 0 ≤ a
  b1 : 1 ≤ b
  c1 : 1 ≤ c
  d1 : 1 ≤ d
  det : c * b - a * d = 1
  ab : a < b
  cd : c ≤ d
  bb : b ≤ ((10001 ^ k : Nat) : Int)
  db : d ≤ ((10001 ^ k : Nat) : Int)
theorem pow_more (k : Nat) : ((10001 ^ (k + 1) : Nat) : Int) = ((10001 ^ k : Nat) : Int) * 10001 := by
  rw [Nat.pow_succ, Int.natCast_mul]; rfl
theorem mul_up {m x M : Int} (m1 : m ≤ 10000) (x0 : 0 ≤ x) (h : x ≤ M) : m * x ≤ 10000 * M := by
  have h1 := Int.mul_le_mul_of_nonneg_right m1 x0
  omega
theorem Nb.l {k : Nat} {a b c d m : Int} (h : Nb k a b c d) (m0 : 1 ≤ m) (m1 : m ≤ 10000) : Nb (k + 1) (a + m * c) (b + m * d) c d := by
  have a0 := h.a0; have b1 := h.b1; have c1 := h.c1; have d1 := h.d1; have det := h.det; have ab := h.ab; have cd := h.cd; have bb := h.bb; have db := h.db
  have mc : 0 ≤ m * c := Int.mul_nonneg (by omega) (by omega)
  have mcd : m * c ≤ m * d := Int.mul_le_mul_of_nonneg_left cd (by omega)
  have mu := mul_up (m := m) m1 (show 0 ≤ d by omega) db
  have pm := pow_more k
  refine ⟨by omega, by omega, c1, d1, ?_, by omega, cd, by omega, by omega⟩
  rw [Int.mul_add, Int.add_mul]
  have e : c * (m * d) = m * c * d := by rw [← Int.mul_assoc, Int.mul_comm c m]
  omega
theorem Nb.r {k : Nat} {a b c d m : Int} (h : Nb k a b c d) (m0 : 1 ≤ m) (m1 : m ≤ 10000) : Nb (k + 1) a b (c + m * a) (d + m * b) := by
  have a0 := h.a0; have b1 := h.b1; have c1 := h.c1; have d1 := h.d1; have det := h.det; have ab := h.ab; have cd := h.cd; have bb := h.bb; have db := h.db
  have ma : 0 ≤ m * a := Int.mul_nonneg (by omega) (by omega)
  have mab : m * a ≤ m * b := Int.mul_le_mul_of_nonneg_left (by omega) (by omega)
  have mu := mul_up (m := m) m1 (show 0 ≤ b by omega) bb
  have pm := pow_more k
  refine ⟨a0, b1, by omega, by omega, ?_, ab, by omega, by omega, by omega⟩
  rw [Int.mul_add, Int.add_mul]
  have e : a * (m * b) = m * a * b := by rw [← Int.mul_assoc, Int.mul_comm a m]
  omega
/-- neighbours, none too great -/
structure Ends (a b c d : Int) : Prop where
  a0 : 0 ≤ a
  b1 : 1 ≤ b
  c1 : 1 ≤ c
  d1 : 1 ≤ d
  det : c * b - a * d = 1
  ab : a < b
  cd : c ≤ d
  bb : b ≤ 10 ^ 45
  db : d ≤ 10 ^ 45
theorem Nb.ends {k : Nat} {a b c d : Int} (h : Nb k a b c d) (hk : k ≤ 11) : Ends a b c d := by
  have le : ((10001 ^ k : Nat) : Int) ≤ 10 ^ 45 := by
    have h1 : 10001 ^ k ≤ 10001 ^ 11 := Nat.pow_le_pow_right (by decide) hk
    have h2 : (10001 : Nat) ^ 11 ≤ 10 ^ 45 := by decide
    have h3 : ((10 ^ 45 : Nat) : Int) = 10 ^ 45 := by decide
    omega
  exact ⟨h.a0, h.b1, h.c1, h.d1, h.det, h.ab, h.cd, Int.le_trans h.bb le, Int.le_trans h.db le⟩
def spCloseL : Sp := fun vs H Q _ => ∃ (t : Addr) (N : Int), vs = [.ref t] ∧ Reel H t N ∧ N < 2 ^ 50 ∧
  ∀ q p r a b c d H', H' q = some (.lst [.ref p, .ref r]) → H' p = some (.tup [.int a, .int b]) → H' r = some (.tup [.int c, .int d]) → Ends a b c d → Spun H H' t (N + 40) → Q (.ref q) H'
def spAmidL : Sp := fun vs H Q _ => ∃ (t p r : Addr) (a b c d N : Int), vs = [.ref t, .ref p, .ref r] ∧ Reel H t N ∧ N < 2 ^ 50 ∧ H p = some (.tup [.int a, .int b]) ∧ H r = some (.tup [.int c, .int d]) ∧ Ends a b c d ∧
  ∀ q x y H', Stq H' q x y → Spun H H' t (N + 2) → Q (.ref q) H'
section
variable {P : Program} {w : World} {K : PySem.W.Frag} {mg : Str → Option Value} {base : Heap}
theorem ok_close {f fS fP : Addr} {fd fdS fdP : FuncData} (F : Fun K "_law_close" "_law_close" sCloseL f fd) (B : Bl mg) (rg : mg "range" = none) (S : Df K mg "_law_spin" sSpin ["_law_reel_here", "_law_many"] fS fdS) (Pk : Df K mg "_law_one" sOne ["_law_reel_here", "_law_menu"] fP fdP) : FnOk P w K mg base CX0 3 f fd ["_law_reel_here"] spCloseL := by
  have GS : FnOk P w K mg base CX0 1 fS fdS ["_law_reel_here", "_law_many"] spSpin := ok_spin S.F B
  have GP : FnOk P w K mg base CX0 2 fP fdP ["_law_reel_here", "_law_menu"] spOne := ok_one Pk.F B S
  refine F.ok scCloseL (fun vs H Q E h => ?_) (fun cdv A outer s H vs Q E hr h => ?_)
  · obtain ⟨t, N, rfl, _⟩ := h
    rfl
  · obtain ⟨t, N, rfl, T, NN, q⟩ := h
    have hr1 : Room 1 _ := hr.mono (by decide)
    refine ⟨_, pss_cons (ps_asg (pe_tup (pa_cons pe_int (pa_cons pe_int (pa_cons pe_int (pa_cons pe_int pa_nil))))) (pg_tup (by rfl) (pgs_cons (pg_name (i := 1) scCloseL.nd rfl (.inl rfl)) (pgs_cons (pg_name (i := 2) scCloseL.nd rfl (.inl rfl)) (pgs_cons (pg_name (i := 3) scCloseL.nd rfl (.inl rfl)) (pgs_cons (pg_name (i := 4) scCloseL.nd rfl (.inl rfl)) pgs_nil))))))
      (pss_cons (ps_for PassesOwn.never rfl (pi_range1 rfl rg (pa_cons (pe_call GS hr1 (by rfl) S.g S.F.kp S.b .nil pass0 (pa_cons (pv 0) (pa_cons pe_int pa_nil))) pa_nil)) (pg_name (i := 5) scCloseL.nd rfl (.inl rfl))
        (pss_cons (ps_set (i := 6) scCloseL.nd rfl (.inl rfl) (pe_op op_add pe_int (pe_call GS hr1 (by rfl) S.g S.F.kp S.b .nil pass0 (pa_cons (pv 0) (pa_cons (pe_call GP hr (by rfl) Pk.g Pk.F.kp Pk.b .nil pass0 (pa_cons (pv 0) (pa_cons (pe_lst (pa_cons pe_int (pa_cons pe_int (pa_cons pe_int (pa_cons (pe_op op_pow pe_int pe_int) pa_nil))))) pa_nil))) pa_nil)))))
        (pss_one (ps_if (pt_cmpR op_eq (pe_call GS hr1 (by rfl) S.g S.F.kp S.b .nil pass0 (pa_cons (pv 0) (pa_cons pe_int pa_nil))) pe_int (nomark _))
          (pss_one (ps_par (i := 1) (j := 2) (by rfl) scCloseL.nd rfl rfl (by decide) rfl rfl (pa_cons (pe_op op_add (pv 1) (pe_op op_mulW (pv 6) (pv 3))) (pa_cons (pe_op op_add (pv 2) (pe_op op_mulW (pv 6) (pv 4))) pa_nil)) (by rfl)))
          (pss_one (ps_par (i := 3) (j := 4) (by rfl) scCloseL.nd rfl rfl (by decide) rfl rfl (pa_cons (pe_op op_add (pv 3) (pe_op op_mulW (pv 6) (pv 1))) (pa_cons (pe_op op_add (pv 4) (pe_op op_mulW (pv 6) (pv 2))) pa_nil)) (by rfl)))))))
      (pss_one (ps_ret (pe_lst (pa_cons (pe_tup (pa_cons (pv 1) (pa_cons (pv 2) pa_nil))) (pa_cons (pe_tup (pa_cons (pv 3) (pa_cons (pv 4) pa_nil))) pa_nil)))))), ?_⟩
    refine ⟨(by show 4 ≤ sizeLine; decide), fun p0 hp0 => ⟨p0, _, rfl, SqT.of upd_same, rfl, _, _, rfl, _, _, rfl, _, _, rfl, _, _, rfl, rfl, ?_⟩⟩
    have e0 := same_put (o := HO.tup [.int 0, .int 1, .int 1, .int 1]) hp0
    have S0 := Spun.ofSame T e0
    generalize upd H p0 (HO.tup [.int 0, .int 1, .int 1, .int 1]) = H0 at *
    refine ⟨_, rfl, t, 12, N, rfl, S0.r, by omega, by decide, by decide, fun n H1 n0 n1 s1 => ⟨n, rfl, by omega, by omega, for_range (lo := 0) (n := n.toNat) (fun i σ H' => ∃ lap many a b c d, σ = [some (.ref t), some (.int a), some (.int b), some (.int c), some (.int d), lap, many] ∧ Nb i a b c d ∧ Spun H H' t (N + 1 + 3 * (i : Int))) ⟨_, _, _, _, _, _, rfl, ⟨by decide, by decide, by decide, by decide, by decide, by decide, by decide, by decide, by decide⟩, (S0.trans s1).le (by omega)⟩ ?_ ?_⟩⟩
    · rintro i σ H2 hi ⟨lap, many, a, b, c, d, rfl, nb, S2⟩
      refine ⟨_, rfl, _, rfl, _, _, rfl, rfl, ⟨by decide, by decide, by decide⟩, (by show 4 ≤ sizeLine; decide), fun m hm => ?_⟩
      have e3 := same_put (o := HO.lst (([1, 2, 5, 10 ^ 4] : List Int).map V.int)) hm
      refine ⟨t, m, ([1, 2, 5, 10 ^ 4] : List Int).map V.int, N + 1 + 3 * (i : Int), rfl, S2.r.same e3, by omega, upd_same, S2.r.not hm, by decide, by decide, fun x H4 hx s4 => ?_⟩
      obtain ⟨z, hz, rfl⟩ := List.mem_map.mp hx
      have zb : 0 < z ∧ z ≤ 10000 := by
        have : ∀ z ∈ ([1, 2, 5, 10 ^ 4] : List Int), 0 < z ∧ z ≤ 10000 := by decide
        exact this z hz
      have S4 := S2.trans ((Spun.ofSame S2.r e3).trans s4)
      refine ⟨t, z, _, rfl, S4.r, by omega, zb.1, Nat.lt_of_le_of_lt (show z.natAbs ≤ 10000 by omega) (by decide), fun e H5 e0 e1 s5 => ?_⟩
      have S5 := S4.trans s5
      refine ⟨_, _, rfl, rfl, ?_⟩
      refine ⟨_, rfl, t, 2, _, rfl, S5.r, by omega, by decide, by decide, fun g H6 g0 g1 s6 => ⟨rfl, _, rfl, ?_⟩⟩
      have S6 := (S5.trans s6).le (M := N + 1 + 3 * ((i + 1 : Nat) : Int)) (by omega)
      have m300 : (1 + e).natAbs < 2 ^ 300 := Nat.lt_of_le_of_lt (show (1 + e).natAbs ≤ 10000 by omega) (by decide)
      have en := nb.ends (by omega)
      have a0 := en.a0; have b1 := en.b1; have c1 := en.c1; have d1 := en.d1; have ab := en.ab; have cd := en.cd; have bb := en.bb; have db := en.db
      have up : ∀ z : Int, 0 ≤ z → z ≤ 10 ^ 45 → z.natAbs < 2 ^ 300 := fun z h0 h1 => by
        have : (10 : Int) ^ 45 < ((2 ^ 300 : Nat) : Int) := by decide
        omega
      refine ite2 (fun _ => ?_) (fun _ => ?_)
      · refine ⟨_, rfl, _, rfl, _, rfl, _, _, rfl, rfl, wide_mul (a := 300) (b := 300) m300 (up c (by omega) (by omega)) (by decide) (by decide) (by decide), _, _, rfl, rfl, _, rfl, _, rfl, _, rfl, _, _, rfl, rfl, wide_mul (a := 300) (b := 300) m300 (up d (by omega) (by omega)) (by decide) (by decide) (by decide), _, _, rfl, rfl, _, _, rfl, ?_⟩
        exact ⟨_, _, _, _, _, _, rfl, nb.l (by omega) (by omega), S6⟩
      · refine ⟨_, rfl, _, rfl, _, rfl, _, _, rfl, rfl, wide_mul (a := 300) (b := 300) m300 (up a (by omega) (by omega)) (by decide) (by decide) (by decide), _, _, rfl, rfl, _, rfl, _, rfl, _, rfl, _, _, rfl, rfl, wide_mul (a := 300) (b := 300) m300 (up b (by omega) (by omega)) (by decide) (by decide) (by decide), _, _, rfl, rfl, _, _, rfl, ?_⟩
        exact ⟨_, _, _, _, _, _, rfl, nb.r (by omega) (by omega), S6⟩
    · rintro σ H2 ⟨lap, many, a, b, c, d, rfl, nb, S2⟩
      refine ⟨_, rfl, _, rfl, (by show 2 ≤ sizeLine; decide), fun p hp => ⟨_, rfl, _, rfl, (by show 2 ≤ sizeLine; decide), fun r hr' => ⟨(by show 2 ≤ sizeLine; decide), fun l hl => ?_⟩⟩⟩
      have f1 := same_put (o := HO.tup [.int a, .int b]) hp
      have f2 := same_put (o := HO.tup [.int c, .int d]) hr'
      have f3 := same_put (o := HO.lst [.ref p, .ref r]) hl
      have g1 : upd H2 p (HO.tup [.int a, .int b]) p = some (.tup [.int a, .int b]) := upd_same
      have g2 : upd (upd H2 p (HO.tup [.int a, .int b])) r (HO.tup [.int c, .int d]) r = some (.tup [.int c, .int d]) := upd_same
      exact q l p r a b c d _ upd_same (f3 _ _ (f2 _ _ g1)) (f3 _ _ g2) (nb.ends (by omega)) ((S2.trans (Spun.ofSame S2.r ((f1.trans f2).trans f3))).le (by omega))
theorem ok_amid {f fS fG : Addr} {fd fdS fdG : FuncData} (F : Fun K "_law_amid" "_law_amid" sAmidL f fd) (B : Bl mg) (S : Df K mg "_law_spin" sSpin ["_law_reel_here", "_law_many"] fS fdS) (G : Df K mg "_law_short" sShort ["_law_top", "_law_bottom"] fG fdG) : FnOk P w K mg base CX0 2 f fd ["_law_reel_here", "_law_first", "_law_last"] spAmidL := by
  have GS : FnOk P w K mg base CX0 1 fS fdS ["_law_reel_here", "_law_many"] spSpin := ok_spin S.F B
  have GG : FnOk P w K mg base CX0 1 fG fdG ["_law_top", "_law_bottom"] spShort := ok_short G.F B
  refine F.ok scAmidL (fun vs H Q E h => ?_) (fun cdv A outer s H vs Q E hr h => ?_)
  · obtain ⟨t, p, r, a, b, c, d, N, rfl, _⟩ := h
    rfl
  · obtain ⟨t, p, r, a, b, c, d, N, rfl, T, NN, hp, hq, en, q⟩ := h
    refine ⟨_, pss_cons (ps_par (i := 3) (j := 4) (by rfl) scAmidL.nd rfl rfl (by decide) rfl rfl (pa_cons (pe_op op_add pe_int (pe_call GS hr (by rfl) S.g S.F.kp S.b .nil pass0 (pa_cons (pv 0) (pa_cons pe_int pa_nil)))) (pa_cons (pe_op op_add pe_int (pe_call GS hr (by rfl) S.g S.F.kp S.b .nil pass0 (pa_cons (pv 0) (pa_cons pe_int pa_nil)))) pa_nil)) (by rfl))
      (pss_one (ps_ret (pe_call GG hr (by rfl) G.g G.F.kp G.b .nil pass0 (pa_cons (pe_op op_add (pe_op op_mulW (pv 3) (pe_ix ix_tup (pv 1) pe_int (fun _ _ => rfl))) (pe_op op_mulW (pv 4) (pe_ix ix_tup (pv 2) pe_int (fun _ _ => rfl))))
        (pa_cons (pe_op op_add (pe_op op_mulW (pv 3) (pe_ix ix_tup (pv 1) pe_int (fun _ _ => rfl))) (pe_op op_mulW (pv 4) (pe_ix ix_tup (pv 2) pe_int (fun _ _ => rfl)))) pa_nil))))), ?_⟩
    have a0 := en.a0; have b1 := en.b1; have c1 := en.c1; have d1 := en.d1; have ab := en.ab; have cd := en.cd; have bb := en.bb; have db := en.db
    have l45 : (10 : Int) ^ 45 * 20 < ((2 ^ 200 : Nat) : Int) := by decide
    have l3 : (2 : Nat) ^ 200 ≤ 2 ^ 300 := by decide
    have up : ∀ z : Int, 0 ≤ z → z ≤ 10 ^ 45 → z.natAbs < 2 ^ 300 := fun z h0 h1 => by omega
    refine ⟨_, rfl, t, 9, N, rfl, T, by omega, by decide, by decide, fun k H1 k0 k1 s1 => ⟨_, _, rfl, rfl, ?_⟩⟩
    refine ⟨_, rfl, t, 9, N + 1, rfl, s1.r, by omega, by decide, by decide, fun m H2 m0 m1 s2 => ⟨_, _, rfl, rfl, _, _, rfl, ?_⟩⟩
    have S2 := s1.trans s2
    have hp2 := S2.keep _ _ hp (fun z => by obtain ⟨_, _, _, h, _⟩ := T; rw [← z, hp] at h; cases h)
    have hq2 := S2.keep _ _ hq (fun z => by obtain ⟨_, _, _, h, _⟩ := T; rw [← z, hq] at h; cases h)
    have k300 : (1 + k).natAbs < 2 ^ 300 := Nat.lt_of_le_of_lt (show (1 + k).natAbs ≤ 9 by omega) (by decide)
    have m300 : (1 + m).natAbs < 2 ^ 300 := Nat.lt_of_le_of_lt (show (1 + m).natAbs ≤ 9 by omega) (by decide)
    refine ⟨_, rfl, _, rfl, p, _, 0, .int a, rfl, rfl, SqT.of hp2, at_of (j := 0) rfl rfl, _, _, rfl, rfl, wide_mul (a := 300) (b := 300) k300 (up a (by omega) (by omega)) (by decide) (by decide) (by decide), ?_⟩
    refine ⟨_, rfl, _, rfl, r, _, 0, .int c, rfl, rfl, SqT.of hq2, at_of (j := 0) rfl rfl, _, _, rfl, rfl, wide_mul (a := 300) (b := 300) m300 (up c (by omega) (by omega)) (by decide) (by decide) (by decide), _, _, rfl, rfl, ?_⟩
    refine ⟨_, rfl, _, rfl, p, _, 1, .int b, rfl, rfl, SqT.of hp2, at_of (j := 1) rfl rfl, _, _, rfl, rfl, wide_mul (a := 300) (b := 300) k300 (up b (by omega) (by omega)) (by decide) (by decide) (by decide), ?_⟩
    refine ⟨_, rfl, _, rfl, r, _, 1, .int d, rfl, rfl, SqT.of hq2, at_of (j := 1) rfl rfl, _, _, rfl, rfl, wide_mul (a := 300) (b := 300) m300 (up d (by omega) (by omega)) (by decide) (by decide) (by decide), _, _, rfl, rfl, ?_⟩
    have ka : 0 ≤ (1 + k) * a := Int.mul_nonneg (by omega) a0
    have mc : 0 ≤ (1 + m) * c := Int.mul_nonneg (by omega) (by omega)
    have kab : (1 + k) * a < (1 + k) * b := Int.mul_lt_mul_of_pos_left ab (by omega)
    have mcd : (1 + m) * c ≤ (1 + m) * d := Int.mul_le_mul_of_nonneg_left cd (by omega)
    have kb : (1 + k) * b ≤ 9 * b := Int.mul_le_mul_of_nonneg_right (by omega) (by omega)
    have md : (1 + m) * d ≤ 9 * d := Int.mul_le_mul_of_nonneg_right (by omega) (by omega)
    refine ⟨_, _, rfl, by omega, by omega, by omega, fun z hz => ?_⟩
    obtain ⟨st, le⟩ := low_step (a := (1 + k) * a + (1 + m) * c) (b := (1 + k) * b + (1 + m) * d) (by omega) (by omega)
    refine q z _ _ _ ⟨⟨upd_same, st⟩, ?_⟩ (S2.trans (Spun.ofSame S2.r (same_put hz)) |>.le (by omega))
    have := st.x0
    have := st.xy
    omega
end
end My
set_option Elab.async false
set_option maxRecDepth 100000
set_option maxHeartbeats 1000000
set_option linter.all false
/-! where two steps make unlike orders -/
namespace Mt
/-! an order tells how the places lie -/
theorem get_lt {l : List Int} (h : l.Pairwise (· < ·)) {i j : Nat} {u v : Int} (hi : l[i]? = some u) (hj : l[j]? = some v) : i < j ↔ u < v := by
  obtain ⟨h1, e1⟩ := List.getElem?_eq_some_iff.mp hi
  obtain ⟨h2, e2⟩ := List.getElem?_eq_some_iff.mp hj
  subst e1 e2
  have p := List.pairwise_iff_getElem.mp h
  constructor
  · exact p i j h1 h2
  · intro q
    rcases Nat.lt_trichotomy i j with c | c | c
    · exact c
    · subst c; omega
    · have := p j i h2 h1 c; omega
theorem ord_lt {f : Int → Int} {ms : List Int} {i j : Int} (hi : i ∈ ms) (hj : j ∈ ms) : f i < f j ↔ ∃ (a b : Nat) (g h : List Int), a < b ∧ (ord f ms)[a]? = some g ∧ i ∈ g ∧ (ord f ms)[b]? = some h ∧ j ∈ h := by
  have at_ : ∀ k ∈ ms, ∃ a, (sortU (ms.map f))[a]? = some (f k) := fun k hk => List.mem_iff_getElem?.mp (sortU_mem.mpr (List.mem_map.mpr ⟨k, hk, rfl⟩))
  constructor
  · intro c
    obtain ⟨a, ha⟩ := at_ i hi
    obtain ⟨b, hb⟩ := at_ j hj
    refine ⟨a, b, grp f ms (f i), grp f ms (f j), (get_lt (sortU_pw _) ha hb).mpr c, ?_, ?_, ?_, ?_⟩
    · unfold ord; rw [List.getElem?_map, ha]; rfl
    · exact List.mem_filter.mpr ⟨hi, by simp⟩
    · unfold ord; rw [List.getElem?_map, hb]; rfl
    · exact List.mem_filter.mpr ⟨hj, by simp⟩
  · rintro ⟨a, b, g, h, c, hg, ig, hh, jh⟩
    unfold ord at hg hh
    rw [List.getElem?_map] at hg hh
    obtain ⟨u, hu, rfl⟩ := Option.map_eq_some_iff.mp hg
    obtain ⟨v, hv, rfl⟩ := Option.map_eq_some_iff.mp hh
    have e1 : f i = u := by simpa using (List.mem_filter.mp ig).2
    have e2 : f j = v := by simpa using (List.mem_filter.mp jh).2
    rw [e1, e2]
    exact (get_lt (sortU_pw _) hu hv).mp c
/-- orders that are the same: the places lie the same -/
theorem ord_same_lt {f g : Int → Int} {ms : List Int} (h : ord f ms = ord g ms) {i j : Int} (hi : i ∈ ms) (hj : j ∈ ms) : f i < f j ↔ g i < g j := by
  rw [ord_lt hi hj, ord_lt hi hj, h]
/-- places that lie the same: the same orders -/
theorem ord_of_lt {f g : Int → Int} {ms : List Int} (h : ∀ i ∈ ms, ∀ j ∈ ms, f i < f j ↔ g i < g j) : ord f ms = ord g ms := by
  have he : ∀ i ∈ ms, ∀ j ∈ ms, f i = f j ↔ g i = g j := fun i hi j hj => by
    have h1 := h i hi j hj
    have h2 := h j hj i hi
    omega
  -- a mark at each place
  have key : ∀ l : List Int, (∀ v ∈ l, v ∈ ms.map f) → ∃ ks : List Int, ks.map f = l ∧ ∀ k ∈ ks, k ∈ ms := by
    intro l
    induction l with
    | nil => exact fun _ => ⟨[], rfl, fun k hk => by simp at hk⟩
    | cons v l ih =>
      intro hl
      obtain ⟨k, hk, e⟩ := List.mem_map.mp (hl v List.mem_cons_self)
      obtain ⟨ks, e2, hks⟩ := ih fun u hu => hl u (List.mem_cons_of_mem _ hu)
      refine ⟨k :: ks, by rw [List.map_cons, e, e2], fun z hz => ?_⟩
      rcases List.mem_cons.mp hz with rfl | hz
      · exact hk
      · exact hks z hz
  obtain ⟨ks, e1, hks⟩ := key (sortU (ms.map f)) fun v hv => sortU_mem.mp hv
  have pf : (ks.map f).Pairwise (· < ·) := by rw [e1]; exact sortU_pw _
  have pg : (ks.map g).Pairwise (· < ·) := by
    rw [List.pairwise_map] at pf ⊢
    exact pf.imp_of_mem fun {a b} ha hb c => (h a (hks a ha) b (hks b hb)).mp c
  have e2 : sortU (ms.map g) = ks.map g := strict_one (sortU_pw _) pg fun v => by
    rw [sortU_mem]
    constructor
    · intro hv
      obtain ⟨i, hi, rfl⟩ := List.mem_map.mp hv
      have : f i ∈ ks.map f := by rw [e1, sortU_mem]; exact List.mem_map.mpr ⟨i, hi, rfl⟩
      obtain ⟨k, hk, e⟩ := List.mem_map.mp this
      exact List.mem_map.mpr ⟨k, hk, (he k (hks k hk) i hi).mp e⟩
    · intro hv
      obtain ⟨k, hk, rfl⟩ := List.mem_map.mp hv
      exact List.mem_map.mpr ⟨k, hks k hk, rfl⟩
  unfold ord
  rw [← e1, e2, List.map_map, List.map_map]
  refine List.map_congr_left fun k hk => ?_
  refine List.filter_congr fun i hi => ?_
  have := he i hi k (hks k hk)
  by_cases c : f i = f k
  · rw [beq_iff_eq.mpr c, beq_iff_eq.mpr (this.mp c)]
  · rw [beq_eq_false_iff_ne.mpr c, beq_eq_false_iff_ne.mpr fun z => c (this.mpr z)]
/-! the arithmetic -/
/-- x1 / x2 below y1 / y2, both from 0 on below 1 -/
structure Pair (x1 x2 y1 y2 : Int) : Prop where
  a0 : 0 ≤ x1
  a1 : x1 < x2
  b0 : 0 ≤ y1
  b1 : y1 < y2
  lt : x1 * y2 < y1 * x2
/-- p / q lies between, nothing with a lesser bottom does -/
structure Least (x1 x2 y1 y2 p q : Int) : Prop where
  q0 : 0 < q
  lo : x1 * q ≤ p * x2
  hi : p * y2 ≤ y1 * q
  no : ∀ r s, 0 < s → s < q → x1 * s ≤ r * x2 → r * y2 ≤ y1 * s → False
theorem Pair.mul {x1 x2 y1 y2 : Int} (P : Pair x1 x2 y1 y2) {r s : Int} (s0 : 0 < s) (h : r * x2 < x1 * s) : r * y2 < y1 * s := by
  have a0 := P.a0
  have a1 := P.a1
  have b0 := P.b0
  have b1 := P.b1
  have h1 : r * x2 * y2 < x1 * s * y2 := Int.mul_lt_mul_of_pos_right h (by omega)
  have h2 : x1 * y2 * s < y1 * x2 * s := Int.mul_lt_mul_of_pos_right P.lt s0
  have e1 : x1 * s * y2 = x1 * y2 * s := Int.mul_right_comm _ _ _
  have e2 : y1 * x2 * s = y1 * s * x2 := Int.mul_right_comm _ _ _
  have e3 : r * x2 * y2 = r * y2 * x2 := Int.mul_right_comm _ _ _
  have h3 : r * y2 * x2 < y1 * s * x2 := by omega
  exact Int.lt_of_mul_lt_mul_right h3 (by omega)
theorem Pair.mul' {x1 x2 y1 y2 : Int} (P : Pair x1 x2 y1 y2) {r s : Int} (s0 : 0 < s) (h : y1 * s < r * y2) : x1 * s < r * x2 := by
  have a0 := P.a0
  have a1 := P.a1
  have b0 := P.b0
  have b1 := P.b1
  have h1 : y1 * s * x2 < r * y2 * x2 := Int.mul_lt_mul_of_pos_right h (by omega)
  have h2 : x1 * y2 * s < y1 * x2 * s := Int.mul_lt_mul_of_pos_right P.lt s0
  have e1 : x1 * s * y2 = x1 * y2 * s := Int.mul_right_comm _ _ _
  have e2 : y1 * x2 * s = y1 * s * x2 := Int.mul_right_comm _ _ _
  have e3 : r * x2 * y2 = r * y2 * x2 := Int.mul_right_comm _ _ _
  have h3 : x1 * s * y2 < r * x2 * y2 := by omega
  exact Int.lt_of_mul_lt_mul_right h3 (by omega)
/-- at a lesser bottom both have the same whole part, and a rest -/
theorem Least.floor {x1 x2 y1 y2 p q : Int} (P : Pair x1 x2 y1 y2) (L : Least x1 x2 y1 y2 p q) {s : Int} (s0 : 0 < s) (sq : s < q) :
    ∃ r, r * x2 < x1 * s ∧ x1 * s < (r + 1) * x2 ∧ r * y2 < y1 * s ∧ y1 * s < (r + 1) * y2 := by
  have b0 := P.b0
  have b1 := P.b1
  have y0 : 0 < y2 := by omega
  have m0 := Int.emod_nonneg (y1 * s) (show y2 ≠ 0 by omega)
  have m1 := Int.emod_lt_of_pos (y1 * s) y0
  have md := Int.mul_ediv_add_emod (y1 * s) y2
  have cm := Int.mul_comm y2 (y1 * s / y2)
  have l1 : (y1 * s / y2) * y2 ≤ y1 * s := by omega
  have l2 : y1 * s < (y1 * s / y2 + 1) * y2 := by rw [Int.add_mul]; omega
  have l3 : (y1 * s / y2) * x2 < x1 * s := by
    rcases Int.lt_or_le ((y1 * s / y2) * x2) (x1 * s) with c | c
    · exact c
    · exact (L.no _ s s0 sq c l1).elim
  exact ⟨y1 * s / y2, l3, P.mul' s0 l2, P.mul s0 l3, l2⟩
/-- the place of a mark, by its whole part -/
theorem place_of {x1 x2 k r : Int} (h0 : r * x2 ≤ x1 * k) (h1 : x1 * k < (r + 1) * x2) : (x1 * k).fmod x2 = x1 * k - r * x2 := by
  rw [Int.add_mul] at h1
  have x0 : 0 < x2 := by omega
  rw [Int.fmod_eq_emod_of_nonneg _ (by omega)]
  have e : x1 * k = (x1 * k - r * x2) + x2 * r := by have := Int.mul_comm x2 r; omega
  rw [e, Int.add_mul_emod_self_left, ← e]
  exact Int.emod_eq_of_lt (by omega) (by omega)
theorem cancel_lt {a b c : Int} (hc : 0 < c) (h : a * c < b * c) : a < b := Int.lt_of_mul_lt_mul_right h (by omega)
/-- fewer marks than the least bottom and one more: the same order -/
theorem Least.alike {x1 x2 y1 y2 p q : Int} (P : Pair x1 x2 y1 y2) (L : Least x1 x2 y1 y2 p q) : ord (fun k => (x1 * k).fmod x2) (iota q.toNat) = ord (fun k => (y1 * k).fmod y2) (iota q.toNat) := by
  have a0 := P.a0
  have a1 := P.a1
  have b0 := P.b0
  have b1 := P.b1
  -- each mark's whole part
  have fl : ∀ k : Int, 0 ≤ k → k < q → ∃ r, r * x2 ≤ x1 * k ∧ x1 * k < (r + 1) * x2 ∧ r * y2 ≤ y1 * k ∧ y1 * k < (r + 1) * y2 := fun k k0 kq => by
    by_cases c : k = 0
    · subst c
      exact ⟨0, by simp, by simp; omega, by simp, by simp; omega⟩
    · obtain ⟨r, h1, h2, h3, h4⟩ := L.floor P (s := k) (by omega) kq
      exact ⟨r, Int.le_of_lt h1, h2, Int.le_of_lt h3, h4⟩
  -- i < j
  have up : ∀ i j : Int, 0 ≤ i → i < j → j < q → (((x1 * i).fmod x2 < (x1 * j).fmod x2 ↔ (y1 * i).fmod y2 < (y1 * j).fmod y2) ∧ ((x1 * j).fmod x2 < (x1 * i).fmod x2 ↔ (y1 * j).fmod y2 < (y1 * i).fmod y2)) := fun i j i0 ij jq => by
    obtain ⟨u, u1, u2, u3, u4⟩ := fl i i0 (by omega)
    obtain ⟨v, v1, v2, v3, v4⟩ := fl j (by omega) jq
    obtain ⟨r, r1, r2, r3, r4⟩ := L.floor P (s := j - i) (by omega) (by omega)
    rw [place_of u1 u2, place_of v1 v2, place_of u3 u4, place_of v3 v4]
    rw [Int.mul_sub] at r1 r2 r3 r4
    rw [Int.add_mul] at r2 r4
    rcases Int.lt_or_le r (v - u) with c | c
    · have e1 := Int.mul_le_mul_of_nonneg_right (show r + 1 ≤ v - u by omega) (show 0 ≤ x2 by omega)
      have e2 := Int.mul_le_mul_of_nonneg_right (show r + 1 ≤ v - u by omega) (show 0 ≤ y2 by omega)
      rw [Int.add_mul, Int.sub_mul] at e1 e2
      constructor <;> constructor <;> intro <;> omega
    · have e1 := Int.mul_le_mul_of_nonneg_right c (show 0 ≤ x2 by omega)
      have e2 := Int.mul_le_mul_of_nonneg_right c (show 0 ≤ y2 by omega)
      rw [Int.sub_mul] at e1 e2
      constructor <;> constructor <;> intro <;> omega
  have q0 := L.q0
  refine ord_of_lt fun i hi j hj => ?_
  have ii := iota_mem.mp hi
  have jj := iota_mem.mp hj
  rcases Int.lt_trichotomy i j with c | c | c
  · exact (up i j ii.1 c (by omega)).1
  · subst c; simp
  · exact (up j i jj.1 c (by omega)).2
theorem cancel_le {a b c : Int} (hc : 0 < c) (h : a * c ≤ b * c) : a ≤ b := Int.le_of_mul_le_mul_right h hc
/-- one mark more: unlike orders -/
theorem Least.unlike {x1 x2 y1 y2 p q : Int} (P : Pair x1 x2 y1 y2) (L : Least x1 x2 y1 y2 p q) : ord (fun k => (x1 * k).fmod x2) (iota (q + 1).toNat) ≠ ord (fun k => (y1 * k).fmod y2) (iota (q + 1).toNat) := by
  intro h
  have a0 := P.a0
  have a1 := P.a1
  have b0 := P.b0
  have b1 := P.b1
  have q0 := L.q0
  have mem : ∀ k : Int, 0 ≤ k → k ≤ q → k ∈ iota (q + 1).toNat := fun k k0 kq => iota_mem.mpr ⟨k0, by omega⟩
  have z0 : ∀ a b : Int, (a * 0).fmod b = 0 := fun a b => by rw [Int.mul_zero, Int.zero_fmod]
  have n0 : ∀ a b k : Int, 0 < b → 0 ≤ (a * k).fmod b := fun a b k hb => by rw [Int.fmod_eq_emod_of_nonneg _ (by omega)]; exact Int.emod_nonneg _ (by omega)
  have mz : ∀ a b k : Int, 0 < b → (a * k).fmod b = 0 → ∃ m, a * k = m * b := fun a b k hb e => by
    rw [Int.fmod_eq_emod_of_nonneg _ (by omega)] at e
    have := Int.mul_ediv_add_emod (a * k) b
    exact ⟨a * k / b, by have := Int.mul_comm b (a * k / b); omega⟩
  have s1 := ord_same_lt h (mem 0 (by omega) (by omega)) (mem q (by omega) (by omega))
  simp only [z0] at s1
  have nx := n0 x1 x2 q (by omega)
  have ny := n0 y1 y2 q (by omega)
  rcases Int.lt_or_eq_of_le L.lo with lo | lo
  · rcases Int.lt_or_eq_of_le L.hi with hi | hi
    · -- strictly between
      have q2 : 2 ≤ q := by
        rcases Int.lt_or_le q 2 with c | c
        · have e : q = 1 := by omega
          rw [e, Int.mul_one] at lo hi
          have h1 : 0 < p := by
            rcases Int.lt_or_le 0 p with d | d
            · exact d
            · have := Int.mul_le_mul_of_nonneg_right d (show 0 ≤ x2 by omega)
              rw [Int.zero_mul] at this; omega
          have := Int.mul_le_mul_of_nonneg_right (show 1 ≤ p by omega) (show 0 ≤ y2 by omega)
          rw [Int.one_mul] at this; omega
        · exact c
      obtain ⟨r, r1, r2, r3, r4⟩ := L.floor P (s := q - 1) (by omega) (by omega)
      rw [Int.mul_sub, Int.mul_one] at r1 r2 r3 r4
      have hr : r = p - 1 := by
        have h1 : r < p := cancel_lt (c := x2) (by omega) (by omega)
        have h2 : p < r + 2 := cancel_lt (c := y2) (by omega) (by rw [Int.add_mul] at r4 ⊢; omega)
        omega
      subst hr
      have s2 := ord_same_lt h (mem 1 (by omega) (by omega)) (mem q (by omega) (by omega))
      rw [Int.sub_mul] at r1 r3
      rw [show p - 1 + 1 = p by omega] at r2 r4
      have f1 : (x1 * 1).fmod x2 = x1 * 1 - 0 * x2 := place_of (by rw [Int.zero_mul]; omega) (by rw [Int.add_mul]; omega)
      have g1 : (y1 * 1).fmod y2 = y1 * 1 - 0 * y2 := place_of (by rw [Int.zero_mul]; omega) (by rw [Int.add_mul]; omega)
      have fq : (x1 * q).fmod x2 = x1 * q - (p - 1) * x2 := place_of (by rw [Int.sub_mul]; omega) (by rw [show p - 1 + 1 = p by omega]; omega)
      have gq : (y1 * q).fmod y2 = y1 * q - p * y2 := place_of (by omega) (by rw [Int.add_mul]; omega)
      rw [f1, g1, fq, gq, Int.sub_mul] at s2
      omega
    · -- y is p / q
      have gz : (y1 * q).fmod y2 = 0 := by
        rw [← hi, Int.fmod_eq_emod_of_nonneg _ (by omega), Int.mul_emod_left]
      have fz : (x1 * q).fmod x2 = 0 := by rw [gz] at s1; omega
      obtain ⟨m, hm⟩ := mz x1 x2 q (by omega) fz
      have mp : m < p := cancel_lt (c := x2) (by omega) (by omega)
      rcases Int.lt_or_le q 2 with c | c
      · have e : q = 1 := by omega
        rw [e, Int.mul_one] at hi
        have hp : p < 1 := cancel_lt (c := y2) (by omega) (by omega)
        have := Int.mul_le_mul_of_nonneg_right (show p ≤ 0 by omega) (show 0 ≤ y2 by omega)
        have y1z : y1 = 0 := by rw [Int.zero_mul] at this; omega
        have := P.lt
        rw [y1z, Int.zero_mul] at this
        have := Int.mul_nonneg a0 (show 0 ≤ y2 by omega)
        omega
      · refine L.no (p - 1) (q - 1) (by omega) (by omega) ?_ ?_
        · rw [Int.mul_sub, Int.mul_one, Int.sub_mul, Int.one_mul]
          have := Int.mul_le_mul_of_nonneg_right (show m + 1 ≤ p by omega) (show 0 ≤ x2 by omega)
          rw [Int.add_mul] at this
          omega
        · rw [Int.mul_sub, Int.mul_one, Int.sub_mul, Int.one_mul]
          omega
  · -- x is p / q
    have fz : (x1 * q).fmod x2 = 0 := by
      rw [lo, Int.fmod_eq_emod_of_nonneg _ (by omega), Int.mul_emod_left]
    have gz : (y1 * q).fmod y2 = 0 := by rw [fz] at s1; omega
    obtain ⟨m, hm⟩ := mz y1 y2 q (by omega) gz
    have pm : p < m := by
      have h1 : p * x2 * y2 < m * y2 * x2 := by
        have := Int.mul_lt_mul_of_pos_right P.lt q0
        have e1 : x1 * y2 * q = x1 * q * y2 := Int.mul_right_comm _ _ _
        have e2 : y1 * x2 * q = y1 * q * x2 := Int.mul_right_comm _ _ _
        rw [e1, e2, lo, hm] at this
        exact this
      rw [Int.mul_right_comm p] at h1
      exact cancel_lt (c := y2) (by omega) (cancel_lt (c := x2) (by omega) h1)
    have hpm := Int.mul_le_mul_of_nonneg_right (show p + 1 ≤ m by omega) (show 0 ≤ y2 by omega)
    rw [Int.add_mul, Int.one_mul] at hpm
    rcases Int.lt_or_le q 2 with c | c
    · have e : q = 1 := by omega
      rw [e, Int.mul_one] at lo hm
      have hm1 : m < 1 := cancel_lt (c := y2) (by omega) (by omega)
      have hp : p < 0 := by omega
      have := Int.mul_le_mul_of_nonneg_right (show p + 1 ≤ 0 by omega) (show 0 ≤ x2 by omega)
      rw [Int.add_mul] at this
      omega
    · refine L.no p (q - 1) (by omega) (by omega) ?_ ?_
      · rw [Int.mul_sub, Int.mul_one]; omega
      · rw [Int.mul_sub, Int.mul_one]; omega
end Mt
set_option Elab.async false
set_option maxRecDepth 100000
set_option linter.all false
/-! a fraction between two unlike steps: orders of more marks than its bottom are unlike -/
namespace Mt
theorem least_of {x1 x2 y1 y2 : Int} : ∀ (d : Nat) (c : Int), 0 < d → x1 * d ≤ c * x2 → c * y2 ≤ y1 * d → ∃ p q, Least x1 x2 y1 y2 p q ∧ q ≤ d := by
  intro d
  induction d using Nat.strongRecOn with
  | _ d ih =>
    intro c d0 lo hi
    by_cases h : ∃ r s : Int, 0 < s ∧ s < d ∧ x1 * s ≤ r * x2 ∧ r * y2 ≤ y1 * s
    · obtain ⟨r, s, s0, sd, h1, h2⟩ := h
      obtain ⟨m, rfl⟩ := Int.eq_ofNat_of_zero_le (Int.le_of_lt s0)
      obtain ⟨p, q, L, qm⟩ := ih m (by omega) r (by omega) h1 h2
      exact ⟨p, q, L, by omega⟩
    · exact ⟨c, d, ⟨by omega, lo, hi, fun r s s0 sd h1 h2 => h ⟨r, s, s0, sd, h1, h2⟩⟩, Int.le_refl _⟩
theorem ord_less {f g : Int → Int} {n m : Nat} (h : ord f (iota n) = ord g (iota n)) (le : m ≤ n) : ord f (iota m) = ord g (iota m) :=
  ord_of_lt fun i hi j hj => ord_same_lt h (iota_mem.mpr ⟨(iota_mem.mp hi).1, by have := (iota_mem.mp hi).2; omega⟩) (iota_mem.mpr ⟨(iota_mem.mp hj).1, by have := (iota_mem.mp hj).2; omega⟩)
theorem parts_unlike {x1 x2 y1 y2 c d : Int} {n : Nat} (P : Pair x1 x2 y1 y2) (d0 : 0 < d) (dn : d < n) (lo : x1 * d ≤ c * x2) (hi : c * y2 ≤ y1 * d) : ord (fun k => (x1 * k).fmod x2) (iota n) ≠ ord (fun k => (y1 * k).fmod y2) (iota n) := by
  obtain ⟨m, rfl⟩ := Int.eq_ofNat_of_zero_le (Int.le_of_lt d0)
  obtain ⟨p, q, L, qm⟩ := least_of m c (by omega) lo hi
  intro h
  have := L.q0
  exact L.unlike P (ord_less h (by omega))
/-- either way round, the marks first -/
theorem parts_unlike' {x1 x2 y1 y2 c d : Int} {n : Nat} (a0 : 0 ≤ x1) (a1 : x1 < x2) (b0 : 0 ≤ y1) (b1 : y1 < y2) (ne : x1 * y2 ≠ y1 * x2) (d0 : 0 < d) (dn : d < n) (h : (x1 * d ≤ c * x2 ∧ c * y2 ≤ y1 * d) ∨ (y1 * d ≤ c * y2 ∧ c * x2 ≤ x1 * d)) : ord (fun k => (k * x1).fmod x2) (iota n) ≠ ord (fun k => (k * y1).fmod y2) (iota n) := by
  have e : ∀ a b : Int, (fun k => (k * a).fmod b) = fun k => (a * k).fmod b := fun a b => by funext k; rw [Int.mul_comm]
  rw [e, e]
  rcases Int.lt_or_gt_of_ne ne with z | z
  · rcases h with h | h
    · exact parts_unlike ⟨a0, a1, b0, b1, z⟩ d0 dn h.1 h.2
    · exfalso
      have h1 : y1 * d * x2 ≤ c * y2 * x2 := Int.mul_le_mul_of_nonneg_right h.1 (by omega)
      have h2 : c * x2 * y2 ≤ x1 * d * y2 := Int.mul_le_mul_of_nonneg_right h.2 (by omega)
      have h3 : x1 * y2 * d < y1 * x2 * d := Int.mul_lt_mul_of_pos_right z d0
      have e1 : c * y2 * x2 = c * x2 * y2 := Int.mul_right_comm ..
      have e2 : x1 * d * y2 = x1 * y2 * d := Int.mul_right_comm ..
      have e3 : y1 * d * x2 = y1 * x2 * d := Int.mul_right_comm ..
      omega
  · rcases h with h | h
    · exfalso
      have h1 : x1 * d * y2 ≤ c * x2 * y2 := Int.mul_le_mul_of_nonneg_right h.1 (by omega)
      have h2 : c * y2 * x2 ≤ y1 * d * x2 := Int.mul_le_mul_of_nonneg_right h.2 (by omega)
      have h3 : y1 * x2 * d < x1 * y2 * d := Int.mul_lt_mul_of_pos_right z d0
      have e1 : c * y2 * x2 = c * x2 * y2 := Int.mul_right_comm ..
      have e2 : x1 * d * y2 = x1 * y2 * d := Int.mul_right_comm ..
      have e3 : y1 * d * x2 = y1 * x2 * d := Int.mul_right_comm ..
      omega
    · exact (parts_unlike ⟨b0, b1, a0, a1, z⟩ d0 dn h.1 h.2).symm
end Mt
set_option Elab.async false
set_option maxRecDepth 100000
set_option linter.all false
/-! steps between two neighbours: orders of as many marks as both bottoms together are one -/
namespace Mt
/-- a fraction between two neighbours has a bottom of both together at least -/
theorem between_big {a b c e p q : Int} (b1 : 1 ≤ b) (e1 : 1 ≤ e) (det : c * b - a * e = 1) (h1 : a * q < p * b) (h2 : p * e < c * q) : b + e ≤ q := by
  have k1 : e * 1 ≤ e * (p * b - a * q) := Int.mul_le_mul_of_nonneg_left (by omega) (by omega)
  have k2 : b * 1 ≤ b * (c * q - p * e) := Int.mul_le_mul_of_nonneg_left (by omega) (by omega)
  have k3 : q * (c * b - a * e) = q * 1 := by rw [det]
  rw [Int.mul_sub] at k1 k2 k3
  have e1 : e * (p * b) = b * (p * e) := by rw [← Int.mul_assoc, ← Int.mul_assoc, Int.mul_comm e p, Int.mul_comm b p, Int.mul_right_comm]
  have e2 : e * (a * q) = q * (a * e) := by rw [← Int.mul_assoc, Int.mul_comm, Int.mul_comm e a]
  have e3 : b * (c * q) = q * (c * b) := by rw [← Int.mul_assoc, Int.mul_comm, Int.mul_comm b c]
  omega
theorem nb_alike_lt {x1 y1 x2 y2 a b c e : Int} {n : Nat} (P : Pair x1 y1 x2 y2) (b1 : 1 ≤ b) (e1 : 1 ≤ e) (det : c * b - a * e = 1) (h1 : a * y1 < x1 * b) (h2 : x2 * e < c * y2) (hn : (n : Int) ≤ b + e) :
    ord (fun k => (x1 * k).fmod y1) (iota n) = ord (fun k => (x2 * k).fmod y2) (iota n) := by
  have a0 := P.a0
  have a1 := P.a1
  have c0 := P.b0
  have c1 := P.b1
  obtain ⟨m, hm⟩ := Int.eq_ofNat_of_zero_le (show 0 ≤ y1 by omega)
  obtain ⟨p, q, L, _⟩ := least_of (x1 := x1) (x2 := y1) (y1 := x2) (y2 := y2) m x1 (by omega) (by rw [← hm]; exact Int.le_refl _) (by rw [← hm]; exact Int.le_of_lt P.lt)
  have q0 := L.q0
  have g1 : a * q < p * b := by
    refine cancel_lt (c := y1) (by omega) ?_
    have z1 : a * y1 * q < x1 * b * q := Int.mul_lt_mul_of_pos_right h1 q0
    have z2 : x1 * q * b ≤ p * y1 * b := Int.mul_le_mul_of_nonneg_right L.lo (by omega)
    have w1 : a * y1 * q = a * q * y1 := Int.mul_right_comm ..
    have w2 : x1 * b * q = x1 * q * b := Int.mul_right_comm ..
    have w3 : p * y1 * b = p * b * y1 := Int.mul_right_comm ..
    omega
  have g2 : p * e < c * q := by
    refine cancel_lt (c := y2) (by omega) ?_
    have z1 : x2 * e * q < c * y2 * q := Int.mul_lt_mul_of_pos_right h2 q0
    have z2 : p * y2 * e ≤ x2 * q * e := Int.mul_le_mul_of_nonneg_right L.hi (by omega)
    have w1 : x2 * e * q = x2 * q * e := Int.mul_right_comm ..
    have w2 : c * y2 * q = c * q * y2 := Int.mul_right_comm ..
    have w3 : p * y2 * e = p * e * y2 := Int.mul_right_comm ..
    omega
  have qb := between_big b1 e1 det g1 g2
  exact ord_less (L.alike P) (by omega)
/-- either way round, the marks first -/
theorem nb_alike {x1 y1 x2 y2 a b c e : Int} {n : Nat} (a0 : 0 ≤ x1) (a1 : x1 < y1) (c0 : 0 ≤ x2) (c1 : x2 < y2) (ne : x1 * y2 ≠ x2 * y1) (b1 : 1 ≤ b) (e1 : 1 ≤ e) (det : c * b - a * e = 1) (h1 : a * y1 < x1 * b) (h2 : x1 * e < c * y1) (h3 : a * y2 < x2 * b) (h4 : x2 * e < c * y2) (hn : (n : Int) ≤ b + e) :
    ord (fun k => (k * x1).fmod y1) (iota n) = ord (fun k => (k * x2).fmod y2) (iota n) := by
  have e : ∀ a b : Int, (fun k => (k * a).fmod b) = fun k => (a * k).fmod b := fun a b => by funext k; rw [Int.mul_comm]
  rw [e, e]
  rcases Int.lt_or_gt_of_ne ne with z | z
  · exact nb_alike_lt ⟨a0, a1, c0, c1, z⟩ b1 e1 det h1 h4 hn
  · exact (nb_alike_lt ⟨c0, c1, a0, a1, z⟩ b1 e1 det h3 h2 hn).symm
/-- one mark: one order -/
theorem ord_one {f g : Int → Int} : ord f (iota 1) = ord g (iota 1) := ord_of_lt fun i hi j hj => by
  have h1 := iota_mem.mp hi
  have h2 := iota_mem.mp hj
  have e1 : i = 0 := by have := h1.1; have := h1.2; omega
  have e2 : j = 0 := by have := h2.1; have := h2.2; omega
  subst e1 e2
  exact ⟨fun z => absurd z (Int.lt_irrefl _), fun z => absurd z (Int.lt_irrefl _)⟩
end Mt
set_option Elab.async false
set_option linter.all false
set_option maxRecDepth 100000
set_option maxHeartbeats 8000000
set_option exponentiation.threshold 2000
namespace My
open PySem PySem.Spec PyProof.Rows L2 Gn Mt
/-! what the law itself holds for a paper of two steps that are alike -/
abbrev sPairQ : Stmt := top 106
abbrev sShows : Stmt := top 107
abbrev NSh : List Str := ["_law_first", "_law_last", "_law_many", "_law_thing", "_law_a", "_law_b", "_law_c", "_law_d", "_law_u", "_law_v"]
theorem scPairQ : FnScope ["_law_thing"] ["_law_thing"] (defScope sPairQ) := ⟨rfl, rfl, rfl, by decide +kernel, rfl, by decide +kernel, by decide +kernel⟩
theorem scShows : FnScope NSh ["_law_first", "_law_last", "_law_many", "_law_thing"] (defScope sShows) := ⟨rfl, rfl, rfl, by decide +kernel, rfl, by decide +kernel, by decide +kernel⟩
theorem step_eq {a b c d : Int} (h : IsStep a b) (k : IsStep c d) (e : a * d = c * b) : a = c ∧ b = d := by
  have a0 := h.x0
  have ab := h.xy
  have c0 := k.x0
  have cd := k.xy
  have h1 := h.co
  have k1 := k.co
  obtain ⟨a, rfl⟩ := Int.eq_ofNat_of_zero_le a0
  obtain ⟨b, rfl⟩ := Int.eq_ofNat_of_zero_le (show 0 ≤ b by omega)
  obtain ⟨c, rfl⟩ := Int.eq_ofNat_of_zero_le c0
  obtain ⟨d, rfl⟩ := Int.eq_ofNat_of_zero_le (show 0 ≤ d by omega)
  simp only [Int.natAbs_natCast] at h1 k1
  have e' : a * d = c * b := by exact_mod_cast e
  have d1 : b ∣ d := Nat.Coprime.dvd_of_dvd_mul_left (show Nat.Coprime b a from (Nat.gcd_comm b a).trans h1) (by rw [e']; exact Nat.dvd_mul_left b c)
  have d2 : d ∣ b := Nat.Coprime.dvd_of_dvd_mul_left (show Nat.Coprime d c from (Nat.gcd_comm d c).trans k1) (by rw [← e']; exact Nat.dvd_mul_left d a)
  have eb : b = d := Nat.dvd_antisymm d1 d2
  subst eb
  have : a = c := Nat.eq_of_mul_eq_mul_right (by omega) e'
  omega
/-- an order of at most n marks is small data -/
theorem ord_sm {f : Int → Int} {n : Nat} (hn : n ≤ 60) : Sm 7000000 2 (ordD (ord f (iota n))) := by
  have z := Sm.tup (c := 60 * 1923 + 3) (e := 1) (n := 60) (ds := (ord f (iota n)).map fun g => PyData.tuple (g.map PyData.int)) (fun d hd => ?_) ?_
  · exact ⟨z.sh, Nat.le_trans z.ln (by decide), z.dp, z.cl⟩
  · obtain ⟨g, hg, rfl⟩ := List.mem_map.mp hd
    obtain ⟨v, _, rfl⟩ := List.mem_map.mp hg
    refine Sm.ints (fun i hi => ?_) (Nat.le_trans (List.length_filter_le _ _) (by rw [iota_len]; exact hn))
    have := iota_mem.mp (List.mem_filter.mp hi).1
    exact Nat.lt_of_lt_of_le (show i.natAbs < 60 by omega) (by decide)
  · rw [List.length_map]
    unfold ord
    rw [List.length_map]
    refine Nat.le_trans (sortU_len _) ?_
    rw [List.length_map, iota_len]
    exact hn
/-- a pair of a top from 0 on and a bottom from 1 on -/
def isPairL (d : PyData) : Bool := match d with | .tuple [p, p'] => isNum p 0 (10 ^ 64) && isNum p' 1 (10 ^ 64) | _ => false
theorem isPairL_ty {d : PyData} (h : isTupB d = false) : isPairL d = false := by cases d <;> first | rfl | cases h
theorem isPairL_len {ds : List PyData} (h : ds.length ≠ 2) : isPairL (.tuple ds) = false := by
  match ds, h with
  | [], _ => rfl
  | [_], _ => rfl
  | [_, _], h => exact absurd rfl h
  | _ :: _ :: _ :: _, _ => rfl
theorem num_int {d : PyData} {a b : Int} (h : isNum d a b = true) : ∃ i, d = .int i ∧ a ≤ i ∧ i ≤ b := by
  cases d with
  | int i =>
    have z := of_decide_eq_true (show decide (a ≤ i ∧ i ≤ b) = true from h)
    exact ⟨i, rfl, z.1, z.2⟩
  | _ => cases h
theorem pairL_of {K : PySem.W.Frag} {H : Hp} {v : V} {d : PyData} (an : An K H v d) (h : isPairL d = true) : ∃ a t b, v = .ref a ∧ d = .tuple [.int t, .int b] ∧ H a = some (.tup [.int t, .int b]) ∧ 0 ≤ t ∧ t ≤ 10 ^ 64 ∧ 1 ≤ b ∧ b ≤ 10 ^ 64 := by
  obtain ⟨a, xs, ds, rfl, rfl, hT, all⟩ := an.isT (show isTupB d = true by cases d <;> first | rfl | cases h)
  by_cases hl : ds.length = 2
  · obtain ⟨x, y, p, p', rfl, rfl, dx, dy⟩ := dpAll_two all ((dpAll_len all).trans hl)
    obtain ⟨h1, h2⟩ := Bool.and_eq_true_iff.mp (show (isNum p 0 (10 ^ 64) && isNum p' 1 (10 ^ 64)) = true from h)
    obtain ⟨i, rfl, i0, i1⟩ := num_int h1
    obtain ⟨j, rfl, j0, j1⟩ := num_int h2
    cases dx
    cases dy
    exact ⟨a, i, j, rfl, rfl, hT, i0, i1, j0, j1⟩
  · rw [isPairL_len hl] at h
    cases h
theorem gcd_det {a b c e : Int} (det : c * b - a * e = 1) : Int.gcd a b = 1 ∧ Int.gcd c e = 1 := by
  have one : ∀ {g : Nat}, (g : Int) ∣ 1 → g = 1 := fun {g} h => by
    have := Int.eq_one_of_dvd_one (by omega) h
    omega
  constructor
  · obtain ⟨k, hk⟩ := Int.gcd_dvd_left (a := a) (b := b)
    obtain ⟨l, hl⟩ := Int.gcd_dvd_right (a := a) (b := b)
    refine one ⟨c * l - k * e, ?_⟩
    have e1 : c * b = (Int.gcd a b : Int) * (c * l) := by
      conv => lhs; rw [hl]
      rw [← Int.mul_assoc, ← Int.mul_assoc, Int.mul_comm c]
    have e2 : a * e = (Int.gcd a b : Int) * (k * e) := by
      conv => lhs; rw [hk]
      rw [Int.mul_assoc]
    rw [Int.mul_sub, ← e1, ← e2, det]
  · obtain ⟨k, hk⟩ := Int.gcd_dvd_left (a := c) (b := e)
    obtain ⟨l, hl⟩ := Int.gcd_dvd_right (a := c) (b := e)
    refine one ⟨k * b - a * l, ?_⟩
    have e1 : c * b = (Int.gcd c e : Int) * (k * b) := by
      conv => lhs; rw [hk]
      rw [Int.mul_assoc]
    have e2 : a * e = (Int.gcd c e : Int) * (a * l) := by
      conv => lhs; rw [hl]
      rw [← Int.mul_assoc, ← Int.mul_assoc, Int.mul_comm a]
    rw [Int.mul_sub, ← e1, ← e2, det]
/-- how both steps stand to the two fractions -/
def amidB (x1 y1 x2 y2 a b c e : Int) : Bool := (decide (a * y1 < x1 * b) && decide (x1 * e < c * y1)) && (decide (a * y2 < x2 * b) && decide (x2 * e < c * y2))
theorem twoD_of {x1 y1 x2 y2 n : Int} {d : PyData} (h : twoD x1 y1 x2 y2 n d = true) : ∃ a b c e, d = .tuple [.tuple [.int a, .int b], .tuple [.int c, .int e]] ∧ 0 ≤ a ∧ 1 ≤ b ∧ 1 ≤ e ∧ c * b - a * e = 1 ∧ n ≤ b + e ∧ amidB x1 y1 x2 y2 a b c e = true := by
  unfold twoD at h
  split at h
  · rename_i a b c e
    obtain ⟨f1, h⟩ := Bool.and_eq_true_iff.mp h
    obtain ⟨f2, h⟩ := Bool.and_eq_true_iff.mp h
    obtain ⟨h1, h⟩ := Bool.and_eq_true_iff.mp h
    obtain ⟨h2, h⟩ := Bool.and_eq_true_iff.mp h
    obtain ⟨h3, h⟩ := Bool.and_eq_true_iff.mp h
    obtain ⟨_, _, z1, b1, _⟩ := isFr_of f1
    obtain ⟨_, _, z2, e1, _⟩ := isFr_of f2
    cases z1
    cases z2
    exact ⟨a, b, c, e, rfl, of_decide_eq_true h1, b1, e1, of_decide_eq_true h2, of_decide_eq_true h3, h⟩
  · cases h
theorem top_pos {a b c e : Int} (a0 : 0 ≤ a) (b1 : 1 ≤ b) (e1 : 1 ≤ e) (det : c * b - a * e = 1) : 1 ≤ c := by
  have := Int.mul_nonneg a0 (show 0 ≤ e by omega)
  rcases Int.lt_or_le 0 c with z | z
  · omega
  · have := Int.mul_le_mul_of_nonneg_right z (show 0 ≤ b by omega)
    rw [Int.zero_mul] at this
    omega
theorem twoD_pair {x1 y1 x2 y2 n : Int} {d : PyData} (gp : Gp d) (h : twoD x1 y1 x2 y2 n d = true) : ∀ p q, d = .tuple [p, q] → isPairL p = true ∧ isPairL q = true := fun p q z => by
  obtain ⟨a, b, c, e, rfl, a0, b1, e1, det, _⟩ := twoD_of h
  cases z
  obtain ⟨g1, g2, g3, g4⟩ := gp.fr _ _ _ _ rfl
  have c1 := top_pos a0 b1 e1 det
  have nm : ∀ {z l : Int}, l ≤ z → 0 ≤ l → z.natAbs ≤ 10 ^ 64 → isNum (.int z) l (10 ^ 64) = true := fun {z l} h1 h2 h3 => decide_eq_true ⟨h1, by
    have : ((10 ^ 64 : Nat) : Int) = 10 ^ 64 := by decide
    omega⟩
  exact ⟨Bool.and_eq_true_iff.mpr ⟨nm a0 (by decide) g1, nm b1 (by decide) g2⟩, Bool.and_eq_true_iff.mpr ⟨nm (show 0 ≤ c by omega) (by decide) g3, nm e1 (by decide) g4⟩⟩
theorem twoD_two {x1 y1 x2 y2 n a b c e : Int} (a0 : 0 ≤ a) (b1 : 1 ≤ b) (e1 : 1 ≤ e) : twoD x1 y1 x2 y2 n (.tuple [.tuple [.int a, .int b], .tuple [.int c, .int e]]) = (decide (c * b - a * e = 1) && (decide (n ≤ b + e) && amidB x1 y1 x2 y2 a b c e)) := by
  show (isFr (.tuple [.int a, .int b]) && (isFr (.tuple [.int c, .int e]) && (decide (0 ≤ a) && (decide (c * b - a * e = 1) && (decide (n ≤ b + e) && amidB x1 y1 x2 y2 a b c e))))) = _
  by_cases det : c * b - a * e = 1
  · obtain ⟨g1, g2⟩ := gcd_det det
    have f1 : isFr (.tuple [.int a, .int b]) = true := by simp only [isFr, decide_eq_true b1, g1, decide_true, Bool.and_self]
    have f2 : isFr (.tuple [.int c, .int e]) = true := by simp only [isFr, decide_eq_true e1, g2, decide_true, Bool.and_self]
    rw [f1, f2, decide_eq_true a0, Bool.true_and, Bool.true_and, Bool.true_and]
  · rw [decide_eq_false det, Bool.false_and, Bool.and_false, Bool.and_false, Bool.and_false]
/-- due: the orders are one -/
theorem due_alike {x1 y1 x2 y2 n : Int} {d : PyData} (s1 : IsStep x1 y1) (s2 : IsStep x2 y2) (h : alikeD x1 y1 x2 y2 n d = true) : ord (fun k => (k * x1).fmod y1) (iota n.toNat) = ord (fun k => (k * x2).fmod y2) (iota n.toNat) := by
  have x10 := s1.x0; have x1y := s1.xy; have x20 := s2.x0; have x2y := s2.xy
  by_cases ee : x1 = x2 ∧ y1 = y2
  · rw [ee.1, ee.2]
  · by_cases en : n = 1
    · subst en
      exact ord_one
    · unfold alikeD at h
      rw [if_neg (fun z => z.elim ee en)] at h
      obtain ⟨a, b, c, e, rfl, a0, b1, e1, det, hn, am⟩ := twoD_of h
      obtain ⟨m1, m2⟩ := Bool.and_eq_true_iff.mp am
      obtain ⟨m3, m4⟩ := Bool.and_eq_true_iff.mp m1
      obtain ⟨m5, m6⟩ := Bool.and_eq_true_iff.mp m2
      have ne : x1 * y2 ≠ x2 * y1 := fun z => ee (step_eq s1 s2 z)
      exact nb_alike x10 x1y x20 x2y ne b1 e1 det (of_decide_eq_true m3) (of_decide_eq_true m4) (of_decide_eq_true m5) (of_decide_eq_true m6) (by omega)
end My
set_option Elab.async false
set_option linter.all false
set_option maxRecDepth 100000
set_option maxHeartbeats 8000000
set_option exponentiation.threshold 2000
namespace My
open PySem PySem.Spec PyProof.Rows L2 Gn Mt
def spShowsL (K : PySem.W.Frag) : Sp := fun vs H Q _ => ∃ (p q : Addr) (x1 y1 x2 y2 n : Int) (v : V) (d : PyData), vs = [.ref p, .ref q, .int n, v] ∧ Stq H p x1 y1 ∧ Stq H q x2 y2 ∧ An K H v d ∧ Gp d ∧ ∀ H', Same H H' → Q (.bl (alikeD x1 y1 x2 y2 n d)) H'
section
variable {P : Program} {w : World} {K : PySem.W.Frag} {mg : Str → Option Value} {base : Heap}
theorem ok_pairQ {f fN : Addr} {fd fdN : FuncData} (F : Fun K "_law_is_pair" "_law_is_pair" sPairQ f fd) (B : Bc mg) (N : Df K mg "_law_is_int" sIsIntL ["_law_value", "_law_least", "_law_greatest"] fN fdN) : FnOk P w K mg base CX0 2 f fd ["_law_thing"] (spAsk K isPairL) := by
  have GN : FnOk P w K mg base CX0 1 fN fdN ["_law_value", "_law_least", "_law_greatest"] (spNumA K) := ok_isIntL N.F B
  refine F.ok scPairQ (fun vs H Q E h => ?_) (fun cdv A outer s H vs Q E hr h => ?_)
  · obtain ⟨v, d, rfl, _⟩ := h
    rfl
  · obtain ⟨v, d, rfl, an, q⟩ := h
    refine ⟨_, pss_cons (ps_if (PW.pt (pw_or (pt_not (pt_val (pe_callB call_isi (by rfl) B.isi (by decide +kernel) (pa_cons (pv 0) (pa_cons (pe_bltn (v := .ty "tuple") (by rfl) B.tuple (by decide +kernel) rfl) pa_nil))))) (pw_or1 (pt_cmpR op_ne (pe_callB call_len_seq (by rfl) B.len PySem.boot_len (pa_cons (pv 0) pa_nil)) pe_int (nomark _))))) (pss_one (ps_ret pe_bl)) pss_nil)
      (pss_one (ps_ret (pe_and (pe_call GN hr (by rfl) N.g N.F.kp N.b .nil pass0 (pa_cons (pe_ix ix_tup (pv 0) pe_int (fun _ _ => rfl)) (pa_cons pe_int (pa_cons (pe_op op_pow pe_int pe_int) pa_nil))))
        (pe_one (pe_call GN hr (by rfl) N.g N.F.kp N.b .nil pass0 (pa_cons (pe_ix ix_tup (pv 0) pe_int (fun _ _ => rfl)) (pa_cons pe_int (pa_cons (pe_op op_pow pe_int pe_int) pa_nil)))))))), ?_⟩
    refine ⟨_, rfl, v, .ty "tuple", _, _, _, rfl, .ty "tuple", an.ty, kit_ty kit_tup, _, rfl, ?_⟩
    cases et : isTupB d with
    | false =>
      rw [isPairL_ty et] at q
      exact iteT q
    | true =>
      refine iteF ?_
      obtain ⟨a, xs, ds, rfl, rfl, hT, all⟩ := an.isT et
      refine ⟨_, rfl, a, xs, rfl, .inr (SqT.of hT), rfl, _, rfl, ?_⟩
      by_cases hl : xs.length = 2
      · obtain ⟨x, y, p, p', rfl, rfl, dx, dy⟩ := dpAll_two all hl
        refine iteF ⟨_, rfl, a, _, 0, x, rfl, rfl, SqT.of hT, at_of (j := 0) rfl rfl, _, _, rfl, rfl, ⟨by decide, by decide, by decide⟩, x, p, 0, _, rfl, dx, _, rfl, ?_⟩
        have e0 : isPairL (.tuple [p, p']) = (isNum p 0 (10 ^ 64) && isNum p' 1 (10 ^ 64)) := rfl
        rw [e0] at q
        show if isNum p 0 (10 ^ 64) = true then _ else _
        cases c0 : isNum p 0 (10 ^ 64) with
        | false =>
          rw [c0, Bool.false_and] at q
          exact iteF q
        | true =>
          rw [c0, Bool.true_and] at q
          exact iteT ⟨_, rfl, a, _, 1, y, rfl, rfl, SqT.of hT, at_of (j := 1) rfl rfl, _, _, rfl, rfl, ⟨by decide, by decide, by decide⟩, y, p', 1, _, rfl, dy, q⟩
      · rw [isPairL_len (fun z => hl ((dpAll_len all).trans z))] at q
        have e : (!(decide (V.int (xs.length : Int) = V.int 2))) = true := by
          rw [decide_eq_false, Bool.not_false]
          intro z
          rw [V.int.injEq] at z
          exact hl (by omega)
        show if (!(decide (V.int (xs.length : Int) = V.int 2))) = true then _ else _
        rw [e]
        exact iteT q
/-- one step between, as the comprehension asks it -/
def tAmid : TE := tAndV (tOp (rI0 fun i j => .bl (decide (i < j))) (tOp (rI CMulW fun i j => .int (i * j)) (tVar 4) (tVar 9)) (tOp (rI CMulW fun i j => .int (i * j)) (tVar 8) (tVar 5))) (tOp (rI0 fun i j => .bl (decide (i < j))) (tOp (rI CMulW fun i j => .int (i * j)) (tVar 8) (tVar 7)) (tOp (rI CMulW fun i j => .int (i * j)) (tVar 6) (tVar 9)))
theorem amid_reads {σ : L2.St} {H : Hp} {Q : VK} {a b c e x y : Int} (h4 : σ[4]? = some (some (.int a))) (h5 : σ[5]? = some (some (.int b))) (h6 : σ[6]? = some (some (.int c))) (h7 : σ[7]? = some (some (.int e))) (h8 : σ[8]? = some (some (.int x))) (h9 : σ[9]? = some (some (.int y)))
    (ba : a.natAbs < 2 ^ 300) (bb : b.natAbs < 2 ^ 300) (bc : c.natAbs < 2 ^ 300) (be : e.natAbs < 2 ^ 300) (bx : x.natAbs < 2 ^ 300) (bY : y.natAbs < 2 ^ 300) (k : Q (.bl (decide (a * y < x * b) && decide (x * e < c * y))) H) : tAmid σ H Q := by
  have wm : ∀ {u z : Int}, u.natAbs < 2 ^ 300 → z.natAbs < 2 ^ 300 → CMulW u z := fun h1 h2 => wide_mul (a := 300) (b := 300) h1 h2 (by decide) (by decide) (by decide)
  refine ⟨_, h4, _, h9, _, _, rfl, rfl, wm ba bY, _, h8, _, h5, _, _, rfl, rfl, wm bx bb, _, _, rfl, rfl, _, rfl, ?_⟩
  show if decide (a * y < x * b) = true then _ else _
  by_cases c1 : a * y < x * b
  · rw [decide_eq_true c1, Bool.true_and] at k
    rw [decide_eq_true c1]
    exact iteT ⟨_, h8, _, h7, _, _, rfl, rfl, wm bx be, _, h6, _, h9, _, _, rfl, rfl, wm bc bY, _, _, rfl, rfl, k⟩
  · rw [decide_eq_false c1, Bool.false_and] at k
    rw [decide_eq_false c1]
    exact iteF k
theorem ok_shows {f fQ fN : Addr} {fd fdQ fdN : FuncData} (F : Fun K "_law_shows" "_law_shows" sShows f fd) (B : Bc mg) (all_ : mg "all" = none) (N : Df K mg "_law_is_int" sIsIntL ["_law_value", "_law_least", "_law_greatest"] fN fdN) (Pq : Df K mg "_law_is_pair" sPairQ ["_law_thing"] fQ fdQ) : FnOk P w K mg base CX0 3 f fd ["_law_first", "_law_last", "_law_many", "_law_thing"] (spShowsL K) := by
  have GQ : FnOk P w K mg base CX0 2 fQ fdQ ["_law_thing"] (spAsk K isPairL) := ok_pairQ Pq.F B N
  refine F.ok scShows (fun vs H Q E h => ?_) (fun cdv A outer s H vs Q E hr h => ?_)
  · obtain ⟨p, q, x1, y1, x2, y2, n, v, d, rfl, _⟩ := h
    rfl
  · obtain ⟨p, q, x1, y1, x2, y2, n, v, d, rfl, s1, s2, an, gp, k⟩ := h
    have hu := hr.units
    refine ⟨_, pss_cons (ps_if (PW.pt (pw_or (pt_cmpR (op_eqD hu) (pv 0) (pv 1) (nomark _)) (pw_or1 (pt_cmpR op_eq (pv 2) pe_int (nomark _))))) (pss_one (ps_ret (pe_and (pe_callB call_isi (by rfl) B.isi (by decide +kernel) (pa_cons (pv 3) (pa_cons (pe_bltn (v := .ty "tuple") (by rfl) B.tuple (by decide +kernel) rfl) pa_nil))) (pe_one (pe_cmpR op_eq (pe_callB call_len_seq (by rfl) B.len PySem.boot_len (pa_cons (pv 3) pa_nil)) pe_int (nomark _)))))) pss_nil)
      (pss_cons (ps_if (PW.pt (pw_or (pt_not (pt_val (pe_callB call_isi (by rfl) B.isi (by decide +kernel) (pa_cons (pv 3) (pa_cons (pe_bltn (v := .ty "tuple") (by rfl) B.tuple (by decide +kernel) rfl) pa_nil))))) (pw_or (pt_cmpR op_ne (pe_callB call_len_seq (by rfl) B.len PySem.boot_len (pa_cons (pv 3) pa_nil)) pe_int (nomark _))
          (pw_or (pt_not (pt_val (pe_call GQ hr (by rfl) Pq.g Pq.F.kp Pq.b .nil pass0 (pa_cons (pe_ix ix_tup (pv 3) pe_int (fun _ _ => rfl)) pa_nil))))
          (pw_or1 (pt_not (pt_val (pe_call GQ hr (by rfl) Pq.g Pq.F.kp Pq.b .nil pass0 (pa_cons (pe_ix ix_tup (pv 3) pe_int (fun _ _ => rfl)) pa_nil))))))))) (pss_one (ps_ret pe_bl)) pss_nil)
      (pss_cons (ps_asg (pv 3) (pg_tup (by rfl) (pgs_cons (pg_tup (by rfl) (pgs_cons (pg_name (i := 4) scShows.nd rfl (.inr rfl)) (pgs_cons (pg_name (i := 5) scShows.nd rfl (.inr rfl)) pgs_nil))) (pgs_cons (pg_tup (by rfl) (pgs_cons (pg_name (i := 6) scShows.nd rfl (.inr rfl)) (pgs_cons (pg_name (i := 7) scShows.nd rfl (.inr rfl)) pgs_nil))) pgs_nil))))
      (pss_cons (ps_if (PW.pt (pw_or (pt_cmpR op_ne (pe_op op_sub (pe_op op_mulW (pv 6) (pv 5)) (pe_op op_mulW (pv 4) (pv 7))) pe_int (nomark _)) (pw_or1 (pt_cmpR op_lt (pe_op op_add (pv 5) (pv 7)) (pv 2) (nomark _))))) (pss_one (ps_ret pe_bl)) pss_nil)
      (pss_one (ps_ret (pe_callB (cr_all rfl) (by rfl) all_ (by decide +kernel) (pa_cons
        (pe_lc (te := tAmid) (own := [("_law_u", 8), ("_law_v", 9)]) (g := gTup K 2 (gCons (gName 8) (gCons (gName 9) gNil))) (tt := tYes) rfl scShows.nd
          (pi_list (pe_lst (pa_cons (pv 0) (pa_cons (pv 1) pa_nil))))
          (blkOk_by (N := NSh) (sc := defScope sShows) (by decide +kernel)) (fun _ _ _ _ _ => pg_tup (by rfl) (pgs_cons (pg_name (i := 8) scShows.nd rfl (.inl rfl)) (pgs_cons (pg_name (i := 9) scShows.nd rfl (.inl rfl)) pgs_nil))) (fun _ _ _ _ _ => pts_nil)
          (fun _ _ _ _ _ => show PE _ _ tAmid from pe_and (pe_cmpR op_lt (pe_op op_mulW (pv 4) (pv 9)) (pe_op op_mulW (pv 8) (pv 5)) (nomark _)) (pe_one (pe_cmpR op_lt (pe_op op_mulW (pv 8) (pv 7)) (pe_op op_mulW (pv 6) (pv 9)) (nomark _))))) pa_nil))))))), ?_⟩
    have up : ∀ {z : Int}, z.natAbs < 2 ^ 200 → z.natAbs < 2 ^ 1000 := fun h => Nat.lt_of_lt_of_le h (Nat.pow_le_pow_right (by decide) (by decide))
    have sh : ∀ u z : Int, u.natAbs < 2 ^ 1000 → z.natAbs < 2 ^ 1000 → SeqAt.shaped (PyData.tuple [.int u, .int z]) = true := fun u z hu hz => (Sm.ints (n := 2) (ns := [u, z]) (fun k hk => by
      rcases List.mem_cons.mp hk with rfl | hk
      · exact hu
      · rw [List.mem_singleton.mp hk]; exact hz) (Nat.le_refl _)).shaped (by decide)
    refine ⟨_, rfl, _, rfl, .tuple [.int x1, .int y1], .tuple [.int x2, .int y2], .tup (SqT.of s1.s.1) (.cons (.int _) (.cons (.int _) .nil)), .tup (SqT.of s2.s.1) (.cons (.int _) (.cons (.int _) .nil)), sh _ _ (up s1.xb) (up s1.b), sh _ _ (up s2.xb) (up s2.b), _, rfl, ?_⟩
    rw [pair_eqv]
    have short : (x1 = x2 ∧ y1 = y2) ∨ n = 1 → Q (.bl (isLenD 0 d)) H := fun c => by
      have k := k _ (Same.refl _)
      unfold alikeD at k
      rw [if_pos c] at k
      exact k
    by_cases ee : x1 = x2 ∧ y1 = y2
    · rw [decide_eq_true ee]
      have kq := short (.inl ee)
      refine iteT ?_
      refine ⟨_, rfl, v, .ty "tuple", _, _, _, rfl, .ty "tuple", an.ty, kit_ty kit_tup, _, rfl, ?_⟩
      cases et : isTupB d with
      | false =>
        rw [isLen_ty et] at kq
        exact iteF kq
      | true =>
        obtain ⟨ap, xs, ds, rfl, rfl, hP, all⟩ := an.isT et
        refine iteT ⟨_, rfl, ap, xs, rfl, .inr (SqT.of hP), rfl, ?_⟩
        have e : decide (V.int (xs.length : Int) = V.int 0) = isLenD 0 (.tuple ds) := by
          show _ = decide (ds.length = 0)
          rw [decide_eq_decide, V.int.injEq, dpAll_len all]
          omega
        rw [← e] at kq
        exact kq
    · rw [decide_eq_false ee]
      refine iteF ⟨_, rfl, rfl, _, rfl, ?_⟩
      by_cases en : n = 1
      · rw [decide_eq_true (show V.int n = V.int 1 from congrArg V.int en)]
        have kq := short (.inr en)
        refine iteT ?_
        refine ⟨_, rfl, v, .ty "tuple", _, _, _, rfl, .ty "tuple", an.ty, kit_ty kit_tup, _, rfl, ?_⟩
        cases et : isTupB d with
        | false =>
          rw [isLen_ty et] at kq
          exact iteF kq
        | true =>
          obtain ⟨ap, xs, ds, rfl, rfl, hP, all⟩ := an.isT et
          refine iteT ⟨_, rfl, ap, xs, rfl, .inr (SqT.of hP), rfl, ?_⟩
          have e : decide (V.int (xs.length : Int) = V.int 0) = isLenD 0 (.tuple ds) := by
            show _ = decide (ds.length = 0)
            rw [decide_eq_decide, V.int.injEq, dpAll_len all]
            omega
          rw [← e] at kq
          exact kq
      · rw [decide_eq_false (show ¬ V.int n = V.int 1 from fun z => en (V.int.inj z))]
        refine iteF ?_
        have k : ∀ H', Same H H' → Q (.bl (twoD x1 y1 x2 y2 n d)) H' := fun H' e => by
          have k := k H' e
          unfold alikeD at k
          rw [if_neg (fun z => z.elim ee en)] at k
          exact k
        have no : (∀ p q, d = .tuple [p, q] → isPairL p = false ∨ isPairL q = false) → Q (.bl false) H := fun z => by
          have e : twoD x1 y1 x2 y2 n d = false := by
            cases c : twoD x1 y1 x2 y2 n d with
            | false => rfl
            | true =>
              obtain ⟨a, b, c', e, rfl, _⟩ := twoD_of c
              obtain ⟨h1, h2⟩ := twoD_pair gp c _ _ rfl
              rcases z _ _ rfl with z | z
              · rw [h1] at z; cases z
              · rw [h2] at z; cases z
          have k := k _ (Same.refl _)
          rw [e] at k
          exact k
        refine ⟨_, rfl, v, .ty "tuple", _, _, _, rfl, .ty "tuple", an.ty, kit_ty kit_tup, _, rfl, ?_⟩
        cases et : isTupB d with
        | false => exact iteT (no fun p q z => by subst z; cases et)
        | true =>
          obtain ⟨ap, xs, ds, rfl, rfl, hP, all⟩ := an.isT et
          refine iteF ⟨_, rfl, ap, xs, rfl, .inr (SqT.of hP), rfl, _, rfl, ?_⟩
          by_cases hl : xs.length = 2
          · obtain ⟨u, z, du, dz, rfl, rfl, au, az⟩ := dpAll_two all hl
            refine iteF ⟨_, rfl, ap, _, 0, u, rfl, rfl, SqT.of hP, at_of (j := 0) rfl rfl, u, du, rfl, au, _, rfl, ?_⟩
            cases f1 : isPairL du with
            | false => exact iteT (no fun p q z => by cases z; exact .inl f1)
            | true =>
              refine iteF ⟨_, rfl, ap, _, 1, z, rfl, rfl, SqT.of hP, at_of (j := 1) rfl rfl, z, dz, rfl, az, _, rfl, ?_⟩
              cases f2 : isPairL dz with
              | false => exact iteT (no fun p q z => by cases z; exact .inr f2)
              | true =>
                obtain ⟨lo, ta, tb, rfl, rfl, hLo, a0, a1, b1, b2⟩ := pairL_of au f1
                obtain ⟨hi, tc, te, rfl, rfl, hHi, c0, c1, e1, e2⟩ := pairL_of az f2
                have l64 : (10 : Int) ^ 64 < ((2 ^ 220 : Nat) : Int) := by decide
                have l3 : (2 : Nat) ^ 220 ≤ 2 ^ 300 := by decide
                have l4 : (2 : Nat) ^ 200 ≤ 2 ^ 300 := by decide
                have ba : ta.natAbs < 2 ^ 300 := by omega
                have bb : tb.natAbs < 2 ^ 300 := by omega
                have bc : tc.natAbs < 2 ^ 300 := by omega
                have be : te.natAbs < 2 ^ 300 := by omega
                have wm : ∀ {u z : Int}, u.natAbs < 2 ^ 300 → z.natAbs < 2 ^ 300 → CMulW u z := fun h1 h2 => wide_mul (a := 300) (b := 300) h1 h2 (by decide) (by decide) (by decide)
                have k : ∀ H', Same H H' → Q (.bl (decide (tc * tb - ta * te = 1) && (decide (n ≤ tb + te) && amidB x1 y1 x2 y2 ta tb tc te))) H' := fun H' e => by
                  have k := k H' e
                  rw [twoD_two a0 b1 e1] at k
                  exact k
                refine iteF ⟨_, rfl, ap, _, rfl, SqT.of hP, rfl, _, _, rfl, lo, _, rfl, SqT.of hLo, rfl, _, _, rfl, _, _, rfl, rfl, _, _, rfl, hi, _, rfl, SqT.of hHi, rfl, _, _, rfl, _, _, rfl, rfl, rfl, ?_⟩
                refine ⟨_, rfl, _, rfl, _, _, rfl, rfl, wm bc bb, _, rfl, _, rfl, _, _, rfl, rfl, wm ba be, _, _, rfl, rfl, rfl, _, rfl, ?_⟩
                by_cases c1 : tc * tb - ta * te = 1
                · rw [show (!(decide (V.int (tc * tb - ta * te) = V.int 1))) = false by rw [decide_eq_true (congrArg V.int c1)]; rfl]
                  refine iteF ⟨_, rfl, _, rfl, _, _, rfl, rfl, _, rfl, _, _, rfl, rfl, _, rfl, ?_⟩
                  by_cases c2 : tb + te < n
                  · rw [decide_eq_true c2]
                    have k := k _ (Same.refl _)
                    rw [decide_eq_false (show ¬ n ≤ tb + te by omega), Bool.false_and, Bool.and_false] at k
                    exact iteT k
                  · rw [decide_eq_false c2]
                    have kk : ∀ H', Same H H' → Q (.bl (amidB x1 y1 x2 y2 ta tb tc te)) H' := fun H' e => by
                      have k := k H' e
                      rw [decide_eq_true c1, decide_eq_true (show n ≤ tb + te by omega), Bool.true_and, Bool.true_and] at k
                      exact k
                    refine iteF ⟨_, rfl, _, rfl, (by show 2 ≤ sizeLine; decide), fun l hl => ?_⟩
                    have e3 := same_put (o := HO.lst [.ref p, .ref q]) hl
                    have hL : upd H l (HO.lst [.ref p, .ref q]) l = some (.lst [.ref p, .ref q]) := upd_same
                    have s1 := s1.same e3
                    have s2 := s2.same e3
                    generalize upd H l (HO.lst [.ref p, .ref q]) = H1 at *
                    refine ⟨l, rfl, ⟨_, SqL.of hL⟩, fun D hD => ?_⟩
                    refine lc_list (K := K) (a := l) (xs := [.ref p, .ref q]) (fun i H' => H' D = some (.lst (([(decide (ta * y1 < x1 * tb) && decide (x1 * te < tc * y1)), (decide (ta * y2 < x2 * tb) && decide (x2 * te < tc * y2))].take i).map V.bl)) ∧ Same H1 H') ⟨upd_same, same_put hD⟩ (fun i H' _ h => SqL.of (h.2 _ _ hL)) ?_ ?_
                    · rintro i v H2 hv ⟨g1, g2⟩
                      have i2 : i < 2 := (List.getElem?_eq_some_iff.mp hv).1
                      generalize hb1 : (decide (ta * y1 < x1 * tb) && decide (x1 * te < tc * y1)) = t1 at *
                      generalize hb2 : (decide (ta * y2 < x2 * tb) && decide (x2 * te < tc * y2)) = t2 at *
                      have fin : ∀ z : Bool, [t1, t2][i]? = some z → ∃ acc, H2 D = some (HO.lst acc) ∧ acc.length < sizeLine ∧ upd H2 D (HO.lst (acc ++ [.bl z])) D = some (.lst (([t1, t2].take (i + 1)).map V.bl)) ∧ Same H1 (upd H2 D (HO.lst (acc ++ [.bl z]))) := fun z hz =>
                        ⟨_, g1, by rw [List.length_map, List.length_take]; exact small1000 (by simp; omega), by rw [upd_same, List.take_add_one, hz, List.map_append]; rfl, fun b o e => by rw [upd_ne (ne_of_none e hD)]; exact g2 _ _ e⟩
                      have q1 := (s1.same g2).s.1
                      have q2 := (s2.same g2).s.1
                      match i, i2, hv, fin with
                      | 0, _, hv, fin =>
                        cases hv
                        refine ⟨p, _, rfl, SqT.of q1, rfl, _, _, rfl, _, _, rfl, rfl, rfl, amid_reads rfl rfl rfl rfl rfl rfl ba bb bc be (Nat.lt_of_lt_of_le s1.xb l4) (Nat.lt_of_lt_of_le s1.b l4) ?_⟩
                        rw [hb1]
                        exact fin _ rfl
                      | 1, _, hv, fin =>
                        cases hv
                        refine ⟨q, _, rfl, SqT.of q2, rfl, _, _, rfl, _, _, rfl, rfl, rfl, amid_reads rfl rfl rfl rfl rfl rfl ba bb bc be (Nat.lt_of_lt_of_le s2.xb l4) (Nat.lt_of_lt_of_le s2.b l4) ?_⟩
                        rw [hb2]
                        exact fin _ rfl
                    rintro H2 ⟨g1, g2⟩
                    refine ⟨D, [(decide (ta * y1 < x1 * tb) && decide (x1 * te < tc * y1)), (decide (ta * y2 < x2 * tb) && decide (x2 * te < tc * y2))], rfl, SqL.of g1, ?_⟩
                    have kz := kk H2 (e3.trans g2)
                    simp only [List.all_cons, List.all_nil, id, Bool.and_true]
                    exact kz
                · rw [show (!(decide (V.int (tc * tb - ta * te) = V.int 1))) = true by rw [decide_eq_false (fun z => c1 (V.int.inj z))]; rfl]
                  have k := k _ (Same.refl _)
                  rw [decide_eq_false c1, Bool.false_and] at k
                  exact iteT k
          · refine (show ∀ b : Bool, b = true → (if b = true then _ else _) from fun b hb => by subst hb; exact iteT (no fun p q z => by cases z; exact absurd (dpAll_len all) hl)) _ ?_
            rw [decide_eq_false, Bool.not_false]
            intro z
            rw [V.int.injEq] at z
            exact hl (by omega)
end
end My
set_option Elab.async false
set_option linter.all false
set_option maxRecDepth 100000
set_option maxHeartbeats 8000000
set_option exponentiation.threshold 2000
namespace My
open PySem PySem.Spec PyProof.Rows L2 Gn Mt
/-! the papers that the law offers -/
abbrev sPapers : Stmt := top 108
abbrev NPp : List Str := ["_law_reel_here", "_law_ends", "_law_a", "_law_b", "_law_c", "_law_d", "_law_found"]
theorem scPapers : FnScope NPp ["_law_reel_here", "_law_ends"] (defScope sPapers) := ⟨rfl, rfl, rfl, by decide +kernel, rfl, by decide +kernel, by decide +kernel⟩
theorem anApp {K : PySem.W.Frag} {H : Hp} : ∀ {vs us : List V} {ds es : List PyData}, AnAll K H vs ds → AnAll K H us es → AnAll K H (vs ++ us) (ds ++ es)
  | _, _, _, _, .nil, g => g
  | _, _, _, _, .cons h t, g => .cons h (anApp t g)
/-- list(xs) -/
def rListOf (K : PySem.W.Frag) : List V → Hp → VK → Prop := fun xs H Q => ∃ p ys, xs = [V.ref p] ∧ (SqL K H p ys ∨ SqT K H p ys) ∧ ∀ l, H l = none → Q (.ref l) (upd H l (.lst ys))
/-- two fractions stand in a list -/
def EndsAt (H : Hp) (q : Addr) (a b c d : Int) : Prop := ∃ p r : Addr, H q = some (.lst [.ref p, .ref r]) ∧ H p = some (.tup [.int a, .int b]) ∧ H r = some (.tup [.int c, .int d])
theorem EndsAt.same {H H' : Hp} {q : Addr} {a b c d : Int} (h : EndsAt H q a b c d) (e : Same H H') : EndsAt H' q a b c d := by
  obtain ⟨p, r, h1, h2, h3⟩ := h
  exact ⟨p, r, e _ _ h1, e _ _ h2, e _ _ h3⟩
structure Sl (σ : L2.St) (q : Addr) (a b c d : Int) : Prop where
  q : σ[1]? = some (some (.ref q))
  a : σ[2]? = some (some (.int a))
  b : σ[3]? = some (some (.int b))
  c : σ[4]? = some (some (.int c))
  d : σ[5]? = some (some (.int d))
structure E45 (a b c d : Int) : Prop where
  ab : a.natAbs ≤ 10 ^ 45
  bb : b.natAbs ≤ 10 ^ 45
  cb : c.natAbs ≤ 10 ^ 45
  db : d.natAbs ≤ 10 ^ 45
theorem Ends.e45 {a b c d : Int} (h : Ends a b c d) : E45 a b c d := by
  have a0 := h.a0; have b1 := h.b1; have c1 := h.c1; have d1 := h.d1; have ab := h.ab; have cd := h.cd; have bb := h.bb; have db := h.db
  have e : ((10 ^ 45 : Nat) : Int) = 10 ^ 45 := by decide
  exact ⟨by omega, by omega, by omega, by omega⟩
section
variable {K : PySem.W.Frag} {σ : L2.St} {H : Hp} {i j : Nat} {x y a b c d : Int} {q : Addr}
theorem fa_v (h : σ[i]? = some (some (.int x))) : Fm (tVar i) σ H (isA K (.int x)) := fun H1 _ Q q => ⟨_, h, q _ H1 (Same.refl _) (.int _)⟩
theorem fa_add (h : σ[i]? = some (some (.int x))) (g : σ[j]? = some (some (.int y))) : Fm (tOp (rI0 fun i j => .int (i + j)) (tVar i) (tVar j)) σ H (isA K (.int (x + y))) := fun H1 _ Q q => ⟨_, h, _, g, _, _, rfl, rfl, q _ H1 (Same.refl _) (.int _)⟩
theorem fa_inc (h : σ[i]? = some (some (.int x))) : Fm (tOp (rI0 fun i j => .int (i + j)) (tVar i) (tC (.int 1))) σ H (isA K (.int (x + 1))) := fun H1 _ Q q => ⟨_, h, _, _, rfl, rfl, q _ H1 (Same.refl _) (.int _)⟩
theorem fa_dbl (h : σ[i]? = some (some (.int x))) (hb : x.natAbs ≤ 10 ^ 45) : Fm (tOp (rI CMulW fun i j => .int (i * j)) (tC (.int 2)) (tVar i)) σ H (isA K (.int (2 * x))) := fun H1 _ Q q =>
  ⟨_, h, _, _, rfl, rfl, wide_mul (a := 300) (b := 300) (by decide) (Nat.lt_of_le_of_lt hb (by decide)) (by decide) (by decide) (by decide), q _ H1 (Same.refl _) (.int _)⟩
theorem fa_ng (h : σ[i]? = some (some (.int x))) : Fm (tUn (rU fun i => .int (-i)) (tVar i)) σ H (isA K (.int (-x))) := fun H1 _ Q q => ⟨_, h, _, rfl, q _ H1 (Same.refl _) (.int _)⟩
theorem an_two {H : Hp} {p : Addr} {a b : Int} (h : H p = some (.tup [.int a, .int b])) : An K H (.ref p) (.tuple [.int a, .int b]) := .tup h (.cons (.int _) (.cons (.int _) .nil))
theorem fa_tupL (h : σ[1]? = some (some (.ref q))) (hq : EndsAt H q a b c d) : Fm (tCB (rTupL K) (tCons (tVar 1) tNil)) σ H (isA K (.tuple [.tuple [.int a, .int b], .tuple [.int c, .int d]])) := fun H1 e Q k => by
  obtain ⟨p, r, h1, h2, h3⟩ := hq.same e
  exact ⟨_, h, q, _, rfl, SqL.of h1, fun l hl => k _ _ (same_put hl) (.tup upd_same (.cons (an_two (same_put hl _ _ h2)) (.cons (an_two (same_put hl _ _ h3)) .nil)))⟩
theorem fa_tupR (h : σ[1]? = some (some (.ref q))) (hq : EndsAt H q a b c d) : Fm (tCB (rTupL K) (tCons (tRevL K (tVar 1)) tNil)) σ H (isA K (.tuple [.tuple [.int c, .int d], .tuple [.int a, .int b]])) := fun H1 e Q k => by
  obtain ⟨p, r, h1, h2, h3⟩ := hq.same e
  refine ⟨_, h, q, _, rfl, SqL.of h1, fun m hm => ⟨m, _, rfl, SqL.of upd_same, fun l hl => ?_⟩⟩
  have s := (same_put (o := HO.lst [V.ref p, .ref r].reverse) hm).trans (same_put (o := HO.tup [V.ref p, .ref r].reverse) hl)
  exact k _ _ s (.tup upd_same (.cons (an_two (s _ _ h3)) (.cons (an_two (s _ _ h2)) .nil)))
theorem fa_lstO (h : σ[1]? = some (some (.ref q))) (hq : EndsAt H q a b c d) : Fm (tCB (rListOf K) (tCons (tVar 1) tNil)) σ H (isA K (.list [.tuple [.int a, .int b], .tuple [.int c, .int d]])) := fun H1 e Q k => by
  obtain ⟨p, r, h1, h2, h3⟩ := hq.same e
  exact ⟨_, h, q, _, rfl, .inl (SqL.of h1), fun l hl => k _ _ (same_put hl) (.lst upd_same (.cons (an_two (same_put hl _ _ h2)) (.cons (an_two (same_put hl _ _ h3)) .nil)))⟩
end
@[irreducible] def tPap1 (K : PySem.W.Frag) : TA := (tCons (tCB (rTupL K) (tCons (tVar 1) tNil)) (tCons (tTup (tCons (tTup (tCons (tVar 2) (tCons (tVar 3) tNil))) (tCons (tTup (tCons (tOp (rI0 fun i j => .int (i + j)) (tVar 2) (tVar 4)) (tCons (tOp (rI0 fun i j => .int (i + j)) (tVar 3) (tVar 5)) tNil))) tNil))) (tCons (tTup (tCons (tTup (tCons (tOp (rI0 fun i j => .int (i + j)) (tVar 2) (tVar 4)) (tCons (tOp (rI0 fun i j => .int (i + j)) (tVar 3) (tVar 5)) tNil))) (tCons (tTup (tCons (tVar 4) (tCons (tVar 5) tNil))) tNil))) (tCons (tCB (rTupL K) (tCons (tRevL K (tVar 1)) tNil)) (tCons (tCB (rListOf K) (tCons (tVar 1) tNil)) (tCons (tTup tNil) tNil))))))
def dPap1 (a b c d : Int) : List PyData := [.tuple [.tuple [.int a, .int b], .tuple [.int c, .int d]], .tuple [.tuple [.int a, .int b], .tuple [.int (a + c), .int (b + d)]], .tuple [.tuple [.int (a + c), .int (b + d)], .tuple [.int c, .int d]], .tuple [.tuple [.int c, .int d], .tuple [.int a, .int b]], .list [.tuple [.int a, .int b], .tuple [.int c, .int d]], .tuple []]
theorem fm_tPap1 {K : PySem.W.Frag} {σ : L2.St} {H : Hp} {a b c d : Int} {q : Addr} (s : Sl σ q a b c d) (e45 : E45 a b c d) (hq : EndsAt H q a b c d) : FmD K (tPap1 K) σ H (dPap1 a b c d) := by unfold tPap1; exact (faA_cons (fa_tupL s.q hq) (faA_cons (fa_tup (by simp) (faA_cons (fa_tup (by simp) (faA_cons (fa_v s.a) (faA_cons (fa_v s.b) faA_nil))) (faA_cons (fa_tup (by simp) (faA_cons (fa_add s.a s.c) (faA_cons (fa_add s.b s.d) faA_nil))) faA_nil))) (faA_cons (fa_tup (by simp) (faA_cons (fa_tup (by simp) (faA_cons (fa_add s.a s.c) (faA_cons (fa_add s.b s.d) faA_nil))) (faA_cons (fa_tup (by simp) (faA_cons (fa_v s.c) (faA_cons (fa_v s.d) faA_nil))) faA_nil))) (faA_cons (fa_tupR s.q hq) (faA_cons (fa_lstO s.q hq) (faA_cons (fa_tup (by simp) faA_nil) faA_nil))))))
@[irreducible] def tPap2 : TA := (tCons (tTup (tCons (tTup (tCons (tVar 2) (tCons (tVar 3) tNil))) (tCons (tTup (tCons (tVar 4) (tCons (tOp (rI0 fun i j => .int (i + j)) (tVar 5) (tC (.int 1))) tNil))) tNil))) (tCons (tTup (tCons (tTup (tCons (tVar 2) (tCons (tOp (rI0 fun i j => .int (i + j)) (tVar 3) (tC (.int 1))) tNil))) (tCons (tTup (tCons (tVar 4) (tCons (tVar 5) tNil))) tNil))) (tCons (tTup (tCons (tTup (tCons (tOp (rI CMulW fun i j => .int (i * j)) (tC (.int 2)) (tVar 2)) (tCons (tOp (rI CMulW fun i j => .int (i * j)) (tC (.int 2)) (tVar 3)) tNil))) (tCons (tTup (tCons (tVar 4) (tCons (tVar 5) tNil))) tNil))) (tCons (tTup (tCons (tTup (tCons (tVar 2) (tCons (tVar 3) tNil))) tNil)) tNil))))
def dPap2 (a b c d : Int) : List PyData := [.tuple [.tuple [.int a, .int b], .tuple [.int c, .int (d + 1)]], .tuple [.tuple [.int a, .int (b + 1)], .tuple [.int c, .int d]], .tuple [.tuple [.int (2 * a), .int (2 * b)], .tuple [.int c, .int d]], .tuple [.tuple [.int a, .int b]]]
theorem fm_tPap2 {K : PySem.W.Frag} {σ : L2.St} {H : Hp} {a b c d : Int} {q : Addr} (s : Sl σ q a b c d) (e45 : E45 a b c d) (hq : EndsAt H q a b c d) : FmD K (tPap2) σ H (dPap2 a b c d) := by unfold tPap2; exact (faA_cons (fa_tup (by simp) (faA_cons (fa_tup (by simp) (faA_cons (fa_v s.a) (faA_cons (fa_v s.b) faA_nil))) (faA_cons (fa_tup (by simp) (faA_cons (fa_v s.c) (faA_cons (fa_inc s.d) faA_nil))) faA_nil))) (faA_cons (fa_tup (by simp) (faA_cons (fa_tup (by simp) (faA_cons (fa_v s.a) (faA_cons (fa_inc s.b) faA_nil))) (faA_cons (fa_tup (by simp) (faA_cons (fa_v s.c) (faA_cons (fa_v s.d) faA_nil))) faA_nil))) (faA_cons (fa_tup (by simp) (faA_cons (fa_tup (by simp) (faA_cons (fa_dbl s.a e45.ab) (faA_cons (fa_dbl s.b e45.bb) faA_nil))) (faA_cons (fa_tup (by simp) (faA_cons (fa_v s.c) (faA_cons (fa_v s.d) faA_nil))) faA_nil))) (faA_cons (fa_tup (by simp) (faA_cons (fa_tup (by simp) (faA_cons (fa_v s.a) (faA_cons (fa_v s.b) faA_nil))) faA_nil)) faA_nil))))
@[irreducible] def tP4 : TE := (tTup (tCons (tTup (tCons (tC (.int 0)) (tCons (tC (.int 1)) tNil))) (tCons (tTup (tCons (tC (.int 1)) (tCons (tC (.int 1)) tNil))) tNil)))
def dP4 (a b c d : Int) : PyData := .tuple [.tuple [.int 0, .int 1], .tuple [.int 1, .int 1]]
theorem fm_tP4 {K : PySem.W.Frag} {σ : L2.St} {H : Hp} {a b c d : Int} {q : Addr} (s : Sl σ q a b c d) (e45 : E45 a b c d) (hq : EndsAt H q a b c d) : Fm tP4 σ H (isA K (dP4 a b c d)) := by unfold tP4; exact (fa_tup (by simp) (faA_cons (fa_tup (by simp) (faA_cons (fa_c (.int 0)) (faA_cons (fa_c (.int 1)) faA_nil))) (faA_cons (fa_tup (by simp) (faA_cons (fa_c (.int 1)) (faA_cons (fa_c (.int 1)) faA_nil))) faA_nil)))
@[irreducible] def tP5 : TE := (tTup (tCons (tTup (tCons (tVar 2) (tCons (tC (.bl true)) tNil))) (tCons (tTup (tCons (tVar 4) (tCons (tVar 5) tNil))) tNil)))
def dP5 (a b c d : Int) : PyData := .tuple [.tuple [.int a, .bool true], .tuple [.int c, .int d]]
theorem fm_tP5 {K : PySem.W.Frag} {σ : L2.St} {H : Hp} {a b c d : Int} {q : Addr} (s : Sl σ q a b c d) (e45 : E45 a b c d) (hq : EndsAt H q a b c d) : Fm tP5 σ H (isA K (dP5 a b c d)) := by unfold tP5; exact (fa_tup (by simp) (faA_cons (fa_tup (by simp) (faA_cons (fa_v s.a) (faA_cons (fa_c (.bl true)) faA_nil))) (faA_cons (fa_tup (by simp) (faA_cons (fa_v s.c) (faA_cons (fa_v s.d) faA_nil))) faA_nil)))
@[irreducible] def tP6 : TE := (tTup (tCons (tTup (tCons (tUn (rU fun i => .int (-i)) (tVar 2)) (tCons (tUn (rU fun i => .int (-i)) (tVar 3)) tNil))) (tCons (tTup (tCons (tVar 4) (tCons (tVar 5) tNil))) tNil)))
def dP6 (a b c d : Int) : PyData := .tuple [.tuple [.int (-a), .int (-b)], .tuple [.int c, .int d]]
theorem fm_tP6 {K : PySem.W.Frag} {σ : L2.St} {H : Hp} {a b c d : Int} {q : Addr} (s : Sl σ q a b c d) (e45 : E45 a b c d) (hq : EndsAt H q a b c d) : Fm tP6 σ H (isA K (dP6 a b c d)) := by unfold tP6; exact (fa_tup (by simp) (faA_cons (fa_tup (by simp) (faA_cons (fa_ng s.a) (faA_cons (fa_ng s.b) faA_nil))) (faA_cons (fa_tup (by simp) (faA_cons (fa_v s.c) (faA_cons (fa_v s.d) faA_nil))) faA_nil)))
/-- a paper's numbers and lists are such that it may be kept and asked about -/
structure Okp (d : PyData) : Prop where
  g : Gp d
  n : no3 d = true
def dP3 (a b c d : Int) : PyData := .tuple [.tuple [.int a, .int b, .int 1], .tuple [.int c, .int d]]
def paps (a b c d : Int) : List PyData := dPap1 a b c d ++ dPap2 a b c d ++ [dP3 a b c d] ++ [dP4 a b c d, dP5 a b c d, dP6 a b c d, .none]
theorem okp_two {a b c d : Int} (h1 : a.natAbs ≤ 10 ^ 64) (h2 : b.natAbs ≤ 10 ^ 64) (h3 : c.natAbs ≤ 10 ^ 64) (h4 : d.natAbs ≤ 10 ^ 64) : Okp (.tuple [.tuple [.int a, .int b], .tuple [.int c, .int d]]) := ⟨⟨fun _ _ _ _ e => by cases e; exact ⟨h1, h2, h3, h4⟩⟩, rfl⟩
theorem paps_ok {a b c d : Int} (h : E45 a b c d) : ∀ e ∈ paps a b c d, Okp e := by
  have ha := h.ab; have hb := h.bb; have hc := h.cb; have hd := h.db
  have big : (10 : Nat) ^ 45 * 3 ≤ 10 ^ 64 := by decide
  intro e he
  simp only [paps, dPap1, dPap2, dP3, dP4, dP5, dP6, List.mem_append, List.mem_cons, List.not_mem_nil, or_false, or_assoc] at he
  rcases he with rfl | rfl | rfl | rfl | rfl | rfl | rfl | rfl | rfl | rfl | rfl | rfl | rfl | rfl | rfl <;> first
    | exact okp_two (by omega) (by omega) (by omega) (by omega)
    | exact ⟨⟨fun _ _ _ _ e => by cases e⟩, rfl⟩
theorem odds_okp : ∀ e ∈ odds, Okp e := fun e he => ⟨⟨fun a b c d z => by
  subst z
  simp [odds, odd1, odd2] at he⟩, no3_mem odds_no3 he⟩
theorem no3s_of : ∀ {ds : List PyData}, (∀ d ∈ ds, no3 d = true) → no3.no3s ds = true
  | [], _ => rfl
  | d :: ds, h => by
    simp only [no3.no3s, h d List.mem_cons_self, no3s_of fun e he => h e (List.mem_cons_of_mem _ he), Bool.and_self]
def spPapers (K : PySem.W.Frag) : Sp := fun vs H Q _ => ∃ (t q : Addr) (a b c d N : Int), vs = [.ref t, .ref q] ∧ Reel H t N ∧ N < 2 ^ 60 ∧ EndsAt H q a b c d ∧ Ends a b c d ∧
  ∀ l us ds H', H' l = some (.lst us) → AnAll K H' us ds → us.length = 16 → (∀ e ∈ ds, Okp e) → Spun H H' t (N + 1) → Q (.ref l) H'
section
variable {P : Program} {w : World} {K : PySem.W.Frag} {mg : Str → Option Value} {base : Heap}
theorem ok_papers {f fS fP fO : Addr} {fd fdS fdP fdO : FuncData} (F : Fun K "_law_papers" "_law_papers" sPapers f fd) (B : Bs mg) (li : mg "list" = none) (S : Df K mg "_law_spin" sSpin ["_law_reel_here", "_law_many"] fS fdS) (Pk : Df K mg "_law_one" sOne ["_law_reel_here", "_law_menu"] fP fdP) (O : Df K mg "_law_odd" sOddR ["_law_reel_here"] fO fdO) : FnOk P w K mg base CX0 4 f fd ["_law_reel_here", "_law_ends"] (spPapers K) := by
  have GO : FnOk P w K mg base CX0 3 fO fdO ["_law_reel_here"] (spOddR K) := ok_oddR O.F B.b S Pk
  refine F.ok scPapers (fun vs H Q E h => ?_) (fun cdv A outer s H vs Q E hr h => ?_)
  · obtain ⟨t, q, a, b, c, d, N, rfl, _⟩ := h
    rfl
  · obtain ⟨t, q, a, b, c, d, N, rfl, T, NN, hq, en, k⟩ := h
    have e45 := en.e45
    refine ⟨_, pss_cons (ps_asg (pv 1) (pg_lst (by rfl) (pgs_cons (pg_tup (by rfl) (pgs_cons (pg_name (i := 2) scPapers.nd rfl (.inl rfl)) (pgs_cons (pg_name (i := 3) scPapers.nd rfl (.inl rfl)) pgs_nil))) (pgs_cons (pg_tup (by rfl) (pgs_cons (pg_name (i := 4) scPapers.nd rfl (.inl rfl)) (pgs_cons (pg_name (i := 5) scPapers.nd rfl (.inl rfl)) pgs_nil))) pgs_nil))))
      (pss_cons (ps_set (i := 6) scPapers.nd rfl (.inl rfl) (pe_lst (t := tPap1 K) (by unfold tPap1; exact (pa_cons (pe_callTy cr_tupL (by rfl) B.tuple (by decide +kernel) (pa_cons (pv 1) pa_nil)) (pa_cons (pe_tup (pa_cons (pe_tup (pa_cons (pv 2) (pa_cons (pv 3) pa_nil))) (pa_cons (pe_tup (pa_cons (pe_op op_add (pv 2) (pv 4)) (pa_cons (pe_op op_add (pv 3) (pv 5)) pa_nil))) pa_nil))) (pa_cons (pe_tup (pa_cons (pe_tup (pa_cons (pe_op op_add (pv 2) (pv 4)) (pa_cons (pe_op op_add (pv 3) (pv 5)) pa_nil))) (pa_cons (pe_tup (pa_cons (pv 4) (pa_cons (pv 5) pa_nil))) pa_nil))) (pa_cons (pe_callTy cr_tupL (by rfl) B.tuple (by decide +kernel) (pa_cons (pe_revL (pv 1)) pa_nil)) (pa_cons (pe_callTy call_list_of (by rfl) li (by decide +kernel) (pa_cons (pv 1) pa_nil)) (pa_cons (pe_tup pa_nil) pa_nil)))))))))
      (pss_cons (ps_set (i := 6) scPapers.nd rfl (.inl rfl) (pe_op op_cat (pv 6) (pe_lst (t := tPap2) (by unfold tPap2; exact (pa_cons (pe_tup (pa_cons (pe_tup (pa_cons (pv 2) (pa_cons (pv 3) pa_nil))) (pa_cons (pe_tup (pa_cons (pv 4) (pa_cons (pe_op op_add (pv 5) pe_int) pa_nil))) pa_nil))) (pa_cons (pe_tup (pa_cons (pe_tup (pa_cons (pv 2) (pa_cons (pe_op op_add (pv 3) pe_int) pa_nil))) (pa_cons (pe_tup (pa_cons (pv 4) (pa_cons (pv 5) pa_nil))) pa_nil))) (pa_cons (pe_tup (pa_cons (pe_tup (pa_cons (pe_op op_mulW pe_int (pv 2)) (pa_cons (pe_op op_mulW pe_int (pv 3)) pa_nil))) (pa_cons (pe_tup (pa_cons (pv 4) (pa_cons (pv 5) pa_nil))) pa_nil))) (pa_cons (pe_tup (pa_cons (pe_tup (pa_cons (pv 2) (pa_cons (pv 3) pa_nil))) pa_nil)) pa_nil))))))))
      (pss_cons (ps_expr (pe_bm PySem.F.plainAttrs_list PySem.F.slot_list_append PySem.F.type_list_append mt_append (pv 6) (pa_cons (pe_tup (pa_cons (pe_tup (pa_cons (pv 2) (pa_cons (pv 3) (pa_cons pe_int pa_nil)))) (pa_cons (pe_tup (pa_cons (pv 4) (pa_cons (pv 5) pa_nil))) pa_nil))) pa_nil)))
      (pss_one (ps_ret (pe_op op_cat (pv 6) (pe_lst (pa_cons (show PE _ _ tP4 by unfold tP4; exact (pe_tup (pa_cons (pe_tup (pa_cons pe_int (pa_cons pe_int pa_nil))) (pa_cons (pe_tup (pa_cons pe_int (pa_cons pe_int pa_nil))) pa_nil)))) (pa_cons (show PE _ _ tP5 by unfold tP5; exact (pe_tup (pa_cons (pe_tup (pa_cons (pv 2) (pa_cons pe_bl pa_nil))) (pa_cons (pe_tup (pa_cons (pv 4) (pa_cons (pv 5) pa_nil))) pa_nil)))) (pa_cons (show PE _ _ tP6 by unfold tP6; exact (pe_tup (pa_cons (pe_tup (pa_cons (pe_un un_neg (pv 2)) (pa_cons (pe_un un_neg (pv 3)) pa_nil))) (pa_cons (pe_tup (pa_cons (pv 4) (pa_cons (pv 5) pa_nil))) pa_nil)))) (pa_cons pe_non (pa_cons (pe_call GO hr (by rfl) O.g O.F.kp O.b .nil pass0 (pa_cons (pv 0) pa_nil)) pa_nil)))))))))))), ?_⟩
    obtain ⟨p, r, h1, h2, h3⟩ := hq
    have hq : EndsAt H q a b c d := ⟨p, r, h1, h2, h3⟩
    refine ⟨_, rfl, q, _, rfl, SqL.of h1, rfl, _, _, rfl, p, _, rfl, SqT.of h2, rfl, _, _, rfl, _, _, rfl, rfl, _, _, rfl, r, _, rfl, SqT.of h3, rfl, _, _, rfl, _, _, rfl, rfl, rfl, ?_⟩
    have s : ∀ z, Sl [some (V.ref t), some (V.ref q), some (V.int a), some (V.int b), some (V.int c), some (V.int d), z] q a b c d := fun z => ⟨rfl, rfl, rfl, rfl, rfl⟩
    unfold tSeq tAsg
    dsimp only
    have f1 := fm_lst (lastsAll_A) (by rw [List.length_map]; exact (by decide : 6 ≤ 1000)) (fm_tPap1 (K := K) (s none) e45 hq).fm
    refine f1 H (Same.refl _) _ fun v1 H1 e1 l1 => ?_
    unfold gName
    dsimp only
    obtain ⟨m, us, rfl, hm, af1⟩ := l1
    refine ⟨_, rfl, (fm_tPap2 (K := K) (s (some (.ref m))) e45 (hq.same e1)).fm H1 (Same.refl _) _ fun us2 H2 e2 af2 => ⟨by rw [af2.len, List.length_map]; show 4 ≤ sizeLine; decide, fun m2 hm2 => ?_⟩⟩
    have A1 := (allF_A af1).same e2
    have A2 := allF_A af2
    have n1 : us.length = 6 := (dpAll_len A1).trans rfl
    have n2 : us2.length = 4 := (dpAll_len A2).trans rfl
    have A12 : AnAll K H2 (us ++ us2) (dPap1 a b c d ++ dPap2 a b c d) := anApp A1 A2
    have hm' := e2 _ _ hm
    have e3 := same_put (o := HO.lst us2) hm2
    have hm2' : upd H2 m2 (HO.lst us2) m2 = some (.lst us2) := upd_same
    refine ⟨m, m2, us, us2, rfl, rfl, e3 _ _ hm', hm2', (by rw [n1, n2]; decide), fun l hl => ?_⟩
    have A3 := A12.same e3
    have E3 := (e1.trans e2).trans e3
    generalize upd H2 m2 (HO.lst us2) = H3 at *
    clear hm hm' hm2 hm2' e2 e3 A1 A2 A12 af1 af2 f1
    dsimp only
    refine ⟨_, rfl, .inl ⟨rfl, _, SqL.of upd_same⟩, _, rfl, _, rfl, (by show 3 ≤ sizeLine; decide), fun p1 hp1 => ⟨_, rfl, _, rfl, (by show 2 ≤ sizeLine; decide), fun p2 hp2 => ⟨(by show 2 ≤ sizeLine; decide), fun p3 hp3 => ?_⟩⟩⟩
    have el := same_put (o := HO.lst (us ++ us2)) hl
    have gl : upd H3 l (HO.lst (us ++ us2)) l = some (.lst (us ++ us2)) := upd_same
    have c3 : ∀ b o, H3 b = some o → b ≠ l := fun b o z => ne_of_none z hl
    generalize upd H3 l (HO.lst (us ++ us2)) = H4 at *
    have g1 := same_put (o := HO.tup [.int a, .int b, .int 1]) hp1
    have g2 := same_put (o := HO.tup [.int c, .int d]) hp2
    have g3 := same_put (o := HO.tup [.ref p1, .ref p2]) hp3
    have k1 : upd H4 p1 (HO.tup [.int a, .int b, .int 1]) p1 = some (.tup [.int a, .int b, .int 1]) := upd_same
    have k2 : upd (upd H4 p1 (HO.tup [.int a, .int b, .int 1])) p2 (HO.tup [.int c, .int d]) p2 = some (.tup [.int c, .int d]) := upd_same
    have k3 : upd (upd (upd H4 p1 (HO.tup [.int a, .int b, .int 1])) p2 (HO.tup [.int c, .int d])) p3 (HO.tup [.ref p1, .ref p2]) p3 = some (.tup [.ref p1, .ref p2]) := upd_same
    have k1 := g3 _ _ (g2 _ _ k1)
    have k2 := g3 _ _ k2
    have G := (g1.trans g2).trans g3
    have gl' := G _ _ gl
    generalize upd (upd (upd H4 p1 (HO.tup [.int a, .int b, .int 1])) p2 (HO.tup [.int c, .int d])) p3 (HO.tup [.ref p1, .ref p2]) = H5 at *
    have n1l : p1 ≠ l := fun e => by rw [e, gl'] at k1; cases k1
    have n2l : p2 ≠ l := fun e => by rw [e, gl'] at k2; cases k2
    have n3l : p3 ≠ l := fun e => by rw [e, gl'] at k3; cases k3
    refine ⟨l, us ++ us2, .ref p3, rfl, rfl, gl', (by rw [List.length_append, n1, n2]; decide), ?_⟩
    have SL : Same H3 (upd H5 l (HO.lst (us ++ us2 ++ [V.ref p3]))) := fun b o z => by rw [upd_ne (c3 b o z)]; exact G _ _ (el _ _ z)
    have A5 : AnAll K (upd H5 l (HO.lst (us ++ us2 ++ [V.ref p3]))) [.ref p3] [dP3 a b c d] := .cons (.tup (by rw [upd_ne n3l]; exact k3) (.cons (.tup (by rw [upd_ne n1l]; exact k1) (.cons (.int _) (.cons (.int _) (.cons (.int _) .nil)))) (.cons (.tup (by rw [upd_ne n2l]; exact k2) (.cons (.int _) (.cons (.int _) .nil))) .nil))) .nil
    have A6 := anApp (A3.same SL) A5
    have gl6 : upd H5 l (HO.lst (us ++ us2 ++ [V.ref p3])) l = some (.lst (us ++ us2 ++ [V.ref p3])) := upd_same
    have E6 := E3.trans SL
    generalize upd H5 l (HO.lst (us ++ us2 ++ [V.ref p3])) = H6 at *
    have xl : (us ++ us2 ++ [V.ref p3]).length = 11 := by rw [List.length_append, List.length_append, n1, n2]; rfl
    generalize us ++ us2 ++ [V.ref p3] = xs at *
    refine ⟨_, rfl, ?_⟩
    refine (fm_tP4 (K := K) (s (some (.ref l))) e45 (hq.same E6)) H6 (Same.refl _) _ fun v4 H7 s7 r4 => ?_
    refine (fm_tP5 (K := K) (s (some (.ref l))) e45 (hq.same (E6.trans s7))) H7 (Same.refl _) _ fun v5 H8 s8 r5 => ?_
    refine (fm_tP6 (K := K) (s (some (.ref l))) e45 (hq.same ((E6.trans s7).trans s8))) H8 (Same.refl _) _ fun v6 H9 s9 r6 => ?_
    have E9 := ((E6.trans s7).trans s8).trans s9
    have S9 := Spun.ofSame T E9
    have gl9 := ((s7.trans s8).trans s9) _ _ gl6
    have A9 := A6.same ((s7.trans s8).trans s9)
    have B9 : AnAll K H9 [v4, v5, v6, .non] [dP4 a b c d, dP5 a b c d, dP6 a b c d, .none] := .cons (An.same (s8.trans s9) r4) (.cons (An.same s9 r5) (.cons r6 (.cons .non .nil)))
    have lt : l ≠ t := by
      obtain ⟨_, _, _, ht, _⟩ := S9.r
      rintro rfl
      rw [ht] at gl9
      cases gl9
      cases xl
    refine ⟨_, rfl, t, N, rfl, S9.r, NN, fun vo dO H10 hO anO s10 => ⟨(by show 5 ≤ sizeLine; decide), fun l4 hl4 => ?_⟩⟩
    have pk : ∀ e ∈ (dPap1 a b c d ++ dPap2 a b c d ++ [dP3 a b c d]) ++ ([dP4 a b c d, dP5 a b c d, dP6 a b c d, .none] ++ [dO]), Okp e := fun e he => by
      rw [← List.append_assoc] at he
      rcases List.mem_append.mp he with h | h
      · exact paps_ok e45 e h
      · rw [List.mem_singleton.mp h]
        exact odds_okp dO hO
    have A10 := anAll_spun S9.r s10 A9 (no3s_of fun e he => (pk e (List.mem_append.mpr (.inl he))).n)
    have B10 := anApp (anAll_spun S9.r s10 B9 (no3s_of fun e he => (pk e (List.mem_append.mpr (.inr (List.mem_append.mpr (.inl he))))).n)) (AnAll.cons anO .nil)
    have gl10 := s10.keep _ _ gl9 lt
    have f4 := same_put (o := HO.lst [v4, v5, v6, .non, vo]) hl4
    have gl4 : upd H10 l4 (HO.lst [v4, v5, v6, .non, vo]) l4 = some (.lst [v4, v5, v6, .non, vo]) := upd_same
    refine ⟨l, l4, xs, [v4, v5, v6, .non, vo], rfl, rfl, f4 _ _ gl10, gl4, (by rw [xl]; show 11 + 5 ≤ sizeLine; decide), fun l5 hl5 => ?_⟩
    have F := f4.trans (same_put (o := HO.lst (xs ++ [v4, v5, v6, .non, vo])) hl5)
    exact k l5 _ _ _ upd_same ((anApp A10 B10).same F) (by rw [List.length_append, xl]; rfl) pk ((S9.trans s10).trans (Spun.ofSame s10.r F))
end
end My
set_option Elab.async false
set_option linter.all false
set_option maxRecDepth 100000
set_option maxHeartbeats 16000000
set_option exponentiation.threshold 2000
namespace My
open PySem PySem.Spec PyProof.Rows L2 Gn Mt
abbrev sRightC : Stmt := top 109
abbrev NRc : List Str := ["_law_reel_here", "_law_lap", "_law_ends", "_law_first", "_law_last", "_law_whole", "_law_many", "_law_thing", "_law_due", "_law_asked"]
theorem scRightC : FnScope NRc ["_law_reel_here"] (defScope sRightC) := ⟨rfl, rfl, rfl, by decide +kernel, rfl, by decide +kernel, by decide +kernel⟩
theorem Stq.spun {H H' : Hp} {t a : Addr} {x y N M : Int} (h : Stq H a x y) (T : Reel H t M) (s : Spun H H' t N) : Stq H' a x y := by
  refine ⟨⟨s.keep _ _ h.s.1 fun z => ?_, h.s.2⟩, h.b⟩
  obtain ⟨_, _, _, ht, _⟩ := T
  rw [← z, h.s.1] at ht
  cases ht
theorem EndsAt.spun {H H' : Hp} {t q : Addr} {a b c d N M : Int} (h : EndsAt H q a b c d) (T : Reel H t M) (s : Spun H H' t N) : EndsAt H' q a b c d := by
  obtain ⟨p, r, h1, h2, h3⟩ := h
  obtain ⟨_, _, _, ht, _⟩ := T
  refine ⟨p, r, s.keep _ _ h1 fun z => ?_, s.keep _ _ h2 fun z => ?_, s.keep _ _ h3 fun z => ?_⟩
  · rw [← z, h1] at ht; cases ht
  · rw [← z, h2] at ht; cases ht
  · rw [← z, h3] at ht; cases ht
theorem eqv_ints_r : ∀ (a : List Int), PyData.eqvAll (a.map PyData.int) (a.map PyData.int) = true
  | [] => by simp [PyData.eqvAll]
  | x :: a => by simp only [List.map_cons, PyData.eqvAll, PyData.eqv, eqv_ints_r a, Bool.and_true, beq_self_eq_true]
theorem eqv_ords_r : ∀ (G : List (List Int)), PyData.eqvAll (G.map fun g => PyData.tuple (g.map PyData.int)) (G.map fun g => PyData.tuple (g.map PyData.int)) = true
  | [] => by simp [PyData.eqvAll]
  | g :: G => by simp only [List.map_cons, PyData.eqvAll, PyData.eqv, eqv_ords_r G, eqv_ints_r g, Bool.and_true]
theorem eqv_ord_r (G : List (List Int)) : PyData.eqv (ordD G) (ordD G) = true := by
  unfold ordD
  simp only [PyData.eqv]
  exact eqv_ords_r G
/-- what the law asks of the module -/
structure Lc (P : Program) (w : World) (K : PySem.W.Frag) (mg : Str → Option Value) where
  bl : Bl mg
  bs : Bs mg
  ac : Ac P w K mg
  li : mg "list" = none
  rp : mg "repr" = none
  range : mg "range" = none
  mx : mg "max" = none
  all : mg "all" = none
  fa : Addr × FuncData
  fn : Addr × FuncData
  fo : Addr × FuncData
  fg : Addr × FuncData
  fs : Addr × FuncData
  fd : Addr × FuncData
  fi : Addr × FuncData
  fc : Addr × FuncData
  fm : Addr × FuncData
  fr : Addr × FuncData
  fq : Addr × FuncData
  fh : Addr × FuncData
  fp : Addr × FuncData
  da : Df K mg "accepts" sAcc ["claim", "paper"] fa.1 fa.2
  ak : KBinds K fa.2 ["claim", "paper"] ["paper", "claim"] kw2s kw2s
  dn : Df K mg "_law_spin" sSpin ["_law_reel_here", "_law_many"] fn.1 fn.2
  d1 : Df K mg "_law_one" sOne ["_law_reel_here", "_law_menu"] fo.1 fo.2
  dg : Df K mg "_law_short" sShort ["_law_top", "_law_bottom"] fg.1 fg.2
  ds : Df K mg "_law_step" sStepR ["_law_reel_here"] fs.1 fs.2
  dd : Df K mg "_law_odd" sOddR ["_law_reel_here"] fd.1 fd.2
  di : Df K mg "_law_is_int" sIsIntL ["_law_value", "_law_least", "_law_greatest"] fi.1 fi.2
  dc : Df K mg "_law_close" sCloseL ["_law_reel_here"] fc.1 fc.2
  dm : Df K mg "_law_amid" sAmidL ["_law_reel_here", "_law_first", "_law_last"] fm.1 fm.2
  do_ : Df K mg "_law_order" sOrderL ["_law_value", "_law_many"] fr.1 fr.2
  dq : Df K mg "_law_is_pair" sPairQ ["_law_thing"] fq.1 fq.2
  dh : Df K mg "_law_shows" sShows ["_law_first", "_law_last", "_law_many", "_law_thing"] fh.1 fh.2
  dp : Df K mg "_law_papers" sPapers ["_law_reel_here", "_law_ends"] fp.1 fp.2
def spRightC : Sp := fun vs H Q _ => ∃ t, vs = [.ref t] ∧ Reel H t 0 ∧ ∀ H', Spun H H' t 800 → Q (.bl true) H'
section
variable {P : Program} {w : World} {K : PySem.W.Frag} {mg : Str → Option Value} {base : Heap}
theorem ok_rightC {f : Addr} {fd : FuncData} (F : Fun K "_law_right" "_law_right" sRightC f fd) (M : Lc P w K mg) : FnG P w K mg base CX0 6 f fd ["_law_reel_here"] spRightC := by
  have GA : FnOk P w K mg base CX0 5 M.fa.1 M.fa.2 ["claim", "paper"] (spAcc K) := ok_acc M.da.F M.ac
  have GS : FnOk P w K mg base CX0 1 M.fn.1 M.fn.2 ["_law_reel_here", "_law_many"] spSpin := ok_spin M.dn.F M.bl
  have GP : FnOk P w K mg base CX0 2 M.fo.1 M.fo.2 ["_law_reel_here", "_law_menu"] spOne := ok_one M.d1.F M.bl M.dn
  have GE : FnOk P w K mg base CX0 3 M.fs.1 M.fs.2 ["_law_reel_here"] spStepR := ok_stepR M.ds.F M.bl M.dn M.d1 M.dg
  have GC : FnOk P w K mg base CX0 3 M.fc.1 M.fc.2 ["_law_reel_here"] spCloseL := ok_close M.dc.F M.bl M.range M.dn M.d1
  have GM : FnOk P w K mg base CX0 2 M.fm.1 M.fm.2 ["_law_reel_here", "_law_first", "_law_last"] spAmidL := ok_amid M.dm.F M.bl M.dn M.dg
  have GO : FnOk P w K mg base CX0 1 M.fr.1 M.fr.2 ["_law_value", "_law_many"] spOrderL := ok_orderL M.do_.F M.bs
  have GSh : FnOk P w K mg base CX0 3 M.fh.1 M.fh.2 ["_law_first", "_law_last", "_law_many", "_law_thing"] (spShowsL K) := ok_shows M.dh.F M.ac.q.c M.all M.di M.dq
  have GPp : FnOk P w K mg base CX0 4 M.fp.1 M.fp.2 ["_law_reel_here", "_law_ends"] (spPapers K) := ok_papers M.dp.F M.bs M.li M.dn M.d1 M.dd
  refine funG0 F scRightC (fun vs H Q E h => ?_) (fun cdv A outer s H vs Q E hg hr5 h => ?_)
  · obtain ⟨t, rfl, _⟩ := h
    rfl
  · obtain ⟨t, rfl, T0, q⟩ := h
    have hr1 : Room 1 _ := hr5.mono (by decide)
    have hr2 : Room 2 _ := hr5.mono (by decide)
    have hr3 : Room 3 _ := hr5.mono (by decide)
    have hr4 : Room 4 _ := hr5.mono (by decide)
    have hu := hr5.units
    refine ⟨_, pss_cons (ps_for PassesOwn.never rfl (pi_range1 rfl M.range (pa_cons pe_int pa_nil)) (pg_name (i := 1) scRightC.nd rfl (.inl rfl))
      (pss_cons (ps_set (i := 2) scRightC.nd rfl (.inl rfl) (pe_call GC hr3 (by rfl) M.dc.g M.dc.F.kp M.dc.b .nil pass0 (pa_cons (pv 0) pa_nil)))
      (pss_cons (ps_par (i := 3) (j := 4) (by rfl) scRightC.nd rfl rfl (by decide) rfl rfl (pa_cons (pe_call GM hr2 (by rfl) M.dm.g M.dm.F.kp M.dm.b .nil pass0 (pa_cons (pv 0) (pa_cons (pe_ix ix_list (pv 2) pe_int (fun _ _ => rfl)) (pa_cons (pe_ix ix_list (pv 2) pe_int (fun _ _ => rfl)) pa_nil)))) (pa_cons (pe_call GM hr2 (by rfl) M.dm.g M.dm.F.kp M.dm.b .nil pass0 (pa_cons (pv 0) (pa_cons (pe_ix ix_list (pv 2) pe_int (fun _ _ => rfl)) (pa_cons (pe_ix ix_list (pv 2) pe_int (fun _ _ => rfl)) pa_nil)))) pa_nil)) (by rfl))
      (pss_cons (ps_set (i := 4) scRightC.nd rfl (.inl rfl) (pe_call GP hr2 (by rfl) M.d1.g M.d1.F.kp M.d1.b .nil pass0 (pa_cons (pv 0) (pa_cons (pe_lst (pa_cons (pv 4) (pa_cons (pv 4) (pa_cons (pv 4) (pa_cons (pv 3) (pa_cons (pe_call GE hr3 (by rfl) M.ds.g M.ds.F.kp M.ds.b .nil pass0 (pa_cons (pv 0) pa_nil)) (pa_cons (pe_tup (pa_cons pe_int (pa_cons pe_int pa_nil))) pa_nil))))))) pa_nil))))
      (pss_cons (ps_set (i := 5) scRightC.nd rfl (.inl rfl) (pe_op op_add (pe_ix ix_tup (pe_ix ix_list (pv 2) pe_int (fun _ _ => rfl)) pe_int (fun _ _ => rfl)) (pe_ix ix_tup (pe_ix ix_list (pv 2) pe_int (fun _ _ => rfl)) pe_int (fun _ _ => rfl))))
      (pss_one (ps_for PassesOwn.never rfl (pi_list (pe_lst (pa_cons pe_int (pa_cons pe_int (pa_cons (pv 5) (pa_cons (pe_op op_add (pv 5) pe_int) (pa_cons (pe_callB (call_max2 rfl) (by rfl) M.mx (by decide +kernel) (pa_cons pe_int (pa_cons (pe_op op_sub (pv 5) pe_int) pa_nil))) (pa_cons (pe_op op_add pe_int (pe_call GS hr1 (by rfl) M.dn.g M.dn.F.kp M.dn.b .nil pass0 (pa_cons (pv 0) (pa_cons pe_int pa_nil)))) (pa_cons (pe_op op_pow pe_int pe_int) pa_nil))))))))) (pg_name (i := 6) scRightC.nd rfl (.inl rfl))
        (pss_one (ps_for PassesOwn.never rfl (pi_list (pe_call GPp hr4 (by rfl) M.dp.g M.dp.F.kp M.dp.b .nil pass0 (pa_cons (pv 0) (pa_cons (pv 2) pa_nil)))) (pg_name (i := 7) scRightC.nd rfl (.inl rfl))
          (pss_cons (ps_par (i := 8) (j := 9) (by rfl) scRightC.nd rfl rfl (by decide) rfl rfl (pa_cons (pe_call GSh hr3 (by rfl) M.dh.g M.dh.F.kp M.dh.b .nil pass0 (pa_cons (pv 3) (pa_cons (pv 4) (pa_cons (pv 6) (pa_cons (pv 7) pa_nil))))) (pa_cons (pe_tup (pa_cons pe_str (pa_cons (pv 3) (pa_cons (pv 4) (pa_cons (pv 6) pa_nil))))) pa_nil)) (by rfl))
          (pss_cons (ps_if (pt_cmpR op_ne (pe_callB (cr_repr hg hu) (by rfl) M.rp (by decide +kernel) (pa_cons (pe_lst (pa_cons (pe_call GA hr5 (by rfl) M.da.g M.da.F.kp M.da.b .nil pass0 (pa_cons (pv 9) (pa_cons (pv 7) pa_nil))) (pa_cons (pe_callK0 GA hr5 (by rfl) M.da.g M.da.F.kp M.ak pass0 (pk_cons (pv 7) (pk_cons (pv 9) pk_nil))) pa_nil))) pa_nil)) (pe_callB (cr_repr hg hu) (by rfl) M.rp (by decide +kernel) (pa_cons (pe_lst (pa_cons (pv 8) (pa_cons (pv 8) pa_nil))) pa_nil)) (nomark _)) (pss_one (ps_ret pe_bl)) pss_nil)
          (pss_one (ps_if (PW.pt (pw_and (pt_val (pv 8)) (pw_and (pt_cmpR op_lt (pv 6) pe_int (nomark _)) (pw_and1 (pt_cmpR (op_neD hu) (pe_call GO hr1 (by rfl) M.do_.g M.do_.F.kp M.do_.b .nil pass0 (pa_cons (pv 3) (pa_cons (pv 6) pa_nil))) (pe_call GO hr1 (by rfl) M.do_.g M.do_.F.kp M.do_.b .nil pass0 (pa_cons (pv 4) (pa_cons (pv 6) pa_nil))) (nomark _)))))) (pss_one (ps_ret pe_bl)) pss_nil)))))))))))))
      (pss_one (ps_ret pe_bl)), ?_⟩
    refine ⟨10, rfl, by decide, by decide, for_range (lo := 0) (n := 10) (fun i σ H' => ∃ a b c d e g h k l, σ = [some (.ref t), a, b, c, d, e, g, h, k, l] ∧ Spun H H' t (80 * (i : Int))) ⟨none, none, none, none, none, none, none, none, none, rfl, ⟨T0.le (by omega), fun _ _ e _ => e⟩⟩ ?_ ?_⟩
    · rintro i σ H1 hi ⟨w1, w2, w3, w4, w5, w6, w7, w8, w9, rfl, S1⟩
      have iN : (i : Int) < 10 := by omega
      refine ⟨_, rfl, t, 80 * (i : Int), rfl, S1.r, by omega, fun q0 p r a b c d H2 hq hp hr' en S2 => ?_⟩
      have E2 : EndsAt H2 q0 a b c d := ⟨p, r, hq, hp, hr'⟩
      -- both steps
      refine ⟨_, rfl, _, rfl, q0, _, 0, .ref p, rfl, rfl, SqL.of hq, at_of (j := 0) rfl rfl, _, rfl, q0, _, 1, .ref r, rfl, rfl, SqL.of hq, at_of (j := 1) rfl rfl, t, p, r, a, b, c, d, 80 * (i : Int) + 40, rfl, S2.r, by omega, hp, hr', en, fun p1 x1 y1 H3 P3 s3 => ?_⟩
      have E3 := E2.spun S2.r s3
      have S3 := S2.trans s3
      clear hq hp hr'
      obtain ⟨p, r, hq, hp, hr'⟩ := E3
      have E3 : EndsAt H3 q0 a b c d := ⟨p, r, hq, hp, hr'⟩
      refine ⟨_, rfl, _, rfl, q0, _, 0, .ref p, rfl, rfl, SqL.of hq, at_of (j := 0) rfl rfl, _, rfl, q0, _, 1, .ref r, rfl, rfl, SqL.of hq, at_of (j := 1) rfl rfl, t, p, r, a, b, c, d, 80 * (i : Int) + 42, rfl, S3.r.le (by omega), by omega, hp, hr', en, fun p2 x2 y2 H4 Q4 s4 => ⟨_, _, rfl, ?_⟩⟩
      have E4 := E3.spun S3.r s4
      have P4 := P3.spun S3.r s4
      have S4 := S3.trans s4
      clear hq hp hr' E2 E3 P3
      -- the last step
      refine ⟨_, rfl, _, rfl, _, rfl, _, rfl, _, rfl, _, rfl, t, 80 * (i : Int) + 44, rfl, S4.r.le (by omega), by omega, fun x8 y8 p8 H5 st8 le8 s5 hp8 h8 => ⟨(by show 2 ≤ sizeLine; decide), fun a9 h9 => ⟨(by show 6 ≤ sizeLine; decide), fun m hm => ?_⟩⟩⟩
      have l30 : (10 : Int) ^ 30 < ((2 ^ 120 : Nat) : Int) := by decide
      have l120 : (2 : Nat) ^ 120 < 2 ^ 200 := by decide
      have x80 := st8.x0; have x8y := st8.xy
      have R8 : Stq H5 p8 x8 y8 := ⟨⟨h8, st8⟩, by omega⟩
      have P5 := P4.spun S4.r s5
      have Q5 := Q4.spun S4.r s5
      have E5 := E4.spun S4.r s5
      have S5 := S4.trans s5
      have f5 := same_put (o := HO.tup [.int 0, .int 1]) h9
      have R9 : Stq (upd H5 a9 (HO.tup [.int 0, .int 1])) a9 0 1 := ⟨⟨upd_same, ⟨by decide, by decide, by decide⟩⟩, by decide⟩
      have f6 := same_put (o := HO.lst [V.ref p2, .ref p2, .ref p2, .ref p1, .ref p8, .ref a9]) hm
      have gm : upd (upd H5 a9 (HO.tup [.int 0, .int 1])) m (HO.lst [V.ref p2, .ref p2, .ref p2, .ref p1, .ref p8, .ref a9]) m = some (.lst [V.ref p2, .ref p2, .ref p2, .ref p1, .ref p8, .ref a9]) := upd_same
      have R9 := R9.same f6
      have F6 := f5.trans f6
      have P6 := P5.same F6
      have Q6 := Q5.same F6
      have R6 := R8.same F6
      have E6 := E5.same F6
      have S6 := S5.trans (Spun.ofSame S5.r F6)
      generalize upd (upd H5 a9 (HO.tup [.int 0, .int 1])) m (HO.lst [V.ref p2, .ref p2, .ref p2, .ref p1, .ref p8, .ref a9]) = H6 at *
      have mt : m ≠ t := by
        obtain ⟨_, _, _, ht, _⟩ := S6.r
        rintro rfl
        rw [ht] at gm
        cases gm
      have alls : ∀ v ∈ [V.ref p2, .ref p2, .ref p2, .ref p1, .ref p8, .ref a9], ∃ z x y, v = .ref z ∧ Stq H6 z x y := fun v hv => by
        simp only [List.mem_cons, List.not_mem_nil, or_false] at hv
        rcases hv with rfl | rfl | rfl | rfl | rfl | rfl
        · exact ⟨_, _, _, rfl, Q6⟩
        · exact ⟨_, _, _, rfl, Q6⟩
        · exact ⟨_, _, _, rfl, Q6⟩
        · exact ⟨_, _, _, rfl, P6⟩
        · exact ⟨_, _, _, rfl, R6⟩
        · exact ⟨_, _, _, rfl, R9⟩
      clear f5 f6 F6 h9 hm P4 Q4 E4 P5 Q5 E5 R8 R9 h8 hp8
      refine ⟨t, m, _, 80 * (i : Int) + 47, rfl, S6.r.le (by omega), by omega, gm, mt, by simp, by simp, fun vl H7 hvl s7 => ?_⟩
      obtain ⟨pl, x3, y3, rfl, L6⟩ := alls vl hvl
      have P7 := P6.spun S6.r s7
      have L7 := L6.spun S6.r s7
      have E7 := E6.spun S6.r s7
      have S7 := S6.trans s7
      clear alls hvl gm P6 Q6 R6 E6 L6
      -- the whole
      obtain ⟨p, r, hq, hp, hr'⟩ := E7
      have E7 : EndsAt H7 q0 a b c d := ⟨p, r, hq, hp, hr'⟩
      refine ⟨_, rfl, q0, _, 0, .ref p, rfl, rfl, SqL.of hq, at_of (j := 0) rfl rfl, p, _, 1, .int b, rfl, rfl, SqT.of hp, at_of (j := 1) rfl rfl, _, rfl, q0, _, 1, .ref r, rfl, rfl, SqL.of hq, at_of (j := 1) rfl rfl, r, _, 1, .int d, rfl, rfl, SqT.of hr', at_of (j := 1) rfl rfl, _, _, rfl, rfl, ?_⟩
      have b1 := en.b1; have d1 := en.d1
      have W1 : 1 ≤ b + d := by omega
      clear hq hp hr'
      -- the numbers
      refine ⟨_, rfl, _, rfl, _, _, rfl, rfl, _, rfl, _, _, rfl, rfl, _, _, rfl, _, rfl, t, 40, 80 * (i : Int) + 48, rfl, S7.r.le (by omega), by omega, by decide, by decide, fun e H8 e0 e1 s8 => ⟨_, _, rfl, rfl, _, _, rfl, rfl, ⟨by decide, by decide, by decide⟩, (by show 7 ≤ sizeLine; decide), fun m2 hm2 => ?_⟩⟩
      have hM : 1 ≤ (if b + d - 1 > 1 then b + d - 1 else 1) := by split <;> omega
      generalize (if b + d - 1 > 1 then b + d - 1 else 1) = Mx at hM hm2 ⊢
      have f9 := same_put (o := HO.lst [V.int 1, V.int 2, V.int (b + d), V.int (b + d + 1), V.int Mx, V.int (1 + e), V.int ((10 : Int) ^ (40 : Int).toNat)]) hm2
      have gm : upd H8 m2 (HO.lst [V.int 1, V.int 2, V.int (b + d), V.int (b + d + 1), V.int Mx, V.int (1 + e), V.int ((10 : Int) ^ (40 : Int).toNat)]) m2 = some (.lst [V.int 1, V.int 2, V.int (b + d), V.int (b + d + 1), V.int Mx, V.int (1 + e), V.int ((10 : Int) ^ (40 : Int).toNat)]) := upd_same
      have S9 := (S7.trans s8).trans (Spun.ofSame s8.r f9)
      have P9 := (P7.spun S7.r s8).same f9
      have L9 := (L7.spun S7.r s8).same f9
      have E9 := (E7.spun S7.r s8).same f9
      generalize upd H8 m2 (HO.lst [V.int 1, V.int 2, V.int (b + d), V.int (b + d + 1), V.int Mx, V.int (1 + e), V.int ((10 : Int) ^ (40 : Int).toNat)]) = H9 at *
      have m2t : m2 ≠ t := by
        obtain ⟨_, _, _, ht, _⟩ := S9.r
        rintro rfl
        rw [ht] at gm
        cases gm
      have S9 := S9.le (M := 80 * (i : Int) + 49) (by omega)
      have nums : ∀ n ∈ ([1, 2, b + d, b + d + 1, Mx, 1 + e, (10 : Int) ^ (40 : Int).toNat] : List Int), 1 ≤ n := fun n hn => by
        simp only [List.mem_cons, List.not_mem_nil, or_false] at hn
        rcases hn with rfl | rfl | rfl | rfl | rfl | rfl | rfl
        · decide
        · decide
        · exact W1
        · omega
        · exact hM
        · omega
        · decide
      have ns7 : ([1, 2, b + d, b + d + 1, Mx, 1 + e, (10 : Int) ^ (40 : Int).toNat] : List Int).length = 7 := rfl
      rw [show HO.lst [V.int 1, V.int 2, V.int (b + d), V.int (b + d + 1), V.int Mx, V.int (1 + e), V.int ((10 : Int) ^ (40 : Int).toNat)] = HO.lst (([1, 2, b + d, b + d + 1, Mx, 1 + e, (10 : Int) ^ (40 : Int).toNat] : List Int).map V.int) from rfl] at gm
      generalize ([1, 2, b + d, b + d + 1, Mx, 1 + e, (10 : Int) ^ (40 : Int).toNat] : List Int) = ns at *
      clear P7 L7 E7 s8 hm2 f9
      refine ⟨m2, rfl, ⟨_, SqL.of gm⟩, for_list (K := K) (a := m2) (xs := ns.map V.int) (fun j σ H' => ∃ g h k l, σ = [some (.ref t), some (.int (0 + (i : Int))), some (.ref q0), some (.ref p1), some (.ref pl), some (.int (b + d)), g, h, k, l] ∧ Spun H9 H' t (80 * (i : Int) + 49 + (j : Int))) ⟨_, _, _, _, rfl, ⟨S9.r.le (by omega), fun _ _ e _ => e⟩⟩ (fun j σ H' _ ⟨_, _, _, _, _, e⟩ => SqL.of (e.keep _ _ gm m2t)) ?_ ?_⟩
      · rintro j nv σ H10 hj ⟨z6, z7, z8, z9, rfl, S10⟩
        have j7 : j < 7 := by rw [← ns7, ← List.length_map (f := V.int)]; exact (List.getElem?_eq_some_iff.mp hj).1
        rw [List.getElem?_map] at hj
        obtain ⟨n, hn, rfl⟩ := Option.map_eq_some_iff.mp hj
        have n1 := nums n (List.mem_of_getElem? hn)
        have P10 := P9.spun S9.r S10
        have L10 := L9.spun S9.r S10
        have E10 := E9.spun S9.r S10
        -- the papers
        refine ⟨_, rfl, _, rfl, t, q0, a, b, c, d, _, rfl, S10.r, by omega, E10, en, fun l us ds H11 gl AN xl pk s11 => ?_⟩
        have P11 := P10.spun S10.r s11
        have L11 := L10.spun S10.r s11
        have S11 := S10.trans s11
        refine ⟨l, rfl, ⟨_, SqL.of gl⟩, for_list (K := K) (a := l) (xs := us) (fun jj σ H' => ∃ h k mm, σ = [some (.ref t), some (.int (0 + (i : Int))), some (.ref q0), some (.ref p1), some (.ref pl), some (.int (b + d)), some (.int n), h, k, mm] ∧ Same H11 H') ⟨_, _, _, rfl, Same.refl _⟩ (fun jj σ H' _ ⟨_, _, _, _, e⟩ => SqL.of (e _ _ gl)) ?_ ?_⟩
        · rintro jj v σ H20 hjj ⟨z7, z8, z9, rfl, s20⟩
          have jl := (List.getElem?_eq_some_iff.mp hjj).1
          obtain ⟨v', dv, hv', hd, an⟩ := anAll_at jj AN jl
          rw [hjj] at hv'
          cases hv'
          have ok := pk dv hd
          have P20 := P11.same s20
          have L20 := L11.same s20
          have an20 := An.same s20 an
          refine ⟨_, rfl, _, rfl, _, rfl, _, rfl, p1, pl, x1, y1, x3, y3, n, v, dv, rfl, P20, L20, an20, ok.g, fun H21 s21 => ?_⟩
          refine ⟨_, rfl, _, rfl, _, rfl, (by show 4 ≤ sizeLine; decide), fun c' hc => ⟨_, _, rfl, ?_⟩⟩
          have f22 := same_put (o := HO.tup [.str "alike", .ref p1, .ref pl, .int n]) hc
          have gc : upd H21 c' (HO.tup [.str "alike", .ref p1, .ref pl, .int n]) c' = some (.tup [.str "alike", .ref p1, .ref pl, .int n]) := upd_same
          have s22 := s21.trans f22
          have P22 := P20.same s22
          have L22 := L20.same s22
          have an22 := An.same s22 an20
          generalize upd H21 c' (HO.tup [.str "alike", .ref p1, .ref pl, .int n]) = H22 at *
          refine ⟨_, rfl, _, rfl, c', p1, pl, x1, y1, x3, y3, n, v, dv, rfl, gc, P22, L22, n1, an22, ok.g, fun H23 s23 => ?_⟩
          refine ⟨_, rfl, _, rfl, c', p1, pl, x1, y1, x3, y3, n, v, dv, rfl, s23 _ _ gc, P22.same s23, L22.same s23, n1, An.same s23 an22, ok.g, fun H24 s24 => ?_⟩
          cases eb : alikeD x1 y1 x3 y3 n dv with
          | false =>
            refine ⟨(by show 2 ≤ sizeLine; decide), fun l1 hl1 => ?_⟩
            have f25 := same_put (o := HO.lst [.bl false, .bl false]) hl1
            refine ⟨l1, .list [.bool false, .bool false], rfl, .lst (SqL.of upd_same) (.cons (.bl _) (.cons (.bl _) .nil)), by decide +kernel, by decide +kernel, by decide +kernel, ?_⟩
            refine ⟨_, rfl, _, rfl, (by show 2 ≤ sizeLine; decide), fun l2 hl2 => ?_⟩
            have f26 := same_put (o := HO.lst [.bl false, .bl false]) hl2
            refine ⟨l2, .list [.bool false, .bool false], rfl, .lst (SqL.of upd_same) (.cons (.bl _) (.cons (.bl _) .nil)), by decide +kernel, by decide +kernel, by decide +kernel, ?_⟩
            refine ⟨rfl, _, rfl, iteNS rfl ?_⟩
            exact ⟨_, rfl, _, rfl, iteF ⟨_, _, _, rfl, ((((s20.trans s22).trans s23).trans s24).trans f25).trans f26⟩⟩
          | true =>
            refine ⟨(by show 2 ≤ sizeLine; decide), fun l1 hl1 => ?_⟩
            have f25 := same_put (o := HO.lst [.bl true, .bl true]) hl1
            refine ⟨l1, .list [.bool true, .bool true], rfl, .lst (SqL.of upd_same) (.cons (.bl _) (.cons (.bl _) .nil)), by decide +kernel, by decide +kernel, by decide +kernel, ?_⟩
            refine ⟨_, rfl, _, rfl, (by show 2 ≤ sizeLine; decide), fun l2 hl2 => ?_⟩
            have f26 := same_put (o := HO.lst [.bl true, .bl true]) hl2
            refine ⟨l2, .list [.bool true, .bool true], rfl, .lst (SqL.of upd_same) (.cons (.bl _) (.cons (.bl _) .nil)), by decide +kernel, by decide +kernel, by decide +kernel, ?_⟩
            refine ⟨rfl, _, rfl, iteNS rfl ?_⟩
            have s27 := (((s22.trans s23).trans s24).trans f25).trans f26
            have P27 := P20.same s27
            have L27 := L20.same s27
            refine ⟨_, rfl, _, rfl, iteT ⟨_, rfl, _, _, rfl, rfl, _, rfl, ?_⟩⟩
            refine ite2 (fun hc => ?_) (fun hc => ⟨_, _, _, rfl, s20.trans s27⟩)
            have n41 : n < 41 := of_decide_eq_true hc
            have yp : 0 < y1 ∧ 0 < y3 := by
              have h1 := P27.s.2.x0; have h2 := P27.s.2.xy; have h3 := L27.s.2.x0; have h4 := L27.s.2.xy
              omega
            refine ⟨_, rfl, _, rfl, p1, x1, y1, n, rfl, P27.s.1, yp.1, P27.xb, n1, by omega, fun r1 H28 s28 o1 => ?_⟩
            refine ⟨_, rfl, _, rfl, pl, x3, y3, n, rfl, (L27.same s28).s.1, yp.2, L27.xb, n1, by omega, fun r2 H29 s29 o2 => ?_⟩
            rw [due_alike P27.s.2 L27.s.2 eb] at o1
            refine ⟨ordD _, ordD _, (o1.same s29).dp, o2.dp, (ord_sm (by omega)).shaped (by decide), (ord_sm (by omega)).shaped (by decide), _, rfl, ?_⟩
            rw [eqv_ord_r]
            exact iteF ⟨_, _, _, rfl, ((s20.trans s27).trans s28).trans s29⟩
        · rintro σ H20 ⟨z7, z8, z9, rfl, s20⟩
          exact ⟨_, _, _, _, rfl, (S11.trans (Spun.ofSame S11.r s20)).le (by push_cast; omega)⟩
      · rintro σ H10 ⟨z6, z7, z8, z9, rfl, S10⟩
        rw [List.length_map, ns7] at S10
        exact ⟨_, _, _, _, _, _, _, _, _, rfl, ((S1.trans S9).trans S10).le (by push_cast; omega)⟩
    · rintro σ H1 ⟨w1, w2, w3, w4, w5, w6, w7, w8, w9, rfl, S1⟩
      exact q _ (S1.le (by decide))
end
end My
set_option Elab.async false
set_option linter.all false
set_option maxRecDepth 100000
set_option maxHeartbeats 4000000
/-! a handler for three classes, whose exception has a name -/
namespace L2
open PySem PySem.Spec PyProof.Rows
/-- what such a handler wants where its body raises -/
def wTri (K : PySem.W.Frag) (cs : List Value) (j : Nat) (su : Addr → Value → Option Addr → TS) (Wo : WX) (D : Ends) : WX := fun C d τ G =>
  ∃ hit, PySem.W.exmAny K C cs = some hit ∧
    (hit = true → ∀ x, G x = none → su x C d { rt := D.rt, nx := fun τ' G' => D.nx (τ'.set j none) G', ct := fun τ' G' => D.ct (τ'.set j none) G', bk := fun τ' G' => D.bk (τ'.set j none) G' } (τ.set j (some (.ref x))) G) ∧
    (hit = false → Wo C d τ G)
def triO (u v z : Value) : Obj := { cls := .type "tuple", data := .seq [u, v, z].toArray }
section
variable {X : Cx} {pins : List (Addr × Obj)} {τ : St} {G : Hp} {t0 t1 : Shared}
theorem ev_named {Q E : Value → Shared → Prop} {x : Str} {c : Value} {ps : Pos} (J : Inv X pins τ G t1) (nm : Names X x c) (z : Q c t1) : wpAny (model X.prog X.w) X.A (eval (.Name x ps) X.env) Q E t1 := by
  obtain ⟨g, nd, m⟩ := nm
  rcases m with e | ⟨e, b, o⟩
  · exact ld_glob J g e z nd
  · exact ld_blt J g e b z o nd
theorem ev_tri {Q E : Value → Shared → Prop} {x y z : Str} {u v r : Value} {p1 p2 p3 pt : Pos} {kk : Nat} (J : Inv X pins τ G t1) (n1 : Names X x u) (n2 : Names X y v) (n3 : Names X z r)
    (q : Q (.ref t1.heap.objs.size) { t1 with heap := t1.heap.push (triO u v r) }) : wpAny (model X.prog X.w) X.A (eval (.Tuple [.Name x p1, .Name y p2, .Name z p3] kk pt) X.env) Q E t1 :=
  wpAny_Tuple (wpAny_items_cons (ev_named J n1 (wpAny_items_cons (ev_named J n2 (wpAny_items_cons (ev_named J n3 (wpAny_items_nil ⟨by size_fits, q⟩)))))))
/-- the handler's side: x flies, as it was told, and all else stands -/
structure Down (X : Cx) (pins : List (Addr × Obj)) (τ : St) (G : Hp) (t0 t1 : Shared) (B : Heap) (x : Addr) (C : Value) (d : Option Addr) : Prop where
  was : Inv X pins τ G t0
  nb : ∀ b o, t0.heap.get? b = some o → b ∉ frs X.stack → B.get? b = some o
  up : t0.heap.UpToSlots t1.heap
  fly : HandSPX.FlyingZ B (X.env :: X.outer) x (Zc C d) t1.heap
  new : G x = none
  os : t1.os = t0.os
  ag : AllBare t1.gens
variable {B : Heap} {x : Addr} {C : Value} {d : Option Addr}
theorem Down.inv (S : Down X pins τ G t0 t1 B x C d) : Inv X pins τ G t1 := S.was.landed S.nb S.fly.1 S.up S.os S.ag
theorem Down.on (S : Down X pins τ G t0 t1 B x C d) {h : Heap} (f : HandSPX.FlyingZ B (X.env :: X.outer) x (Zc C d) h) (u : t1.heap.UpToSlots h) : Down X pins τ G t0 { t1 with heap := h } B x C d :=
  ⟨S.was, S.nb, S.up.trans u, f, S.new, S.os, S.ag⟩
theorem Down.more (S : Down X pins τ G t0 t1 B x C d) (o : Obj) : Down X pins τ G t0 { t1 with heap := t1.heap.push o } B x C d := by
  have k : ∀ b u, t1.heap.get? b = some u → (t1.heap.push o).get? b = some u := fun _ _ z => Heap.get?_push_of_some _ z
  refine S.on ?_ (Heap.UpToSlots.of_keeps k)
  obtain ⟨a1, a2, a3, oe, w, T, oT, r, g1, g2, g3, g4, g5, g6, g7, g8⟩ := S.fly
  exact ⟨fun b u z => k b u (a1 b u z), a2, a3.of_keeps fun b u z _ => ⟨u, k b u z, rfl⟩, oe, w, T, oT, r, k _ _ g1, g2, g3, g4, g5, g6, k _ _ g7, g8⟩
theorem Down.suite (S : Down X pins τ G t0 t1 B x C d) (es : X.stack = X.env :: X.outer) (ef : X.env.frame = some X.env.locals) :
    ∃ oe, t1.heap.get? x = some oe ∧ Zc C d oe ∧ (∃ w, oe.data = .fields w) ∧ Inv (X.suite x ((x, oe) :: (X.pn ++ pins))) [] τ G t1 := by
  obtain ⟨oe, w, g, z, dt⟩ := S.fly.there
  have off : x ∉ frs (X.env :: X.outer) := fun m => by
    obtain ⟨_, o', e, nf⟩ := S.fly.2.2.1.mem m
    cases g.symm.trans e
    exact nf _ dt
  refine ⟨oe, g, z, ⟨w, dt⟩, S.inv.suite g dt S.new (fun e => off ?_) fun m => off ?_⟩
  · exact List.mem_filterMap.mpr ⟨X.env, by simp, by rw [ef, e]⟩
  · obtain ⟨v, m1, m2⟩ := List.mem_filterMap.mp m
    exact List.mem_filterMap.mpr ⟨v, List.mem_cons.mpr (.inr m1), m2⟩
end
section
variable {X : Cx} {y1 y2 y3 n : Str} {u1 u2 u3 : Value} {j : Nat} {bd su : List Stmt} {s₀ : Stmt} {q1 q2 q3 qt qh qq : Pos} {kk : Nat} {tb : WX → TS} {ts : Addr → Value → Option Addr → TS} {Wo : WX}
theorem ps_try_tri (es : X.stack = X.env :: X.outer) (ef : X.env.frame = some X.env.locals) (nd : X.N.Nodup) (at_ : X.N[j]? = some n) (lo : X.env.kindOf n = some .local) (m1 : Names X y1 u1) (m2 : Names X y2 u2) (m3 : Names X y3 u3) (tk : Takes X Wo)
    (B : ∀ (W : WX) (pn : List (Addr × Obj)) (xe : Value → Shared → Prop), Takes (X.tr pn xe) W → PassesOwn (model X.prog X.w) X.A X.env xe → PSs (X.tr pn xe) bd (tb W))
    (S : ∀ (x : Addr) (oe : Obj) (C : Value) (d : Option Addr) (pn : List (Addr × Obj)), Zc C d oe → (∃ w, oe.data = .fields w) → PSs (X.suite x ((x, oe) :: pn)) (s₀ :: su) (ts x C d)) :
    PS X (.Try bd [.ExceptHandler (some (.Tuple [.Name y1 q1, .Name y2 q2, .Name y3 q3] kk qt)) (some n) (s₀ :: su) qh] [] [] qq) (fun D τ G => tb (wTri X.K [u1, u2, u3] j ts Wo D) D τ G) := by
  constructor
  intro pins t τ G D J want
  have ok := J.ok
  have frames : X.A.frames = some (X.env :: X.outer) := ok.frames.trans (by rw [es])
  let hs := [ExceptHandler.ExceptHandler (some (.Tuple [.Name y1 q1, .Name y2 q2, .Name y3 q3] kk qt)) (some n) (s₀ :: su) qh]
  let after : Value → Shared → Prop := fun e t1 => wpAny (model X.prog X.w) X.A (noteFrame e X.env) (fun _ t2 => wpAny (model X.prog X.w) X.A (setFlight e none) (fun _ t3 => wpAny (model X.prog X.w) X.A (handleBy e X.env hs) (SP X pins D) X.xe t3) X.xe t2) X.xe t1
  have look : Takes (X.tr (X.pn ++ pins) after) (wTri X.K [u1, u2, u3] j ts Wo D) := by
    rintro e t1 ⟨x, H0, sI, pi, τ1, G1, C, d, rfl, J1, nb, up, sky, new, os, ag, hit, hm, yes, no⟩
    show wpAny (model X.prog X.w) X.A (noteFrame (.ref x) X.env) _ _ _
    rw [show X.stack = X.env :: X.outer from es] at sky
    refine Sky.land Zc.steady frames ef sky fun h fl u => ?_
    have D1 : Down X pins τ1 G1 sI { t1 with heap := h } H0 x C d := ⟨J1.ofTry ok, nb, up.trans u, fl, new, os, ag⟩
    obtain ⟨oe, ge, gz, gd, I1⟩ := D1.suite es ef
    refine wpAny_handleBy_cons (codeAny_handlers_test (ev_tri I1 m1 m2 m3 ?_)) (by intro z; cases z)
    have D2 := D1.more (triO u1 u2 u3)
    have there : (h.push (triO u1 u2 u3)).get? x = some oe := Heap.get?_push_of_some _ ge
    have LT : PySem.W.Looks (model X.prog X.w) (h.push (triO u1 u2 u3)) (typeOf (.ref x)) C := fun A Q E s k z => wpAny_typeOf_ref (k _ _ there) (by rw [gz.1]; exact z)
    refine (PySem.W.exm_tup3 D2.inv.kIn LT (Heap.get?_push_size h rfl) hm).here ?_
    cases hit
    · show wpAny _ X.A (handleBy (.ref x) X.env []) _ _ _
      refine wpAny_handleBy_nil ?_
      obtain ⟨_, _, _, o2, w, T, _, _, g1, _, g3, g4, _⟩ := id D2.fly
      have away : wpAny (model X.prog X.w) X.A (setFlight (.ref x) X.env.frame) (fun _ t5 => wpAny (model X.prog X.w) X.A (throw (.ref x) : Sem Flow) (SP X pins D) X.xe t5) X.xe { t1 with heap := h.push (triO u1 u2 u3) } := by
        rw [ef]
        exact HandSPX.setFlight_upZ D2.fly fun h' held u' => wpAny_throw (tk _ _ ⟨x, H0, sI, pins, τ1, G1, C, d, rfl, D2.was, nb, D2.up.trans u', .inr (.inr (by rw [es]; exact held)), new, os, ag, no rfl⟩)
      unfold PySem.passOn
      refine wpAny_bind (wpAny_field g1 g3 g4 ?_)
      rw [if_neg (by simp : ¬ ((Value.ref T == Value.none) = true))]
      first
        | exact wpAny_bind (wpAny_pure (wpAny_bind away))
        | exact wpAny_bind away
    · refine codeAny_handlers_suite_as (HandSPX.lands_againZ D2.fly fun h' fl' u' => ?_)
      obtain ⟨o3, _, z3, d3, I3⟩ := (D2.on fl' u').suite es ef
      refine store_ok (X := X.suite x ((x, o3) :: (X.pn ++ pins))) (v := .ref x) I3 nd at_ (.inl lo) rfl (fun t5 I5 => ?_) (.inr lo)
      have off : ∀ {τ6 : St} {G6 : Hp} {t6 : Shared} {Q : Shared → Prop}, Inv (X.suite x ((x, o3) :: (X.pn ++ pins))) [] τ6 G6 t6 → (∀ t7, Inv X pins (τ6.set j none) G6 t7 → Q t7) →
          wpAny (model X.prog X.w) X.A (do bindName X.env n .none; unbindBehindTheSuite X.env n qh) (fun _ t7 => Q t7) X.xe t6 := fun I6 go => gone_ok (I6.unsuite ok) nd at_ lo go
      refine wpAny_mono ((S x o3 C d (X.pn ++ pins) z3 d3).run [] t5 _ G1 _ I5 (yes rfl x new)) (fun fl t6 out => ?_) fun _ _ z => z.elim
      cases fl <;> first
        | (obtain ⟨τ6, G6, I6, w6⟩ := out; exact off I6 fun t7 I7 => ⟨_, _, I7, w6⟩)
        | (obtain ⟨v6, τ6, G6, I6, e6, w6⟩ := out; exact off I6 fun t7 I7 => ⟨_, _, _, I7, e6, w6⟩)
  refine wpAny_Try_except (wpAny_mono ((B _ _ after look PassesOwn.looking).run [] t τ G D (J.toTry _) want) (fun fl t1 out => ?_) fun _ _ z => z)
  cases fl <;> first
    | (obtain ⟨τ1, G1, I1, w1⟩ := out; exact wpAny_execs_nil ⟨τ1, G1, I1.ofTry ok, w1⟩)
    | (obtain ⟨τ1, G1, I1, w1⟩ := out; exact ⟨τ1, G1, I1.ofTry ok, w1⟩)
    | (obtain ⟨v1, τ1, G1, I1, e1, w1⟩ := out; exact ⟨v1, τ1, G1, I1.ofTry ok, e1, w1⟩)
end
end L2
set_option Elab.async false
set_option linter.all false
set_option maxRecDepth 100000
set_option maxHeartbeats 4000000
/-! within a handler: a walk over a list comes to its end; a comprehension over a list -/
namespace HotX
open PySem PySem.Spec PyProof.Rows
section
variable {prog : Program} {w : World} {A : Around} {E : Value → Shared → Prop} {s : Shared}
theorem list_ends {j l y : Addr} {i : Nat} {vs : Array Value} {Q : Option Value → Shared → Prop} (hot : HotAt A y s.heap) (ne : y ≠ j) (J : s.heap.IsListIter j l i) (L : s.heap.IsList l vs) (out : vs[i]? = none)
    (q : ∀ h, (∀ b o, b ≠ j → s.heap.get? b = some o → h.get? b = some o) → Q none { s with heap := h }) : wpAny (model prog w) A (pyNext (.ref j)) Q E s := by
  obtain ⟨o, ho, hc, hd⟩ := id J
  obtain ⟨ol, hol, _, nl, hdl⟩ := L
  obtain ⟨hh, oy, ys, h1, d1, c1⟩ := hot
  unfold pyNext
  refine wpAny_bind (wpAny_attempt (wpAny_callSpecial?_slot (name := Str.ofString "__next__") J.typeIs slot_listiter_next (wpAny_call_entry slot_listiter_next J.typeIs entry_listiter_next ?_ (args_listiter_next _))))
  change wpAny _ _ (field (.ref j) 0 >>= _) _ _ s
  refine wpAny_bind (wpAny_field ho hd (x := .ref l) rfl ?_)
  show wpAny _ _ (ite ((Value.ref l == Value.none) = true) _ _) _ _ _
  rw [if_neg (fun z => nomatch z : ¬ ((Value.ref l == Value.none) = true))]
  change wpAny _ _ (field (.ref j) 1 >>= _) _ _ s
  refine wpAny_bind (wpAny_field ho hd (x := .int i 0) rfl ?_)
  change wpAny _ _ (seqItems? (.ref l) >>= _) _ _ s
  refine wpAny_bind (wpAny_seqItems hol hdl ?_)
  simp only [Int.toNat_natCast, out]
  refine wpAny_bind (wpAny_rule (wpAny_bind (wpAny_setField ho hd (by simp) ?_)))
  change wpAny _ _ (newExc (.type "StopIteration") [] >>= _) _ _ _
  refine wpAny_bind ?_
  simp only [newExc, newTuple]
  have k1 : ∀ b u, b ≠ j → s.heap.get? b = some u → (s.heap.update j (Obj.mapFields (·.setIfInBounds 0 Value.none))).get? b = some u := fun b u n e => (Heap.get?_update_other _ _ n.symm).trans e
  refine wpAny_bind (wpAny_newObj_type ?_ (by size_fits))
  refine wpAny_bind (m := firstArgMember _ _) (wpAny_of_eq (a := Value.none) (by first | rfl | (simp only [firstArgMember]; rfl)) ?_)
  refine wpAny_newObj_type ?_ (by size_fits)
  have top := Heap.get?_push_of_some { cls := .type "tuple", data := .seq ([] : List Value).toArray } (k1 y oy ne h1)
  refine raiseNew_hot ⟨hh, oy, ys, Heap.get?_push_of_some _ top, d1, c1⟩ (Nat.ne_of_lt (Heap.lt_size top)) (Heap.get?_push_size _ rfl) rfl (by first | (simp; done) | (simp; omega)) ?_
  refine wpAny_bind (wpAny_isInstance (T := "StopIteration") (b := true) ⟨_, Heap.get?_update_self _ (Heap.get?_push_size _ rfl) rfl, rfl⟩ isSubtype_stop (wpAny_pure (q _ fun b u n e => ?_)))
  have z := Heap.get?_push_of_some { cls := .type "tuple", data := .seq ([] : List Value).toArray } (k1 b u n e)
  rw [Heap.get?_update_other _ _ (Nat.ne_of_gt (Heap.lt_size z))]
  exact Heap.get?_push_of_some _ z
/-- all items of a list, taken one by one -/
theorem list_items {l y : Addr} {vs : Array Value} {Q : List Value → Shared → Prop} (hot : HotAt A y s.heap) (L : s.heap.IsList l vs) (q : ∀ h, Heap.ExtBut s.heap.objs.size s.heap h → Q vs.toList { s with heap := h }) :
    wpAny (model prog w) A (unpackItems (.ref l) vs.size none) Q E s := by
  have lj : l ≠ s.heap.objs.size := by
    obtain ⟨o, e, _⟩ := L
    exact Nat.ne_of_lt (Heap.lt_size e)
  obtain ⟨hh, oy, ys, h1, d1, c1⟩ := hot
  have yj : y ≠ s.heap.objs.size := Nat.ne_of_lt (Heap.lt_size h1)
  unfold unpackItems
  refine wpAny_bind ?_
  unfold notIterableAtAll
  refine wpAny_bind (wpAny_specialOf L.typeIs slot_list_iter.lookup (wpAny_pure ?_))
  simp only [Bool.false_eq_true, if_false]
  refine wpAny_bind (wpAny_holding (wpAny_pyIter_list L (wpAny_bind (wpAny_holding (PySem.W.kun_draw lj vs.size 0 _ _ ⟨_, Heap.get?_push_size _ rfl, rfl, rfl⟩ (L.push _) (by omega) fun h2 i2 s2 => ?_)))))
  have all : List.take vs.size (List.drop 0 vs.toList) = vs.toList := by
    rw [List.drop_zero]
    exact List.take_of_length_le (by simp)
  rw [all, if_neg (by simp)]
  have k2 : ∀ b o, b ≠ s.heap.objs.size → s.heap.get? b = some o → h2.get? b = some o := fun b o n e => s2.extBut b o n (Heap.get?_push_of_some _ e)
  refine wpAny_bind (wpAny_holding (list_ends ⟨hh, oy, ys, k2 _ _ yj h1, d1, c1⟩ yj i2 ((L.push _).extBut s2.extBut lj) (by simp) fun h3 k3 => ?_))
  simp only [Option.isSome_none, Bool.false_eq_true, if_false]
  exact wpAny_pure (q h3 fun b o n e => k3 b o n (k2 b o n e))
end
end HotX
namespace L2
open PySem PySem.Spec PyProof.Rows HotX L2H
section
variable {X : Cx} {pins : List (Addr × Obj)} {τ : St} {G : Hp} {t : Shared} {Q : VK} {elt tg src : Expr} {ifs : List Expr} {sc : Scope} {own : List (Str × Nat)} {pa pb : Pos} {ti te : TE} {g : TG} {tt : TT} {use : Option (Value → Sem Unit)} {Qf : Value → Shared → Prop}
/-- what is handled stood there when the context was entered -/
structure Seen (Y : Cx) (p : Addr × Obj) : Prop where
  hot : Hot1 Y.A p
  get : Y.s_0.heap.get? p.1 = some p.2
  free : Y.H_0 p.1 = none
  nofs : p.1 ∉ Y.fs
  noex : p.1 ∉ Y.ex
theorem Seen.at {Y : Cx} {p : Addr × Obj} {pins : List (Addr × Obj)} {τ : St} {G : Hp} {t : Shared} (S : Seen Y p) (I : Inv Y pins τ G t) : HotAt Y.A p.1 t.heap := by
  obtain ⟨h, v, d, c⟩ := S.hot
  exact ⟨h, p.2, v, I.base.keep p.1 p.2 S.get S.free S.nofs S.noex, d, c⟩
/-- a, b = a list of two, and so on -/
theorem pg_lstH {Y : Cx} {p : Addr × Obj} {es : List Expr} {k : Nat} {u : TGs} {n : Nat} {pos : Pos} (S : Seen Y p) (h : PGs Y es u) (hn : (assignEach es Y.env).length = n := by rfl) (ns : (assignEach es Y.env).findIdx? (·.1) = none := by rfl) : PG Y (.Tuple es k pos) (gLst Y.K n u) := by
  constructor
  rintro pins t τ G v w0 Q I r ⟨a, xs, rfl, hq, hl, want⟩
  cases r
  obtain ⟨its, rv, pl, hz⟩ := I.list hq
  rw [PyProof.Rows.assign_Tuple]
  refine wpAny_bind (wpAny_standAt ?_)
  unfold unpack
  rw [show (assignEach es Y.env).length = its.toArray.size by simp [hn, ← hl, rv.length], ns]
  refine wpAny_bind (wpAny_holding (list_items (S.at I) pl.isList fun h' hx => ?_))
  exact h.run pins _ τ G xs _ Q (I.kept (t' := t.toks) fun b o e => hx b o (Nat.ne_of_lt (Heap.lt_size e)) e) (by simpa using rv) want
/-- a comprehension over a list, within a handler: what is wished is as tLc has it -/
theorem lc_hot {p : Addr × Obj} (hot : Hot1 X.A p) (pm : p ∈ X.pn) (nd : X.N.Nodup) (I : Inv X pins τ G t) (hi : PE X src ti) (ok : BlkOk X.N X.env.scope sc own)
    (hg : ∀ (s : Shared) (H : Hp) (C : Addr) (cl : List (Str × Addr)) (fp : List Addr), Seen (X.blk s H sc (compEnvC sc cl C X.env) fp) p → PG (X.blk s H sc (compEnvC sc cl C X.env) fp) tg g)
    (ht : ∀ (s : Shared) (H : Hp) (C : Addr) (cl : List (Str × Addr)) (fp : List Addr), Seen (X.blk s H sc (compEnvC sc cl C X.env) fp) p → PTs (X.blk s H sc (compEnvC sc cl C X.env) fp) ifs tt)
    (he : ∀ (s : Shared) (H : Hp) (C : Addr) (cl : List (Str × Addr)) (fp : List Addr), Seen (X.blk s H sc (compEnvC sc cl C X.env) fp) p → PE (X.blk s H sc (compEnvC sc cl C X.env) fp) elt te)
    (fo : ∀ x, foldedSetIterable src X.env x = pure x) (want : tLc (iList X.K ti) g tt te (own.map (·.2)) τ G Q)
    (out : ∀ D C t' m G', Inv X pins τ G' t' → Q (.ref D) G' → t'.heap.Ns C m → FpOk X pins G' C → compPost (model X.prog X.w) X.A X.xe use Qf (.ref D) C (.ok .next) t') :
    wpAny (model X.prog X.w) X.A (comprehension (.ListComp elt [⟨tg, src, ifs, 0⟩] sc pa) sc X.env pb (newList []) false (eval src X.env) use) Qf X.xe t := by
  have cap : ∀ y ∈ sc.names, y.2 = .free → ∃ c, X.env.cells.lookup y.1 = some c := fun y m e => I.ok.has _ (ok.free y m e)
  refine wpAny_comprehension_free (use := use) rfl fo (closure_ok cap) ok.kind (fun y m e => by rw [ok.uniq y m, e]) (thn (hi.run pins t τ G _ I want) fun v t1 q1 => ?_)
  obtain ⟨x, G1, I1, r1, l, rfl, ⟨xs, hl⟩, q1⟩ := q1
  obtain rfl : v = Value.ref l := r1
  obtain ⟨_, _, pl, _⟩ := I1.list hl
  refine wpAny_pyIter_list pl.isList ?_
  -- the walk j, the new list D
  obtain ⟨j, ej⟩ : ∃ j, j = t1.heap.objs.size := ⟨_, rfl⟩
  rw [← ej]
  obtain ⟨t2, e2⟩ : ∃ t2 : Shared, t2 = { t1 with heap := t1.heap.push { cls := .type "list_iterator", data := .fields #[.ref l, .int 0 0] } } := ⟨_, rfl⟩
  rw [← e2]
  have I2 : Inv X pins τ G1 t2 := by rw [e2]; exact I1.kept (t' := t1.toks) fun b o e => Heap.get?_push_of_some _ e
  have at2 : t2.heap.IsListIter j l 0 := by rw [e2, ej]; exact ⟨_, Heap.get?_push_size _ rfl, rfl, rfl⟩
  have ok2 : FpOk X pins G1 j := by rw [ej]; exact I1.fpOk (Nat.le_refl _) (I1.hok.fresh (Nat.le_refl _))
  refine wpAny_newObj_type (newEnv_comp ?_) (by show 0 ≤ sizeLine; decide)
  obtain ⟨D, eD⟩ : ∃ D, D = t2.heap.objs.size := ⟨_, rfl⟩
  rw [← eD]
  have nD : G1 D = none := I2.hok.fresh (by rw [eD]; exact Nat.le_refl _)
  have jD : j < D := by rw [eD]; obtain ⟨o, e, _⟩ := at2; exact Heap.lt_size e
  obtain ⟨W, ⟨m0, w0⟩, turn⟩ := q1 D nD
  obtain ⟨t3, e3⟩ : ∃ t3 : Shared, t3 = { t2 with heap := t2.heap.push { cls := .type "list", data := .seq ([] : List Value).toArray } } := ⟨_, rfl⟩
  obtain ⟨G3, eG⟩ : ∃ G3, G3 = upd G1 D (.lst []) := ⟨_, rfl⟩
  rw [← eG] at w0
  have I3 : Inv X pins τ G3 t3 := by
    rw [e3, eG]
    exact I2.laid (t' := t2.toks) (fun b o e => Heap.get?_push_of_some _ e) (by rw [eD]; exact Nat.le_refl _) ⟨Nat.zero_le _, [], 0, .nil, by rw [eD]; exact Heap.get?_push_size _ rfl⟩
  have at3 : t3.heap.IsListIter j l 0 := by rw [e3]; exact at2.at fun o e => Heap.get?_push_of_some _ e
  have j3 : G3 j = none := by rw [eG, upd_ne (Nat.ne_of_lt jD)]; exact ok2.1
  have ok3 : FpOk X pins G3 j := ⟨j3, ok2.2⟩
  have lt3 : j < t3.heap.objs.size := by obtain ⟨o, e, _⟩ := at3; exact Heap.lt_size e
  -- the thing that is handled, seen from within
  obtain ⟨ph, pv, pd, pc⟩ := id hot
  obtain ⟨pg3, pn3, pL, pF, _⟩ := I3.pin p (List.mem_append_left _ pm)
  have pS : p.1 ∉ frs X.stack := fun m => (List.mem_cons.mp (I3.stkSub p.1 m)).elim pL pF
  have pj : p.1 ≠ j := ok3.2.2.2.2.2 p (List.mem_append_left _ pm)
  have B := block_start I3 ok nd (fp := [j]) fun b m => by
    obtain rfl := List.mem_singleton.mp m
    exact ⟨ok3, lt3⟩
  have seen : Seen (X.blk t3 G3 sc (compEnvC sc (cellsFrom (t3.heap.objs.size + 1) sc.names (cloFrom X.env.cells sc.names [])) t3.heap.objs.size X.env) [j]) p := ⟨hot, pg3, pn3, pS, by simpa using pj⟩
  have g' := hg t3 G3 t3.heap.objs.size (cellsFrom (t3.heap.objs.size + 1) sc.names (cloFrom X.env.cells sc.names [])) [j] seen
  have t' := ht t3 G3 t3.heap.objs.size (cellsFrom (t3.heap.objs.size + 1) sc.names (cloFrom X.env.cells sc.names [])) [j] seen
  have e' := he t3 G3 t3.heap.objs.size (cellsFrom (t3.heap.objs.size + 1) sc.names (cloFrom X.env.cells sc.names [])) [j] seen
  rw [← e3]
  show codeAny _ _ (.compStart (.ListComp elt [⟨tg, src, ifs, 0⟩] sc pa) 0 (.ref j) (.ref D) (compEnvC sc (cellsFrom (t3.heap.objs.size + 1) sc.names (cloFrom X.env.cells sc.names [])) t3.heap.objs.size X.env)) (compPost (model X.prog X.w) X.A X.xe use Qf (.ref D) t3.heap.objs.size) { t3 with heap := pushCells (t3.heap.push { cls := .type "dict", data := .dict #[] }) sc.names }
  obtain ⟨ce, ec⟩ : ∃ ce, ce = compEnvC sc (cellsFrom (t3.heap.objs.size + 1) sc.names (cloFrom X.env.cells sc.names [])) t3.heap.objs.size X.env := ⟨_, rfl⟩
  have cl : ce.locals = t3.heap.objs.size := by rw [ec]; rfl
  rw [← ec] at B g' t' e' ⊢
  obtain ⟨t4, e4⟩ : ∃ t4 : Shared, t4 = { t3 with heap := pushCells (t3.heap.push { cls := .type "dict", data := .dict #[] }) sc.names } := ⟨_, rfl⟩
  rw [← e4] at B ⊢
  have at4 : t4.heap.IsListIter j l 0 := by rw [e4]; exact at3.at fun o e => pushCells_keeps _ _ _ _ (Heap.get?_push_of_some _ e)
  have fpB : ∀ {τ' : St} {G' : Hp} {s' : Shared}, Inv (X.blk t3 G3 sc ce [j]) [] τ' G' s' → G' j = none → FpOk (X.blk t3 G3 sc ce [j]) [] G' j := fun I' n =>
    ⟨n, (I'.ok.exf j (by simp)).1, I'.ok.exfs j (by simp), .inl (by simp), fun x c e => (I'.ok.exf j (by simp)).2 x c e, fun p hp => nomatch (show p ∈ ([] : List (Addr × Obj)) ++ [] from hp)⟩
  refine codeAny_compStart_list ?loop (wpAny_pyIter_listiter at4 ?loop)
  refine compLoop_any (fun n s' => ∃ i G', Inv (X.blk t3 G3 sc ce [j]) [] (wipe τ (own.map (·.2))) G' s' ∧ s'.heap.IsListIter j l i ∧ G' j = none ∧ W i n G') ?_ m0 ⟨0, G3, B, at4, j3, w0⟩
  rintro n s5 ⟨i, G5, I5, at5, n5, w5⟩
  have F5 := fpB I5 n5
  rcases turn i n G5 w5 with ⟨⟨ys, hy, le⟩, qq⟩ | ⟨⟨ys, y, hy, hyi⟩, Nx, again, step⟩
  · obtain ⟨its, rv, py, _⟩ := I5.list hy
    have p5 : s5.heap.get? p.1 = some p.2 := I5.base.keep p.1 p.2 pg3 pn3 pS (by simpa using pj)
    refine list_ends (A := X.A) ⟨ph, p.2, pv, p5, pd, pc⟩ pj at5 py.isList (by have := rv.length; simp; omega) fun h k => ?_
    have I6 : Inv (X.blk t3 G3 sc ce [j]) [] (wipe τ (own.map (·.2))) G5 { s5 with heap := h } := I5.turned (t' := s5.toks) k F5.1 F5.2.1 F5.2.2.2.1 F5.2.2.2.2.1 F5.2.2.2.2.2
    obtain ⟨m, hm, _⟩ := I6.loc
    have hm : ({ s5 with heap := h } : Shared).heap.Ns ce.locals m := hm
    have nC : G5 ce.locals = none := I6.free
    rw [cl] at hm nC
    have I7 : Inv X pins τ G5 { s5 with heap := h } := I3.call' (ch := [j]) I6.os I6.base I6.hok I6.bare fun b hb => by
      obtain rfl := List.mem_singleton.mp hb
      exact ⟨ok3.2.2.2.1, ok3.2.1, ok3.2.2.2.2.1, ok3.2.2.2.2.2⟩
    exact out D _ _ m G5 I7 qq hm (I3.fpOk (Nat.le_refl _) nC)
  · obtain ⟨its, rv, py, _⟩ := I5.list hy
    obtain ⟨u, hu, ru⟩ := rv.get hyi
    refine wpAny_pyNext_list_item at5 py.isList (x := u) (by simpa using hu) fun h at6 sb => ?_
    have I6 : Inv (X.blk t3 G3 sc ce [j]) [] (wipe τ (own.map (·.2))) G5 { s5 with heap := h } := I5.turned (t' := s5.toks) (fun b o n e => (sb.2 b n).trans e) F5.1 F5.2.1 F5.2.2.2.1 F5.2.2.2.2.1 F5.2.2.2.2.2
    obtain ⟨oj, gj, cj, dj⟩ := id at6
    refine go_of (s := { s5 with heap := h }) gj cj dj (by decide) ?_
    have I6' : Inv (X.blk t3 G3 sc ce [j]) ([] ++ [(j, oj)]) (wipe τ (own.map (·.2))) G5 { s5 with heap := h } := I6.pins_of fun q hq => by
      obtain rfl : q = (j, oj) := by simpa using hq
      exact ⟨gj, n5, F5.2.1, F5.2.2.1, fun v z => by rw [dj] at z; cases z⟩
    refine thnF (g'.run _ _ _ G5 y u _ I6' ru (step y G5 ⟨rfl, fun zs hz => by rw [I5.list_inj hz hy]; exact hyi⟩)) fun _ s8 ⟨τ8, G8, I8, w8, q8⟩ => ?_
    refine thnF (t'.run _ s8 τ8 G8 _ I8 q8) fun b s9 ⟨G9, I9, q9⟩ => ?_
    have fin : ∀ {s' : Shared} {G' : Hp}, Inv (X.blk t3 G3 sc ce [j]) ([] ++ [(j, oj)]) τ8 G' s' → Nx G' → ∃ m, m < n ∧ ∃ i G', Inv (X.blk t3 G3 sc ce [j]) [] (wipe τ (own.map (·.2))) G' s' ∧ s'.heap.IsListIter j l i ∧ G' j = none ∧ W i m G' := fun {s' G'} J nx => by
      obtain ⟨m', lm, w'⟩ := again G' nx
      have pj' := J.pin (j, oj) (by simp)
      refine ⟨m', lm, i + 1, G', (J.unpinned (pins := [])).weak (by rw [← w8, wipe_length]) (fun k v e => ?_), ⟨oj, pj'.1, cj, dj⟩, pj'.2.1, w'⟩
      rw [← w8] at e
      exact (wipe_some e).1
    cases b
    · simp only [Bool.false_eq_true, if_false] at q9 ⊢
      exact fin I9 q9
    · simp only [if_true] at q9 ⊢
      exact thnF (e'.run _ s9 τ8 G9 _ I9 q9) fun z s10 ⟨yv, G10, I10, r10, acc, d10, z10, nx⟩ => app_ok (X := X.blk t3 G3 sc ce [j]) I10 d10 z10 r10 fun s11 I11 => fin I11 nx
end
end L2
set_option Elab.async false
set_option linter.all false
set_option maxRecDepth 100000
set_option maxHeartbeats 4000000
/-! own exceptions raised, and caught by one of three classes: their context is known to be None, so that the handler may call -/
namespace Gn
open PySem PySem.Spec PyProof.Rows L2
section
variable {X : Cx} {e : Expr} {es : List Expr} {ta : TA} {p pos : Pos}
/-- the exception without a dict is let go -/
theorem bare_goneN {pins : List (Addr × Obj)} {σ : L2.St} {H1 H2 : Hp} {Q : XK} {hp hp2 h2 : Heap} {g1 g2 : Array GenState} {d1 d2 : Drawn} {t1 t2 : Nat} {os1 os2 : OsState} {a C : Addr} (T : Raises X (.ref C)) (I1 : Inv X pins σ H1 ⟨hp, g1, d1, t1, os1⟩)
    (ha : hp.objs.size ≤ a) (kp : ∀ b o, hp.get? b = some o → hp2.get? b = some o) (un : Un (frs X.stack) [] (upd H1 a (exo a C none)) H2 hp2 h2) (hok : HOk X.prog X.w H2 h2) (ho : os2 = os1) (hb : AllBare g2)
    (ea : H2 a = some (exo a C none)) (q : Q (.ref C) none (del H2 a)) : L2N.MkP X pins σ Q (.ref a) ⟨h2, g2, d2, t2, os2⟩ := by
  obtain ⟨t0, hoe⟩ := exo_at hok ea
  have hn : H1 a = none := I1.hok.fresh ha
  obtain ⟨G, y1, y2⟩ := restrict h2 fun b => decide (b ≠ a)
  have gk : ∀ b, b ≠ a → G.get? b = h2.get? b := fun b z => y1 b (decide_eq_true z)
  have ge : G.get? a = none := y2 a (by simp)
  have old : ∀ {b : Addr} {o : Obj}, hp.get? b = some o → b ≠ a := fun {b o} z => Nat.ne_of_lt (Nat.lt_of_lt_of_le (Heap.lt_size z) ha)
  have fr : ∀ {b : Addr}, b ≠ a → H1 b = none → upd H1 a (exo a C none) b = none := fun {b} z n => (upd_ne z).trans n
  have U : Un (frs X.stack) [] H1 (del H2 a) hp G := {
    keep := fun b o z n hf hx => (gk b (old z)).trans (un.keep b o (kp b o z) (fr (old z) n) hf hx)
    slot := fun b o z n hf hx => by
      rw [gk b (old z)]
      exact un.slot b o (kp b o z) (fr (old z) n) hf hx
    free := fun b o z n hx => (del_ne (old z)).trans (un.free b o (kp b o z) (fr (old z) n) hx)
    there := fun b o z hx => by
      rw [gk b (old z)]
      exact un.there b o (kp b o z) hx
    tups := fun b xs z => (del_ne (ne_of_none z hn)).trans (un.tups b xs ((upd_ne (ne_of_none z hn)).trans z))
    frzs := fun b o v z => (del_ne (ne_of_none z hn)).trans (un.frzs b o v ((upd_ne (ne_of_none z hn)).trans z))
    tbls := fun b ps z => by
      rw [del_ne (ne_of_none z hn)]
      exact un.tbls b ps ((upd_ne (ne_of_none z hn)).trans z) }
  have hok3 : HOk X.prog X.w (del H2 a) G := fun b o z => by
    have ba : b ≠ a := fun e => by
      rw [e, del_same] at z
      cases z
    rw [del_ne ba] at z
    have noa : ∀ {c : Addr}, H2 c = some (.own b) → c ≠ a := fun {c} hc => at_ne ea hc exo_own
    refine (hok b o z).stay (fun c v hc y => ?_) (fun c hc => (del_ne (noa hc)).trans hc) fun c xs hc => (del_ne (at_ne ea hc exo_tup)).trans hc
    have ca : c ≠ a := by
      rcases hc with hc | hc
      · rw [hc]
        exact ba
      · exact noa hc
    exact (gk c ca).trans y
  have J : Inv X pins σ (del H2 a) ⟨G, g2, d2, t2, os2⟩ := I1.call' (ch := []) ho U hok3 hb (fun b z => absurd z (by simp))
  refine ⟨a, _, _, ⟨G, g2, d2, t2, os2⟩, _, .ref C, none, rfl, J, fun b o z => ?_, ge, hoe, ⟨rfl, rfl, fun vs z => by cases z; rfl⟩, rfl, rfl, del_same, rfl, hb, T, q⟩
  by_cases ba : b = a
  · rw [ba, ge] at z
    cases z
  · exact (gk b ba).symm.trans z
theorem own_thrownN {CX : CXT} {C fI : Addr} {k : Nat} {fd : FuncData} {ps : List Str} {sp : Sp} {ds us : List Value} {dvs vs : List V} {pins : List (Addr × Obj)} {σ : L2.St} {H1 : Hp} {s1 : Shared} {Q : XK} (T : OwC X.K C)
    (iC : PySem.W.findIn X.K (.ref C) "__init__" = some (some (.ref fI))) (tI : PySem.W.typeIn X.K (.ref fI) = some (.type "function")) (F1 : FnOk X.prog X.w X.K X.mg X.base CX k fI fd ps sp) (hr : Room (k + 1) X.A) (hb : Binds X.K fd ps ds) (hd : Vals dvs ds)
    (hx : Passes CX X (fun _ _ _ => False)) (I1 : Inv X pins σ H1 s1) (r1 : Vals vs us) (hz : vs.length ≤ 1000)
    (q1 : ∀ a, H1 a = none → sp (.ref a :: (vs ++ dvs)) (upd H1 a (exo a C none)) (fun v H2 => v = .non ∧
      ((∃ (d : Addr) (fs : List (Str × V)), H2 a = some (exo a C (some d)) ∧ H2 d = some (exd d fs) ∧ H1 d = none ∧ Q (.ref C) (some d) (upd (del H2 a) d (.xd fs))) ∨ (H2 a = some (exo a C none) ∧ Q (.ref C) none (del H2 a)))) (fun _ _ _ => False)) :
    wpAny (model X.prog X.w) X.A (call (.ref C) us) (L2N.MkP X pins σ Q) X.xe s1 := by
  obtain ⟨nm, q, N, bs, bm, sn, sub, ab, col, dd, k0, k1, k2, k3, k5, B, nw, it, tl, lk, pt, TB⟩ := T.cls
  obtain ⟨hp, g, dr, tk, os⟩ := s1
  have up : hp.objs.size ≤ hp.objs.size + 1 := Nat.le_succ _
  have hn : H1 (hp.objs.size + 1) = none := I1.hok.fresh up
  have hq := q1 (hp.objs.size + 1) hn
  have kk : ∀ b o, hp.get? b = some o → ((hp.push (PySem.W.kdv_tup us)).push (PySem.HandSPX.excO C hp.objs.size)).get? b = some o := fun b o z =>
    Heap.get?_push_of_some _ (Heap.get?_push_of_some _ z)
  have got : ((hp.push (PySem.W.kdv_tup us)).push (PySem.HandSPX.excO C hp.objs.size)).get? (hp.objs.size + 1) = some (PySem.HandSPX.excO C hp.objs.size) := by heap_get
  have I2 := I1.laid (t' := tk) (a := hp.objs.size + 1) (o := exo (hp.objs.size + 1) C none) kk up (exo_ok got)
  have r2 : Vals (V.ref (hp.objs.size + 1) :: (vs ++ dvs)) (Value.ref (hp.objs.size + 1) :: (us ++ ds)) := .cons rfl (r1.append hd)
  have hl : (Value.ref (hp.objs.size + 1) :: us ++ ds).length = ps.length := by
    have z := r2.length
    rw [F1.len _ _ _ _ hq] at z
    exact z.symm
  have few : us.length ≤ sizeLine := by
    rw [← Paired.length r1, sizeLine_eq]
    omega
  refine wpAny_call (PySem.HandSPX.call_own TB.ex (fun n => pt.has n) (I1.kIn _ _ lk) (PySem.W.looks_findIn I1.kIn iC) (fun me => PySem.W.bind_fn I1.kIn me tI) few (codeAny_mono
    (F1.run _ X.stack _ _ ⟨Value.ref (hp.objs.size + 1) :: us, []⟩ (Value.ref (hp.objs.size + 1) :: (us ++ ds)) _ _ (fun _ _ _ => False) (hr.make C us []) (I2.env0.make C us []) (hb _ (Value.ref (hp.objs.size + 1) :: us) I2.kIn hl) r2 hq) fun r s' z => ?_))
  cases r with
  | error er => exact hx pins σ _ _ er s' I2 z
  | ok fl =>
    cases fl with
    | ret u =>
      obtain ⟨v, H2, os2, bare2, un2, hok2, rv, ev, z2⟩ := z
      subst ev
      obtain ⟨h2, g2, d2, t2, os'⟩ := s'
      rcases z2 with ⟨dq, fs, ea, ed, hd1, q2⟩ | ⟨ea, q2⟩
      · exact ⟨rv, by
          obtain ⟨t0, G, J, kG, ge, hoe, na⟩ := mk_end0 (d2 := d2) (t2 := t2) I1 up kk un2 hok2 os2 bare2 ea ed hd1
          exact ⟨_, _, _, ⟨G, g2, d2, t2, os'⟩, _, .ref C, some dq, rfl, J, kG, ge, hoe, ⟨rfl, rfl, fun vs z => by cases z; rfl⟩, rfl, rfl, na, rfl, bare2, raises_own T.exC T.tyC, q2⟩⟩
      · exact ⟨rv, bare_goneN (raises_own T.exC T.tyC) I1 up kk un2 hok2 os2 bare2 ea q2⟩
    | next => exact False.elim z
    | brk => exact False.elim z
    | cont => exact False.elim z
/-- raise C(e, ..) -/
theorem pmk_exoN {CX : CXT} {x : Str} {C fI : Addr} {k : Nat} {fd : FuncData} {ps : List Str} {sp : Sp} {ds : List Value} {dvs : List V} (T : OwC X.K C) (iC : PySem.W.findIn X.K (.ref C) "__init__" = some (some (.ref fI)))
    (tI : PySem.W.typeIn X.K (.ref fI) = some (.type "function")) (F1 : FnOk X.prog X.w X.K X.mg X.base CX k fI fd ps sp) (hr : Room (k + 1) X.A) (hb : Binds X.K fd ps ds) (hd : Vals dvs ds) (hx : Passes CX X (fun _ _ _ => False)) (hg : Gl X x)
    (hm : X.mg x = some (.ref C)) (ha : PA X (e :: es) ta) (hdb : (x == ("__debug__" : Str)) = false := by decide) (he : starEach (e :: es) X.env = (false, eval e X.env) :: starEach es X.env := by rfl) (hpl : (backTo pos (starEach es X.env)).any (·.1) = false := by rfl) :
    L2N.PMk X (.Call (.Name x p) (e :: es) [] pos) (tThr C sp dvs ta) := fun pins s σ H Q I h =>
  wpAny_Call_Name_kw (ld_glob I hg hm (PySem.W.callWith_K (h₀ := X.base) I.ok.mod.kin T.kC (thn (ha.run pos pins s σ H _ I h) fun us s1 ⟨vs, H1, I1, r1, hz, q1⟩ => ⟨I1.kIn, own_thrownN T iC tI F1 hr hb hd hx I1 r1 hz q1⟩) he hpl) hdb)
/-- raise C() -/
theorem pmk_exoN0 {CX : CXT} {x : Str} {C fI : Addr} {k : Nat} {fd : FuncData} {ps : List Str} {sp : Sp} {ds : List Value} {dvs : List V} (T : OwC X.K C) (iC : PySem.W.findIn X.K (.ref C) "__init__" = some (some (.ref fI)))
    (tI : PySem.W.typeIn X.K (.ref fI) = some (.type "function")) (F1 : FnOk X.prog X.w X.K X.mg X.base CX k fI fd ps sp) (hr : Room (k + 1) X.A) (hb : Binds X.K fd ps ds) (hd : Vals dvs ds) (hx : Passes CX X (fun _ _ _ => False)) (hg : Gl X x)
    (hm : X.mg x = some (.ref C)) (hdb : (x == ("__debug__" : Str)) = false := by decide) : L2N.PMk X (.Call (.Name x p) [] [] pos) (tThr C sp dvs tNil) := fun pins s σ H Q I h =>
  wpAny_Call_Name_kw (ld_glob I hg hm (PySem.W.callWith_K0 I.kIn T.kC (own_thrownN (us := []) (vs := []) T iC tI F1 hr hb hd hx I .nil h.1 h.2)) hdb)
end
end Gn
namespace L2
open PySem PySem.Spec PyProof.Rows
section
variable {X : Cx} {pins : List (Addr × Obj)} {τ : St} {G : Hp} {t0 t1 : Shared}
/-- the handler's side: x flies, as it was told, and all else stands -/
structure DownN (X : Cx) (pins : List (Addr × Obj)) (τ : St) (G : Hp) (t0 t1 : Shared) (B : Heap) (x : Addr) (C : Value) (d : Option Addr) : Prop where
  was : Inv X pins τ G t0
  nb : ∀ b o, t0.heap.get? b = some o → b ∉ frs X.stack → B.get? b = some o
  up : t0.heap.UpToSlots t1.heap
  fly : HandSPX.FlyingZ B (X.env :: X.outer) x (L2N.Zn C d) t1.heap
  new : G x = none
  os : t1.os = t0.os
  ag : AllBare t1.gens
variable {B : Heap} {x : Addr} {C : Value} {d : Option Addr}
theorem DownN.inv (S : DownN X pins τ G t0 t1 B x C d) : Inv X pins τ G t1 := S.was.landed S.nb S.fly.1 S.up S.os S.ag
theorem DownN.on (S : DownN X pins τ G t0 t1 B x C d) {h : Heap} (f : HandSPX.FlyingZ B (X.env :: X.outer) x (L2N.Zn C d) h) (u : t1.heap.UpToSlots h) : DownN X pins τ G t0 { t1 with heap := h } B x C d :=
  ⟨S.was, S.nb, S.up.trans u, f, S.new, S.os, S.ag⟩
theorem DownN.more (S : DownN X pins τ G t0 t1 B x C d) (o : Obj) : DownN X pins τ G t0 { t1 with heap := t1.heap.push o } B x C d := by
  have k : ∀ b u, t1.heap.get? b = some u → (t1.heap.push o).get? b = some u := fun _ _ z => Heap.get?_push_of_some _ z
  refine S.on ?_ (Heap.UpToSlots.of_keeps k)
  obtain ⟨a1, a2, a3, oe, w, T, oT, r, g1, g2, g3, g4, g5, g6, g7, g8⟩ := S.fly
  exact ⟨fun b u z => k b u (a1 b u z), a2, a3.of_keeps fun b u z _ => ⟨u, k b u z, rfl⟩, oe, w, T, oT, r, k _ _ g1, g2, g3, g4, g5, g6, k _ _ g7, g8⟩
theorem DownN.suite (S : DownN X pins τ G t0 t1 B x C d) (es : X.stack = X.env :: X.outer) (ef : X.env.frame = some X.env.locals) :
    ∃ oe, t1.heap.get? x = some oe ∧ L2N.Zn C d oe ∧ (∃ w, oe.data = .fields w) ∧ Inv (X.suite x ((x, oe) :: (X.pn ++ pins))) [] τ G t1 := by
  obtain ⟨oe, w, g, z, dt⟩ := S.fly.there
  have off : x ∉ frs (X.env :: X.outer) := fun m => by
    obtain ⟨_, o', e, nf⟩ := S.fly.2.2.1.mem m
    cases g.symm.trans e
    exact nf _ dt
  refine ⟨oe, g, z, ⟨w, dt⟩, S.inv.suite g dt S.new (fun e => off ?_) fun m => off ?_⟩
  · exact List.mem_filterMap.mpr ⟨X.env, by simp, by rw [ef, e]⟩
  · obtain ⟨v, m1, m2⟩ := List.mem_filterMap.mp m
    exact List.mem_filterMap.mpr ⟨v, List.mem_cons.mpr (.inr m1), m2⟩
end
section
variable {X : Cx} {y1 y2 y3 n : Str} {u1 u2 u3 : Value} {j : Nat} {bd su : List Stmt} {s₀ : Stmt} {q1 q2 q3 qt qh qq : Pos} {kk : Nat} {tb : WX → TS} {ts : Addr → Value → Option Addr → TS} {Wo : WX}
theorem ps_try_triN (es : X.stack = X.env :: X.outer) (ef : X.env.frame = some X.env.locals) (nd : X.N.Nodup) (at_ : X.N[j]? = some n) (lo : X.env.kindOf n = some .local) (m1 : Names X y1 u1) (m2 : Names X y2 u2) (m3 : Names X y3 u3) (tk : L2N.Takes X Wo)
    (B : ∀ (W : WX) (pn : List (Addr × Obj)) (xe : Value → Shared → Prop), L2N.Takes (X.tr pn xe) W → PassesOwn (model X.prog X.w) X.A X.env xe → PSs (X.tr pn xe) bd (tb W))
    (S : ∀ (x : Addr) (oe : Obj) (C : Value) (d : Option Addr) (pn : List (Addr × Obj)), L2N.Zn C d oe → (∃ w, oe.data = .fields w) → PSs (X.suite x ((x, oe) :: pn)) (s₀ :: su) (ts x C d)) :
    PS X (.Try bd [.ExceptHandler (some (.Tuple [.Name y1 q1, .Name y2 q2, .Name y3 q3] kk qt)) (some n) (s₀ :: su) qh] [] [] qq) (fun D τ G => tb (wTri X.K [u1, u2, u3] j ts Wo D) D τ G) := by
  constructor
  intro pins t τ G D J want
  have ok := J.ok
  have frames : X.A.frames = some (X.env :: X.outer) := ok.frames.trans (by rw [es])
  let hs := [ExceptHandler.ExceptHandler (some (.Tuple [.Name y1 q1, .Name y2 q2, .Name y3 q3] kk qt)) (some n) (s₀ :: su) qh]
  let after : Value → Shared → Prop := fun e t1 => wpAny (model X.prog X.w) X.A (noteFrame e X.env) (fun _ t2 => wpAny (model X.prog X.w) X.A (setFlight e none) (fun _ t3 => wpAny (model X.prog X.w) X.A (handleBy e X.env hs) (SP X pins D) X.xe t3) X.xe t2) X.xe t1
  have look : L2N.Takes (X.tr (X.pn ++ pins) after) (wTri X.K [u1, u2, u3] j ts Wo D) := by
    rintro e t1 ⟨x, H0, sI, pi, τ1, G1, C, d, rfl, J1, nb, up, sky, new, os, ag, hit, hm, yes, no⟩
    show wpAny (model X.prog X.w) X.A (noteFrame (.ref x) X.env) _ _ _
    rw [show X.stack = X.env :: X.outer from es] at sky
    refine L2N.Sky.land L2N.Zn.steady frames ef sky fun h fl u => ?_
    have D1 : DownN X pins τ1 G1 sI { t1 with heap := h } H0 x C d := ⟨J1.ofTry ok, nb, up.trans u, fl, new, os, ag⟩
    obtain ⟨oe, ge, gz, gd, I1⟩ := D1.suite es ef
    refine wpAny_handleBy_cons (codeAny_handlers_test (ev_tri I1 m1 m2 m3 ?_)) (by intro z; cases z)
    have D2 := D1.more (triO u1 u2 u3)
    have there : (h.push (triO u1 u2 u3)).get? x = some oe := Heap.get?_push_of_some _ ge
    have LT : PySem.W.Looks (model X.prog X.w) (h.push (triO u1 u2 u3)) (typeOf (.ref x)) C := fun A Q E s k z => wpAny_typeOf_ref (k _ _ there) (by rw [gz.1]; exact z)
    refine (PySem.W.exm_tup3 D2.inv.kIn LT (Heap.get?_push_size h rfl) hm).here ?_
    cases hit
    · show wpAny _ X.A (handleBy (.ref x) X.env []) _ _ _
      refine wpAny_handleBy_nil ?_
      obtain ⟨_, _, _, o2, w, T, _, _, g1, _, g3, g4, _⟩ := id D2.fly
      have away : wpAny (model X.prog X.w) X.A (setFlight (.ref x) X.env.frame) (fun _ t5 => wpAny (model X.prog X.w) X.A (throw (.ref x) : Sem Flow) (SP X pins D) X.xe t5) X.xe { t1 with heap := h.push (triO u1 u2 u3) } := by
        rw [ef]
        exact HandSPX.setFlight_upZ D2.fly fun h' held u' => wpAny_throw (tk _ _ ⟨x, H0, sI, pins, τ1, G1, C, d, rfl, D2.was, nb, D2.up.trans u', .inr (.inr (by rw [es]; exact held)), new, os, ag, no rfl⟩)
      unfold PySem.passOn
      refine wpAny_bind (wpAny_field g1 g3 g4 ?_)
      rw [if_neg (by simp : ¬ ((Value.ref T == Value.none) = true))]
      first
        | exact wpAny_bind (wpAny_pure (wpAny_bind away))
        | exact wpAny_bind away
    · refine codeAny_handlers_suite_as (HandSPX.lands_againZ D2.fly fun h' fl' u' => ?_)
      obtain ⟨o3, _, z3, d3, I3⟩ := (D2.on fl' u').suite es ef
      refine store_ok (X := X.suite x ((x, o3) :: (X.pn ++ pins))) (v := .ref x) I3 nd at_ (.inl lo) rfl (fun t5 I5 => ?_) (.inr lo)
      have off : ∀ {τ6 : St} {G6 : Hp} {t6 : Shared} {Q : Shared → Prop}, Inv (X.suite x ((x, o3) :: (X.pn ++ pins))) [] τ6 G6 t6 → (∀ t7, Inv X pins (τ6.set j none) G6 t7 → Q t7) →
          wpAny (model X.prog X.w) X.A (do bindName X.env n .none; unbindBehindTheSuite X.env n qh) (fun _ t7 => Q t7) X.xe t6 := fun I6 go => gone_ok (I6.unsuite ok) nd at_ lo go
      refine wpAny_mono ((S x o3 C d (X.pn ++ pins) z3 d3).run [] t5 _ G1 _ I5 (yes rfl x new)) (fun fl t6 out => ?_) fun _ _ z => z.elim
      cases fl <;> first
        | (obtain ⟨τ6, G6, I6, w6⟩ := out; exact off I6 fun t7 I7 => ⟨_, _, I7, w6⟩)
        | (obtain ⟨v6, τ6, G6, I6, e6, w6⟩ := out; exact off I6 fun t7 I7 => ⟨_, _, _, I7, e6, w6⟩)
  refine wpAny_Try_except (wpAny_mono ((B _ _ after look PassesOwn.looking).run [] t τ G D (J.toTry _) want) (fun fl t1 out => ?_) fun _ _ z => z)
  cases fl <;> first
    | (obtain ⟨τ1, G1, I1, w1⟩ := out; exact wpAny_execs_nil ⟨τ1, G1, I1.ofTry ok, w1⟩)
    | (obtain ⟨τ1, G1, I1, w1⟩ := out; exact ⟨τ1, G1, I1.ofTry ok, w1⟩)
    | (obtain ⟨v1, τ1, G1, I1, e1, w1⟩ := out; exact ⟨v1, τ1, G1, I1.ofTry ok, e1, w1⟩)
end
/-- such a handler is hot -/
theorem hot_suite {X : Cx} {x : Addr} {oe : Obj} {C : Value} {d : Option Addr} {pn : List (Addr × Obj)} (z : L2N.Zn C d oe) (h : ∃ w, oe.data = .fields w) : L2H.HotC (X.suite x ((x, oe) :: pn)) := by
  obtain ⟨w, hw⟩ := h
  exact ⟨(x, oe), ⟨rfl, w, hw, z.2.2 w hw⟩, by simp⟩
end L2
set_option Elab.async false
set_option linter.all false
set_option maxRecDepth 100000
set_option maxHeartbeats 4000000
/-! what a handler asks of the exception that it holds, by itself or in a def that it calls -/
namespace Gn
open PySem PySem.Spec PyProof.Rows L2 L2H
/-! ### a list of truths: how often one stands in it -/
def isB (b : Bool) : Value → Bool
  | .bool c => c == b
  | _ => false
theorem isB_at {b : Bool} {A : Around} {s : Shared} : ∀ {us : List Value} {bs : List Bool}, Vals (bs.map V.bl) us → ∀ y ∈ us, SeqAt.EqAt A s y (.bool b) (isB b y)
  | [], _, _, y, m => nomatch m
  | u :: us, [], r, y, m => nomatch r
  | u :: us, c :: bs, .cons r1 r2, y, m => by
    obtain rfl : u = Value.bool c := r1
    rcases List.mem_cons.mp m with e | m
    · rw [e]; exact SeqAt.EqAt.bool_bool c b
    · exact isB_at r2 y m
theorem isB_count {b : Bool} : ∀ {us : List Value} {bs : List Bool}, Vals (bs.map V.bl) us → us.countP (isB b) = bs.count b
  | [], [], _ => rfl
  | [], _ :: _, r => nomatch r
  | u :: us, [], r => nomatch r
  | u :: us, c :: bs, .cons r1 r2 => by
    obtain rfl : u = Value.bool c := r1
    rw [List.countP_cons, List.count_cons, isB_count r2]; rfl
def rCntB (K : PySem.W.Frag) : V → List V → Hp → VK → Prop := fun x xs H Q => ∃ (p : Addr) (bs : List Bool) (b : Bool), x = .ref p ∧ xs = [.bl b] ∧ SqL K H p (bs.map V.bl) ∧ Q (.int (bs.count b : Nat)) H
theorem mt_countB {X : Cx} : MtR X "list.count" (rCntB X.K) := by
  intro pins s σ H x xs v us Q I rx rxs h
  obtain ⟨p, bs, b, rfl, rfl, hs, q⟩ := h
  cases rx
  obtain ⟨u, rfl, ru⟩ := rxs.one
  obtain rfl : u = Value.bool b := ru
  obtain ⟨its, rv, ⟨⟨cls, dd, data, sl⟩, n, ho, hc, hdn, hd⟩, _⟩ := I.list hs
  dsimp only at hc hd
  subst hc hd
  refine call_meets PySem.F.slot_list_count ⟨_, ho, rfl⟩ PySem.F.entry_list_count (PySem.F.args_list_count_2 _ _) (SeqAt.list_countAt p its.toArray n dd sl (.bool b) (isB b)) ⟨ho, fun y hy => isB_at rv y (by simpa using hy), ⟨.int (bs.count b : Nat), H, I.tok _, ⟨s.toks, ?_⟩, q⟩⟩
  rw [show its.toArray.toList = its from rfl, isB_count rv]
/-! ### the exception that is held: of which classes it is, what it has -/
section
variable {X : Cx} {a : Addr} {cls : Value} {d : Option Addr} {oe : Obj}
theorem held_inst {pins : List (Addr × Obj)} {σ : L2.St} {H : Hp} {s : Shared} {D : Addr} (m : (a, oe) ∈ X.pn) (hz : Zc (.ref D) d oe) (hf : ∃ vs, oe.data = .fields vs) (I : Inv X pins σ H s) (hd : ∀ y, d = some y → ∃ fs, H y = some (.xd fs)) : ∃ ox od, PySem.W.InstAt s.heap a ox D od := by
  obtain ⟨at0, _⟩ := I.pin (a, oe) (List.mem_append.mpr (.inl m))
  obtain ⟨vs, hv⟩ := hf
  obtain ⟨oc, dd, oda, osl⟩ := oe
  obtain ⟨h1, h2⟩ := hz
  dsimp only at h1 h2 hv
  subst h1 h2 hv
  cases dd with
  | none => exact ⟨_, none, at0, rfl, rfl, trivial⟩
  | some y =>
    obtain ⟨fs, ed⟩ := hd y rfl
    obtain ⟨mA, hns, _⟩ := (show ObjOk X.prog X.w H s.heap y (.xd fs) from I.hok y _ ed)
    obtain ⟨od, ho, _⟩ := lookIn_ns hns
    exact ⟨_, some od, at0, rfl, rfl, ho⟩
/-- isinstance(e, c) -/
def rIsP (K : PySem.W.Frag) (cls : Value) (a : Addr) (d : Option Addr) : List V → Hp → VK → Prop := fun xs H Q => ∃ (D : Addr) (c : V) (cv : Value) (b : Bool), cls = .ref D ∧ ExcC K D ∧ xs = [.ref a, c] ∧ (∀ y, d = some y → ∃ fs, H y = some (.xd fs)) ∧ (∀ u, RelV c u → u = cv) ∧ PySem.W.kitOne K (.ref D) cv = some b ∧ Q (.bl b) H
theorem cr_isP (m : (a, oe) ∈ X.pn) (hz : Zc cls d oe) (hf : ∃ vs, oe.data = .fields vs) : CallR X (.builtin "isinstance") (rIsP X.K cls a d) := by
  intro pins s σ H xs us Q I r h
  obtain ⟨D, c, cv, b, rfl, C, rfl, hd, hcv, e, q⟩ := h
  obtain ⟨u1, u2, rfl, r1, r2⟩ := vals2 r
  obtain rfl := hcv _ r2
  cases r1
  exact PySem.W.kia_one (PySem.W.gn_kit C) I.kIn (held_inst m hz hf I hd) e (fun z => nomatch z) fun tk => ⟨.bl b, H, I.tok tk, rfl, q⟩
/-- isinstance(e, (A, B, ..)) -/
def rIsPT (K : PySem.W.Frag) (cls : Value) (a : Addr) (d : Option Addr) : List V → Hp → VK → Prop := fun xs H Q => ∃ (D tp : Addr) (cs : List V) (us : List Value) (b : Bool), cls = .ref D ∧ ExcC K D ∧ xs = [.ref a, .ref tp] ∧ H tp = some (.tup cs) ∧ Paired ClsV cs us ∧ (∀ y, d = some y → ∃ fs, H y = some (.xd fs)) ∧ PySem.W.kitAny K (.ref D) us = some b ∧ Q (.bl b) H
theorem cr_isPT (m : (a, oe) ∈ X.pn) (hz : Zc cls d oe) (hf : ∃ vs, oe.data = .fields vs) : CallR X (.builtin "isinstance") (rIsPT X.K cls a d) := by
  intro pins s σ H xs us Q I r h
  obtain ⟨D, tp, cs, ws, b, rfl, C, rfl, hT, k, hd, e, q⟩ := h
  obtain ⟨u1, u2, rfl, r1, r2⟩ := vals2 r
  cases r1
  cases r2
  obtain ⟨oc, its, rv, o, h1, h2, n, h3⟩ := (show ObjOk X.prog X.w H s.heap tp (.tup cs) from I.hok tp _ hT)
  obtain rfl := ClsV.all k rv
  obtain ⟨ocl, od, dt, sl⟩ := o
  dsimp only at h2 h3
  subst h2 h3
  exact PySem.W.kia_tup (PySem.W.gn_kit C) I.kIn (held_inst m hz hf I hd) h1 e (fun z => nomatch z) fun tk => ⟨.bl b, H, I.tok tk, rfl, q⟩
/-- e.f -/
def tXfP (K : PySem.W.Frag) (a : Addr) (cls : Value) (d : Option Addr) (f : Str) (te : TE) : TE := fun σ H Q => te σ H fun x H1 => ∃ (D dd : Addr) (fs : List (Str × V)) (v : V), x = .ref a ∧ cls = .ref D ∧ XfC K D ∧ PySem.W.findIn K (.ref D) f = some none ∧ d = some dd ∧ H1 dd = some (.xd fs) ∧ fs.lookup f = some v ∧ Q v H1
theorem pe_xfP {e : Expr} {te : TE} {pos : Pos} {f : Str} (m : (a, oe) ∈ X.pn) (hz : Zc cls d oe) (hf : ∃ vs, oe.data = .fields vs) (he : PE X e te) (hb : attributeBase e f X.env (eval e X.env) = eval e X.env := by rfl) : PE X (.Attribute e f pos) (tXfP X.K a cls d f te) := by
  constructor
  intro pins s σ H Q I h
  refine attr_of hb (thn (he.run pins s σ H _ I h) fun u s1 ⟨x, H1, I1, rx, D, dd, fs, v, ex, ec, T, no, ed, ea, l, q⟩ => ?_)
  subst ex ec ed
  obtain rfl : u = Value.ref a := rx
  obtain ⟨at0, _⟩ := I1.pin (a, oe) (List.mem_append.mpr (.inl m))
  obtain ⟨vs, hv⟩ := hf
  obtain ⟨mA, hns, rel⟩ := (show ObjOk X.prog X.w H1 s1.heap dd (.xd fs) from I1.hok dd _ ea)
  obtain ⟨od, ho, hl⟩ := lookIn_ns hns
  obtain ⟨y, hy, ry⟩ := RelO.some_of (v := v) (o := mA f) (by rw [← l]; exact rel f)
  have J : PySem.W.InstAt s1.heap a oe D (some od) := ⟨at0, hz.1, by unfold PySem.W.notCls; rw [hv] <;> rfl, by rw [hz.2]; exact ho⟩
  exact HandSPX.exc_get I1.kIn J T.ga T.gg T.exC (PySem.W.findObj_own T.hdC no rfl (by rw [hl, hy])) (handed_of ry) ⟨v, H1, I1.tok _, ry, q⟩
end
/-! ### a def that is called with the exception that is held: its promise knows it -/
structure FnP (P : Program) (w : World) (K : PySem.W.Frag) (mg : Str → Option Value) (base : Heap) (CX : CXT) (k : Nat) (f : Addr) (fd : FuncData) (ps : List Str) (sp : Addr × Obj → Sp) : Prop where
  len : ∀ p vs H Q E, sp p vs H Q E → vs.length = ps.length
  run : ∀ (A : Around) (outer : List Env) (s : Shared) (H : Hp) (args : Args) (us : List Value) (vs : List V) (Q : VK) (E : XK) (p : Addr × Obj), RoomH k A → Hot1 A p → PinOk outer H s p → Env0 P w K mg base A outer s H → BindsTo s fd args (ps.zip us) → Vals vs us → sp p vs H Q E →
    codeAny (model P w) A (.call (.ref f) args) (CR CX outer P w H s Q E) s
section
variable {P : Program} {w : World} {K : PySem.W.Frag} {mg : Str → Option Value} {base : Heap}
theorem funP {CX : CXT} {x qual : Str} {st : Stmt} {f : Addr} {fd : FuncData} {N ps : List Str} {k : Nat} {sp : Addr × Obj → Sp} (F : Fun K x qual st f fd) (S : FnScope N ps (defScope st)) (len : ∀ p vs H Q E, sp p vs H Q E → vs.length = ps.length)
    (hbody : ∀ (cdv : Value) (A : Around) (outer : List Env) (s : Shared) (H : Hp) (vs : List V) (Q : VK) (E : XK) (p : Addr × Obj), Hot1 A p → RoomH k (A.deeper (envOfC qual (defScope st) s.heap.objs.size f cdv)) → sp p vs H Q E →
      ∃ t, PSs (cxH CX P w K mg base N qual (defScope st) f cdv A outer s H E p) (defBody st) t ∧ t { nx := fun _ H' => Q .non H', rt := Q } (start N vs) H) : FnP P w K mg base CX (k + 1) f fd ps sp := by
  obtain ⟨oc, od, kV, doc, pm, an, cdv, ct, osl, rfl, lk, hcd⟩ := F.ex
  refine ⟨len, fun A outer s H args us vs Q E p hr hot pin e0 hb r hsp => ?_⟩
  have KX : K.In s.heap := e0.mod.kin.keeps fun b o e => (e0.bs b o e).1
  have hkind : ∀ y ∈ ps.zip us, (defScope st).names.lookup y.1 = some .local ∨ ((defScope st).names.lookup y.1 = some .cell ∧ ((cellsFrom (s.heap.objs.size + 1) (defScope st).names []).lookup y.1).isSome = true) := fun y hy =>
    (S.par y.1 (List.of_mem_zip hy).1).elim .inl fun q => .inr ⟨q, PySem.W.cellsFrom_some _ _ _ (.inl q)⟩
  refine codeAny_call_function hr.depth (KX _ _ lk) rfl S.co S.gen rfl (PySem.W.codeRec_of KX hcd) (hb _ _ _ _ (wpAny_newFunctionEnv_cells S.kind hkind fun env he s1 x => ?_))
  subst he
  refine ⟨(e0.mod.nolimit.keeps fun b o e => (e0.bs b o e).1).keeps x.toInCall.keep, codeAny_func ?_⟩
  obtain ⟨t, ht, hq⟩ := hbody cdv A outer s H vs Q E p hot (hr.deeper _) hsp
  have I : Inv (cxH CX P w K mg base N qual (defScope st) f cdv A outer s H E p) [] (start N vs) H s1 := inv_startH S pin e0 (len _ _ _ _ _ hsp) r x
  refine wpAny_mono (ht.run [] s1 (start N vs) H _ I hq) (fun fl s' hs => ?_) fun _ _ hs => hs
  cases fl with
  | ret u => obtain ⟨v, σ', H', J, rv, q⟩ := hs; exact ⟨v, H', J.os, J.bare, J.base, J.hok, rv, q⟩
  | next => obtain ⟨σ', H', J, q⟩ := hs; exact ⟨V.non, H', J.os, J.bare, J.base, J.hok, rfl, q⟩
  | brk => obtain ⟨_, _, _, q⟩ := hs; exact False.elim q
  | cont => obtain ⟨_, _, _, q⟩ := hs; exact False.elim q
end
section
variable {X : Cx} {CX : CXT} {k : Nat} {f : Addr} {fd : FuncData} {ps : List Str} {sp : Addr × Obj → Sp} {E : XK} {x : Str} {p pos : Pos} {e : Expr} {es : List Expr} {t : TA} {q : Addr × Obj}
theorem pe_callP (F : FnP X.prog X.w X.K X.mg X.base CX k f fd ps sp) (hr : RoomH k X.A) (m : q ∈ X.pn) (hot : Hot1 X.A q) (hg : Gl X x) (hm : X.mg x = some (.ref f)) (hk : PySem.W.keepIn X.K (.ref f) = true) (hb : Binds X.K fd ps []) (hx : Passes CX X E)
    (ha : PA X (e :: es) t) (hdb : (x == ("__debug__" : Str)) = false := by decide) (he : starEach (e :: es) X.env = (false, eval e X.env) :: starEach es X.env := by rfl) (hpl : (backTo pos (starEach es X.env)).any (·.1) = false := by rfl) :
    PE X (.Call (.Name x p) (e :: es) [] pos) (tCall (sp q) [] E t) := by
  constructor
  intro pins s σ H Q I h
  refine wpAny_Call_Name_kw (ld_glob I hg hm (PySem.W.callWith_K (h₀ := X.base) I.ok.mod.kin hk (thn (ha.run pos pins s σ H _ I h) fun us s1 ⟨vs, H1, I1, r, z⟩ => ⟨I1.kIn, ?_⟩) he hpl) hdb)
  have z : sp q (vs ++ []) H1 Q E := z
  rw [List.append_nil] at z
  have b := hb s1 us I1.kIn (by rw [List.append_nil, ← r.length]; exact F.len _ _ _ _ _ z)
  rw [List.append_nil] at b
  obtain ⟨p1, p2, p3, p4, p5⟩ := I1.pin q (List.mem_append.mpr (.inl m))
  refine wpAny_call (codeAny_mono (F.run X.A X.stack s1 H1 ⟨us, []⟩ us vs Q E q hr hot ⟨p1, p2, fun hm => (List.mem_cons.mp (I1.stkSub q.1 hm)).elim p3 p4, p5⟩ I1.env0 b r z) fun r s' hq => ?_)
  have y := back_of hx I1 hq
  cases r with
  | error e => exact y
  | ok fl => cases fl with
    | ret u => exact y
    | next => exact y.elim
    | brk => exact y.elim
    | cont => exact y.elim
end
end Gn
set_option Elab.async false
set_option linter.all false
set_option maxRecDepth 100000
set_option maxHeartbeats 4000000
/-! y = [..] within a handler -/
namespace L2
open PySem PySem.Spec PyProof.Rows HotX L2H
section
variable {X : Cx} {i : Nat} {y : Str} {elt tg src : Expr} {ifs : List Expr} {sc : Scope} {own : List (Str × Nat)} {py pa ps : Pos} {ti te : TE} {g : TG} {tt : TT}
theorem ps_setLcH {p : Addr × Obj} (hot : Hot1 X.A p) (pm : p ∈ X.pn) (nd : X.N.Nodup) (hy : X.N[i]? = some y) (lo : X.env.scope.names.lookup y = some .local) (sw : swapsWith (.ListComp elt [⟨tg, src, ifs, 0⟩] sc pa) (some (.Name y py)) ps.line X.env = pure true) (hi : PE X src ti) (ok : BlkOk X.N X.env.scope sc own)
    (hg : ∀ (s : Shared) (H : Hp) (C : Addr) (cl : List (Str × Addr)) (fp : List Addr), Seen (X.blk s H sc (compEnvC sc cl C X.env) fp) p → PG (X.blk s H sc (compEnvC sc cl C X.env) fp) tg g)
    (ht : ∀ (s : Shared) (H : Hp) (C : Addr) (cl : List (Str × Addr)) (fp : List Addr), Seen (X.blk s H sc (compEnvC sc cl C X.env) fp) p → PTs (X.blk s H sc (compEnvC sc cl C X.env) fp) ifs tt)
    (he : ∀ (s : Shared) (H : Hp) (C : Addr) (cl : List (Str × Addr)) (fp : List Addr), Seen (X.blk s H sc (compEnvC sc cl C X.env) fp) p → PE (X.blk s H sc (compEnvC sc cl C X.env) fp) elt te)
    (fo : ∀ x, foldedSetIterable src X.env x = pure x := by intro _; rfl) : PS X (.Assign [.Name y py] (.ListComp elt [⟨tg, src, ifs, 0⟩] sc pa) ps) (tAsg (tLc (iList X.K ti) g tt te (own.map (·.2))) (gName i)) := by
  constructor
  intro pins t τ G D J want
  have want : tLc (iList X.K ti) g tt te (own.map (·.2)) τ G (fun x G1 => gName i x τ G1 D.nx) := want
  rw [exec_Assign_Name_used _ _ _ _ sw]
  refine wpAny_bind (wpAny_standAt (wpAny_bind ?_))
  change wpAny _ X.A (comprehension (.ListComp elt [⟨tg, src, ifs, 0⟩] sc pa) sc X.env (firstIterPos [⟨tg, src, ifs, 0⟩] pa) (newList []) false (eval src X.env) (some (assign (.Name y py) X.env)) >>= _) _ _ t
  refine wpAny_bind (thn (lc_hot (Qf := fun _ u => SP X pins D .next u) hot pm nd J hi ok hg ht he fo want fun L C u m G' J' q hn fr => ?_) fun _ u z => wpAny_pure (wpAny_pure z))
  change wpAny _ _ (assign (.Name y py) X.env (.ref L)) _ _ _
  refine wpAny_assign_Name (store_ok2 (v := V.ref L) J' nd hy (.inl lo) rfl (fun u2 J2 ⟨b, sb, hb⟩ => ?_) (.inr lo))
  have off : C ≠ b := hb.elim (fun z => z ▸ fr.2.1) fun z e => fr.2.2.2.2.1 y b z e.symm
  exact ⟨m, hn.sameBut sb off, fun h3 sb3 => ⟨_, G', J2.turned (t' := u2.toks) (fun c o n e => (sb3.2 c n).trans e) fr.1 fr.2.1 fr.2.2.2.1 fr.2.2.2.2.1 fr.2.2.2.2.2, q⟩⟩
end
end L2
set_option Elab.async false
set_option linter.all false
set_option maxRecDepth 100000
set_option maxHeartbeats 4000000
/-! a lambda handed to a def that tries it: what it raises has a known context -/
namespace Gn
open PySem PySem.Spec PyProof.Rows L2
section
variable {P : Program} {w : World} {K : PySem.W.Frag} {mg : Str → Option Value} {base : Heap}
/-- a def that may raise -/
theorem okN {x qual : Str} {st : Stmt} {f : Addr} {fd : FuncData} {N ps : List Str} {k : Nat} {sp : Sp} (F : Fun K x qual st f fd) (S : FnScope N ps (defScope st)) (len : ∀ vs H Q E, sp vs H Q E → vs.length = ps.length)
    (body : ∀ (cdv : Value) (A : Around) (outer : List Env) (s : Shared) (H : Hp) (vs : List V) (Q : VK) (E : XK), Room k (A.deeper (envOfC qual (defScope st) s.heap.objs.size f cdv)) → sp vs H Q E →
      ∃ t, PSs (cxOf (L2N.CX P w) P w K mg base N qual (defScope st) f cdv A outer s H E) (defBody st) t ∧ t { nx := fun _ G => Q .non G, rt := Q } (start N vs) H) : FnOk P w K mg base (L2N.CX P w) (k + 1) f fd ps sp := by
  obtain ⟨_, _, _, _, _, _, cdv, _, _, rfl, lk, hcd⟩ := F.ex
  exact fn_of lk hcd S len fun A o s H vs Q E => body cdv A o s H vs Q E
end
/-- the lambda's body, entered at s -/
abbrev lamN (X : Cx) (A : Around) (outer : List Env) (s : Shared) (H : Hp) (E : XK) (sc : Scope) (f c : Addr) : Cx :=
  (LamX.lamCx X A outer s H E sc f c).wish fun e t => wpAny (model X.prog X.w) (A.deeper (LamX.lamEnv X sc s.heap.objs.size f c)) (leaving (LamX.lamEnv X sc s.heap.objs.size f c) e) (fun _ t' => L2N.CX X.prog X.w outer H s E e t') (fun e' t' => L2N.CX X.prog X.w outer H s E e' t') t
section
variable {X : Cx} {pins : List (Addr × Obj)} {σ : L2.St} {H : Hp} {s : Shared}
/-- what leaves the body -/
theorem lamN_takes {A : Around} {outer : List Env} {E : XK} {sc : Scope} {f c : Addr} : L2N.Takes (lamN X A outer s H E sc f c) fun C d _ G => E C d G :=
  L2N.takes_of (E₁ := fun e' t' => L2N.CX X.prog X.w outer H s E e' t') rfl rfl rfl rfl
/-- a(), in the def that got the lambda -/
theorem pe_actN {CXg : CXT} {Eg : XK} {Ng : List Str} {qg : Str} {sg sc : Scope} {g f c : Addr} {cdg pm ctv : Value} {pr : Arguments} {bo : Expr} {k i : Nat} {a : Str} {pn : List (Addr × Obj)} {xe : Value → Shared → Prop} {W : WX} {tb : XK → TE} {p1 p2 : Pos}
    (I : Inv X pins σ H s) (L : LamX.LamS X.env.scope sc) (gf : s.heap.get? f = some (PySem.W.kla_obj "<lambda>" (X.env.qual ++ "<lambda>") pr bo sc (cloFrom X.env.cells sc.names []) pm c ctv)) (nf : H f = none) (off : f ∉ frs X.stack)
    (bi : bindArgs (PySem.W.kla_fn "<lambda>" (X.env.qual ++ "<lambda>") pr bo sc (cloFrom X.env.cells sc.names []) pm (.ref c) ctv) ⟨[], []⟩ = pure [])
    (tk : L2N.Takes ((cxOf CXg X.prog X.w X.K X.mg X.base Ng qg sg g cdg X.A X.stack s H Eg).tr pn xe) W) (hr : Room (k + 1) (X.A.deeper (envOfC qg sg s.heap.objs.size g cdg)))
    (body : ∀ (A : Around) (outer : List Env) (s : Shared) (H : Hp) (E : XK), Room k (A.deeper (LamX.lamEnv X sc s.heap.objs.size f c)) → PE (lamN X A outer s H E sc f c) bo (tb E))
    (at_ : Ng[i]? = some a) (vi : Vis sg a) (nd : (a == ("__debug__" : Str)) = false := by decide) (nc : (a == ("__classdict__" : Str)) = false := by decide) :
    PE ((cxOf CXg X.prog X.w X.K X.mg X.base Ng qg sg g cdg X.A X.stack s H Eg).tr pn xe) (.Call (.Name a p1) [] [] p2)
      (fun τ G Q => τ[i]? = some (some (.ref f)) ∧ G c = some (LamX.CodeO c (X.env.qual ++ "<lambda>")) ∧ tb (fun C d G' => W C d τ G') σ G Q) := by
  constructor
  rintro pi t τ G Q J ⟨slot, co, want⟩
  refine wpAny_Call_Name_kw (thn ((pe_var (pos := p1) (i := i) at_ vi nd nc).run pi t τ G (fun v G1 => v = .ref f ∧ G1 = G) J ⟨.ref f, slot, rfl, rfl⟩) fun u t1 ⟨v, G1, J1, rv, ev, eG⟩ => ?_)
  subst ev eG
  obtain rfl : u = Value.ref f := rv
  have g1 := J1.base.keep f _ gf nf off (fun z => nomatch (show f ∈ ([] : List Addr) from z))
  have un : Un (frs X.stack) [] H G1 s.heap t1.heap := J1.base
  obtain ⟨⟨oc, vs, tn, goc, gd, gv⟩, _, _⟩ := J1.hok c _ co
  have run : codeAny (model X.prog X.w) (X.A.deeper (envOfC qg sg s.heap.objs.size g cdg)) (.call (.ref f) ⟨[], []⟩) (CR (L2N.CX X.prog X.w) (envOfC qg sg s.heap.objs.size g cdg :: X.stack) X.prog X.w G1 t1 Q fun C d G' => W C d τ G') t1 := by
    refine PySem.W.kla_callFunE hr.depth g1 rfl L.co L.gen rfl ⟨c, oc, vs, tn, rfl, goc, gd, gv⟩ ?_
    rw [bi]
    refine wpAny_pure (wpAny_newFunctionEnv (fun y m => (L.own y m).2) (fun y m => absurd m (by simp)) (fun h ns sb => ⟨J1.nolimit.fresh _ sb, ?_⟩) L.kind)
    change codeAny _ _ (.expr bo (LamX.lamEnv X sc t1.heap.objs.size f c)) _ _
    have start := LamX.lam_start2 (A := X.A.deeper (envOfC qg sg s.heap.objs.size g cdg)) (outer := envOfC qg sg s.heap.objs.size g cdg :: X.stack) (E := fun C d G' => W C d τ G') (c' := c) (f := f) (tk := t1.toks + ([] : List (Str × Value)).length) I L J1.env0 hr.hd un ns fun b o e => sb.extBut b o (Nat.ne_of_lt (Heap.lt_size e)) (Heap.get?_push_of_some _ e)
    refine PySem.W.kla_codeExpr (wpAny_mono ((body _ _ t1 G1 _ (hr.deeper _)).run [] _ σ G1 Q (start.wish _) want) (fun v t2 ⟨y, G2, J2, ry, q⟩ => ?_) fun _ _ z => z)
    exact ⟨y, G2, J2.os, J2.bare, J2.base, J2.hok, ry, q⟩
  refine PySem.W.callWith_F0 ⟨_, _, _, _, g1⟩ (wpAny_call (codeAny_mono run fun r t2 z => ?_))
  cases r with
  | error e => exact tk e t2 (L2N.XE.of_call J1 (fun C d G' h => h) z)
  | ok fl => cases fl with
    | ret u => exact J1.after z
    | next => exact z.elim
    | brk => exact z.elim
    | cont => exact z.elim
/-- the def that tries what it got: TT, what it makes of the lambda's reading -/
def GivesN (X : Cx) (Ng : List Str) (x : Str) (sg : Scope) (g : Addr) (cdg : Value) (bg : List Stmt) (a : Str) (q : Str) (k : Nat) (TT : (XK → Hp → VK → Prop) → Hp → VK → Prop) : Prop :=
  ∀ (f c : Addr) (s : Shared) (H : Hp) (Q : VK) (tl : XK → Hp → VK → Prop),
    (∀ (W : WX) (pn : List (Addr × Obj)) (xe : Value → Shared → Prop) (p1 p2 : Pos), L2N.Takes ((cxOf CX0 X.prog X.w X.K X.mg X.base Ng x sg g cdg X.A X.stack s H E0).tr pn xe) W →
      PE ((cxOf CX0 X.prog X.w X.K X.mg X.base Ng x sg g cdg X.A X.stack s H E0).tr pn xe) (.Call (.Name a p1) [] [] p2) (fun τ G Q => τ[0]? = some (some (.ref f)) ∧ G c = some (LamX.CodeO c q) ∧ tl (fun C d G' => W C d τ G') G Q)) →
    H c = some (LamX.CodeO c q) → Room (k + 1) (X.A.deeper (envOfC x sg s.heap.objs.size g cdg)) → TT tl H Q →
    ∃ t, PSs (cxOf CX0 X.prog X.w X.K X.mg X.base Ng x sg g cdg X.A X.stack s H E0).nox bg t ∧ t { nx := fun _ G => Q .non G, rt := Q } (L2.start Ng [.ref f]) H
/-- x(lambda: bo) -/
theorem pe_lamN {T : List (Addr × Str)} {TT : (XK → Hp → VK → Prop) → Hp → VK → Prop} {x a : Str} {g c P : Addr} {k : Nat} {st : Stmt} {fd : FuncData} {Ng : List Str} {pr : Arguments} {bo : Expr} {sc : Scope} {t : XK → TE} {p lp pos : Pos}
    (hg : Gl X x) (hm : X.mg x = some (.ref g)) (F : Fun X.K x x st g fd) (kp : PySem.W.keepIn X.K (.ref g) = true) (hb : Binds X.K fd [a] []) (Sg : FnScope Ng [a] (defScope st)) (at_ : Ng[0]? = some a) (vi : Vis (defScope st) a)
    (hG : ∀ cdv, GivesN X Ng x (defScope st) g cdv (defBody st) a (X.env.qual ++ "<lambda>") k TT)
    (TB : LamX.TabB X.base X.mg c P) (ec : X.env.code = .ref c) (mT : (P, X.env.qual ++ "<lambda>") ∈ T) (one : ∀ q ∈ T, q.1 = P → q.2 = X.env.qual ++ "<lambda>") (hr : Room (k + 2) X.A) (L : LamX.LamS X.env.scope sc) (df : defaultsOf pr X.env = ([], []))
    (bi : ∀ (q : Str) (cl : List (Str × Addr)) (pm cv ctv : Value), bindArgs (PySem.W.kla_fn "<lambda>" q pr bo sc cl pm cv ctv) ⟨[], []⟩ = pure [])
    (body : ∀ (A : Around) (outer : List Env) (s : Shared) (H : Hp) (E : XK) (f c' : Addr), Room k (A.deeper (LamX.lamEnv X sc s.heap.objs.size f c')) → PE (lamN X A outer s H E sc f c') bo (t E))
    (nx : (x == ("__debug__" : Str)) = false := by decide) (nd : (a == ("__debug__" : Str)) = false := by decide) (nc : (a == ("__classdict__" : Str)) = false := by decide) :
    PE X (.Call (.Name x p) [.Lambda pr bo sc lp] [] pos) (LamX.tLam T TT t) := by
  obtain ⟨_, _, _, _, _, _, cdv, _, _, rfl, lk, hcd⟩ := F.ex
  constructor
  rintro pins s σ H Q I ⟨tabs, want⟩
  refine wpAny_Call_Name_kw (ld_glob I hg hm (PySem.W.callWith_K (h₀ := X.base) I.ok.mod.kin kp ?_ (by rfl) (by rfl)) nx)
  change wpAny _ _ (spliced ((false, eval (.Lambda pr bo sc lp) X.env) :: backTo pos (starEach [] X.env))) _ _ s
  refine Calls.spliced_cons (LamX.lam_make2 I TB ec mT one tabs df (L.has I.ok) fun f c' pm ctv H1 s1 I1 eN T1 gf nf off co => Calls.spliced_nil ⟨I1.kIn, ?_⟩)
  have run : codeAny (model X.prog X.w) X.A (.call (.ref g) ⟨[.ref f], []⟩) (CR CX0 X.stack X.prog X.w H1 s1 Q E0) s1 := by
    refine LamX.run_ofS (N := Ng) (ps := [a]) (us := [.ref f]) (vs := [.ref f]) lk hcd Sg hr I1.env0 (hb s1 [.ref f] I1.kIn rfl) (.cons rfl .nil) rfl fun hr' => ?_
    obtain ⟨u, hu, q⟩ := hG cdv f c' s1 H1 Q (fun E G Q' => t E σ G Q') (fun W pn xe p1 p2 tk => pe_actN (i := 0) I1 L gf nf off (bi _ _ _ _ _) tk hr' (fun A o s2 H2 E hr2 => body A o s2 H2 E f c' hr2) at_ vi nd nc) co hr' (want H1 eN T1)
    exact ⟨u, hu.nox, q⟩
  refine wpAny_call (codeAny_mono run fun r s2 z => ?_)
  cases r with
  | error e => exact (show False from z).elim
  | ok fl => cases fl with
    | ret u => exact I1.after z
    | next => exact z.elim
    | brk => exact z.elim
    | cont => exact z.elim
end
end Gn
set_option Elab.async false
set_option linter.all false
set_option maxRecDepth 100000
set_option maxHeartbeats 4000000
/-! the end of a law whose defs make lambdas, no guards known ahead -/
namespace Gn
open PySem PySem.Spec PyProof.Rows L2
section
variable {P : Program} {w : World} {K : PySem.W.Frag} {mg mb : Str → Option Value}
/-- a table of code objects that is empty yet -/
def tabO : Obj := { cls := .none, data := .fields #[] }
theorem lawGT {CX : CXT} {k : Nat} {fa a : Addr} {cs : List (Addr × Addr)} {fd : FuncData} {x : Str} {sp : Sp} {s₁ : Shared} {vs : List Value} {ns : List Int}
    (KX : K.In s₁.heap) (hns : s₁.heap.Ns mainGlobals mg) (hb : s₁.heap.Ns builtinsNs mb) (hbb : ∀ x : Str, x ≠ "__name__" → mb x = bootBuiltins x) (hlim : s₁.heap.NoLimit) (hg : s₁.gens = #[])
    (T0 : ∀ p ∈ cs, s₁.heap.get? p.2 = some tabO) (T1 : ∀ p ∈ cs, K.lookup p.2 = none) (T2 : ∀ p ∈ cs, PySem.W.CodeHd s₁.heap p.1 p.2)
    (bm : ∃ (m : Addr) (o : Obj), mg "__builtins__" = some (.ref m) ∧ m ≠ builtinsNs ∧ s₁.heap.get? m = some o ∧ o.cls = .type "module" ∧ o.dict = some builtinsNs ∧ o.data = .plain)
    (ha : s₁.heap.get? a = some { cls := .type "list", data := .seq vs.toArray }) (hi : IntsAre vs ns) (hl : ns.length ≤ sizeLine) (hr : Room k callerA)
    (F : ∀ base : Heap, K.In base → base.Ns mainGlobals mg → (∀ p ∈ cs, LamX.TabB base mg p.1 p.2) → FnG P w K mg base CX k fa fd [x] sp) (hbind : ∀ (s : Shared) (u : Value), BindsTo s fd ⟨[u], []⟩ [(x, u)])
    (hsp : ∀ H : Hp, (∀ p ∈ cs, H p.2 = some (.tbl #[])) → SqL K H a (ns.map V.int) → sp [.ref a] H (fun v _ => v = .bl true) fun _ _ _ => False) (hCX : ∀ H e s', CX [] H s₁ (fun _ _ _ => False) e s' → False) :
    codeAny (model P w) callerA (.call (.ref fa) ⟨[.ref a], []⟩) (fun r s' => r = .ok (.ret (.bool true)) ∧ OldK s₁.heap s'.heap ∧ s'.os = s₁.os ∧ AllBare s'.gens) s₁ := by
  have rv := vals_ints hi
  have isT : ∀ b, b ∈ cs.map (·.2) → s₁.heap.get? b = some tabO := fun b m => by
    obtain ⟨p, pm, rfl⟩ := List.mem_map.mp m
    exact T0 p pm
  have nA : a ∉ cs.map (·.2) := fun m => by
    have z := (isT a m).symm.trans ha
    have z' := congrArg Obj.data (Option.some.inj z)
    cases z'
  have mT : ∀ p ∈ cs, p.2 ∈ cs.map (·.2) := fun p m => List.mem_map.mpr ⟨p, m, rfl⟩
  -- what is tracked at first: the tables, and the script where the kit's frame doesn't hold it
  let H0 : Hp := fun b => if b ∈ cs.map (·.2) then some (.tbl #[]) else if b = a ∧ K.lookup a = none then some (.frz { cls := .type "list", data := .seq vs.toArray } (.lst (ns.map V.int))) else none
  have HT : ∀ p ∈ cs, H0 p.2 = some (.tbl #[]) := fun p m => if_pos (mT p m)
  have HN : ∀ b, b ∉ cs.map (·.2) → ¬ (b = a ∧ K.lookup a = none) → H0 b = none := fun b m n => by
    show (if b ∈ cs.map (·.2) then _ else _) = _
    rw [if_neg m, if_neg n]
  have HA : K.lookup a = none → H0 a = some (.frz { cls := .type "list", data := .seq vs.toArray } (.lst (ns.map V.int))) := fun n => by
    show (if a ∈ cs.map (·.2) then _ else _) = _
    rw [if_neg nA, if_pos ⟨rfl, n⟩]
  have hS : SqL K H0 a (ns.map V.int) := by
    cases q : K.lookup a with
    | none => exact .inl (.inr ⟨_, HA q⟩)
    | some o =>
      have e := KX a o q
      rw [ha] at e
      cases e
      exact .inr ⟨_, vs.toArray, _, q, rfl, rfl, rfl, by rw [List.size_toArray, hi.length]; exact hl, by simpa using rv⟩
  have hok : HOk P w H0 s₁.heap := fun b u e => by
    by_cases m : b ∈ cs.map (·.2)
    · have e' : (some (HO.tbl #[]) : Option HO) = some u := (if_pos m).symm.trans e
      cases e'
      exact isT b m
    · by_cases n : b = a ∧ K.lookup a = none
      · obtain ⟨rfl, n⟩ := n
        cases (HA n).symm.trans e
        exact ⟨ha, by rw [List.length_map]; exact hl, vs, _, rv, ha⟩
      · cases (HN b m n).symm.trans e
  -- what is not tracked lies in the base
  have low : ∀ {b : Addr} {o : Obj}, s₁.heap.get? b = some o → (∀ vs n, o.data ≠ .seq vs n) → o.data ≠ .fields #[] → (hidT s₁.heap H0).get? b = some o := fun {b o} e h1 h2 => hidT_get e (HN b (fun m => by
      rw [isT b m] at e
      cases e
      exact h2 rfl) fun n => by
      rw [n.1, ha] at e
      cases e
      exact h1 _ _ rfl)
  have lowN : ∀ {b : Addr} {m : Str → Option Value}, s₁.heap.Ns b m → (hidT s₁.heap H0).Ns b m := fun {b m} ⟨o, es, ep, e, d, r⟩ => ⟨o, es, ep, low e (fun vs n z => by rw [d] at z; cases z) (fun z => by rw [d] at z; cases z), d, r⟩
  have kb : K.In (hidT s₁.heap H0) := fun b o e => hidT_get (KX b o e) (HN b (fun m => by
      obtain ⟨p, pm, rfl⟩ := List.mem_map.mp m
      rw [T1 p pm] at e
      cases e) fun n => by
      rw [n.1, n.2] at e
      cases e)
  have md : Mod K mg (hidT s₁.heap H0) := ⟨kb, lowN hns, ⟨mb, lowN hb, hbb⟩, let ⟨mc, h1, h2⟩ := hlim; ⟨mc, lowN h1, h2⟩⟩
  have TB : ∀ p ∈ cs, LamX.TabB (hidT s₁.heap H0) mg p.1 p.2 := fun p m => by
    have tp := T0 p m
    refine ⟨?_, ?_, fun z => ?_⟩
    · obtain ⟨o, us, c1, c2, c3, c4, c5, c6, c7, e, r1, r2, r3, r⟩ := T2 p m
      refine ⟨o, us, c1, c2, c3, c4, c5, c6, c7, low e (fun vs n z => ?_) (fun z => ?_), r1, r2, r3, r⟩
      · rw [r2] at z
        cases z
      · rw [r2] at z
        cases z
        simp at r3
    · obtain ⟨m0, o, b1, b2, b3, b4, b5, b6⟩ := bm
      refine ⟨m0, o, b1, b2, fun q => ?_, fun q => ?_, low b3 (fun vs n z => by rw [b6] at z; cases z) (fun z => by rw [b6] at z; cases z), b4, b5, b6⟩
      · obtain ⟨_, _, _, e, d, _⟩ := hns
        rw [q, e] at b3
        cases b3
        rw [d] at b6
        cases b6
      · rw [q, tp] at b3
        cases b3
        cases b6
    · obtain ⟨_, _, _, e, d, _⟩ := hns
      rw [z, tp] at e
      cases e
      cases d
  have e0 : Env0 P w K mg (hidT s₁.heap H0) callerA [] s₁ H0 := ⟨rfl, md, fun b o e => of_hidT e, Nat.le_of_eq (hidT_size _ _), trivial, fun b m => absurd (show b ∈ ([] : List Addr) from m) (by simp), hok, .of_eq hg⟩
  refine codeAny_mono ((F _ kb (lowN hns) TB).run callerA [] s₁ H0 ⟨[.ref a], []⟩ [.ref a] [.ref a] _ _ rfl hr e0 (hbind s₁ (.ref a)) (.cons rfl .nil) (hsp H0 HT hS)) fun r s' h => ?_
  cases r with
  | error e => exact (hCX H0 e s' h).elim
  | ok fl => cases fl with
    | next => exact False.elim h
    | brk => exact False.elim h
    | cont => exact False.elim h
    | ret u =>
      obtain ⟨v, H', os, bare, un, hok', r', q⟩ := h
      obtain rfl : v = .bl true := q
      obtain rfl : u = Value.bool true := r'
      have same : ∀ b o, b ∉ cs.map (·.2) → s₁.heap.get? b = some o → s'.heap.get? b = some o := fun b o m e => by
        by_cases n : b = a ∧ K.lookup a = none
        · obtain ⟨rfl, n⟩ := n
          obtain ⟨e1, _⟩ := hok b _ (HA n)
          obtain ⟨e2, _⟩ := hok' b _ (un.frzs b _ _ (HA n))
          exact e2.trans (e1.symm.trans e)
        · exact un.keep b o e (HN b m n) (fun z => nomatch z) (fun z => nomatch z)
      have more : ∀ p ∈ cs, ∃ ps : Array Value, s'.heap.get? p.2 = some { cls := .none, data := .fields ps } := fun p m => by
        obtain ⟨ps, z⟩ := un.tbls p.2 #[] (HT p m)
        exact ⟨_, hok' p.2 _ z⟩
      refine ⟨rfl, ⟨fun b o e => ?_, fun b o e => ?_⟩, os, bare⟩
      · by_cases m : b ∈ cs.map (·.2)
        · obtain ⟨p, pm, rfl⟩ := List.mem_map.mp m
          obtain ⟨ps, z⟩ := more p pm
          cases (T0 p pm).symm.trans e
          exact .inr (.inl ⟨((T2 p pm).tab (T0 p pm)).isCodeTable, rfl, #[], ps, rfl, by rw [Array.empty_append]; exact z⟩)
        · exact .inl (same b o m e)
      · by_cases m : b ∈ cs.map (·.2)
        · obtain ⟨p, pm, rfl⟩ := List.mem_map.mp m
          obtain ⟨ps, z⟩ := more p pm
          exact ⟨_, z⟩
        · exact ⟨o, same b o m e⟩
/-- what the head gives of the law -/
def LawAtG (l : PySem.W.OpenLaw) (w : World) (K : PySem.W.Frag) (CX : CXT) (k n : Nat) (x : Str) (mg : Str → Option Value) (fa : Addr) (h : Heap) : Prop :=
  ∃ (fd : FuncData) (cs : List (Addr × Addr)) (sp : Sp), (∀ p ∈ cs, h.get? p.2 = some tabO ∧ K.lookup p.2 = none ∧ PySem.W.CodeHd h p.1 p.2) ∧ (∀ (s : Shared) (u : Value), BindsTo s fd ⟨[u], []⟩ [(x, u)]) ∧
    (∀ (H : Hp) (a : Addr) (ns : List Int), ns.length ≤ n → (∀ p ∈ cs, H p.2 = some (.tbl #[])) → SqL K H a (ns.map V.int) → sp [.ref a] H (fun v _ => v = .bl true) fun _ _ _ => False) ∧
    ∀ base : Heap, K.In base → base.Ns mainGlobals mg → (∀ p ∈ cs, LamX.TabB base mg p.1 p.2) → FnG l.prog w K mg base CX k fa fd [x] sp
theorem walkGT {l : PySem.W.OpenLaw} {n k : Nat} {q : Program} {loose : List Str} {XP : (Str → Option Value) → Heap → Prop} {YP : World → Heap → Prop} {d : DefRec} {K : Params → PySem.W.Frag} {CX : World → CXT} {x : Str}
    (hn : l.most = some n) (hn2 : n ≤ sizeLine) (hdf : d.params.defaults = []) (hr : Room k callerA) (hY : ∀ (w : World) (h : Heap), YP w h → (K w.params).In h)
    (F : ∀ (w : World) (mg : Str → Option Value) (fa : Addr) (h : Heap), (∀ (y : Str) (e : DefRec) (c P : Addr), (recsOf q).find? (fun r => r.name == y) = some e → PySem.W.tabIn (K w.params) y = some (c, P) → PySem.W.CodeHd h c P ∧ h.get? P = some tabO) → (K w.params).In h → h.Ns mainGlobals mg → mg d.name = some (.ref fa) → LawAtG l w (K w.params) (CX w) k n x mg fa h)
    (hCX : ∀ (w : World) (H : Hp) (s : Shared) (e : Value) (s' : Shared), CX w [] H s (fun _ _ _ => False) e s' → False) : PySem.W.WalkO q loose XP YP l.row.toRowW d [] (fun f vs => PySem.call f vs) :=
  Att.attach_call hn hdf fun w s₀ s₁ mg mb fa o pm cd doc a vs ns G Y ho hd hcd hmg hobj hints hlen hg => by
    obtain ⟨fd, cs, sp, T, hb, hsp, hF⟩ := F w mg fa _ (fun y e c P h1 h2 => PySem.W.tab_of G.T (hY w _ Y) h1 h2) (hY w _ Y) G.T.g hmg
    exact lawGT (hY w _ Y) G.T.g G.T.b G.T.builtins G.T.nolimit hg (fun p m => (T p m).1) (fun p m => (T p m).2.1) (fun p m => (T p m).2.2) G.T.bmain hobj hints (Nat.le_trans hlen hn2) hr hF hb (fun H h1 h2 => hsp H a ns hlen h1 h2) fun H e s' => hCX w H s₁ e s'
end
end Gn
namespace Gn
open PySem PySem.Spec PyProof.Rows L2
/-- as funG0, the code object told -/
theorem funGC {P : Program} {w : World} {K : PySem.W.Frag} {mg : Str → Option Value} {base : Heap} {x qual : Str} {st : Stmt} {f : Addr} {fd : FuncData} {N ps : List Str} {k : Nat} {sp : Sp} (F : Fun K x qual st f fd) (S : FnScope N ps (defScope st)) (len : ∀ vs H Q E, sp vs H Q E → vs.length = ps.length)
    (hbody : ∀ (A : Around) (outer : List Env) (s : Shared) (H : Hp) (vs : List V) (Q : VK) (E : XK), (A.deeper (envOfC qual (defScope st) s.heap.objs.size f fd.code)).guards = some [] → Room k (A.deeper (envOfC qual (defScope st) s.heap.objs.size f fd.code)) → sp vs H Q E →
      ∃ t, PSs (cxOf CX0 P w K mg base N qual (defScope st) f fd.code A outer s H E).nox (defBody st) t ∧ t { nx := fun _ H' => Q .non H', rt := Q } (start N vs) H) : FnG P w K mg base CX0 (k + 1) f fd ps sp := by
  obtain ⟨oc, od, kV, doc, pm, an, cdv, ct, osl, rfl, lk, hcd⟩ := F.ex
  refine ⟨len, fun A outer s H args us vs Q E hg hr e0 hb r hsp => ?_⟩
  have KX : K.In s.heap := e0.mod.kin.keeps fun b o e => (e0.bs b o e).1
  have hkind : ∀ y ∈ ps.zip us, (defScope st).names.lookup y.1 = some .local ∨ ((defScope st).names.lookup y.1 = some .cell ∧ ((cellsFrom (s.heap.objs.size + 1) (defScope st).names []).lookup y.1).isSome = true) := fun y hy =>
    (S.par y.1 (List.of_mem_zip hy).1).elim .inl fun q => .inr ⟨q, PySem.W.cellsFrom_some _ _ _ (.inl q)⟩
  refine codeAny_call_function hr.depth (KX _ _ lk) rfl S.co S.gen rfl (PySem.W.codeRec_of KX hcd) (hb _ _ _ _ (wpAny_newFunctionEnv_cells S.kind hkind fun env he s1 x => ?_))
  subst he
  refine ⟨(e0.mod.nolimit.keeps fun b o e => (e0.bs b o e).1).keeps x.toInCall.keep, codeAny_func ?_⟩
  obtain ⟨t, ht, hq⟩ := hbody A outer s H vs Q E hg (hr.deeper _) hsp
  have I : Inv (cxOf CX0 P w K mg base N qual (defScope st) f cdv A outer s H E) [] (start N vs) H s1 := inv_start S hr.hd e0 (len _ _ _ _ hsp) r x
  refine wpAny_mono (ht.nox.run [] s1 (start N vs) H _ I hq) (fun fl s' hs => ?_) fun _ _ hs => hs
  cases fl with
  | ret u => obtain ⟨v, σ', H', J, rv, q⟩ := hs; exact ⟨v, H', J.os, J.bare, J.base, J.hok, rv, q⟩
  | next => obtain ⟨σ', H', J, q⟩ := hs; exact ⟨V.non, H', J.os, J.bare, J.base, J.hok, rfl, q⟩
  | brk => obtain ⟨_, _, _, q⟩ := hs; exact False.elim q
  | cont => obtain ⟨_, _, _, q⟩ := hs; exact False.elim q
end Gn
set_option Elab.async false
set_option linter.all false
set_option maxRecDepth 100000
set_option maxHeartbeats 16000000
set_option exponentiation.threshold 2000
namespace My
open PySem PySem.Spec PyProof.Rows L2 Gn Mt
abbrev sLaw : Stmt := top 110
theorem scLaw : FnScope ["_law_script", "_law_at"] ["_law_script"] (defScope sLaw) := ⟨rfl, rfl, rfl, by decide +kernel, rfl, by decide +kernel, by decide +kernel⟩
def spLaw (K : PySem.W.Frag) : Sp := fun vs H Q _ => ∃ (a : Addr) (ns : List Int), vs = [.ref a] ∧ SqL K H a (ns.map V.int) ∧ ns.length ≤ 63 ∧ ∀ H', Q (.bl true) H'
theorem all_true (n : Nat) : (List.replicate n true).all id = true := by
  rw [List.all_eq_true]
  intro b hb
  exact (List.mem_replicate.mp hb).2
/-- what the law itself asks of the module -/
structure Lw (P : Program) (w : World) (K : PySem.W.Frag) (mg : Str → Option Value) where
  q : Lc P w K mg
  all : mg "all" = none
  mn : mg "min" = none
  gt : Addr × FuncData
  gr : Addr × FuncData
  lt : Df K mg "_law_reel" sReel ["_law_script", "_law_at"] gt.1 gt.2
  dg : Df K mg "_law_right" sRightC ["_law_reel_here"] gr.1 gr.2
section
variable {P : Program} {w : World} {K : PySem.W.Frag} {mg : Str → Option Value} {base : Heap}
theorem ok_law {f : Addr} {fd : FuncData} (F : Fun K "law" "law" sLaw f fd) (M : Lw P w K mg) : FnG P w K mg base CX0 7 f fd ["_law_script"] (spLaw K) := by
  have LT : FnOk P w K mg base CX0 1 M.gt.1 M.gt.2 ["_law_script", "_law_at"] (spReel K) := ok_reel M.lt.F M.q.bl
  have GR : FnG P w K mg base CX0 6 M.gr.1 M.gr.2 ["_law_reel_here"] spRightC := ok_rightC M.dg.F M.q
  refine funG0 F scLaw (fun vs H Q E h => ?_) (fun cdv A outer s H vs Q E hg hr h => ?_)
  · obtain ⟨a, ns, rfl, _⟩ := h
    rfl
  · obtain ⟨a, ns, rfl, hS, hlen, q⟩ := h
    have hr1 : Room 1 _ := hr.mono (by decide)
    refine ⟨_, pss_one (ps_ret (pe_callB (cr_all rfl) (by rfl) M.all (by decide +kernel) (pa_cons
        (pe_lc (te := tCall spRightC [] E0 (tCons (tCall (spReel K) [] E0 (tCons (tVar 0) (tCons (tVar 1) tNil))) tNil)) (own := [("_law_at", 1)]) (g := gName 1) (tt := tYes) rfl scLaw.nd
          (pi_range1 rfl M.q.range (pa_cons (pe_callB (call_max2 rfl) (by rfl) M.q.mx (by decide +kernel) (pa_cons pe_int (pa_cons (pe_callB (call_min2 rfl) (by rfl) M.mn (by decide +kernel) (pa_cons (pe_callB call_len_seq (by rfl) M.q.bl.len PySem.boot_len (pa_cons (pv 0) pa_nil)) (pa_cons pe_int pa_nil))) pa_nil))) pa_nil))
          (blkOk_by (N := ["_law_script", "_law_at"]) (sc := defScope sLaw) (by decide +kernel)) (fun _ _ _ _ _ => pg_name (i := 1) scLaw.nd rfl (.inl rfl)) (fun _ _ _ _ _ => pts_nil)
          (fun _ _ _ _ _ => pe_callG GR hg hr (by rfl) M.dg.g M.dg.F.kp M.dg.b .nil pass0 (pa_cons (pe_call LT hr1 (by rfl) M.lt.g M.lt.F.kp M.lt.b .nil pass0 (pa_cons (pv 0) (pa_cons (pv 1) pa_nil))) pa_nil))) pa_nil))), ?_⟩
    refine ⟨_, rfl, a, _, rfl, .inl hS, _, _, rfl, _, _, rfl, ?_⟩
    have hN : ∀ L : Int, 0 ≤ (if (if (5 : Int) < L then 5 else L) > 2 then (if (5 : Int) < L then 5 else L) else 2) ∧ (if (if (5 : Int) < L then 5 else L) > 2 then (if (5 : Int) < L then 5 else L) else 2) ≤ 5 := fun L => by
      split <;> split <;> omega
    have hN' := hN (((ns.map V.int).length : Nat) : Int)
    generalize (if (if (5 : Int) < (((ns.map V.int).length : Nat) : Int) then 5 else (((ns.map V.int).length : Nat) : Int)) > 2 then (if (5 : Int) < (((ns.map V.int).length : Nat) : Int) then 5 else (((ns.map V.int).length : Nat) : Int)) else 2) = N at hN' ⊢
    refine ⟨N, rfl, by omega, by omega, fun D hD => ?_⟩
    have s0 := same_put (o := HO.lst []) hD
    refine lc_range (lo := 0) (n := N.toNat) (fun i H2 => H2 D = some (.lst ((List.replicate i true).map V.bl)) ∧ Same H H2) ⟨upd_same, s0⟩ ?_ ?_
    · rintro i H2 hi ⟨g1, g2⟩
      rw [Int.zero_add]
      refine ⟨rfl, _, rfl, _, rfl, a, ns, _, rfl, g2.seq hS, by omega, by omega, fun p H3 s3 hp T => ⟨p, rfl, T, fun H4 s4 => ?_⟩⟩
      have nDp : D ≠ p := ne_of_none g1 hp
      refine ⟨_, s4.keep _ _ (s3 _ _ g1) nDp, ?_, ?_, fun b z e => ?_⟩
      · rw [List.length_map, List.length_replicate]
        exact small1000 (by omega)
      · rw [upd_same, List.replicate_succ', List.map_append]; rfl
      · rw [upd_ne (ne_of_none e hD)]
        have z2 := g2 _ _ e
        exact s4.keep _ _ (s3 _ _ z2) (ne_of_none z2 hp)
    · rintro H2 ⟨g1, g2⟩
      refine ⟨D, List.replicate N.toNat true, rfl, SqL.of g1, ?_⟩
      rw [all_true]
      exact q _
end
end My
set_option Elab.async false
set_option linter.all false
set_option maxRecDepth 100000
set_option maxHeartbeats 8000000
namespace My
open PySem PySem.Spec PyProof.Rows L2 Gn Mt
theorem funOfX {K : PySem.W.Frag} {x qual : Str} {st : Stmt} {f : Addr} {fd : FuncData} (F : FunD K x qual (defArgs st) (defBody st) (defScope st) [] [] f fd) : Fun K x qual st f fd := by
  obtain ⟨oc, od, dV, kV, doc, pm, an, cdv, ct, osl, e, lk, hcd, hD, _⟩ := F.ex
  rcases hD with ⟨_, rfl⟩ | ⟨e', _⟩
  · exact ⟨⟨oc, od, kV, doc, pm, an, cdv, ct, osl, e, lk, hcd⟩, F.kp⟩
  · exact absurd rfl e'
theorem walkGX {l : PySem.W.OpenLaw} {n k : Nat} {q : Program} {loose : List Str} {XP : (Str → Option Value) → Heap → Prop} {YP : World → Heap → Prop} {d : DefRec} {CX : World → CXT} {x : Str}
    (hn : l.most = some n) (hn2 : n ≤ sizeLine) (hdf : d.params.defaults = []) (hr : Room k callerA)
    (F : ∀ (w : World) (mg : Str → Option Value) (fa : Addr) (h : Heap), YP w h → h.Ns mainGlobals mg → mg d.name = some (.ref fa) → ∃ K : PySem.W.Frag, K.In h ∧ LawAtG l w K (CX w) k n x mg fa h)
    (hCX : ∀ (w : World) (H : Hp) (s : Shared) (e : Value) (s' : Shared), CX w [] H s (fun _ _ _ => False) e s' → False) : PySem.W.WalkO q loose XP YP l.row.toRowW d [] (fun f vs => PySem.call f vs) :=
  Att.attach_call hn hdf fun w s₀ s₁ mg mb fa o pm cd doc a vs ns G Y ho hd hcd hmg hobj hints hlen hg => by
    obtain ⟨K, KX, fd, cs, sp, T, hb, hsp, hF⟩ := F w mg fa _ Y G.T.g hmg
    exact lawGT KX G.T.g G.T.b G.T.builtins G.T.nolimit hg (fun p m => (T p m).1) (fun p m => (T p m).2.1) (fun p m => (T p m).2.2) G.T.bmain hobj hints (Nat.le_trans hlen hn2) hr hF hb (fun H h1 h2 => hsp H a ns hlen h1 h2) fun H e s' => hCX w H s₁ e s'
theorem all_mkX {l : PySem.W.OpenLaw} {w : World} {K : PySem.W.Frag} {h : Heap} {mg : Str → Option Value} {fa : Addr} (X : K.In h) (G : h.Ns mainGlobals mg) (hfa : mg "law" = some (.ref fa)) (c : He.SaysX fasX fnsX tbsX [] exBX w h K)
    : LawAtG l w K CX0 7 63 "_law_script" mg fa h := by
  have cd := c.t.d
  obtain ⟨fd0, G0⟩ := cd.def_ 0 (d := ddX0) rfl
  have F0 : Fun K "is_integer" "is_integer" (top 11) (He.ga K "is_integer") fd0 := funOfX G0
  have g0 := He.glo_ok X G (cd.fact 0 (f := .glo "is_integer") rfl)
  have d0 : Df K mg "is_integer" (top 11) ["given"] (He.ga K "is_integer") fd0 := ⟨F0, g0, F0.binds fun _ _ _ _ _ _ us hl => match us, hl with | [_], _ => rfl⟩
  obtain ⟨fd1, G1⟩ := cd.def_ 1 (d := ddX1) rfl
  have F1 : Fun K "is_fraction" "is_fraction" (top 12) (He.ga K "is_fraction") fd1 := funOfX G1
  have g1 := He.glo_ok X G (cd.fact 1 (f := .glo "is_fraction") rfl)
  have d1 : Df K mg "is_fraction" (top 12) ["given"] (He.ga K "is_fraction") fd1 := ⟨F1, g1, F1.binds fun _ _ _ _ _ _ us hl => match us, hl with | [_], _ => rfl⟩
  obtain ⟨fd2, G2⟩ := cd.def_ 2 (d := ddX2) rfl
  have F2 : Fun K "is_step" "is_step" (top 13) (He.ga K "is_step") fd2 := funOfX G2
  have g2 := He.glo_ok X G (cd.fact 2 (f := .glo "is_step") rfl)
  have d2 : Df K mg "is_step" (top 13) ["given"] (He.ga K "is_step") fd2 := ⟨F2, g2, F2.binds fun _ _ _ _ _ _ us hl => match us, hl with | [_], _ => rfl⟩
  obtain ⟨fd3, G3⟩ := cd.def_ 3 (d := ddX3) rfl
  have F3 : Fun K "is_less" "is_less" (top 15) (He.ga K "is_less") fd3 := funOfX G3
  have g3 := He.glo_ok X G (cd.fact 3 (f := .glo "is_less") rfl)
  have d3 : Df K mg "is_less" (top 15) ["one", "other"] (He.ga K "is_less") fd3 := ⟨F3, g3, F3.binds fun _ _ _ _ _ _ us hl => match us, hl with | [_, _], _ => rfl⟩
  obtain ⟨fd4, G4⟩ := cd.def_ 4 (d := ddX4) rfl
  have F4 : Fun K "accepts" "accepts" (top 79) (He.ga K "accepts") fd4 := funOfX G4
  have g4 := He.glo_ok X G (cd.fact 4 (f := .glo "accepts") rfl)
  have d4 : Df K mg "accepts" (top 79) ["claim", "paper"] (He.ga K "accepts") fd4 := ⟨F4, g4, F4.binds fun _ _ _ _ _ _ us hl => match us, hl with | [_, _], _ => rfl⟩
  obtain ⟨fd5, G5⟩ := cd.def_ 5 (d := ddX5) rfl
  have F5 : Fun K "_has_steps" "_has_steps" (top 82) (He.ga K "_has_steps") fd5 := funOfX G5
  have g5 := He.glo_ok X G (cd.fact 5 (f := .glo "_has_steps") rfl)
  have d5 : Df K mg "_has_steps" (top 82) ["told"] (He.ga K "_has_steps") fd5 := ⟨F5, g5, F5.binds fun _ _ _ _ _ _ us hl => match us, hl with | [_], _ => rfl⟩
  obtain ⟨fd6, G6⟩ := cd.def_ 6 (d := ddX6) rfl
  have F6 : Fun K "_is_empty" "_is_empty" (top 84) (He.ga K "_is_empty") fd6 := funOfX G6
  have g6 := He.glo_ok X G (cd.fact 6 (f := .glo "_is_empty") rfl)
  have d6 : Df K mg "_is_empty" (top 84) ["paper"] (He.ga K "_is_empty") fd6 := ⟨F6, g6, F6.binds fun _ _ _ _ _ _ us hl => match us, hl with | [_], _ => rfl⟩
  obtain ⟨fd7, G7⟩ := cd.def_ 7 (d := ddX7) rfl
  have F7 : Fun K "_is_pair" "_is_pair" (top 85) (He.ga K "_is_pair") fd7 := funOfX G7
  have g7 := He.glo_ok X G (cd.fact 7 (f := .glo "_is_pair") rfl)
  have d7 : Df K mg "_is_pair" (top 85) ["paper"] (He.ga K "_is_pair") fd7 := ⟨F7, g7, F7.binds fun _ _ _ _ _ _ us hl => match us, hl with | [_], _ => rfl⟩
  obtain ⟨fd8, G8⟩ := cd.def_ 8 (d := ddX8) rfl
  have F8 : Fun K "_are_alike" "_are_alike" (top 92) (He.ga K "_are_alike") fd8 := funOfX G8
  have g8 := He.glo_ok X G (cd.fact 8 (f := .glo "_are_alike") rfl)
  have d8 : Df K mg "_are_alike" (top 92) ["told", "paper"] (He.ga K "_are_alike") fd8 := ⟨F8, g8, F8.binds fun _ _ _ _ _ _ us hl => match us, hl with | [_, _], _ => rfl⟩
  obtain ⟨fd9, G9⟩ := cd.def_ 9 (d := ddX9) rfl
  have F9 : Fun K "_law_reel" "_law_reel" (top 96) (He.ga K "_law_reel") fd9 := funOfX G9
  have g9 := He.glo_ok X G (cd.fact 9 (f := .glo "_law_reel") rfl)
  have d9 : Df K mg "_law_reel" (top 96) ["_law_script", "_law_at"] (He.ga K "_law_reel") fd9 := ⟨F9, g9, F9.binds fun _ _ _ _ _ _ us hl => match us, hl with | [_, _], _ => rfl⟩
  obtain ⟨fd10, G10⟩ := cd.def_ 10 (d := ddX10) rfl
  have F10 : Fun K "_law_spin" "_law_spin" (top 97) (He.ga K "_law_spin") fd10 := funOfX G10
  have g10 := He.glo_ok X G (cd.fact 10 (f := .glo "_law_spin") rfl)
  have d10 : Df K mg "_law_spin" (top 97) ["_law_reel_here", "_law_many"] (He.ga K "_law_spin") fd10 := ⟨F10, g10, F10.binds fun _ _ _ _ _ _ us hl => match us, hl with | [_, _], _ => rfl⟩
  obtain ⟨fd11, G11⟩ := cd.def_ 11 (d := ddX11) rfl
  have F11 : Fun K "_law_one" "_law_one" (top 98) (He.ga K "_law_one") fd11 := funOfX G11
  have g11 := He.glo_ok X G (cd.fact 11 (f := .glo "_law_one") rfl)
  have d11 : Df K mg "_law_one" (top 98) ["_law_reel_here", "_law_menu"] (He.ga K "_law_one") fd11 := ⟨F11, g11, F11.binds fun _ _ _ _ _ _ us hl => match us, hl with | [_, _], _ => rfl⟩
  obtain ⟨fd12, G12⟩ := cd.def_ 12 (d := ddX12) rfl
  have F12 : Fun K "_law_short" "_law_short" (top 99) (He.ga K "_law_short") fd12 := funOfX G12
  have g12 := He.glo_ok X G (cd.fact 12 (f := .glo "_law_short") rfl)
  have d12 : Df K mg "_law_short" (top 99) ["_law_top", "_law_bottom"] (He.ga K "_law_short") fd12 := ⟨F12, g12, F12.binds fun _ _ _ _ _ _ us hl => match us, hl with | [_, _], _ => rfl⟩
  obtain ⟨fd13, G13⟩ := cd.def_ 13 (d := ddX13) rfl
  have F13 : Fun K "_law_step" "_law_step" (top 100) (He.ga K "_law_step") fd13 := funOfX G13
  have g13 := He.glo_ok X G (cd.fact 13 (f := .glo "_law_step") rfl)
  have d13 : Df K mg "_law_step" (top 100) ["_law_reel_here"] (He.ga K "_law_step") fd13 := ⟨F13, g13, F13.binds fun _ _ _ _ _ _ us hl => match us, hl with | [_], _ => rfl⟩
  obtain ⟨fd14, G14⟩ := cd.def_ 14 (d := ddX14) rfl
  have F14 : Fun K "_law_odd" "_law_odd" (top 101) (He.ga K "_law_odd") fd14 := funOfX G14
  have g14 := He.glo_ok X G (cd.fact 14 (f := .glo "_law_odd") rfl)
  have d14 : Df K mg "_law_odd" (top 101) ["_law_reel_here"] (He.ga K "_law_odd") fd14 := ⟨F14, g14, F14.binds fun _ _ _ _ _ _ us hl => match us, hl with | [_], _ => rfl⟩
  obtain ⟨fd15, G15⟩ := cd.def_ 15 (d := ddX15) rfl
  have F15 : Fun K "_law_is_int" "_law_is_int" (top 102) (He.ga K "_law_is_int") fd15 := funOfX G15
  have g15 := He.glo_ok X G (cd.fact 15 (f := .glo "_law_is_int") rfl)
  have d15 : Df K mg "_law_is_int" (top 102) ["_law_value", "_law_least", "_law_greatest"] (He.ga K "_law_is_int") fd15 := ⟨F15, g15, F15.binds fun _ _ _ _ _ _ us hl => match us, hl with | [_, _, _], _ => rfl⟩
  obtain ⟨fd16, G16⟩ := cd.def_ 16 (d := ddX16) rfl
  have F16 : Fun K "_law_close" "_law_close" (top 103) (He.ga K "_law_close") fd16 := funOfX G16
  have g16 := He.glo_ok X G (cd.fact 16 (f := .glo "_law_close") rfl)
  have d16 : Df K mg "_law_close" (top 103) ["_law_reel_here"] (He.ga K "_law_close") fd16 := ⟨F16, g16, F16.binds fun _ _ _ _ _ _ us hl => match us, hl with | [_], _ => rfl⟩
  obtain ⟨fd17, G17⟩ := cd.def_ 17 (d := ddX17) rfl
  have F17 : Fun K "_law_amid" "_law_amid" (top 104) (He.ga K "_law_amid") fd17 := funOfX G17
  have g17 := He.glo_ok X G (cd.fact 17 (f := .glo "_law_amid") rfl)
  have d17 : Df K mg "_law_amid" (top 104) ["_law_reel_here", "_law_first", "_law_last"] (He.ga K "_law_amid") fd17 := ⟨F17, g17, F17.binds fun _ _ _ _ _ _ us hl => match us, hl with | [_, _, _], _ => rfl⟩
  obtain ⟨fd18, G18⟩ := cd.def_ 18 (d := ddX18) rfl
  have F18 : Fun K "_law_order" "_law_order" (top 105) (He.ga K "_law_order") fd18 := funOfX G18
  have g18 := He.glo_ok X G (cd.fact 18 (f := .glo "_law_order") rfl)
  have d18 : Df K mg "_law_order" (top 105) ["_law_value", "_law_many"] (He.ga K "_law_order") fd18 := ⟨F18, g18, F18.binds fun _ _ _ _ _ _ us hl => match us, hl with | [_, _], _ => rfl⟩
  obtain ⟨fd19, G19⟩ := cd.def_ 19 (d := ddX19) rfl
  have F19 : Fun K "_law_is_pair" "_law_is_pair" (top 106) (He.ga K "_law_is_pair") fd19 := funOfX G19
  have g19 := He.glo_ok X G (cd.fact 19 (f := .glo "_law_is_pair") rfl)
  have d19 : Df K mg "_law_is_pair" (top 106) ["_law_thing"] (He.ga K "_law_is_pair") fd19 := ⟨F19, g19, F19.binds fun _ _ _ _ _ _ us hl => match us, hl with | [_], _ => rfl⟩
  obtain ⟨fd20, G20⟩ := cd.def_ 20 (d := ddX20) rfl
  have F20 : Fun K "_law_shows" "_law_shows" (top 107) (He.ga K "_law_shows") fd20 := funOfX G20
  have g20 := He.glo_ok X G (cd.fact 20 (f := .glo "_law_shows") rfl)
  have d20 : Df K mg "_law_shows" (top 107) ["_law_first", "_law_last", "_law_many", "_law_thing"] (He.ga K "_law_shows") fd20 := ⟨F20, g20, F20.binds fun _ _ _ _ _ _ us hl => match us, hl with | [_, _, _, _], _ => rfl⟩
  obtain ⟨fd21, G21⟩ := cd.def_ 21 (d := ddX21) rfl
  have F21 : Fun K "_law_papers" "_law_papers" (top 108) (He.ga K "_law_papers") fd21 := funOfX G21
  have g21 := He.glo_ok X G (cd.fact 21 (f := .glo "_law_papers") rfl)
  have d21 : Df K mg "_law_papers" (top 108) ["_law_reel_here", "_law_ends"] (He.ga K "_law_papers") fd21 := ⟨F21, g21, F21.binds fun _ _ _ _ _ _ us hl => match us, hl with | [_, _], _ => rfl⟩
  obtain ⟨fd22, G22⟩ := cd.def_ 22 (d := ddX22) rfl
  have F22 : Fun K "_law_right" "_law_right" (top 109) (He.ga K "_law_right") fd22 := funOfX G22
  have g22 := He.glo_ok X G (cd.fact 22 (f := .glo "_law_right") rfl)
  have d22 : Df K mg "_law_right" (top 109) ["_law_reel_here"] (He.ga K "_law_right") fd22 := ⟨F22, g22, F22.binds fun _ _ _ _ _ _ us hl => match us, hl with | [_], _ => rfl⟩
  obtain ⟨fd23, G23⟩ := cd.def_ 23 (d := ddX23) rfl
  have F23 : Fun K "law" "law" (top 110) (He.ga K "law") fd23 := funOfX G23
  have g23 := He.glo_ok X G (cd.fact 23 (f := .glo "law") rfl)
  have n0 := He.free_ok X G (cd.fact 26 (f := .free "len") rfl)
  have n1 := He.free_ok X G (cd.fact 27 (f := .free "int") rfl)
  have n2 := He.free_ok X G (cd.fact 28 (f := .free "abs") rfl)
  have n3 := He.free_ok X G (cd.fact 29 (f := .free "divmod") rfl)
  have n4 := He.free_ok X G (cd.fact 30 (f := .free "isinstance") rfl)
  have n5 := He.free_ok X G (cd.fact 31 (f := .free "bool") rfl)
  have n6 := He.free_ok X G (cd.fact 32 (f := .free "tuple") rfl)
  have n7 := He.free_ok X G (cd.fact 33 (f := .free "str") rfl)
  have n8 := He.free_ok X G (cd.fact 34 (f := .free "sorted") rfl)
  have n9 := He.free_ok X G (cd.fact 35 (f := .free "range") rfl)
  have n10 := He.free_ok X G (cd.fact 36 (f := .free "list") rfl)
  have n11 := He.free_ok X G (cd.fact 37 (f := .free "repr") rfl)
  have n12 := He.free_ok X G (cd.fact 38 (f := .free "min") rfl)
  have n13 := He.free_ok X G (cd.fact 39 (f := .free "max") rfl)
  have n14 := He.free_ok X G (cd.fact 40 (f := .free "all") rfl)
  obtain ⟨es0, en0, D0⟩ := c.t.tab 0 (t := ((fun K => He.ga K "FORMS_checker"), _)) rfl
  have u0 := He.glo_ok X G (cd.fact 24 (f := .glo "FORMS_checker") rfl)
  obtain ⟨es1, en1, D1⟩ := c.t.tab 1 (t := ((fun K => He.ga K "_PROOFS"), _)) rfl
  have u1 := He.glo_ok X G (cd.fact 25 (f := .glo "_PROOFS") rfl)
  have ex := c.more
  unfold exBX at ex
  obtain ⟨ex1, w1⟩ := He.ba ex
  obtain ⟨ex0, w0⟩ := He.ba ex1
  have v_gcd := PySem.W.mg_of X G (He.eqO_ok ex0)
  obtain ⟨q0_0, qa0_0, qb0_0⟩ := He.valsB_ok w0 (q := (("alike" : PySem.Str), He.Dv.glo "_has_steps")) (by simp)
  have e0_0 : PySem.W.nsIn K (He.ga K "FORMS_checker") "alike" = some (some (.ref (He.ga K "_has_steps"))) := by
    rw [qa0_0]
    exact congrArg (fun z => some (some z)) (show q0_0 = .ref (He.ga K "_has_steps") from qb0_0)
  obtain ⟨q1_0, qa1_0, qb1_0⟩ := He.valsB_ok w1 (q := (("alike" : PySem.Str), He.Dv.glo "_are_alike")) (by simp)
  have e1_0 : PySem.W.nsIn K (He.ga K "_PROOFS") "alike" = some (some (.ref (He.ga K "_are_alike"))) := by
    rw [qa1_0]
    exact congrArg (fun z => some (some z)) (show q1_0 = .ref (He.ga K "_are_alike") from qb1_0)
  obtain rfl : fa = He.ga K "law" := by
    have z := hfa.symm.trans g23
    cases z
    rfl
  refine ⟨fd23, [], spLaw K, fun p hp => absurd hp (by simp), fun s v => FunD.bindsA (ps := ["_law_script"]) G23 (fun _ _ _ _ _ _ us hl => match us, hl with | [_], _ => rfl) s [v] rfl, fun H a ns hl _ hS => ⟨a, ns, rfl, hS, hl, fun _ => rfl⟩, fun base _ _ _ => ?_⟩
  have bl : Bl mg := ⟨n0, n1, n2, n3⟩
  have bc : Bc mg := ⟨n4, n1, n5, n6, n0, v_gcd⟩
  let qs : Qs K mg := { c := bc, str := n7, all := n14, fi := ⟨_, _⟩, di := d0, fr := ⟨_, _⟩, dr := d1, fs := ⟨_, _⟩, ds := d2, fl := ⟨_, _⟩, dl := d3, fe := ⟨_, _⟩, de := d6, fp := ⟨_, _⟩, dp := d7 }
  let ac : Ac l.prog w K mg := { q := qs, dF := He.ga K "FORMS_checker", dP := He.ga K "_PROOFS", gF := u0, gP := u1, es := es0, n := en0, D := D0, es2 := es1, n2 := en1, D2 := D1, fh := ⟨_, _⟩, dh := d5, fp := ⟨_, _⟩, dp := d8, eF := e0_0, eP := e1_0 }
  let lq : Lc l.prog w K mg := { bl := bl, bs := ⟨bl, n6, n8, n9⟩, ac := ac, li := n10, rp := n11, range := n9, mx := n13, all := n14, fa := ⟨_, _⟩, da := d4, fn := ⟨_, _⟩, dn := d10, fo := ⟨_, _⟩, d1 := d11, fg := ⟨_, _⟩, dg := d12, fs := ⟨_, _⟩, ds := d13, fd := ⟨_, _⟩, dd := d14, fi := ⟨_, _⟩, di := d15, fc := ⟨_, _⟩, dc := d16, fm := ⟨_, _⟩, dm := d17, fr := ⟨_, _⟩, do_ := d18, fq := ⟨_, _⟩, dq := d19, fh := ⟨_, _⟩, dh := d20, fp := ⟨_, _⟩, dp := d21, ak := kwOf2s F4 fun _ _ _ _ _ _ _ _ => rfl }
  let lw : Lw l.prog w K mg := { q := lq, all := n14, mn := n12, gt := ⟨_, _⟩, lt := d9, gr := ⟨_, _⟩, dg := d22 }
  exact ok_law F23 lw
end My
open PySem PySem.W PyProof.Rows
set_option maxRecDepth 100000 in
set_option maxHeartbeats 0 in
theorem PySem.Challenge.cw_rimorders_k78_whole_alike_claims_judged_holds : PySem.Challenge.rw_rimorders_k78_whole_alike_claims_judged.Holds := by
  w_on; o_law
  refine HandSHeadRun.head_imp (r := OpenLaw.row PySem.Challenge.rw_rimorders_k78_whole_alike_claims_judged) (q := My.qvX) (H := My.hkX) (ob := My.obX) (M := 6000) (loose := My.namesX) (d := HandSHeadRun.topDef (OpenLaw.row PySem.Challenge.rw_rimorders_k78_whole_alike_claims_judged).prog 110) (kwd := []) My.obX_eq My.runX
    (by kernel_rfl) (by kernel_rfl) (by kernel_rfl) (by rfl) (by first | assumption | decide +kernel) (by decide +kernel) ⟨rfl, rfl, rfl, rfl, rfl, by decide +kernel⟩ ?hw ?hc
  case hw => w_witness2
  case hc =>
    refine My.walkGX (l := PySem.Challenge.rw_rimorders_k78_whole_alike_claims_judged) (n := 63) (k := 7) (x := "_law_script") (CX := fun _ => L2.CX0) rfl (by decide) (by kernel_rfl) ⟨rfl, by decide, by decide⟩ ?F (fun _ _ _ _ _ z => z)
    intro w mg fa h Y G hmg0
    obtain ⟨K, KX, c⟩ := Y
    have hmg : mg ("law" : PySem.Str) = some (.ref fa) := by
      have e : (HandSHeadRun.topDef (OpenLaw.row PySem.Challenge.rw_rimorders_k78_whole_alike_claims_judged).prog 110).name = ("law" : PySem.Str) := by kernel_rfl
      rw [← e]
      exact hmg0
    exact ⟨K, KX, My.all_mkX KX G hmg c⟩
