import PyProof.Rows.All
import Wide.All
import OpenK.AllK
import Wide.FinOn
import PySem.Challenge.RW_commonweb_k05_whole_places_named_anew
import HandS.ForMost
import HandS.Conv
import KE.KItemsList
import KE.KDictZip
import HandS.Deep
import HandS.Evl
import HandS.IsInst
import HandS.Zip
import HandS.Walk
import KE.KEqSeq
import KE.KEqDeep
import HandS.SortRule
import HandS.DictTup
import KE.KDictSum
import PyProof.Draws
import HandS.SetFor
import PyProof.P3Eq
import HandS.NoneIn
import HandS.DictComp
import HandS.SortInts
import HandS.Strs
import KE.KSetDisp
import HandS.TupAny
import HandS.Style
import HandS.AnyAll
import HandS.GenOver
import PyProof.ConsumeWalk
import HandS.EndTab
import HandS.More
import HandS.TupSets
import HandS.SortOrd
import HandS.Rev
import HandS.RevTup
import HandS.Replace
import KE.DataFind
import PyProof.WalkInts
import PyProof.PureStr
import KE.SortData
set_option Elab.async false
set_option linter.all false
set_option maxRecDepth 100000
set_option maxHeartbeats 4000000
/-! list(enumerate(xs)) -/
namespace Cw
open PySem PySem.Spec PySem.Calls PyProof.Rows L2

theorem en_nolen : typeLookup (.type "enumerate") "__len__" = pure none := am_miss_of_fast (by decide +kernel)
theorem en_nohint : typeLookup (.type "enumerate") "__length_hint__" = pure none := am_miss_of_fast (by decide +kernel)

/-- how the iterator stands ahead of turn i -/
def EnSt (h : Heap) (e it l S : Addr) (items : Array Value) (i : Nat) : Prop :=
  h.IsListIter it l i ∧ h.IsList l items ∧ ((∃ old, IsEnum h e it i old) ∨ ∃ old T f oT, IsEnumHeld h e it i old T f ∧ h.get? T = some oT ∧ T ≠ e ∧ T ≠ it ∧ T ≠ S)

theorem EnSt.keep {h h' : Heap} {e it l S : Addr} {items : Array Value} {i : Nat} (x : EnSt h e it l S items i) (hk : ∀ b o, b ≠ S → h.get? b = some o → h'.get? b = some o) (h1 : e ≠ S) (h2 : it ≠ S) (h3 : l ≠ S) : EnSt h' e it l S items i := by
  obtain ⟨a, b, c⟩ := x
  refine ⟨a.at fun o q => hk it o h2 q, b.at fun o q => hk l o h3 q, ?_⟩
  rcases c with ⟨old, c⟩ | ⟨old, T, f, oT, c, hT, r1, r2, r3⟩
  · exact .inl ⟨old, hk _ _ h1 c⟩
  · exact .inr ⟨old, T, f, oT, hk _ _ h1 c, hk _ _ r3 hT, r1, r2, r3⟩

section
variable {prog : Program} {w : World} {A : Around} {E : Value → Shared → Prop} {s : Shared} {e it l S : Addr} {items : Array Value}

theorem en_item {i : Nat} {x : Value} {Q : Option Value → Shared → Prop} (st : EnSt s.heap e it l S items i) (hei : e ≠ it) (hle : l ≠ e) (hli : l ≠ it) (hS : S < s.heap.objs.size) (hx : items[i]? = some x)
    (hQ : ∀ h' t, EnSt h' e it l S items (i + 1) → h'.get? s.heap.objs.size = some { cls := .type "tuple", data := .seq #[.int i t, x] } → h'.objs.size = s.heap.objs.size + 1 →
      (∀ b o, b ≠ e → b ≠ it → s.heap.get? b = some o → h'.get? b = some o) → ∀ tk, Q (some (.ref s.heap.objs.size)) { s with heap := h', toks := tk }) : wpAny (model prog w) A (pyNext (.ref e)) Q E s := by
  obtain ⟨a, b, c⟩ := st
  have ec : ((i + 1 : Nat) : Int) = (i : Int) + 1 := by omega
  have nit : s.heap.objs.size ≠ it := let ⟨_, q, _⟩ := a; Nat.ne_of_gt (Heap.lt_size q)
  rcases c with ⟨old, c⟩ | ⟨old, T, f, oT, c, hT, r1, r2, r3⟩
  · refine wpAny_pyNext_enum_item c a b hx hei fun h' ho hit' hT hsz hk => hQ h' _ ⟨hit', b.at fun o q => hk l o hle hli q, .inr ⟨_, s.heap.objs.size, false, _, (by rw [ec]; exact ho), hT, Nat.ne_of_gt (Heap.lt_size c), nit, Nat.ne_of_gt hS⟩⟩ hT hsz hk _
  · refine wpAny_pyNext_enum_item_held c hT r1 r2 a b hx hei fun h' ho hit' hT' hsz hk => hQ h' _ ⟨hit', b.at fun o q => hk l o hle hli q, .inr ⟨old, T, true, oT, (by rw [ec]; exact ho), hk _ _ r1 r2 hT, r1, r2, r3⟩⟩ hT' hsz hk _

theorem en_done {i : Nat} {Q : Option Value → Shared → Prop} (hh : A.handled = none) (st : EnSt s.heap e it l S items i) (hx : items[i]? = none)
    (hQ : ∀ h', Heap.ExtBut it s.heap h' → Q none { s with heap := h' }) : wpAny (model prog w) A (pyNext (.ref e)) Q E s := by
  obtain ⟨a, b, c⟩ := st
  rcases c with ⟨old, c⟩ | ⟨old, T, f, oT, c, hT, r1, r2, r3⟩
  · exact wpAny_pyNext_enum_end hh c a b hx hQ
  · exact wpAny_pyNext_enum_end_held hh c a b hx hQ

/-- the tuples made so far -/
structure EnG (items : Array Value) (lo : Addr) (h : Heap) (as : List Addr) : Prop where
  rise : as.Pairwise (· < ·)
  above : ∀ a ∈ as, lo < a
  pairs : ∀ (j : Nat) (a : Addr), as[j]? = some a → ∃ t x, items[j]? = some x ∧ h.get? a = some { cls := .type "tuple", data := .seq #[.int j t, x] }
theorem EnG.there {lo : Addr} {h : Heap} {as : List Addr} (g : EnG items lo h as) {a : Addr} (ha : a ∈ as) : a < h.objs.size := by
  obtain ⟨j, hj⟩ := List.mem_iff_getElem?.mp ha
  obtain ⟨_, _, _, z⟩ := g.pairs j a hj
  exact Heap.lt_size z

theorem en_loop {R : Result → Shared → Prop} (hh : A.handled = none) (hei : e ≠ it) (hle : l ≠ e) (hli : l ≠ it) (heS : e < S) (hiS : it < S) (hlS : l < S) (hn : items.size ≤ sizeLine) (res : Value) {h₁ : Heap}
    (hR : ∀ h' tk acc c as, (∀ b o, b ≠ S → b ≠ e → b ≠ it → h₁.get? b = some o → h'.get? b = some o) → h'.get? S = some { cls := .type "list", dict := none, data := .seq acc c, slots := #[] } → as.length = items.size → EnG items S h' as →
      acc.toList = as.map Value.ref → R (.ok (.ret res)) { s with heap := h', toks := tk }) :
    ∀ (k i : Nat) (h : Heap) (tk c : Nat) (acc : Array Value) (as : List Addr), items.size - i = k → i ≤ items.size → EnSt h e it l S items i → (∀ b o, b ≠ S → b ≠ e → b ≠ it → h₁.get? b = some o → h.get? b = some o) →
      h.get? S = some { cls := .type "list", dict := none, data := .seq acc c, slots := #[] } → acc.toList = as.map Value.ref → as.length = i → EnG items S h as →
      codeAny (model prog w) A (.builtin "list.extend.loop" ⟨[.ref S, .ref e, res], []⟩) R { s with heap := h, toks := tk } := by
  have neS : e ≠ S := Nat.ne_of_lt heS
  have niS : it ≠ S := Nat.ne_of_lt hiS
  have nlS : l ≠ S := Nat.ne_of_lt hlS
  intro k
  induction k with
  | zero =>
    intro i h tk c acc as hk hi hst hkeep hS hacc hal hG
    refine codeAny_builtin (prog := prog) (w := w) PySem.F.entry_extend_loop ?_
    rw [Around.under_plainId (A := A) PySem.F.plain_extend_loop _]
    show wpAny _ A.in1 (pyNext (.ref e) >>= _) _ _ _
    refine wpAny_bind (en_done (s := { s with heap := h, toks := tk }) (A := A.in1) hh hst (Array.getElem?_eq_none (by omega)) fun h' he => ?_)
    refine wpAny_pure (hR h' tk acc c as (fun b o h1 h2 h3 q => he b o h3 (hkeep b o h1 h2 h3 q)) (he S _ niS.symm hS) (by omega) ⟨hG.rise, hG.above, fun j a hj => ?_⟩ hacc)
    obtain ⟨t, x, z1, z2⟩ := hG.pairs j a hj
    exact ⟨t, x, z1, he a _ (Nat.ne_of_gt (Nat.lt_trans hiS (hG.above a (List.mem_of_getElem? hj)))) z2⟩
  | succ k ih =>
    intro i h tk c acc as hk hi hst hkeep hS hacc hal hG
    have hlt : i < items.size := by omega
    have hx : items[i]? = some items[i] := Array.getElem?_eq_getElem hlt
    have hsz : acc.size = i := by rw [← Array.length_toList, hacc, List.length_map, hal]
    refine codeAny_builtin (prog := prog) (w := w) PySem.F.entry_extend_loop ?_
    rw [Around.under_plainId (A := A) PySem.F.plain_extend_loop _]
    show wpAny _ A.in1 (pyNext (.ref e) >>= _) _ _ _
    refine wpAny_bind (en_item (s := { s with heap := h, toks := tk }) (S := S) hst hei hle hli (Heap.lt_size hS) hx fun h' t hst' ht hz hkp tk' => ?_)
    dsimp only at ht hz hkp ⊢
    have hS' := hkp S _ neS.symm niS.symm hS
    have up : ∀ b o, b ≠ S → h'.get? b = some o → (h'.update S (Obj.mapSeq (·.push (Value.ref h.objs.size)))).get? b = some o := fun b o hb q => (Heap.get?_update_other _ _ (Ne.symm hb)).trans q
    have hSl : S < h.objs.size := Heap.lt_size hS
    show wpAny _ A.in1 (updateSeq S (·.push (Value.ref h.objs.size)) >>= _) _ _ _
    refine wpAny_bind (wpAny_updateSeq hS' rfl (wpAny_pure ⟨plainId_quiet PySem.F.plain_extend_loop _, ih (i + 1) _ tk' _ (acc.push (Value.ref h.objs.size)) (as ++ [h.objs.size]) (by omega) hlt (hst'.keep up neS niS nlS)
      (fun b o h1 h2 h3 q => up b o h1 (hkp b o h2 h3 (hkeep b o h1 h2 h3 q))) (Heap.get?_update_self _ hS' rfl) (by rw [Array.toList_push, hacc, List.map_append]; rfl) (by rw [List.length_append, hal]; rfl) ⟨?_, ?_, ?_⟩⟩) (by rw [hsz]; omega) (by show (acc.push (Value.ref h.objs.size)).size ≤ sizeLine + 1; rw [Array.size_push, hsz]; omega))
    · refine List.pairwise_append.mpr ⟨hG.rise, List.pairwise_singleton _ _, fun a ha b hb => ?_⟩
      rw [List.mem_singleton.mp hb]; exact hG.there ha
    · intro a ha
      rcases List.mem_append.mp ha with ha | ha
      · exact hG.above a ha
      · rw [List.mem_singleton.mp ha]; exact hSl
    · intro j b hj
      rcases Nat.lt_trichotomy j as.length with h1 | h1 | h1
      · rw [List.getElem?_append_left h1] at hj
        obtain ⟨t', x', z1, z2⟩ := hG.pairs j b hj
        have hb := hG.above b (List.mem_of_getElem? hj)
        exact ⟨t', x', z1, up b _ (Nat.ne_of_gt hb) (hkp b _ (Nat.ne_of_gt (Nat.lt_trans heS hb)) (Nat.ne_of_gt (Nat.lt_trans hiS hb)) z2)⟩
      · subst h1
        have hb : h.objs.size = b := by simpa using hj
        subst hb
        exact ⟨t, _, by rw [hal]; exact hx, by rw [hal]; exact up _ _ (Nat.ne_of_gt hSl) ht⟩
      · have hnone : (as ++ [h.objs.size])[j]? = none := List.getElem?_eq_none (by rw [List.length_append, List.length_singleton]; omega)
        rw [hnone] at hj; cases hj

theorem en_hint (hT : s.TypeIs (.ref e) "enumerate") {Q : Bool → Shared → Prop} (h : Q true s) : wpAny (model prog w) A (Builtin.List.listLengthHint (.ref e)) Q E s := by
  unfold Builtin.List.listLengthHint
  refine wpAny_bind (wpAny_specialOf hT en_nolen ?_)
  show wpAny _ _ (specialOf (Value.ref e) (Str.ofString "__length_hint__") >>= _) _ _ _
  refine wpAny_bind (wpAny_specialOf hT en_nohint ?_)
  exact wpAny_pure h

theorem en_extend {R : Result → Shared → Prop} (hh : A.handled = none) (he : IsEnum s.heap e it 0 .none) (hit : s.heap.IsListIter it l 0) (hl : s.heap.IsList l items) (hei : e ≠ it) (hle : l ≠ e) (hli : l ≠ it) (heS : e < S) (hiS : it < S) (hlS : l < S) (res : Value) (c₀ : Nat) (hS : s.heap.get? S = some { cls := .type "list", data := .seq #[] c₀ })
    (hR : ∀ h' tk acc c as, (∀ b o, b ≠ S → b ≠ e → b ≠ it → s.heap.get? b = some o → h'.get? b = some o) → h'.get? S = some { cls := .type "list", dict := none, data := .seq acc c, slots := #[] } → as.length = items.size → EnG items S h' as →
      acc.toList = as.map Value.ref → R (.ok (.ret res)) { s with heap := h', toks := tk }) (hn : items.size ≤ sizeLine) :
    wpAny (model prog w) A.in1 (Builtin.List.listExtendWith (.ref S) (.ref e) res)
      (fun fin s' => match fin with | .done f => R (.ok f) s' | .again c' => c'.quiet = true ∧ codeAny (model prog w) A c' R s') (fun e s' => R (.error e) s') s := by
  have hSr : S ≠ e := Nat.ne_of_gt heS
  have hTy : s.TypeIs (.ref e) "enumerate" := ⟨_, he, rfl⟩
  have key : ∀ (h : Heap) (c₁ tk : Nat), (∀ b o, b ≠ S → s.heap.get? b = some o → h.get? b = some o) → h.get? S = some { cls := .type "list", data := .seq #[] c₁ } → codeAny (model prog w) A (.builtin "list.extend.loop" ⟨[.ref S, .ref e, res], []⟩) R { s with heap := h, toks := tk } := by
    intro h c₁ tk hk hS₁
    refine en_loop (s := s) (h₁ := s.heap) hh hei hle hli heS hiS hlS hn res hR items.size 0 h tk c₁ #[] [] (Nat.sub_zero _) (Nat.zero_le _) ⟨hit.at fun o q => hk it o (Nat.ne_of_lt hiS) q, hl.at fun o q => hk l o (Nat.ne_of_lt hlS) q, .inl ⟨_, hk _ _ (Nat.ne_of_lt heS) he⟩⟩
      (fun b o h1 _ _ q => hk b o h1 q) hS₁ rfl rfl ⟨List.Pairwise.nil, (fun _ ha => nomatch ha), (fun j a hj => by simp at hj)⟩
  unfold Builtin.List.listExtendWith
  refine wpAny_bind (wpAny_typeOf (T := "enumerate") hTy ?_)
  have h1 : Builtin.List.listSameRef (.ref S) (.ref e) = false := by simp [Builtin.List.listSameRef, hSr]
  have h2 : (Value.type "enumerate" == Value.type "list") = false := by decide
  have h3 : (Value.type "enumerate" == Value.type "tuple") = false := by decide
  simp only [h1, h2, h3, Bool.or_false, Bool.false_eq_true, if_false]
  refine wpAny_bind (wpAny_pyIter_enum he ?_)
  refine wpAny_bind (wpAny_holding (en_hint hTy ?_))
  refine wpAny_ite_split (fun _ => ?_) (fun _ => wpAny_pure ⟨plainId_quiet PySem.F.plain_extend_loop _, key _ c₀ _ (fun b o _ q => q) hS⟩)
  refine wpAny_bind (wpAny_rule (wpAny_bind ?_))
  · show wpAny _ _ (updateSeq S (·.push .none) >>= fun _ => updateSeq S (·.pop)) _ _ _
    refine wpAny_bind (wpAny_updateSeq hS rfl ?_)
    have hS₂ := Heap.get?_update_self (Obj.mapSeq (·.push Value.none)) hS rfl
    refine wpAny_updateSeq (hz := by seq_fits) hS₂ rfl ?_
    have hS₃ := Heap.get?_update_self (Obj.mapSeq (·.pop)) hS₂ rfl
    refine wpAny_pure ⟨plainId_quiet PySem.F.plain_extend_loop _, key _ _ _ (fun b o hb q => ?_) hS₃⟩
    exact (Heap.get?_update_other _ _ (Ne.symm hb)).trans ((Heap.get?_update_other _ _ (Ne.symm hb)).trans q)

theorem EnG.low {lo lo' : Addr} {h : Heap} {as : List Addr} (g : EnG items lo h as) (hl : lo' ≤ lo) : EnG items lo' h as := ⟨g.rise, fun a ha => Nat.lt_of_le_of_lt hl (g.above a ha), g.pairs⟩

/-- list(e), e an enumerate that nobody has asked yet -/
theorem en_call {Q : Value → Shared → Prop} (hh : A.handled = none) (he : IsEnum s.heap e it 0 .none) (hit : s.heap.IsListIter it l 0) (hl : s.heap.IsList l items) (hei : e ≠ it) (hle : l ≠ e) (hli : l ≠ it) (hn : items.size ≤ sizeLine)
    (hQ : ∀ h' tk acc c as, (∀ b o, b ≠ e → b ≠ it → s.heap.get? b = some o → h'.get? b = some o) → h'.get? s.heap.objs.size = some { cls := .type "list", dict := none, data := .seq acc c, slots := #[] } → as.length = items.size → EnG items s.heap.objs.size h' as →
      acc.toList = as.map Value.ref → Q (.ref s.heap.objs.size) { s with heap := h', toks := tk }) : wpAny (model prog w) A (call (.type "list") [.ref e]) Q E s := by
  refine callType_codes (Q₁ := fun obj s₁ => obj = .ref s.heap.objs.size ∧ s₁ = { s with heap := s.heap.push { cls := .type "list", data := .seq #[] } }) PySem.F.called_list (PySem.F.typeCall_list_1 _) PySem.F.entry_list_init (code_list_new _ ⟨rfl, rfl⟩) fun obj s₁ h₁ => ?_
  obtain ⟨rfl, rfl⟩ := h₁
  have hS : (s.heap.push { cls := .type "list", data := .seq #[] }).get? s.heap.objs.size = some { cls := .type "list", data := .seq #[] } := Heap.get?_push_size _ rfl
  have k1 : ∀ b o, s.heap.get? b = some o → (s.heap.push { cls := .type "list", data := .seq #[] }).get? b = some o := fun b o q => Heap.get?_push_of_some _ q
  have heS : e < s.heap.objs.size := Heap.lt_size he
  have hiS : it < s.heap.objs.size := by obtain ⟨_, q, _⟩ := hit; exact Heap.lt_size q
  have hlS : l < s.heap.objs.size := by obtain ⟨_, q, _⟩ := hl; exact Heap.lt_size q
  refine ⟨⟨_, hS, rfl⟩, PySem.F.args_list_init_2 _ _, ?_⟩
  show wpAny _ _ (do let old ← Builtin.List.listItems (.ref s.heap.objs.size); Builtin.List.listUpdate (.ref s.heap.objs.size) (fun _ => #[]); letGo old.toList.reverse; Builtin.List.listExtendWith (.ref s.heap.objs.size) (.ref e) .none) _ _ _
  refine wpAny_bind ?_; unfold Builtin.List.listItems; refine wpAny_bind (wpAny_seqItems hS rfl (wpAny_pure ?_))
  show wpAny _ _ (updateSeq s.heap.objs.size (fun _ => #[]) >>= fun _ => letGo (#[] : Array Value).toList.reverse >>= fun _ => Builtin.List.listExtendWith (.ref s.heap.objs.size) (.ref e) .none) _ _ _
  refine wpAny_bind (wpAny_updateSeq hS rfl (wpAny_bind (wpAny_letGo ?_)))
  have hS₂ := Heap.get?_update_self (Obj.mapSeq (fun _ => (#[] : Array Value))) hS rfl
  have k2 : ∀ b o, b ≠ s.heap.objs.size → s.heap.get? b = some o → ((s.heap.push { cls := .type "list", data := .seq #[] }).update s.heap.objs.size (Obj.mapSeq (fun _ => (#[] : Array Value)))).get? b = some o := fun b o hb q => (Heap.get?_update_other _ _ (Ne.symm hb)).trans (k1 b o q)
  refine en_extend (A := A.in1) (s := { s with heap := (s.heap.push { cls := .type "list", data := .seq #[] }).update s.heap.objs.size (Obj.mapSeq (fun _ => (#[] : Array Value))) }) hh (k2 _ _ (Nat.ne_of_lt heS) he) (hit.at fun o q => k2 it o (Nat.ne_of_lt hiS) q) (hl.at fun o q => k2 l o (Nat.ne_of_lt hlS) q) hei hle hli heS hiS hlS .none _ hS₂ (fun h' tk acc c as hk hS' hl' hG hacc => ?_) hn
  exact ⟨rfl, hQ h' tk acc c as (fun b o h1 h2 q => hk b o (Nat.ne_of_lt (Heap.lt_size q)) h1 h2 (k2 b o (Nat.ne_of_lt (Heap.lt_size q)) q)) hS' hl' hG hacc⟩
end

/-- the tuples tracked at their addresses -/
def putE : Hp → List Addr → List V → Nat → Hp
  | H, a :: as, x :: xs, j => putE (upd H a (.tup [.int j, x])) as xs (j + 1)
  | H, _, _, _ => H
theorem putE_off {b : Addr} : ∀ (as : List Addr) (xs : List V) (j : Nat) (H : Hp), b ∉ as → putE H as xs j b = H b
  | [], _, _, _, _ => rfl
  | _ :: _, [], _, _, _ => rfl
  | a :: as, x :: xs, j, H, h => by
    show putE (upd H a (.tup [.int j, x])) as xs (j + 1) b = H b
    rw [putE_off as xs _ _ (fun z => h (List.mem_cons_of_mem _ z)), upd_ne (fun z => h (by rw [z]; exact List.mem_cons_self))]
theorem putE_at : ∀ (as : List Addr) (xs : List V) (j : Nat) (H : Hp), as.Nodup → ∀ i t x, as[i]? = some t → xs[i]? = some x → putE H as xs j t = some (.tup [.int ((j + i : Nat) : Int), x])
  | [], _, _, _, _, _, _, _, h, _ => by simp at h
  | _ :: _, [], _, _, _, _, _, _, _, h => by simp at h
  | a :: as, y :: xs, j, H, hn, 0, t, x, h1, h2 => by
    have e1 : a = t := Option.some.inj h1
    have e2 : y = x := Option.some.inj h2
    subst e1; subst e2
    show putE (upd H a (.tup [.int j, y])) as xs (j + 1) a = _
    rw [putE_off as xs _ _ (List.nodup_cons.mp hn).1, upd_same]; rfl
  | a :: as, y :: xs, j, H, hn, i + 1, t, x, h1, h2 => by
    have ih := putE_at as xs (j + 1) (upd H a (.tup [.int j, y])) (List.nodup_cons.mp hn).2 i t x h1 h2
    show putE (upd H a (.tup [.int j, y])) as xs (j + 1) t = _
    rw [ih, show j + 1 + i = j + (i + 1) by omega]
theorem refs_vals : ∀ as : List Addr, Vals (as.map V.ref) (as.map Value.ref)
  | [] => .nil
  | _ :: as => .cons rfl (refs_vals as)
def rLstEn (K : PySem.W.Frag) : List V → Hp → VK → Prop := fun vs H Q => ∃ (a : Addr) (xs : List V), vs = [.ref a] ∧ SqL K H a xs ∧
  ∀ (H' : Hp) (p : Addr) (ts : List Addr), Same H H' → H p = none → (∀ t ∈ ts, H t = none) → p ∉ ts → H' p = some (.lst (ts.map V.ref)) → ts.length = xs.length → (∀ j t x, ts[j]? = some t → xs[j]? = some x → H' t = some (.tup [.int (j : Nat), x])) → Q (.ref p) H'
def tLstEn (K : PySem.W.Frag) (ta : TA) : TE := fun σ H Q => ta σ H fun vs H1 => rLstEn K vs H1 Q
section
variable {X : Cx} {e : Expr} {ta : TA} {p1 p2 pos pos2 : Pos}
theorem enum_laid {pins : List (Addr × Obj)} {σ : L2.St} {H : Hp} {s : Shared} {h' : Heap} {tk S : Nat} {xs : List V} {its : List Value} {acc : Array Value} {c : Nat} {as : List Addr} (I : Inv X pins σ H s) (hz : xs.length ≤ sizeLine) (rv : Vals xs its)
    (hk : ∀ b o, s.heap.get? b = some o → h'.get? b = some o) (hS0 : s.heap.objs.size ≤ S) (hS : h'.get? S = some { cls := .type "list", dict := none, data := .seq acc c, slots := #[] }) (hl : as.length = its.toArray.size) (hG : EnG its.toArray S h' as) (hacc : acc.toList = as.map Value.ref) :
    ∃ H' : Hp, Same H H' ∧ H S = none ∧ (∀ t ∈ as, H t = none) ∧ S ∉ as ∧ H' S = some (.lst (as.map V.ref)) ∧ (∀ j t x, as[j]? = some t → xs[j]? = some x → H' t = some (.tup [.int (j : Nat), x])) ∧ Inv X pins σ H' { s with heap := h', toks := tk } := by
  have lk : xs.length = its.length := Vals.length rv
  have hl' : as.length = xs.length := by rw [hl, List.size_toArray, lk]
  have hSn : S ∉ as := fun z => Nat.lt_irrefl _ (hG.above _ z)
  have nd : as.Nodup := List.Pairwise.imp (fun {a b} (h : a < b) => Nat.ne_of_lt h) hG.rise
  have new : ∀ t ∈ as, H t = none := fun t ht => I.hok.fresh (Nat.le_trans hS0 (Nat.le_of_lt (hG.above t ht)))
  have newS : H S = none := I.hok.fresh hS0
  have off : ∀ b, b ∉ as → b ≠ S → putE (upd H S (.lst (as.map V.ref))) as xs 0 b = H b := fun b h1 h2 => by rw [putE_off as xs _ _ h1, upd_ne h2]
  have low : ∀ b o, s.heap.get? b = some o → b ∉ as ∧ b ≠ S := fun b o q => ⟨fun z => absurd (Heap.lt_size q) (Nat.not_lt.mpr (Nat.le_trans hS0 (Nat.le_of_lt (hG.above b z)))), Nat.ne_of_lt (Nat.lt_of_lt_of_le (Heap.lt_size q) hS0)⟩
  have kp : Same H (putE (upd H S (.lst (as.map V.ref))) as xs 0) := fun b u q => by
    rw [off b (fun z => by rw [new b z] at q; cases q) (fun z => by rw [z, newS] at q; cases q)]
    exact q
  have eS : putE (upd H S (.lst (as.map V.ref))) as xs 0 S = some (.lst (as.map V.ref)) := by rw [putE_off as xs _ _ hSn, upd_same]
  have atP : ∀ j t x, as[j]? = some t → xs[j]? = some x → putE (upd H S (.lst (as.map V.ref))) as xs 0 t = some (.tup [.int (j : Nat), x]) := fun j t x h1 h2 => by
    rw [putE_at as xs 0 _ nd j t x h1 h2, Nat.zero_add]
  refine ⟨_, kp, newS, new, hSn, eS, atP, ?_⟩
  refine I.call' (ch := []) rfl ⟨fun b o q _ _ _ => hk b o q, fun b o q _ _ _ => ⟨o.slots, hk b o q⟩, fun b o q n _ => (off b (low b o q).1 (low b o q).2).trans n, fun b o q _ => ⟨o, hk b o q⟩, fun b xs q => kp b _ q, fun b o u q => kp b _ q, fun b ps q => ⟨#[], by rw [kp b _ q]; simp⟩⟩ (fun b u q => ?_) I.bare fun b z => by simp at z
  by_cases hb : b ∈ as
  · obtain ⟨j, e1⟩ := List.mem_iff_getElem?.mp hb
    have hj : j < xs.length := by
      have := (List.getElem?_eq_some_iff.mp e1).1
      omega
    have e2 : xs[j]? = some xs[j] := List.getElem?_eq_getElem hj
    rw [atP j b _ e1 e2] at q
    cases q
    obtain ⟨t, x, f1, f2⟩ := hG.pairs j b e1
    obtain ⟨u, g1, g2⟩ := rv.get e2
    have f1' : its[j]? = some x := by simpa using f1
    rw [g1] at f1'
    cases f1'
    exact ⟨by show 2 ≤ sizeLine; decide, [.int j t, x], .cons ⟨t, rfl⟩ (.cons g2 .nil), ⟨_, f2, rfl, _, rfl⟩⟩
  · by_cases hb2 : b = S
    · rw [hb2] at q ⊢
      rw [eS] at q
      cases q
      refine ⟨by rw [List.length_map]; omega, acc.toList, c, by rw [hacc]; exact refs_vals as, ?_⟩
      rw [Array.toArray_toList]; exact hS
    · rw [off b hb hb2] at q
      exact (I.hok b u q).stay (fun d v _ y => hk d v y) (fun d y => kp d _ y) fun d xs y => kp d _ y
/-- list(enumerate(e)) -/
theorem pe_listEnum (hc : X.calm = true) (hg : Gl X "list") (hm : X.mg "list" = none) (hg2 : Gl X "enumerate") (hm2 : X.mg "enumerate" = none) (ha : PA X [e] ta)
    (hs : starEach [.Call (.Name "enumerate" p2) [e] [] pos2] X.env = [(false, eval (.Call (.Name "enumerate" p2) [e] [] pos2) X.env)] := by rfl) (hs2 : starEach [e] X.env = [(false, eval e X.env)] := by rfl) :
    PE X (.Call (.Name "list" p1) [.Call (.Name "enumerate" p2) [e] [] pos2] [] pos) (tLstEn X.K ta) := by
  refine ⟨fun pins s σ H Q I hq => ?_⟩
  refine Call_ (ld_blt I hg hm boot_list (PyProof.Rows.callWith_type1 ?_ hs rfl))
  rw [hs]
  show wpAny _ _ (spliced ((false, eval (.Call (.Name "enumerate" p2) [e] [] pos2) X.env) :: backTo pos [])) _ _ s
  refine Calls.spliced_cons (Call_ (ld_blt I hg2 hm2 boot_enumerate (PyProof.Rows.callWith_type1 (thn (ha.run pos2 pins s σ H _ I hq) fun us s1 ⟨vs, H1, I1, r1, q1⟩ => ?_) hs2 rfl)))
  obtain ⟨a, xs, ex, hq, q⟩ := q1
  subst ex
  cases r1 with
  | cons r rr =>
    cases rr; cases r
    obtain ⟨its, rv, p', hz⟩ := I1.list hq
    have hl0 : a < s1.heap.objs.size := by obtain ⟨_, z, _⟩ := p'.isList; exact Heap.lt_size z
    refine call_enumerate_list p'.isList fun h' he hit hsz hk => ?_
    have I2 : Inv X pins σ H1 { s1 with heap := h' } := I1.kept (t' := s1.toks) hk
    refine Calls.spliced_nil ?_
    refine en_call (s := { s1 with heap := h' }) (I1.ok.hd hc) he hit (p'.isList.at fun o z => hk a o z) (Nat.succ_ne_self _) (Nat.ne_of_lt (Nat.lt_succ_of_lt hl0)) (Nat.ne_of_lt hl0) (by rw [List.size_toArray, ← rv.length]; exact hz) fun h'' tk acc c as hk2 hS hl hG hacc => ?_
    have hk3 : ∀ b o, s1.heap.get? b = some o → h''.get? b = some o := fun b o z => hk2 b o (Nat.ne_of_lt (Nat.lt_succ_of_lt (Heap.lt_size z))) (Nat.ne_of_lt (Heap.lt_size z)) (hk b o z)
    obtain ⟨H', k1, k2, k3, k4, k5, k6, J⟩ := enum_laid (tk := tk) I1 hz rv hk3 (by show s1.heap.objs.size ≤ h'.objs.size; omega) hS hl hG hacc
    exact ⟨.ref _, H', J, rfl, q H' _ as k1 k2 k3 k4 k5 (by rw [hl, List.size_toArray, rv.length]) k6⟩
end
end Cw

namespace Cw
open PySem PySem.Spec PyProof.Rows L2

/-! ### a def of the text, called by its name -/
structure Df (K : PySem.W.Frag) (mg : Str → Option Value) (x : Str) (st : Stmt) (ps : List Str) where
  f : Addr
  fd : FuncData
  F : Fun K x x st f fd
  b : Binds K fd ps []
  g : mg x = some (.ref f)

theorem units1 {k : Nat} {A : Around} (r : Room k A) : A.units + 65 < cLine := by have := r.un; omega
theorem blkOk_in {N : List Str} {sc scO scope : Scope} {own : List (Str × Nat)} {cl : List (Str × Addr)} {C : Addr} {env : Env} (he : env.scope = sc) (h : blkC N (relS scO sc) scope own = true) : BlkOk N (compEnvC scO cl C env).scope scope own := by
  subst he
  exact blkOk_by h
/-! ### heaps -/
/-- all but h is as it was -/
def Keep (h : Addr) (H H' : Hp) : Prop := ∀ b o, b ≠ h → H b = some o → H' b = some o
theorem Keep.refl (h : Addr) (H : Hp) : Keep h H H := fun _ _ _ e => e
theorem Keep.trans {h : Addr} {H H1 H2 : Hp} (a : Keep h H H1) (b : Keep h H1 H2) : Keep h H H2 := fun c o n e => b c o n (a c o n e)
theorem Keep.same {h : Addr} {H H1 H2 : Hp} (a : Keep h H H1) (b : Same H1 H2) : Keep h H H2 := fun c o n e => b c o (a c o n e)
theorem Same.keep {h : Addr} {H H1 : Hp} (a : Same H H1) : Keep h H H1 := fun c o _ e => a c o e
theorem Keep.put {h : Addr} {H : Hp} {o : HO} : Keep h H (upd H h o) := fun c u n e => by rw [upd_ne n]; exact e
/-- what was new ahead of it is not told -/
theorem Keep.out {h : Addr} {H0 H H1 : Hp} (s : Same H0 H) (k : Keep h H H1) (n : H0 h = none) : Same H0 H1 := fun c o e => k c o (ne_of_none e n) (s c o e)
theorem same_new {H : Hp} {p : Addr} {o : HO} (h : H p = none) : Same H (upd H p o) := fun b x e => by rw [upd_ne (ne_of_none e h)]; exact e
theorem same_upd {H H' : Hp} {p : Addr} {o : HO} (s : Same H H') (h : H p = none) : Same H (upd H' p o) := fun b x e => by rw [upd_ne (ne_of_none e h)]; exact s b x e
theorem Same.sqt {K : PySem.W.Frag} {H H' : Hp} {a : Addr} {xs : List V} (e : Same H H') (h : SqT K H a xs) : SqT K H' a xs := by
  rcases h with (h | ⟨o, h⟩) | h
  · exact .inl (.inl (e _ _ h))
  · exact .inl (.inr ⟨o, e _ _ h⟩)
  · exact .inr h
theorem at_upd {H : Hp} {a b : Addr} {o u : HO} (h : H a = some o) (n : H b = none) : upd H b u a = some o := by rw [upd_ne (ne_of_none h n)]; exact h

theorem Keep.new {h p : Addr} {H H' : Hp} {o : HO} (k : Keep h H H') (n : H p = none) : Keep h H (upd H' p o) := fun b u nb e => by rw [upd_ne (ne_of_none e n)]; exact k b u nb e
theorem Keep.free {h p : Addr} {H H' : Hp} (k : Keep h H H') (ne : p ≠ h) (n : H' p = none) : H p = none := by
  cases q : H p with
  | none => rfl
  | some o => rw [k p o ne q] at n; cases n
theorem Keep.self {h : Addr} {H H' : Hp} {o : HO} (k : Keep h H H') : Keep h H (upd H' h o) := fun b u nb e => by rw [upd_ne nb]; exact k b u nb e
theorem Keep.seqN {K : PySem.W.Frag} {H H' : Hp} {a h : Addr} {xs : List V} (k : Keep h H H') (n : H h = none) (q : SqL K H a xs) : SqL K H' a xs := by
  rcases q with (q | ⟨o, q⟩) | q
  · exact .inl (.inl (k _ _ (ne_of_none q n) q))
  · exact .inl (.inr ⟨o, k _ _ (ne_of_none q n) q⟩)
  · exact .inr q
/-- a tuple stands behind a store at a new place, at a list -/
theorem sqt_upd {K : PySem.W.Frag} {H : Hp} {a b : Addr} {xs : List V} {o : HO} (n : H b = none ∨ ∃ ys, H b = some (.lst ys)) (q : SqT K H a xs) : SqT K (upd H b o) a xs := by
  have ne : ∀ u, H a = some u → (∀ ys, u ≠ .lst ys) → a ≠ b := fun u e hu z => by
    subst z
    rcases n with n | ⟨ys, n⟩
    · rw [n] at e; cases e
    · rw [n] at e; exact hu ys (Option.some.inj e).symm
  rcases q with (q | ⟨o', q⟩) | q
  · exact .inl (.inl (by rw [upd_ne (ne _ q (by intro ys z; cases z))]; exact q))
  · exact .inl (.inr ⟨o', by rw [upd_ne (ne _ q (by intro ys z; cases z))]; exact q⟩)
  · exact .inr q
/-- x in (a, b, ..), data at any depth -/
def rInT (K : PySem.W.Frag) (neg : Bool) : R2 := fun x y H Q => ∃ d ds, Dp K H x d ∧ Dp K H y (.tuple ds) ∧ SeqAt.shaped d = true ∧ SeqAt.shaped (.tuple ds) = true ∧ Q (.bl (if neg then !(ds.any fun z => PyData.eqv z d) else ds.any fun z => PyData.eqv z d)) H
theorem op_inT {X : Cx} (hu : X.A.units + 65 < cLine) : OpR X (compareOp .In) (rInT X.K false) := by
  intro pins s σ H x y v u Q I rx ry h
  obtain ⟨d, ds, hd, he, sd, se, q⟩ := h
  obtain ⟨as, r1⟩ := Dp.reads I d x v hd rx
  obtain ⟨bs, r2⟩ := Dp.reads I (.tuple ds) y u he ry
  exact SeqAt.in_tuple_reads r2 r1 (SeqAt.canLay_of_shaped se) (SeqAt.canLay_of_shaped sd) (room_in_shaped sd hu) ⟨.bl _, H, I, rfl, q⟩
/-! ### readings, step by step -/
section
variable {K : PySem.W.Frag} {σ : L2.St} {H : Hp} {Q : VK} {QA : List V → Hp → Prop} {QT : Bool → Hp → Prop} {D : Ends} {ta tb tc te : TE} {tr t1 : TA} {tt tu : TT} {t u : TS} {r r' : R2} {v x y : V} {i j : Int} {n : Nat} {p : Addr} {xs : List V}
theorem d_var {i : Nat} (e : σ[i]? = some (some v)) (h : Q v H) : tVar i σ H Q := ⟨v, e, h⟩
theorem d_c (h : Q v H) : tC v σ H Q := h
theorem d_op (h : ta σ H fun x H1 => tb σ H1 fun y H2 => r x y H2 Q) : tOp r ta tb σ H Q := h
theorem d_un {r : V → Hp → VK → Prop} (h : ta σ H fun x H1 => r x H1 Q) : tUn r ta σ H Q := h
theorem d_cons (h : ta σ H fun x H1 => tr σ H1 fun xs H2 => QA (x :: xs) H2) : tCons ta tr σ H QA := h
theorem d_nil (h : QA [] H) : tNil σ H QA := h
theorem d_cb {r : List V → Hp → VK → Prop} (h : tr σ H fun vs H1 => r vs H1 Q) : tCB r tr σ H Q := h
theorem d_call {sp : Sp} {dvs : List V} {E : XK} (h : tr σ H fun vs H1 => sp (vs ++ dvs) H1 Q E) : tCall sp dvs E tr σ H Q := h
theorem d_tup (h : tr σ H fun xs H1 => xs.length ≤ sizeLine ∧ ∀ p, H1 p = none → Q (.ref p) (upd H1 p (.tup xs))) : tTup tr σ H Q := h
theorem d_lst (h : tr σ H fun xs H1 => xs.length ≤ sizeLine ∧ ∀ p, H1 p = none → Q (.ref p) (upd H1 p (.lst xs))) : tLst tr σ H Q := h
theorem d_rI {C : Int → Int → Prop} {g : Int → Int → V} (hc : C i j) (h : Q (g i j) H) : rI C g (.int i) (.int j) H Q := ⟨i, j, rfl, rfl, hc, h⟩
theorem d_rI0 {g : Int → Int → V} (h : Q (g i j) H) : rI0 g (.int i) (.int j) H Q := ⟨i, j, rfl, rfl, h⟩
theorem d_rU {g : Int → V} (h : Q (g i) H) : rU g (.int i) H Q := ⟨i, rfl, h⟩
theorem d_eqI (h : Q (.bl (decide (i = j))) H) : rEq (.int i) (.int j) H Q := ⟨rfl, by
  rw [show decide (V.int i = V.int j) = decide (i = j) by rw [Bool.eq_iff_iff]; simp]; exact h⟩
theorem d_neI (h : Q (.bl (!decide (i = j))) H) : rNe (.int i) (.int j) H Q := ⟨rfl, by
  rw [show decide (V.int i = V.int j) = decide (i = j) by rw [Bool.eq_iff_iff]; simp]; exact h⟩
theorem d_ixL (h : SqL K H p xs) (e : atI xs i = some v) (q : Q v H) : rIxL K (.ref p) (.int i) H Q := ⟨p, xs, i, v, rfl, rfl, h, e, q⟩
theorem d_ixLm (h : H p = some (.lst xs)) (e : atI xs i = some v) (q : Q v H) : rIxL K (.ref p) (.int i) H Q := ⟨p, xs, i, v, rfl, rfl, SqL.of h, e, q⟩
theorem d_ixT (h : SqT K H p xs) (e : atI xs i = some v) (q : Q v H) : rIxT K (.ref p) (.int i) H Q := ⟨p, xs, i, v, rfl, rfl, h, e, q⟩
theorem d_ixTm (h : H p = some (.tup xs)) (e : atI xs i = some v) (q : Q v H) : rIxT K (.ref p) (.int i) H Q := ⟨p, xs, i, v, rfl, rfl, SqT.of h, e, q⟩
theorem d_test (h : te σ H fun x H' => ∃ k, x = .bl k ∧ QT k H') : tTest te σ H QT := h
theorem d_tB (h : te σ H fun x H' => ∃ k, x = .bl k ∧ QT k H') : tB te σ H QT := h
theorem d_bl {b : Bool} {C : Bool → Prop} (h : C b) : ∃ k, V.bl b = .bl k ∧ C k := ⟨b, rfl, h⟩
theorem d_not (h : tt σ H fun c H1 => QT (!c) H1) : tNot tt σ H QT := h
theorem d_and (h : tt σ H fun c H1 => if c = true then tu σ H1 QT else QT false H1) : tAnd tt tu σ H QT := h
theorem d_or (h : tt σ H fun c H1 => if c = true then QT true H1 else tu σ H1 QT) : tOr tt tu σ H QT := h
theorem d_if (h : tt σ H fun c H1 => if c = true then ta σ H1 Q else tb σ H1 Q) : tIf tt ta tb σ H Q := h
theorem d_andV (h : ta σ H fun x H1 => ∃ c, x = .bl c ∧ if c = true then tb σ H1 Q else Q (.bl false) H1) : tAndV ta tb σ H Q := h
theorem d_sl {r : V → Option Int → Option Int → Hp → VK → Prop} {tl th : TO} (h : te σ H fun x H1 => tl σ H1 fun l H2 => th σ H2 fun u H3 => r x l u H3 Q) : tSl r te tl th σ H Q := h
theorem d_nop {QO : Option Int → Hp → Prop} (h : QO none H) : tNoPart σ H QO := h
theorem d_part {QO : Option Int → Hp → Prop} (h : te σ H fun x H1 => ∃ i, x = .int i ∧ QO (some i) H1) : tPart te σ H QO := h
theorem d_in {C : Int → Prop} (h : C i) : ∃ k, V.int i = .int k ∧ C k := ⟨i, rfl, h⟩
theorem d_bm {T : String} {r : V → List V → Hp → VK → Prop} (h : te σ H fun x H1 => tyV K T x H1 ∧ tr σ H1 fun xs H2 => r x xs H2 Q) : tBM K T r te tr σ H Q := h
theorem d_bm0 {T : String} {r : V → List V → Hp → VK → Prop} (h : te σ H fun x H1 => tyV K T x H1 ∧ r x [] H1 Q) : tBM0 K T r te σ H Q := h
theorem d_m1 {r : V → List V → Hp → VK → Prop} (h : ta σ H fun x H1 => (∃ a, x = .str a) ∧ te σ H1 fun y H2 => r x [y] H2 Q) : tM1 r ta te σ H Q := h
theorem d_exs {A : Str} {C : Prop} (h : C) : (∃ a, V.str A = .str a) ∧ C := ⟨⟨_, rfl⟩, h⟩
theorem d_app {l : Addr} {ys : List V} (h : H l = some (.lst ys)) (q : tr σ H fun zs H2 => rAppend (.ref l) zs H2 Q) : tyV K "list" (.ref l) H ∧ tr σ H fun zs H2 => rAppend (.ref l) zs H2 Q := ⟨.inl ⟨rfl, _, SqL.of h⟩, q⟩
theorem d_append {l : Addr} {ys : List V} (h : H l = some (.lst ys)) (hl : ys.length < sizeLine) (q : Q .non (upd H l (.lst (ys ++ [y])))) : rAppend (.ref l) [y] H Q := ⟨l, ys, y, rfl, rfl, h, hl, q⟩
theorem d_setL {QU : Hp → Prop} {l : Addr} {ys : List V} {j : Nat} (h : H l = some (.lst ys)) (e : ixN ys.length i = some j) (q : QU (upd H l (.lst (ys.set j v)))) : rSetL (.ref l) (.int i) v H QU := ⟨l, ys, i, j, rfl, rfl, h, e, q⟩
theorem d_lenL {C : List V → Prop} (h : SqL K H p xs) (q : C xs) : ∃ p' ys, [V.ref p] = [.ref p'] ∧ (SqL K H p' ys ∨ SqT K H p' ys) ∧ C ys := ⟨p, xs, rfl, .inl h, q⟩
theorem d_lenT {C : List V → Prop} (h : SqT K H p xs) (q : C xs) : ∃ p' ys, [V.ref p] = [.ref p'] ∧ (SqL K H p' ys ∨ SqT K H p' ys) ∧ C ys := ⟨p, xs, rfl, .inr h, q⟩
theorem d_lenS {C : Str → Prop} {z : Str} (h : z.length ≤ sizeLine) (q : C z) : ∃ z', [V.str z] = [.str z'] ∧ z'.length ≤ sizeLine ∧ C z' := ⟨z, rfl, h, q⟩
theorem d_isN {C : Prop} (q : C) : V.non = .non ∧ C := ⟨rfl, q⟩
-- statements
theorem d_next (h : D.nx σ H) : tNext D σ H := h
theorem d_seq (h : t { D with nx := u D } σ H) : tSeq t u D σ H := h
theorem d_asg {g : TG} (h : te σ H fun x H1 => g x σ H1 D.nx) : tAsg te g D σ H := h
theorem d_drop (h : te σ H fun _ H1 => D.nx σ H1) : tDrop te D σ H := h
theorem d_ret (h : te σ H D.rt) : tRet te D σ H := h
theorem d_retN (h : D.rt .non H) : tRetN D σ H := h
theorem d_ifS (h : tt σ H fun b H1 => if b = true then t D σ H1 else u D σ H1) : tIfS tt t u D σ H := h
theorem d_brk (h : D.bk σ H) : tBreak D σ H := h
theorem d_ct (h : D.ct σ H) : tCont D σ H := h
theorem d_aug {i : Nat} {ti : TIp} (e : σ[i]? = some (some x)) (h : te σ H fun y H1 => ti x y H1 fun z H2 => D.nx (σ.set i (some z)) H2) : tAug i te ti D σ H := ⟨x, e, h⟩
theorem d_gname {i : Nat} {QS : L2.St → Hp → Prop} (h : QS (σ.set i (some v)) H) : gName i v σ H QS := h
theorem d_gnil {QS : L2.St → Hp → Prop} (h : QS σ H) : gNil [] σ H QS := ⟨rfl, h⟩
theorem d_gcons {t : TG} {u : TGs} {vs : List V} {QS : L2.St → Hp → Prop} (h : t v σ H fun σ' H' => u vs σ' H' QS) : gCons t u (v :: vs) σ H QS := ⟨v, vs, rfl, h⟩
theorem d_gtup {t : TGs} {QS : L2.St → Hp → Prop} (h : SqT K H p xs) (hl : xs.length = n) (q : t xs σ H QS) : gTup K n t (.ref p) σ H QS := ⟨p, xs, rfl, h, hl, q⟩
theorem d_gtupm {t : TGs} {QS : L2.St → Hp → Prop} (h : H p = some (.tup xs)) (hl : xs.length = n) (q : t xs σ H QS) : gTup K n t (.ref p) σ H QS := ⟨p, xs, rfl, SqT.of h, hl, q⟩
theorem d_gsub {ti : TE} {s : TSet} {QS : L2.St → Hp → Prop} (h : ta σ H fun o H1 => ti σ H1 fun i H2 => s o i v H2 fun H3 => QS σ H3) : gSub ta ti s v σ H QS := h
-- what is walked
theorem d_for {wi : TI} {g : TG} (h : wi σ H fun J H1 => ∃ W : Nat → Nat → L2.St → Hp → Prop, (∃ m, W 0 m σ H1) ∧ ∀ i m σ H, W i m σ H →
  (J.stop i H ∧ D.nx σ H) ∨ (J.go i H ∧ ∃ N : L2.St → Hp → Prop, (∀ σ' H', N σ' H' → ∃ m', m' < m ∧ W (i + 1) m' σ' H') ∧ ∀ x H', J.yld i H x H' → g x σ H' fun σ2 H2 => t { D with nx := N, ct := N, bk := D.nx } σ2 H2)) : tFor wi g t D σ H := h
theorem d_lc {wi : TI} {g : TG} {vs : List Nat} (h : wi σ H fun J H1 => ∀ D, H1 D = none → ∃ W : Nat → Nat → Hp → Prop, (∃ m, W 0 m (upd H1 D (.lst []))) ∧ ∀ i m H, W i m H →
  (J.stop i H ∧ Q (.ref D) H) ∨ (J.go i H ∧ ∃ Nx : Hp → Prop, (∀ H', Nx H' → ∃ m', m' < m ∧ W (i + 1) m' H') ∧ ∀ x H', J.yld i H x H' → g x (wipe σ vs) H' fun σ2 H2 => wipe σ2 vs = wipe σ vs ∧ tt σ2 H2 fun b H3 =>
    if b = true then te σ2 H3 fun y H4 => ∃ acc, H4 D = some (.lst acc) ∧ acc.length < sizeLine ∧ Nx (upd H4 D (.lst (acc ++ [y]))) else Nx H3)) : tLc wi g tt te vs σ H Q := h
theorem d_iR1 {R : It → Hp → Prop} (h : tr σ H fun vs H1 => ∃ j : Int, vs = [.int j] ∧ -(2 ^ 62) ≤ j ∧ j < 2 ^ 62 ∧ R (Itr 0 j.toNat) H1) : iRng1 tr σ H R := h
theorem d_iR2 {R : It → Hp → Prop} (h : tr σ H fun vs H1 => ∃ i j : Int, vs = [.int i, .int j] ∧ (-(2 ^ 62) ≤ i ∧ i < 2 ^ 62 ∧ -(2 ^ 62) ≤ j ∧ j < 2 ^ 62) ∧ R (Itr i (j - i).toNat) H1) : iRng2 tr σ H R := h
theorem d_iR1e {C : Int → Prop} (h1 : -(2 ^ 62) ≤ j) (h2 : j < 2 ^ 62) (h : C j) : ∃ k : Int, [V.int j] = [.int k] ∧ -(2 ^ 62) ≤ k ∧ k < 2 ^ 62 ∧ C k := ⟨j, rfl, h1, h2, h⟩
theorem d_iR2e {C : Int → Int → Prop} (h1 : -(2 ^ 62) ≤ i ∧ i < 2 ^ 62 ∧ -(2 ^ 62) ≤ j ∧ j < 2 ^ 62) (h : C i j) : ∃ k l : Int, [V.int i, V.int j] = [.int k, .int l] ∧ (-(2 ^ 62) ≤ k ∧ k < 2 ^ 62 ∧ -(2 ^ 62) ≤ l ∧ l < 2 ^ 62) ∧ C k l := ⟨i, j, rfl, h1, h⟩
theorem d_iL {R : It → Hp → Prop} (h : te σ H fun x H1 => ∃ a, x = .ref a ∧ (∃ xs, SqL K H1 a xs) ∧ R (Itl K a) H1) : iList K te σ H R := h
theorem d_iT {R : It → Hp → Prop} (h : te σ H fun x H1 => ∃ a, x = .ref a ∧ (∃ xs, SqT K H1 a xs) ∧ R (Itt K a) H1) : iTup K te σ H R := h
theorem d_iTe {C : Addr → Prop} {a : Addr} (h : SqT K H a xs) (q : C a) : ∃ a', V.ref a = .ref a' ∧ (∃ xs, SqT K H a' xs) ∧ C a' := ⟨a, rfl, ⟨xs, h⟩, q⟩
theorem d_iLe {C : Addr → Prop} {a : Addr} (h : SqL K H a xs) (q : C a) : ∃ a', V.ref a = .ref a' ∧ (∃ xs, SqL K H a' xs) ∧ C a' := ⟨a, rfl, ⟨xs, h⟩, q⟩
theorem d_iS {R : It → Hp → Prop} (h : te σ H fun v H1 => ∃ x, v = .str x ∧ R (Its x) H1) : iStr te σ H R := h
theorem d_iSe {C : Str → Prop} {z : Str} (q : C z) : ∃ x, V.str z = .str x ∧ C x := ⟨z, rfl, q⟩
theorem d_yes (h : QT true H) : tYes σ H QT := h
theorem d_dget1 {td ty : TE} (h : td σ H fun x H1 => ∃ a, x = .ref a ∧ IsD H1 a ∧ ty σ H1 fun y H2 => ∃ o, DGet H2 a y o ∧ Q (o.getD .non) H2) : tDGet1 td ty σ H Q := h
theorem d_dget2 {td ty tx : TE} (h : td σ H fun x H1 => ∃ a, x = .ref a ∧ IsD H1 a ∧ ty σ H1 fun y H2 => tx σ H2 fun z H3 => ∃ o, DGet H3 a y o ∧ Q (o.getD z) H3) : tDGet2 td ty tx σ H Q := h
theorem d_daug {td ty tv : TE} {rd : V → V → Hp → VK → Prop} (h : td σ H fun x H1 => ty σ H1 fun y H2 => ∃ a v, x = .ref a ∧ DGet H2 a y (some v) ∧ tv σ H2 fun y2 H3 => rd v y2 H3 fun z H4 => ∃ H5, DPut H4 a y z H5 ∧ D.nx σ H5) : sDAug td ty tv rd D σ H := h
theorem d_notV (h : ta σ H fun x H1 => ∃ c, x = .bl c ∧ Q (.bl (!c)) H1) : tNotV ta σ H Q := h
theorem d_par {i j : Nat} (h : tr σ H fun vs H1 => ∃ v w, vs = [v, w] ∧ D.nx ((σ.set i (some v)).set j (some w)) H1) : tPar i j tr D σ H := h
theorem d_par2 {C : V → V → Prop} (h : C x y) : ∃ v w, [x, y] = [v, w] ∧ C v w := ⟨x, y, rfl, h⟩
theorem d_dget {td ty : TE} (h : td σ H fun x H1 => ty σ H1 fun y H2 => ∃ a v, x = .ref a ∧ DGet H2 a y (some v) ∧ Q v H2) : tDGet td ty σ H Q := h
theorem d_dput {td ty tv : TE} (h : tv σ H fun v H1 => td σ H1 fun x H2 => ty σ H2 fun y H3 => ∃ a H4, x = .ref a ∧ DPut H3 a y v H4 ∧ D.nx σ H4) : sDPut td ty tv D σ H := h
theorem d_din {td ty : TE} (h : ty σ H fun y H1 => td σ H1 fun x H2 => ∃ a o, x = .ref a ∧ DGet H2 a y o ∧ Q (.bl o.isSome) H2) : tDIn ty td σ H Q := h
theorem d_dnewT (h : ∀ p, H p = none → Q (.ref p) (upd H p (.dT []))) : tDNewT σ H Q := h
theorem d_dnewK (h : ∀ p, H p = none → Q (.ref p) (upd H p (.dK []))) : tDNewK σ H Q := h
theorem iteNT {A B : Prop} (h : B) : if (!true) = true then A else B := h
theorem iteNF {A B : Prop} (h : A) : if (!false) = true then A else B := h
theorem d_cut (M : L2.St → Hp → Prop) (h : t { D with nx := M } σ H) (k : ∀ σ' H', M σ' H' → u D σ' H') : Evl.tCut t u D σ H := ⟨M, h, k⟩
/-- a and b where b only looks -/
theorem if_any {c : Bool} {tb : TE} (hb : ∀ Q' : VK, (∀ b H', Same H H' → Q' (.bl b) H') → tb σ H Q') (q : ∀ b H', Same H H' → Q (.bl b) H') : if c = true then tb σ H Q else Q (.bl false) H := by
  cases c with
  | true => exact iteT (hb Q q)
  | false => exact iteF (q _ _ (Same.refl _))
theorem d_wipe {σ2 σ3 : L2.St} {vs : List Nat} {C : Prop} (e : wipe σ2 vs = wipe σ3 vs) (h : C) : wipe σ2 vs = wipe σ3 vs ∧ C := ⟨e, h⟩
theorem d_lsten (h : tr σ H fun vs H1 => rLstEn K vs H1 Q) : tLstEn K tr σ H Q := h
theorem d_slL {a : Addr} {lo hi : Option Int} (h : SqL K H a xs) (q : ∀ p, H p = none → Q (.ref p) (upd H p (.lst (cutV xs lo hi)))) : rSlL K (.ref a) lo hi H Q := ⟨a, xs, rfl, h, q⟩
theorem d_lrg {tg : L2.St → Hp → (Int → Int → Hp → Prop) → Prop} (h : tg σ H fun a b H1 => RgOk a b ∧ ∀ q, H1 q = none → Q (.ref q) (upd H1 q (.lst (rgV a b)))) : tLstRg tg σ H Q := h
theorem d_rg1 {R : Int → Int → Hp → Prop} (h : te σ H fun x H1 => ∃ n, x = .int n ∧ R 0 n H1) : tRg1 te σ H R := h
end
/-- the law's hand: two whole numbers -/
def Hand (H : Hp) (h : Addr) : Prop := ∃ d m : Int, H h = some (.lst [.int d, .int m]) ∧ 0 ≤ d ∧ 0 ≤ m ∧ m < 2147483587
theorem Hand.same {H H' : Hp} {h : Addr} (x : Hand H h) (s : Same H H') : Hand H' h := by
  obtain ⟨d, m, e, r⟩ := x
  exact ⟨d, m, s _ _ e, r⟩
theorem Hand.ne {H : Hp} {h p : Addr} (x : Hand H h) (n : H p = none) : p ≠ h := by
  obtain ⟨d, m, e, r⟩ := x
  exact (ne_of_none e n).symm
theorem Hand.put {H : Hp} {h p : Addr} {o : HO} (x : Hand H h) (n : p ≠ h) : Hand (upd H p o) h := by
  obtain ⟨d, m, e, r⟩ := x
  exact ⟨d, m, by rw [upd_ne n.symm]; exact e, r⟩
/-- a tuple stays where a list changes -/
theorem Keep.sqt {K : PySem.W.Frag} {h : Addr} {H H' : Hp} {a : Addr} {xs ys : List V} (k : Keep h H H') (e : H h = some (.lst ys)) (q : SqT K H a xs) : SqT K H' a xs := by
  rcases q with (q | ⟨o, q⟩) | q
  · exact .inl (.inl (k _ _ (ne_of q e (by intro z; cases z)) q))
  · exact .inl (.inr ⟨o, k _ _ (ne_of q e (by intro z; cases z)) q⟩)
  · exact .inr q
mutual
theorem dp_same {K : PySem.W.Frag} {H H' : Hp} (s : Same H H') : ∀ (d : PyData) (v : V), Dp K H v d → Dp K H' v d
  | .none, _, h => by cases h; exact .non
  | .bool b, _, h => by cases h; exact .bl b
  | .int i, _, h => by cases h; exact .int i
  | .str x, _, h => by cases h; exact .str x
  | .list ds, _, h => by
    cases h with
    | lst hs ha => exact .lst (Same.seq s hs) (dpa_same s ds _ ha)
  | .tuple ds, _, h => by
    cases h with
    | tup hs ha => exact .tup (Same.sqt s hs) (dpa_same s ds _ ha)
  | .dict _, _, h => by cases h
theorem dpa_same {K : PySem.W.Frag} {H H' : Hp} (s : Same H H') : ∀ (ds : List PyData) (vs : List V), DpAll K H vs ds → DpAll K H' vs ds
  | [], _, h => by cases h; exact .nil
  | d :: ds, _, h => by
    cases h with
    | cons a b => exact .cons (dp_same s d _ a) (dpa_same s ds _ b)
end
theorem dpa_ints {K : PySem.W.Frag} {H : Hp} : ∀ ns : List Int, DpAll K H (ns.map V.int) (ns.map PyData.int)
  | [] => .nil
  | n :: r => .cons (.int n) (dpa_ints r)
theorem shaped_ints (ns : List Int) : SeqAt.shaped (.list (ns.map PyData.int)) = true := PySem.W.ke_shaped_ints ns
/-- one sign -/
abbrev sg (c : Nat) : Str := ⟨#[c]⟩
def Ltr (c : Nat) : Prop := 97 ≤ c ∧ c ≤ 122
abbrev Tie := Nat × Nat × Nat
/-- places' kinds, ties -/
abbrev Web := List Nat × List Tie
def TieAt (K : PySem.W.Frag) (H : Hp) (v : V) (t : Tie) : Prop := ∃ a, v = .ref a ∧ SqT K H a [.int (t.1 : Nat), .int (t.2.1 : Nat), .str (sg t.2.2)]
def WebAt (K : PySem.W.Frag) (H : Hp) (v : V) (w : Web) : Prop := ∃ a b tvs, v = .ref a ∧ SqT K H a [.str ⟨w.1.toArray⟩, .ref b] ∧ SqT K H b tvs ∧ Paired (TieAt K H) tvs w.2
def tlt (s t : Tie) : Prop := s.1 < t.1 ∨ (s.1 = t.1 ∧ s.2.1 < t.2.1)
structure WOk (w : Web) : Prop where
  few : w.1.length ≤ 40
  most : w.2.length ≤ 1600
  kinds : ∀ c ∈ w.1, Ltr c
  rise : w.2.Pairwise tlt
  ends : ∀ t ∈ w.2, t.1 < t.2.1 ∧ t.2.1 < w.1.length ∧ Ltr t.2.2
theorem Paired.imp {α β : Type} {F G : α → β → Prop} {xs : List α} {ys : List β} (p : Paired F xs ys) (h : ∀ a b, F a b → G a b) : Paired G xs ys := by
  induction p with
  | nil => exact .nil
  | cons a _ ih => exact .cons (h _ _ a) ih
theorem TieAt.same {K : PySem.W.Frag} {H H' : Hp} {v : V} {t : Tie} (x : TieAt K H v t) (s : Same H H') : TieAt K H' v t := by
  obtain ⟨a, e, q⟩ := x
  exact ⟨a, e, Same.sqt s q⟩
theorem TieAt.keep {K : PySem.W.Frag} {H H' : Hp} {v : V} {t : Tie} {h : Addr} {ys : List V} (x : TieAt K H v t) (k : Keep h H H') (e : H h = some (.lst ys)) : TieAt K H' v t := by
  obtain ⟨a, e', q⟩ := x
  exact ⟨a, e', k.sqt e q⟩
theorem WebAt.same {K : PySem.W.Frag} {H H' : Hp} {v : V} {w : Web} (x : WebAt K H v w) (s : Same H H') : WebAt K H' v w := by
  obtain ⟨a, b, tvs, e, q1, q2, q3⟩ := x
  exact ⟨a, b, tvs, e, Same.sqt s q1, Same.sqt s q2, Paired.imp q3 fun _ _ z => z.same s⟩
theorem WebAt.keep {K : PySem.W.Frag} {H H' : Hp} {v : V} {w : Web} {h : Addr} {ys : List V} (x : WebAt K H v w) (k : Keep h H H') (e : H h = some (.lst ys)) : WebAt K H' v w := by
  obtain ⟨a, b, tvs, e', q1, q2, q3⟩ := x
  exact ⟨a, b, tvs, e', k.sqt e q1, k.sqt e q2, Paired.imp q3 fun _ _ z => z.keep k e⟩
theorem TieAt.put {K : PySem.W.Frag} {H : Hp} {v : V} {t : Tie} {b : Addr} {o : HO} (x : TieAt K H v t) (n : H b = none ∨ ∃ ys, H b = some (.lst ys)) : TieAt K (upd H b o) v t := by
  obtain ⟨a, e, q⟩ := x
  exact ⟨a, e, sqt_upd n q⟩
theorem WebAt.put {K : PySem.W.Frag} {H : Hp} {v : V} {w : Web} {b : Addr} {o : HO} (x : WebAt K H v w) (n : H b = none ∨ ∃ ys, H b = some (.lst ys)) : WebAt K (upd H b o) v w := by
  obtain ⟨a, b, tvs, e', q1, q2, q3⟩ := x
  exact ⟨a, b, tvs, e', sqt_upd n q1, sqt_upd n q2, Paired.imp q3 fun _ _ z => z.put n⟩
theorem Paired.at {α β : Type} {F : α → β → Prop} : ∀ {xs : List α} {ys : List β}, Paired F xs ys → ∀ {i : Nat} {x : α}, xs[i]? = some x → ∃ y, ys[i]? = some y ∧ F x y
  | _, _, .nil, i, x, h => by cases h
  | _, _, .cons r t, 0, x, h => by
    cases h
    exact ⟨_, rfl, r⟩
  | _, _, .cons r t, i + 1, x, h => Paired.at t h
open TL in
theorem joinL_nil : ∀ ps : List (List Nat), joinL [] ps = ps.flatten
  | [] => rfl
  | [p] => by show p = [p].flatten; simp
  | p :: q :: r => by
    show p ++ ([] ++ joinL [] (q :: r)) = (p :: q :: r).flatten
    rw [joinL_nil (q :: r)]; simp
theorem str_ext {x y : Str} (h : x.cps.toList = y.cps.toList) : x = y := by
  cases x; cases y
  simpa using h
open TL in
theorem join_signs (cs : List Nat) : Txt.join (Str.ofString "") (cs.map sg) = ⟨cs.toArray⟩ := by
  rw [join_eq]
  apply str_ext
  show tl (Str.join (Str.ofString "") (cs.map sg)) = cs
  rw [tl_join, show tl (Str.ofString "") = [] from by decide +kernel, joinL_nil, List.map_map]
  induction cs with
  | nil => rfl
  | cons c r ih =>
    rw [List.map_cons, List.flatten_cons, ih]
    rfl
theorem sum_const {α : Type} (f : α → Nat) (n : Nat) : ∀ l : List α, (∀ x ∈ l, f x = n) → (l.map f).sum = l.length * n
  | [], _ => by simp
  | a :: r, h => by
    rw [List.map_cons, List.sum_cons, sum_const f n r fun x hx => h x (List.mem_cons_of_mem _ hx), h a List.mem_cons_self, List.length_cons, Nat.succ_mul]
    omega
theorem sz {n : Nat} (h : n ≤ 100000) : n ≤ sizeLine := Nat.le_trans h (by decide)
theorem szl {n : Nat} (h : n ≤ 100000) : n < sizeLine := Nat.lt_of_le_of_lt h (by decide)
end Cw

namespace Cw
open PySem PySem.Spec PyProof.Rows L2
/-! ### ties -/
def at2 (a b : Nat) (t : Tie) : Bool := (t.1 == a && t.2.1 == b) || (t.1 == b && t.2.1 == a)
def tieL (ts : List Tie) (a b : Nat) : Option Nat := (ts.find? (at2 a b)).map (·.2.2)
def beside (p : Nat) (t : Tie) : Option Nat := if t.1 = p then some t.2.1 else if t.2.1 = p then some t.1 else none
def nb (ts : List Tie) (p : Nat) : List Nat := ts.filterMap (beside p)
theorem at2_iff {a b : Nat} {t : Tie} : at2 a b t = true ↔ (t.1 = a ∧ t.2.1 = b) ∨ (t.1 = b ∧ t.2.1 = a) := by
  simp [at2]
theorem at2_swap (a b : Nat) (t : Tie) : at2 a b t = at2 b a t := by
  unfold at2; rw [Bool.or_comm]
theorem tieL_swap (ts : List Tie) (a b : Nat) : tieL ts a b = tieL ts b a := by
  unfold tieL
  rw [show at2 a b = at2 b a from funext (at2_swap a b)]
theorem tieL_isSome {ts : List Tie} {a b : Nat} : (tieL ts a b).isSome = true ↔ ∃ t ∈ ts, at2 a b t = true := by
  unfold tieL
  rw [Option.isSome_map, List.find?_isSome]
theorem tieL_none {ts : List Tie} {a b : Nat} (h : ∀ t ∈ ts, at2 a b t = false) : tieL ts a b = none := by
  unfold tieL
  rw [List.find?_eq_none.mpr (fun t ht => by rw [h t ht]; simp)]; rfl
theorem tieL_snoc (l : List Tie) (t : Tie) (a b : Nat) : tieL (l ++ [t]) a b = (tieL l a b).or (if at2 a b t = true then some t.2.2 else none) := by
  unfold tieL
  rw [List.find?_append]
  cases l.find? (at2 a b) with
  | some x => rfl
  | none =>
    show ((none : Option Tie).or ([t].find? (at2 a b))).map (·.2.2) = (none : Option Nat).or _
    rw [Option.none_or, Option.none_or]
    by_cases h : at2 a b t = true
    · rw [if_pos h, List.find?_cons_of_pos h]; rfl
    · rw [if_neg h, List.find?_cons_of_neg h]; rfl
theorem nb_snoc (l : List Tie) (t : Tie) (p : Nat) : nb (l ++ [t]) p = nb l p ++ (if t.1 = p then [t.2.1] else if t.2.1 = p then [t.1] else []) := by
  unfold nb
  rw [List.filterMap_append]
  congr 1
  by_cases h1 : t.1 = p
  · rw [if_pos h1]; simp [beside, h1]
  · by_cases h2 : t.2.1 = p
    · rw [if_neg h1, if_pos h2]; simp [beside, h1, h2]
    · rw [if_neg h1, if_neg h2]; simp [beside, h1, h2]
theorem nb_len (l : List Tie) (p : Nat) : (nb l p).length ≤ l.length := List.length_filterMap_le _ _
theorem take_snoc {α : Type} {l : List α} {i : Nat} {x : α} (h : l[i]? = some x) : l.take (i + 1) = l.take i ++ [x] := by
  rw [List.take_add_one, h]; rfl
/-- no tie stands twice -/
theorem tieL_new {ts : List Tie} (s : ts.Pairwise tlt) (e : ∀ t ∈ ts, t.1 < t.2.1) {i : Nat} {t : Tie} (h : ts[i]? = some t) : tieL (ts.take i) t.1 t.2.1 = none := by
  refine tieL_none fun u hu => ?_
  have hl : (ts.take i ++ [t]).Pairwise tlt := by rw [← take_snoc h]; exact s.sublist (List.take_sublist _ _)
  have lt := (List.pairwise_append.mp hl).2.2 u hu t List.mem_cons_self
  have e1 := e u (List.mem_of_mem_take hu)
  have e2 := e t (List.mem_of_getElem? h)
  cases q : at2 t.1 t.2.1 u with
  | false => rfl
  | true =>
    rcases at2_iff.mp q with ⟨a, b⟩ | ⟨a, b⟩
    · rcases lt with z | ⟨_, z⟩ <;> omega
    · omega
theorem sorted_ext : ∀ {l m : List Nat}, l.Pairwise (· < ·) → m.Pairwise (· < ·) → (∀ x, x ∈ l ↔ x ∈ m) → l = m
  | [], [], _, _, _ => rfl
  | [], y :: m, _, _, h => absurd ((h y).mpr List.mem_cons_self) (by simp)
  | x :: l, [], _, _, h => absurd ((h x).mp List.mem_cons_self) (by simp)
  | x :: l, y :: m, hl, hm, h => by
    obtain ⟨l1, l2⟩ := List.pairwise_cons.mp hl
    obtain ⟨m1, m2⟩ := List.pairwise_cons.mp hm
    have hx : x = y := by
      rcases List.mem_cons.mp ((h x).mp List.mem_cons_self) with z | z
      · exact z
      · rcases List.mem_cons.mp ((h y).mpr List.mem_cons_self) with z' | z'
        · exact z'.symm
        · have a := m1 x z
          have b := l1 y z'
          omega
    subst hx
    congr 1
    refine sorted_ext l2 m2 fun z => ⟨fun hz => ?_, fun hz => ?_⟩
    · rcases List.mem_cons.mp ((h z).mp (List.mem_cons_of_mem _ hz)) with q | q
      · have := l1 z hz; omega
      · exact q
    · rcases List.mem_cons.mp ((h z).mpr (List.mem_cons_of_mem _ hz)) with q | q
      · have := m1 z hz; omega
      · exact q
theorem beside_iff {p o : Nat} {t : Tie} (e : t.1 < t.2.1) : beside p t = some o ↔ at2 p o t = true := by
  rw [at2_iff]
  unfold beside
  by_cases h1 : t.1 = p
  · rw [if_pos h1]
    constructor
    · intro z; exact .inl ⟨h1, Option.some.inj z⟩
    · rintro (⟨_, z⟩ | ⟨z1, z2⟩)
      · rw [z]
      · omega
  · rw [if_neg h1]
    by_cases h2 : t.2.1 = p
    · rw [if_pos h2]
      constructor
      · intro z; exact .inr ⟨Option.some.inj z, h2⟩
      · rintro (⟨z, _⟩ | ⟨z1, z2⟩)
        · exact absurd z h1
        · rw [z1]
    · rw [if_neg h2]
      constructor
      · intro z; cases z
      · rintro (⟨z, _⟩ | ⟨_, z⟩)
        · exact absurd z h1
        · exact absurd z h2
theorem nb_rise {ts : List Tie} (s : ts.Pairwise tlt) (e : ∀ t ∈ ts, t.1 < t.2.1) (p : Nat) : (nb ts p).Pairwise (· < ·) := by
  unfold nb
  rw [List.pairwise_filterMap]
  refine List.Pairwise.imp_of_mem (fun {t u} ht hu lt a ha b hb => ?_) s
  have e1 := e t ht
  have e2 := e u hu
  rcases at2_iff.mp ((beside_iff e1).mp ha) with ⟨a1, a2⟩ | ⟨a1, a2⟩ <;> rcases at2_iff.mp ((beside_iff e2).mp hb) with ⟨b1, b2⟩ | ⟨b1, b2⟩ <;> rcases lt with z | ⟨z1, z2⟩ <;> omega
theorem nb_eq {w : Web} (W : WOk w) (p : Nat) : nb w.2 p = (List.range w.1.length).filter fun o => (tieL w.2 p o).isSome := by
  refine sorted_ext (nb_rise W.rise (fun t ht => (W.ends t ht).1) p) (List.Pairwise.filter _ List.pairwise_lt_range) fun o => ?_
  rw [List.mem_filter, tieL_isSome, List.mem_range]
  unfold nb
  rw [List.mem_filterMap]
  constructor
  · rintro ⟨t, ht, hb⟩
    have q := (beside_iff (W.ends t ht).1).mp hb
    refine ⟨?_, t, ht, q⟩
    have r := W.ends t ht
    rcases at2_iff.mp q with ⟨_, a⟩ | ⟨a, _⟩ <;> omega
  · rintro ⟨_, t, ht, q⟩
    exact ⟨t, ht, (beside_iff (W.ends t ht).1).mpr q⟩
theorem tieL_self {w : Web} (W : WOk w) (p : Nat) : tieL w.2 p p = none := by
  refine tieL_none fun t ht => ?_
  have r := W.ends t ht
  cases q : at2 p p t with
  | false => rfl
  | true => rcases at2_iff.mp q with ⟨a, b⟩ | ⟨a, b⟩ <;> omega
/-- a tie's kind, or None -/
def optV : Option Nat → V
  | some c => .str (sg c)
  | none => .non
theorem optV_non (o : Option Nat) : (!decide (optV o = .non)) = o.isSome := by cases o <;> rfl
theorem optV_scal (o : Option Nat) : scal (optV o) (optV o) = true := by cases o <;> rfl
def zs (l : List Nat) : List Int := l.map fun (o : Nat) => (o : Int)
theorem ints_map (l : List Nat) : (l.map fun o => V.int (o : Nat)) = (zs l).map V.int := by
  unfold zs; rw [List.map_map]; rfl
theorem eqv_ints (l : List Int) : PyData.eqv (.list (l.map PyData.int)) (.list (l.map PyData.int)) = true := by
  show PyData.eqvAll _ _ = true
  rw [PySem.W.ked_eqvAll, decide_eq_true rfl]
theorem dp_nats {K : PySem.W.Frag} {H : Hp} {a : Addr} {l : List Nat} (h : H a = some (.lst (l.map fun o => V.int (o : Nat)))) : Dp K H (.ref a) (.list ((zs l).map PyData.int)) := by
  rw [ints_map] at h
  exact .lst (SqL.of h) (dpa_ints _)
/-- the heap without one object -/
def del (H : Hp) (a : Addr) : Hp := fun b => if b = a then none else H b
theorem del_ne {H : Hp} {a b : Addr} (n : b ≠ a) : del H a b = H b := by unfold del; rw [if_neg n]
theorem del_at {H : Hp} {a b : Addr} {o : HO} (n : b ≠ a) (h : H b = some o) : del H a b = some o := by rw [del_ne n]; exact h
theorem del_same (H : Hp) (a : Addr) : Same (del H a) H := fun b o e => by
  by_cases n : b = a
  · unfold del at e; rw [if_pos n] at e; cases e
  · rw [del_ne n] at e; exact e
theorem Keep.del {h : Addr} {H H' : Hp} (k : Keep h H H') : Same (del H h) (del H' h) := fun b o e => by
  by_cases n : b = h
  · unfold Cw.del at e; rw [if_pos n] at e; cases e
  · rw [del_ne n] at e ⊢; exact k b o n e
theorem dpa_snoc {K : PySem.W.Frag} {H : Hp} : ∀ {vs : List V} {ds : List PyData} {v : V} {d : PyData}, DpAll K H vs ds → Dp K H v d → DpAll K H (vs ++ [v]) (ds ++ [d])
  | [], [], _, _, _, h => .cons h .nil
  | _ :: _, _ :: _, _, _, .cons a b, h => .cons a (dpa_snoc b h)
/-- what is held: pairs of equal lists of whole numbers -/
def hD (x : List Int) : PyData := .list [.list (x.map PyData.int), .list (x.map PyData.int)]
def Held (K : PySem.W.Frag) (H : Hp) (hd : Addr) (m : Nat) : Prop := ∃ (hs : List V) (xs : List (List Int)), H hd = some (.lst hs) ∧ hs.length ≤ m ∧ DpAll K (del H hd) hs (xs.map hD)
theorem Held.same {K : PySem.W.Frag} {H H' : Hp} {hd : Addr} {m : Nat} (x : Held K H hd m) (s : Same H H') : Held K H' hd m := by
  obtain ⟨hs, xs, e, l, a⟩ := x
  exact ⟨hs, xs, s _ _ e, l, dpa_same (Keep.del (Same.keep s)) _ _ a⟩
theorem Held.mono {K : PySem.W.Frag} {H : Hp} {hd : Addr} {m n : Nat} (x : Held K H hd m) (h : m ≤ n) : Held K H hd n := by
  obtain ⟨hs, xs, e, l, a⟩ := x
  exact ⟨hs, xs, e, Nat.le_trans l h, a⟩
theorem dpa_at {K : PySem.W.Frag} {H : Hp} : ∀ {vs : List V} {ds : List PyData} (i : Nat) {v : V}, DpAll K H vs ds → vs[i]? = some v → ∃ d, ds[i]? = some d ∧ Dp K H v d
  | [], _, _, _, _, h => by simp at h
  | _ :: _, _ :: _, 0, _, .cons a b, h => by
    cases h
    exact ⟨_, rfl, a⟩
  | _ :: _, _ :: _, i + 1, _, .cons a b, h => dpa_at i b (by simpa using h)
theorem rgV_nats (n : Int) : rgV 0 n = (List.range n.toNat).map fun q => V.int (q : Nat) := by
  unfold rgV
  rw [Int.sub_zero]
  congr 1
  funext i
  rw [Int.zero_add]
end Cw

namespace Cw
open PySem PySem.Spec PyProof.Rows L2 Srt

/-! ### triples (whole number, whole number, one sign), by all three -/
abbrev Tri := Int × Int × Nat
def lexT (p q : Tri) : Bool := if p.1 = q.1 then (if p.2.1 = q.2.1 then decide (p.2.2 < q.2.2) else decide (p.2.1 < q.2.1)) else decide (p.1 < q.1)
theorem lexT_iff {p q : Tri} : lexT p q = true ↔ p.1 < q.1 ∨ (p.1 = q.1 ∧ (p.2.1 < q.2.1 ∨ (p.2.1 = q.2.1 ∧ p.2.2 < q.2.2))) := by
  unfold lexT
  by_cases e : p.1 = q.1
  · rw [if_pos e]
    by_cases e2 : p.2.1 = q.2.1
    · rw [if_pos e2, decide_eq_true_eq]; omega
    · rw [if_neg e2, decide_eq_true_eq]; omega
  · rw [if_neg e, decide_eq_true_eq]; omega
theorem lexT_no {p q : Tri} : lexT p q = false ↔ ¬ (p.1 < q.1 ∨ (p.1 = q.1 ∧ (p.2.1 < q.2.1 ∨ (p.2.1 = q.2.1 ∧ p.2.2 < q.2.2)))) := by
  rw [← lexT_iff]
  cases lexT p q <;> simp
theorem swo_T {α : Type} (k : α → Tri) : SrtO.Swo fun v u => lexT (k v) (k u) := by
  refine ⟨fun x y h => ?_, fun x y z h1 h2 => ?_⟩
  · have a := lexT_iff.mp h
    exact lexT_no.mpr (by omega)
  · have a := lexT_no.mp h1
    have b := lexT_no.mp h2
    exact lexT_no.mpr (by omega)
def IsTri (h : Heap) (v : Value) (p : Tri) : Prop := ∃ a o t u t3 n, v = .ref a ∧ h.get? a = some o ∧ o.cls = .type "tuple" ∧ o.data = .seq #[.int p.1 t, .int p.2.1 u, .str (sg p.2.2) t3] n
theorem IsTri.keeps {h h' : Heap} {v : Value} {p : Tri} (x : IsTri h v p) (k : ∀ b o, h.get? b = some o → o.cls = .type "tuple" → h'.get? b = some o) : IsTri h' v p := by
  obtain ⟨a, o, t, u, t3, n, e, ho, hc, hd⟩ := x
  exact ⟨a, o, t, u, t3, n, e, k _ _ ho hc, hc, hd⟩
theorem sg_lt (c d : Nat) : decide ((sg c).cps.toList < (sg d).cps.toList) = decide (c < d) := by
  rw [Bool.eq_iff_iff, decide_eq_true_eq, decide_eq_true_eq]
  show ([c] : List Nat) < [d] ↔ c < d
  rw [List.cons_lt_cons_iff]
  constructor
  · rintro (h | ⟨_, h⟩)
    · exact h
    · exact absurd h (List.not_lt_nil _)
  · intro h; exact .inl h
theorem sg_inj {c d : Nat} : sg c = sg d ↔ c = d := by
  constructor
  · intro h
    have e : (sg c).cps.toList = (sg d).cps.toList := by rw [h]
    simpa using e
  · rintro rfl; rfl
section
variable {prog : Program} {w : World} {A : Around} {E : Value → Shared → Prop} {s : Shared}
theorem tri_cmp {vs : List Value} {k : Value → Tri} (hp : ∀ v ∈ vs, IsTri s.heap v (k v)) : SrtO.Cmp prog w A s (tuples' true) (fun p => p.1 ∈ vs) (SrtO.lt2 fun v u => lexT (k v) (k u)) := by
  intro p q hm hm'
  have h1 := hp _ hm
  have h2 := hp _ hm'
  show wpAny (model prog w) A (keyLt' (tuples' true) p.1 q.1) (fun r s' => s' = s ∧ r = lexT (k p.1) (k q.1)) (fun _ _ => False) s
  generalize k p.1 = P at h1 ⊢
  generalize k q.1 = R at h2 ⊢
  obtain ⟨x, y, c⟩ := P
  obtain ⟨x', y', c'⟩ := R
  obtain ⟨a, o, t, u, t3, n, e, ho, hc, hd⟩ := h1
  obtain ⟨a', o', t', u', t3', n', e', ho', hc', hd'⟩ := h2
  dsimp only at hd hd'
  rw [e, e']
  refine PySem.W.kat_lt ho hd ho' hd' ?_
  show PySem.W.KatLex prog w A true (decide (3 < 3)) _ [(.int x t, .int x' t'), (.int y u, .int y' u'), (.str (sg c) t3, .str (sg c') t3')] 0 s
  refine PySem.W.kat_cons (SeqAt.EqAt.int_int x t x' t' prog w _ _ (PySem.W.kat_go (fun e1 => ?_) (fun e1 => ?_)))
  · have ex : x = x' := by simpa using e1
    subst ex
    refine PySem.W.kat_yes (PySem.W.kat_cons (SeqAt.EqAt.int_int y u y' u' prog w _ _ (PySem.W.kat_go (fun e2 => ?_) (fun e2 => ?_))))
    · have ey : y = y' := by simpa using e2
      subst ey
      refine PySem.W.kat_yes (PySem.W.kat_cons (wpAny_eqBool_str (PySem.W.kat_go (fun e3 => ?_) (fun e3 => ?_))))
      · have ec : c = c' := sg_inj.mp (by simpa using e3)
        subst ec
        exact PySem.W.kat_yes (PySem.W.kat_nil ⟨rfl, (lexT_no.mpr (by show ¬ (x < x ∨ (x = x ∧ (y < y ∨ (y = y ∧ c < c)))); omega)).symm⟩)
      · refine PySem.W.kat_no (PySem.W.kat_one _ _ (PyProof.Rows.lt_str ?_))
        refine (show s = s ∧ decide ((sg c).cps.toList < (sg c').cps.toList) = lexT (x, y, c) (x, y, c') from ⟨rfl, ?_⟩)
        rw [sg_lt]
        unfold lexT
        rw [if_pos rfl, if_pos rfl]
    · have ey : ¬ y = y' := by simpa using e2
      refine PySem.W.kat_no (PySem.W.kat_one _ _ (PyProof.Rows.lt_int ?_))
      refine (show s = s ∧ decide (y < y') = lexT (x, y, c) (x, y', c') from ⟨rfl, ?_⟩)
      unfold lexT
      rw [if_pos rfl, if_neg ey]
  · have ex : ¬ x = x' := by simpa using e1
    refine PySem.W.kat_no (oneLt_int ⟨rfl, ?_⟩)
    unfold lexT
    rw [if_neg ex]
theorem tri_firsts {h : Heap} : ∀ {vs : List Value}, (∀ v ∈ vs, ∃ p, IsTri h v p) → ∃ fs : List Value, PySem.W.KatTups h vs fs ∧ fs.length = vs.length ∧ ∀ f ∈ fs, ∃ x t, f = Value.int x t
  | [], _ => ⟨[], PySem.W.KatTups.nil, rfl, fun _ hm => by simp at hm⟩
  | v :: vs, hp => by
    obtain ⟨fs, h1, h2, h3⟩ := tri_firsts (vs := vs) fun v' hm => hp v' (List.mem_cons_of_mem _ hm)
    obtain ⟨p, a, o, t, u, t3, n, e, ho, hc, hd⟩ := hp v List.mem_cons_self
    subst e
    refine ⟨.int p.1 t :: fs, PySem.W.KatTups.cons ho hc hd rfl h1, by rw [List.length_cons, List.length_cons, h2], fun f hm => ?_⟩
    rcases List.mem_cons.mp hm with rfl | hm
    · exact ⟨_, t, rfl⟩
    · exact h3 f hm
theorem tri_sortable {a : Addr} {vs : List Value} {k : Value → Tri} (h0 : 0 < vs.length) (hp : ∀ v ∈ vs, IsTri s.heap v (k v)) (ha : ∀ o, s.heap.get? a = some o → o.cls ≠ .type "tuple") : SrtO.SortableO prog w A s a vs fun v u => lexT (k v) (k u) := by
  intro h' keep
  have hp' : ∀ v ∈ vs, IsTri h' v (k v) := fun v hm => (hp v hm).keeps fun b o e c => keep b o (fun z => by subst z; exact ha o e c) e
  obtain ⟨fs, h1, h2, h3⟩ := tri_firsts fun v hm => ⟨_, hp' v hm⟩
  refine ⟨tuples' true, fun Q E hq => PySem.W.kat_kind (T := .type "int") h1 (by omega) (fun f hm => ?_) (by rfl) ?_, tri_cmp hp'⟩
  · obtain ⟨x, t, rfl⟩ := h3 f hm
    exact PySem.W.Looks.now
  · rw [show (Value.type "int" != Value.type "tuple") = true by decide +kernel]; exact hq
theorem sorted_tris {l : Addr} {vs : List Value} {k : Value → Tri} {Q : Value → Shared → Prop} (hl : s.heap.IsList l vs.toArray) (hz : vs.length ≤ sizeLine) (hp : ∀ v ∈ vs, IsTri s.heap v (k v))
    (h : ∀ (h' : Heap) (d : Addr) (out : List Value), SrtO.Srtd (fun v u => lexT (k v) (k u)) out → out.Perm vs → (∀ b o, s.heap.get? b = some o → h'.get? b = some o) → s.heap.objs.size ≤ d → (∃ n, h'.get? d = some (seqObj "list" out.toArray n)) → Q (.ref d) { s with heap := h' }) :
    wpAny (model prog w) A (call (.builtin "sorted") [.ref l]) Q E s := by
  refine SrtO.sorted_ord (swo_T k) hl hz (fun h2 h₁ a ha kk => tri_sortable (s := { s with heap := h₁ }) (by omega) (fun v hm => (hp v hm).keeps fun b o e _ => (kk b o e).2) fun o e c => ?_) fun out hs hb => ?_
  · have e' : some o = some (seqObj "list" vs.toArray 0) := e.symm.trans ha
    cases e'
    exact absurd (Value.type.inj c) (by decide)
  · exact h _ _ out hs hb.perm (fun b o e => sortedAll_old e) (Nat.le_succ _) (sortedAll_at s.heap vs out.toArray)
end
def triV (p : Tri) : List V := [.int p.1, .int p.2.1, .str (sg p.2.2)]
/-- sorted(ties): the same tuples, by their three -/
def rSorted3 (K : PySem.W.Frag) : List V → Hp → VK → Prop := fun vs H Q => ∃ (a : Addr) (es : List (Addr × Tri)), vs = [V.ref a] ∧ SqL K H a (es.map fun e => V.ref e.1) ∧ (∀ e ∈ es, H e.1 = some (.tup (triV e.2))) ∧
  ∀ (es' : List (Addr × Tri)) p, es'.Perm es → (es'.map (·.2)).Pairwise (fun x y => lexT y x = false) → H p = none → Q (.ref p) (upd H p (.lst (es'.map fun e => V.ref e.1)))
section
variable {X : Cx}
theorem cr_sorted3 : CallR X (.builtin "sorted") (rSorted3 X.K) := by
  intro pins s σ H vs us Q I r h
  obtain ⟨a, es, rfl, hs, hx, q⟩ := h
  obtain ⟨its, rv, hl, hz⟩ := I.list hs
  obtain ⟨u, rfl, ru⟩ := vals1 r
  obtain rfl : u = Value.ref a := ru
  -- the items, by their addresses
  have eits : its = es.map fun e => Value.ref e.1 := by
    have : ∀ {xs : List (Addr × Tri)} {us : List Value}, Vals (xs.map fun e => V.ref e.1) us → us = xs.map fun e => Value.ref e.1 := by
      intro xs
      induction xs with
      | nil => intro us r; cases r; rfl
      | cons x xs ih =>
        intro us r
        cases r with
        | cons r1 r2 => rw [ih r2, (show _ = Value.ref x.1 from r1)]; rfl
    exact this rv
  -- the key, read off the heap
  let kA : Addr → Tri := fun b => match H b with
    | some (.tup [.int x, .int y, .str z]) => (x, y, (z.cps.toList.headD 0))
    | _ => (0, 0, 0)
  have kA_eq : ∀ e ∈ es, kA e.1 = e.2 := fun e he => by
    show (match H e.1 with
      | some (.tup [.int x, .int y, .str z]) => (x, y, (z.cps.toList.headD 0))
      | _ => (0, 0, 0)) = e.2
    rw [hx e he]; rfl
  let kV' : Value → Tri := fun v => match v with
    | .ref b => kA b
    | _ => (0, 0, 0)
  refine sorted_tris (k := kV') hl.isList (by rw [← rv.length]; exact hz) (fun v hv => ?_) fun h' d out h1 h2 kp hd hn => ?_
  · rw [eits] at hv
    obtain ⟨e, he, rfl⟩ := List.mem_map.mp hv
    obtain ⟨_, its2, r2, o, ho, hc, n, hd⟩ := I.hok _ _ (hx e he)
    have ek : kV' (Value.ref e.1) = e.2 := kA_eq e he
    rw [ek]
    cases r2 with
    | cons ra rr =>
      cases rr with
      | cons rb rr =>
        cases rr with
        | cons rc rr =>
          cases rr
          obtain ⟨t1, rfl⟩ := ra
          obtain ⟨t2, rfl⟩ := rb
          obtain ⟨t3, rfl⟩ := rc
          exact ⟨e.1, o, t1, t2, t3, n, rfl, ho, hc, hd⟩
  · obtain ⟨n, hn⟩ := hn
    rw [eits] at h2
    have hmem : ∀ v ∈ out, ∃ e ∈ es, v = Value.ref e.1 := fun v hv => by
      obtain ⟨e, he, e'⟩ := List.mem_map.mp (h2.mem_iff.mp hv)
      exact ⟨e, he, e'.symm⟩
    -- back to pairs
    let back : Value → Addr × Tri := fun v => match v with
      | .ref b => (b, kA b)
      | _ => (0, (0, 0, 0))
    have p1 : (out.map back).Perm es := by
      have z := h2.map back
      rw [List.map_map] at z
      have e2 : es.map (back ∘ fun e => Value.ref e.1) = es := by
        conv => rhs; rw [← List.map_id es]
        refine List.map_congr_left fun e he => ?_
        show (e.1, kA e.1) = e
        rw [kA_eq e he]
      rw [e2] at z
      exact z
    have e3 : (out.map back).map (fun e => V.ref e.1) = out.map backV := by
      rw [List.map_map]
      refine List.map_congr_left fun v hv => ?_
      obtain ⟨e, he, rfl⟩ := hmem v hv
      rfl
    have srt : ((out.map back).map (·.2)).Pairwise (fun x y => lexT y x = false) := by
      rw [List.map_map, List.pairwise_map]
      refine h1.imp_of_mem fun {x y} hx' hy' hxy => ?_
      obtain ⟨e, he, rfl⟩ := hmem x hx'
      obtain ⟨e', he', rfl⟩ := hmem y hy'
      exact hxy
    have g := q (out.map back) d p1 srt (I.hok.fresh hd)
    rw [e3] at g
    have hzo : (out.map backV).length ≤ sizeLine := by
      rw [List.length_map, h2.length_eq, List.length_map]
      rw [List.length_map] at hz
      exact hz
    have hvb : Vals (out.map backV) out := vals_back fun u hu => by
      obtain ⟨e, he, rfl⟩ := hmem u hu
      exact ⟨_, rfl⟩
    exact ⟨.ref d, upd H d (.lst (out.map backV)), I.laid (t' := s.toks) kp hd (show ObjOk X.prog X.w _ _ _ (.lst (out.map backV)) from ⟨hzo, out, n, hvb, hn⟩), rfl, g⟩

/-- sorted(d), the keys pairs of whole numbers -/
def rSortedD : List V → Hp → VK → Prop := fun vs H Q => ∃ (d : Addr) (kvs : List (List Key × V)), vs = [V.ref d] ∧ H d = some (.dT kvs) ∧ (∀ p ∈ kvs, ∃ i j : Int, p.1 = [.inl i, .inl j]) ∧
  ∀ (es : List (Addr × Int × Int)) p, (es.map fun e => ([.inl e.2.1, .inl e.2.2] : List Key)).Perm (kvs.map (·.1)) → (∀ e ∈ es, H e.1 = some (.tup [.int e.2.1, .int e.2.2])) → (es.map (·.2)).Pairwise (fun x y => SrtO.lexB y x = false) → H p = none → Q (.ref p) (upd H p (.lst (es.map fun e => V.ref e.1)))
theorem cr_sortedD (hc : X.calm = true) : CallR X (.builtin "sorted") rSortedD := by
  intro pins s σ H vs us Q I r h
  obtain ⟨d, kvs, rfl, hd, hk, q⟩ := h
  obtain ⟨u, rfl, ru⟩ := vals1 r
  obtain rfl : u = Value.ref d := ru
  obtain ⟨z, lo, ks, pr, o, es0, ep, ho, hx, hdt, he, hn⟩ := (show ObjOk X.prog X.w H s.heap d (.dT kvs) from I.hok d _ hd)
  have l1 : es0.size = ks.length := size_of_entries he
  have l2 : kvs.length = ks.length := Paired.length pr
  refine Calls.call_function_entry PyProof.Rows.kind_sorted PyProof.Rows.plain_sorted PyProof.Rows.entry_sorted (PyProof.Rows.args_sorted1 _) ?_; unfold Builtin.«sorted»
  refine wpAny_bind (m := checkCount "sorted" 1 1 _) (wpAny_pure (wpAny_bind (PySem.W.kdu_collect (A := X.A.in1) (kdl_raw lo hx hdt) (I.ok.hd hc) ho (by omega) fun h' tk acc hk' hacc => ?_)))
  -- the collected keys
  have ea : acc.toList = ks.map fun x => Value.ref x.2.1 := by
    have hl : acc.toList.length = ks.length := by rw [Array.length_toList, hacc.1]; exact l1
    refine List.ext_getElem? fun j => ?_
    rw [List.getElem?_map]
    cases hj : acc.toList[j]? with
    | none => rw [List.getElem?_eq_none (by have := List.getElem?_eq_none_iff.mp hj; omega)]; rfl
    | some v =>
      obtain ⟨en, hen, hv⟩ := hacc.2 j v (by rw [← Array.getElem?_toList]; exact hj)
      have qe := entry_at he j
      rw [hen] at qe
      cases hb : ks[j]? with
      | none => rw [hb] at qe; cases qe
      | some b =>
        rw [hb] at qe
        have e2 : en = entryOfKey (tupleKind (mixKind X.prog X.w)) b := Option.some.inj qe
        rw [hv, e2]; rfl
  have pk : ∀ x ∈ ks, ∃ i j : Int, x.1 = [.inl i, .inl j] ∧ H x.2.1 = some (.tup [.int i, .int j]) := by
    have go : ∀ {kvs : List (List Key × V)} {ks : List (List Key × Addr × Value)}, Paired (fun (p : List Key × V) (q : List Key × Addr × Value) => p.1 = q.1 ∧ H q.2.1 = some (.tup (p.1.map kV)) ∧ RelV p.2 q.2.2) kvs ks → (∀ p ∈ kvs, ∃ i j : Int, p.1 = [.inl i, .inl j]) → ∀ x ∈ ks, ∃ i j : Int, x.1 = [.inl i, .inl j] ∧ H x.2.1 = some (.tup [.int i, .int j]) := by
      intro kvs ks pr
      induction pr with
      | nil => intro _ x hx; simp at hx
      | cons a _ ih =>
        intro hk x hx
        rcases List.mem_cons.mp hx with rfl | hx
        · obtain ⟨i, j, e⟩ := hk _ List.mem_cons_self
          refine ⟨i, j, a.1.symm.trans e, ?_⟩
          have := a.2.1
          rw [e] at this
          exact this
        · exact ih (fun p hp => hk p (List.mem_cons_of_mem _ hp)) x hx
    exact go pr hk
  have ek : ks.map (·.1) = kvs.map (·.1) := by
    have go : ∀ {kvs : List (List Key × V)} {ks : List (List Key × Addr × Value)}, Paired (fun (p : List Key × V) (q : List Key × Addr × Value) => p.1 = q.1 ∧ H q.2.1 = some (.tup (p.1.map kV)) ∧ RelV p.2 q.2.2) kvs ks → ks.map (·.1) = kvs.map (·.1) := by
      intro kvs ks pr
      induction pr with
      | nil => rfl
      | cons a _ ih => rw [List.map_cons, List.map_cons, ih, a.1]
    exact go pr
  let kA : Addr → Int × Int := fun b => match H b with
    | some (.tup [.int x, .int y]) => (x, y)
    | _ => (0, 0)
  have kA_eq : ∀ {b : Addr} {i j : Int}, H b = some (.tup [.int i, .int j]) → kA b = (i, j) := fun {b i j} e => by
    show (match H b with
      | some (.tup [.int x, .int y]) => (x, y)
      | _ => (0, 0)) = (i, j)
    rw [e]
  let kW : Value → Int × Int := fun v => match v with
    | .ref b => kA b
    | _ => (0, 0)
  have I1 : Inv X pins σ H { s with heap := h', toks := tk } := I.kept hk'
  have hal : acc.toList.length ≤ sizeLine := by rw [ea, List.length_map]; omega
  refine wpAny_bind (wpAny_newList ?_ hal)
  have hoL : (h'.push (seqObj "list" acc.toList.toArray 0)).get? h'.objs.size = some (seqObj "list" acc.toList.toArray 0) := Heap.get?_push_size _ rfl
  have hpair : ∀ v ∈ acc.toList, Srt.IsPair (h'.push (seqObj "list" acc.toList.toArray 0)) v (kW v).1 (kW v).2 := fun v hv => by
    rw [ea] at hv
    obtain ⟨x, hx', rfl⟩ := List.mem_map.mp hv
    obtain ⟨i, j, _, e⟩ := pk x hx'
    obtain ⟨_, its2, r2, o', ho', hc', n', hd'⟩ := I1.hok _ _ e
    have e2 : kW (Value.ref x.2.1) = (i, j) := kA_eq e
    rw [e2]
    obtain ⟨u1, u2, rfl, ⟨t1, rfl⟩, ⟨t2, rfl⟩⟩ := vals2 r2
    exact ⟨x.2.1, o', t1, t2, n', rfl, Heap.get?_push_of_some _ ho', hc', hd'⟩
  show wpAny _ _ _ _ _ { s with heap := h'.push (seqObj "list" acc.toList.toArray 0), toks := tk }
  refine wpAny_bind (wpAny_holding (wpAny_call_entry PyProof.Rows.slot_list_sort ⟨_, hoL, rfl⟩ PyProof.Rows.entry_list_sort
    (SrtO.list_sort_ord (s := { s with heap := h'.push (seqObj "list" acc.toList.toArray 0), toks := tk }) (SrtO.swo_lex kW) hoL hal (fun h2 => SrtO.pairs_sortableO (by omega) hpair fun o e c => ?_) fun out hs hb => ⟨_, rfl, ?_⟩) (PyProof.Rows.args_list_sort _)))
  · have e' : some o = some (seqObj "list" acc.toList.toArray 0) := e.symm.trans hoL
    cases e'
    exact absurd (Value.type.inj c) (by decide)
  obtain ⟨n, hn2⟩ := PyProof.Rows.sortedHeap_at (vs := acc.toList) (out := out.toArray) hoL
  have h2 := hb.perm
  rw [ea] at h2
  have hmem : ∀ v ∈ out, ∃ x ∈ ks, v = Value.ref x.2.1 := fun v hv => by
    obtain ⟨x, hx', e'⟩ := List.mem_map.mp (h2.mem_iff.mp hv)
    exact ⟨x, hx', e'.symm⟩
  let back : Value → Addr × Int × Int := fun v => match v with
    | .ref b => (b, kA b)
    | _ => (0, (0, 0))
  have g := q (out.map back) h'.objs.size (by
      have z := h2.map fun v => ([.inl (back v).2.1, .inl (back v).2.2] : List Key)
      rw [List.map_map] at z
      have e2 : ks.map ((fun v => ([.inl (back v).2.1, .inl (back v).2.2] : List Key)) ∘ fun x => Value.ref x.2.1) = ks.map (·.1) := by
        refine List.map_congr_left fun x hx' => ?_
        obtain ⟨i, j, e3, e4⟩ := pk x hx'
        show ([.inl (kA x.2.1).1, .inl (kA x.2.1).2] : List Key) = x.1
        rw [kA_eq e4, e3]
      rw [e2, ek] at z
      rw [List.map_map]
      exact z) (fun e he' => by
      obtain ⟨v, hv, rfl⟩ := List.mem_map.mp he'
      obtain ⟨x, hx', rfl⟩ := hmem v hv
      obtain ⟨i, j, e3, e4⟩ := pk x hx'
      show H x.2.1 = some (.tup [.int (kA x.2.1).1, .int (kA x.2.1).2])
      rw [kA_eq e4, e4]) (by
      rw [List.map_map, List.pairwise_map]
      refine hs.imp_of_mem fun {x y} hx' hy' hxy => ?_
      obtain ⟨e1, _, rfl⟩ := hmem x hx'
      obtain ⟨e2, _, rfl⟩ := hmem y hy'
      exact hxy) (I1.hok.fresh (Nat.le_refl _))
  have e3 : (out.map back).map (fun e => V.ref e.1) = out.map backV := by
    rw [List.map_map]
    refine List.map_congr_left fun v hv => ?_
    obtain ⟨e, he', rfl⟩ := hmem v hv
    rfl
  rw [e3] at g
  have hzo : (out.map backV).length ≤ sizeLine := by
    rw [List.length_map, h2.length_eq, List.length_map]; omega
  have hvb : Vals (out.map backV) out := vals_back fun u hu => by
    obtain ⟨e, _, rfl⟩ := hmem u hu
    exact ⟨_, rfl⟩
  refine wpAny_pure ⟨_, rfl, .ref h'.objs.size, upd H h'.objs.size (.lst (out.map backV)), I1.laid (t' := tk) (fun b u e => ?_) (Nat.le_refl _) (show ObjOk X.prog X.w _ _ _ (.lst (out.map backV)) from ⟨hzo, out, n, hvb, hn2⟩), rfl, g⟩
  have hb' : b < h'.objs.size := Heap.lt_size e
  rw [PyProof.Rows.sortedHeap_old (Nat.ne_of_lt hb') (by rw [size_push']; exact Nat.lt_succ_of_lt hb')]; exact Heap.get?_push_of_some _ e

/-- d.pop(k), k a tuple that is there -/
def rPop1 : V → List V → Hp → VK → Prop := fun x xs H Q => ∃ (a : Addr) (kvs : List (List Key × V)) (k : List Key) (b : Addr) (v : V), x = .ref a ∧ xs = [.ref b] ∧ H a = some (.dT kvs) ∧ H b = some (.tup (k.map kV)) ∧ valV kvs k = some v ∧ Q v (upd H a (.dT (dropK kvs k)))
end
section
variable {prog : Program} {w : World} {K : Type} [DecidableEq K] {knd : HeapKind prog w K}
theorem meets_pop1 {d b : Addr} {k : K} (hd : (d == sysModules) = false) :
    MeetsIn prog w (Builtin.«dict.pop» ⟨[.ref d, .ref b], []⟩) (fun A R s => ∃ xs p0, knd.room A.in1 ∧ knd.is s.heap k b ∧ s.heap.DictOfH knd d xs ∧ xs.length ≤ sizeLine ∧ atKey xs k = some p0 ∧
      ∀ p, atKey xs k = some p → ∀ h' tk, h'.DictOfH knd d (DT.dropH xs k) → Heap.SameBut d s.heap h' → R (.ok (.ret p.2)) { s with heap := h', toks := tk }) :=
  .of_wp fun A R s ⟨xs, p0, hu, hkey, hm, hsz, hp0, hsome⟩ => by
    obtain ⟨o, es, ep, ho, hc, hdat, he, his, hn⟩ := id hm
    have hes : es.size = xs.length := size_of_entries he
    have hne : xs ≠ [] := fun z => by rw [z] at hp0; cases hp0
    have hem : es.isEmpty = false := by
      cases q : es.isEmpty with
      | false => rfl
      | true =>
        have z : es.size = 0 := by simpa using q
        exact absurd (List.length_eq_zero_iff.mp (by omega)) hne
    unfold Builtin.«dict.pop»
    refine wpAny_bind ?_; unfold Builtin.Dict.keyAndDefault
    refine wpAny_bind (wpAny_notOrdered_dict hm.typeIs ?_)
    show wpAny _ _ (pure (d, Value.ref b, (none : Option Value))) _ _ s
    refine wpAny_pure ?_
    simp only [show (keyPart (Value.ref b)).isSome = false from rfl, Bool.false_eq_true, if_false]
    refine wpAny_bind (wpAny_dictEntries ho hdat (wpAny_bind (wpAny_pure ?_)))
    simp only [hem, Bool.false_eq_true, if_false]
    refine wpAny_bind (DT.takeH hu hkey hm hsz (fun hno => ?_) fun p e hp hev h' hm' hs' => ?_)
    · rw [hno] at hp0; cases hp0
    · simp only [Option.isNone_some, Bool.false_eq_true, if_false]
      exact wpAny_bind (wpAny_letGo (wpAny_pure ⟨e.val, rfl, by rw [hev]; exact hsome p hp h' _ hm' hs'⟩))
end
section
variable {X : Cx}
theorem mt_pop1T (hu : X.A.units + 1 < cLine) : MtR X "dict.pop" rPop1 := by
  intro pins s σ H x xs v us Q I rx rxs h
  obtain ⟨a, kvs, k, b, v0, rfl, rfl, ha, hb, hv0, q⟩ := h
  cases rx
  obtain ⟨u1, rfl, r1⟩ := vals1 rxs
  cases r1
  obtain ⟨z, hd, xs', rel, dd⟩ := dt_of I.hok ha
  have hz : xs'.length ≤ sizeLine := by rw [← Paired.length rel]; exact z
  have r := rel.val k
  rw [hv0] at r
  obtain ⟨p0, hp0, rv⟩ : ∃ p0, atKey xs' k = some p0 ∧ RelV v0 p0.2 := by
    cases ev : atKey xs' k with
    | none => rw [ev] at r; exact (show False from r).elim
    | some p0 => rw [ev] at r; exact ⟨p0, rfl, r⟩
  refine call_meetsIn PySem.F.slot_dict_pop dd.typeIs PySem.F.entry_dict_pop (PySem.F.args_dict_pop_2 _ _) (meets_pop1 (knd := tupleKind (mixKind X.prog X.w)) (k := k) hd) ⟨xs', p0, tupleKind_room_in1 hu, key_of I.hok hb, dd, hz, hp0, fun p hp h' tk dd' hs => ?_⟩
  rw [hp0] at hp
  cases hp
  obtain ⟨o, es, ep, hq, h2, h3, h4, _, h5⟩ := dd'
  have I2 : Inv X pins σ (upd H a (.dT (dropK kvs k))) { s with heap := h', toks := tk } :=
    d_write I (by rw [ha]; exact True.intro) hs ⟨o, hq⟩ ⟨Nat.le_trans (dropK_le kvs k) z, hd, _, (L2.DX.KT_drop k rel).keeps (fun c ys ec => (by rw [upd_ne (ne_of ec ha (fun z => nomatch z))]; exact ec)), o, es, ep, hq, h2, h3, h4, h5⟩
  show EP X pins σ Q p0.2 _
  exact ⟨v0, _, I2, rv, q⟩
end
/-- a text's signs with their places -/
def Itse (x : Str) : It := ⟨fun i _ => i < x.cps.size, fun i H v H' => ∃ T c, v = .ref T ∧ H T = none ∧ H' = upd H T (.tup [.int (i : Nat), .str ⟨#[c]⟩]) ∧ x.cps[i]? = some c, fun i _ => x.cps.size ≤ i⟩
theorem turn_enumS {P : Program} {w : World} {K : PySem.W.Frag} {elts : List Expr} {kk : Nat} {tpos : Pos} (e it : Addr) (x : Str) (t : Tok) (ty : String) (hty : ty = "str_ascii_iterator" ∨ ty = "str_iterator") :
    Turn P w K (.Tuple elts kk tpos) (Itse x) [e, it] e (fun i h => (∃ old, IsEnum h e it i old) ∧ h.IsStrIter it ty x t i ∧ e ≠ it ∧ i ≤ x.cps.size) where
  mem := by simp
  obj := fun i h st b hb => by
    obtain ⟨⟨old, he⟩, ⟨o, ho, hc, hd⟩, _⟩ := st
    have e' : b = e ∨ b = it := by simpa using hb
    rcases e' with z | z
    · rw [z]; exact ⟨_, he, fun v q => nomatch q⟩
    · rw [z]; exact ⟨o, ho, fun v q => by rw [hd] at q; cases q⟩
  keep := fun i h h' st k => by
    obtain ⟨⟨old, he⟩, ⟨o, ho, r⟩, hne⟩ := st
    exact ⟨⟨old, k e (by simp) _ he⟩, ⟨o, k it (by simp) o ho, r⟩, hne⟩
  item := by
    intro X hP hw hK hc i pins s σ H E I hf st hg
    subst hP hw hK
    obtain ⟨⟨old, he⟩, hit, hne, hi⟩ := st
    have hg' : i < x.cps.size := hg
    have hel : e < s.heap.objs.size := Heap.lt_size he
    have hil : it < s.heap.objs.size := by obtain ⟨_, q, _⟩ := hit; exact Heap.lt_size q
    have D : Draws X.prog X.w X.A.in1 it [it] x.cps.size (fun i v => ∃ c u, x.cps[i]? = some c ∧ v = .str ⟨#[c]⟩ u) (fun i h => h.IsStrIter it ty x t i) := by
      rcases hty with z | z
      · rw [z]; exact Draws.strAscii (A := X.A.in1) (I.ok.hd hc) it x t
      · rw [z]; exact Draws.strWide (A := X.A.in1) (I.ok.hd hc) it x t
    refine wpAny_pyNext_enum_itemD D he hit hg hne (by simpa using hne) fun v h' tk hv ho hit' hT hsz hk => ?_
    obtain ⟨c, u, hcx, rfl⟩ := hv
    refine ⟨_, rfl, wpAny_letOwnedTupleGo_enum (s := { s with heap := h', toks := tk + 1 }) ho fun h'' he' sb => ?_⟩
    have hT2 : h''.get? s.heap.objs.size = some { cls := .type "tuple", data := .seq #[.int i tk, .str ⟨#[c]⟩ u] } := (sb.2 _ (Nat.ne_of_gt hel)).trans hT
    have new : ObjOk X.prog X.w (upd H s.heap.objs.size (.tup [.int (i : Nat), .str ⟨#[c]⟩])) h'' s.heap.objs.size (.tup [.int (i : Nat), .str ⟨#[c]⟩]) :=
      ⟨(by show 2 ≤ sizeLine; decide), [.int i tk, .str ⟨#[c]⟩ u], .cons ⟨_, rfl⟩ (.cons ⟨u, rfl⟩ .nil), ⟨_, hT2, rfl, _, rfl⟩⟩
    have I1 : Inv X pins σ (upd H s.heap.objs.size (.tup [.int (i : Nat), .str ⟨#[c]⟩])) { s with heap := h'', toks := tk + 1 } :=
      I.turnedNew (ch := [e, it]) (fun b ob hb q => (sb.2 b (fun z => hb (by simp [z]))).trans (hk b ob (fun z => hb (by simp [z])) (fun z => hb (by simp [z])) q)) hf (Nat.le_refl _) new
    refine ⟨.ref s.heap.objs.size, _, I1, rfl, ⟨_, c, rfl, I.hok.fresh (Nat.le_refl _), rfl, hcx⟩, ⟨⟨.str ⟨#[c]⟩ u, ?_⟩, (by obtain ⟨o, a, b⟩ := hit'; exact ⟨o, (sb.2 it (Ne.symm hne)).trans a, b⟩), hne, hg'⟩, fun b hb => ?_⟩
    · rw [show ((i + 1 : Nat) : Int) = (i : Int) + 1 by omega]; exact he'
    · have hb' : b < s.heap.objs.size := by
        have z : b = e ∨ b = it := by simpa using hb
        rcases z with z | z
        · rw [z]; exact hel
        · rw [z]; exact hil
      rw [upd_ne (Nat.ne_of_lt hb')]; exact (hf b hb).1
  done := by
    intro X hP hw hK hc i pins s σ H E I hf st hg
    subst hP hw hK
    obtain ⟨⟨old, he⟩, hit, hne, hi⟩ := st
    have hg' : x.cps.size ≤ i := hg
    obtain rfl : i = x.cps.size := by omega
    have D : Draws X.prog X.w X.A.in1 it [it] x.cps.size (fun i v => ∃ c u, x.cps[i]? = some c ∧ v = .str ⟨#[c]⟩ u) (fun i h => h.IsStrIter it ty x t i) := by
      rcases hty with z | z
      · rw [z]; exact Draws.strAscii (A := X.A.in1) (I.ok.hd hc) it x t
      · rw [z]; exact Draws.strWide (A := X.A.in1) (I.ok.hd hc) it x t
    obtain ⟨f0, f1, f2, f3, f4, f5⟩ := hf it (by simp)
    exact wpAny_pyNext_enum_endD D he hit fun h' eb => ⟨rfl, I.turned (t' := s.toks) (fun b o hb q => eb b o hb q) f0 f1 f3 f4 f5⟩
  self := fun A i s Q E st h => by
    obtain ⟨⟨old, he⟩, _, _⟩ := st
    exact wpAny_pyIter_enum he h
def iEnumS (ta : TA) : TI := fun σ H R => ta σ H fun vs H1 => ∃ x, vs = [.str x] ∧ R (Itse x) H1
theorem strIter_ty (x : Str) : strIterType x = "str_ascii_iterator" ∨ strIterType x = "str_iterator" := by
  unfold strIterType
  cases x.cps.all (· < 128)
  · exact .inr rfl
  · exact .inl rfl
theorem pi_enumS {X : Cx} {e : Expr} {ta : TA} {p pos tpos : Pos} {elts : List Expr} {kk : Nat} (hg : Gl X "enumerate") (hm : X.mg "enumerate" = none) (ha : PA X [e] ta) (hs : starEach [e] X.env = [(false, eval e X.env)] := by rfl) :
    PI X (.Tuple elts kk tpos) (.Call (.Name "enumerate" p) [e] [] pos) (iEnumS ta) := by
  refine ⟨fun pins s σ H R I h => Call_ (ld_blt I hg hm boot_enumerate (PyProof.Rows.callWith_type1 (thn (ha.run pos pins s σ H _ I h) fun us s1 ⟨vs, H1, I1, r1, q1⟩ => ?_) hs rfl))⟩
  obtain ⟨x, ex, q⟩ := q1
  subst ex
  cases r1 with
  | cons r rr =>
    cases rr
    obtain ⟨t, rfl⟩ := r
    refine call_enumerate_str fun h' he hit hsz hk => wpAny_pyIter_enum he ?_
    have I2 : Inv X pins σ H1 { s1 with heap := h' } := I1.kept (t' := s1.toks) hk
    refine ⟨s1.heap.objs.size + 1, [s1.heap.objs.size + 1, s1.heap.objs.size], _, _, H1, rfl, I2, turn_enumS (s1.heap.objs.size + 1) s1.heap.objs.size x t (strIterType x) (strIter_ty x), ⟨⟨.none, he⟩, hit, Nat.succ_ne_self _, Nat.zero_le _⟩, fun b hb => ?_, q⟩
    have hle : s1.heap.objs.size ≤ b := by
      have z : b = s1.heap.objs.size + 1 ∨ b = s1.heap.objs.size := by simpa using hb
      rcases z with z | z
      · rw [z]; exact Nat.le_add_right _ _
      · rw [z]; exact Nat.le_refl _
    exact I1.fpOk hle (I1.hok.fresh hle)
theorem walk_enumS {z : Str} : Walk (Itse z) z.cps.size (fun _ => True) (YPair (fun i => some (.int (i : Nat))) (fun i => z.cps[i]?.map fun c => V.str ⟨#[c]⟩)) := by
  refine ⟨fun _ _ hi _ => hi, fun _ _ => Nat.le_refl _, fun i H v H' _ _ y => ?_⟩
  obtain ⟨T, c, h1, h2, h3, h4⟩ := y
  exact ⟨T, .int (i : Nat), .str ⟨#[c]⟩, h1, h2, h3, rfl, by show (z.cps[i]?).map _ = _; rw [h4]; rfl⟩
theorem d_iEnS {ta : TA} {σ : L2.St} {H : Hp} {R : It → Hp → Prop} (h : ta σ H fun vs H1 => ∃ x, vs = [.str x] ∧ R (Itse x) H1) : iEnumS ta σ H R := h
theorem d_iEnSe {C : Str → Prop} {z : Str} (q : C z) : ∃ x, [V.str z] = [.str x] ∧ C x := ⟨z, rfl, q⟩
theorem d_iEn {K : PySem.W.Frag} {ta : TA} {σ : L2.St} {H : Hp} {R : It → Hp → Prop} (h : ta σ H fun vs H1 => ∃ a xs, vs = [.ref a] ∧ SqL K H1 a xs ∧ R (Ite K a) H1) : iEnum K ta σ H R := h
end Cw

namespace Cw
open PySem PySem.Spec PyProof.Rows L2
theorem erase_map {α β : Type} (f : α → β) : ∀ (l : List α) (m : Nat), (l.map f).eraseIdx m = (l.eraseIdx m).map f
  | [], m => by simp
  | _ :: _, 0 => rfl
  | x :: l, m + 1 => by
    show f x :: (l.map f).eraseIdx m = f x :: (l.eraseIdx m).map f
    rw [erase_map f l m]
theorem erase_perm {α : Type} : ∀ (l : List α) (m : Nat) (h : m < l.length), (l[m] :: l.eraseIdx m).Perm l
  | [], m, h => absurd h (Nat.not_lt_zero _)
  | x :: l, 0, _ => List.Perm.refl _
  | x :: l, m + 1, h => by
    have hm : m < l.length := Nat.lt_of_succ_lt_succ h
    have ih := erase_perm l m hm
    exact (List.Perm.swap x l[m] _).trans (ih.cons x)
/-- as many different numbers below n as there are, at most -/
theorem nodup_len : ∀ (n : Nat) (l : List Nat), l.Nodup → (∀ x ∈ l, x < n) → l.length ≤ n
  | 0, l, _, h => by
    cases l with
    | nil => exact Nat.le_refl _
    | cons x r => exact absurd (h x List.mem_cons_self) (Nat.not_lt_zero _)
  | n + 1, l, hn, h => by
    by_cases hm : n ∈ l
    · have ih := nodup_len n (l.erase n) (hn.erase n) fun x hx => by
        have h1 := h x (List.mem_of_mem_erase hx)
        have h2 : x ≠ n := fun z => by
          subst z
          exact absurd hx (List.Nodup.not_mem_erase hn)
        omega
      rw [List.length_erase_of_mem hm] at ih
      omega
    · have ih := nodup_len n l hn fun x hx => by
        have h1 := h x hx
        have h2 : x ≠ n := fun z => hm (z ▸ hx)
        omega
      omega
/-! ### places called otherwise -/
def qa (qs : List Nat) (p : Nat) : Nat := qs.getD p 0
def mapTie (qs : List Nat) (t : Tie) : Tie := (min (qa qs t.1) (qa qs t.2.1), max (qa qs t.1) (qa qs t.2.1), t.2.2)
theorem qa_at {qs : List Nat} {p : Nat} (h : p < qs.length) : qs[p]? = some (qa qs p) := by
  unfold qa
  rw [List.getD_eq_getElem?_getD, List.getElem?_eq_getElem h]; rfl
structure Ord (qs : List Nat) (n : Nat) : Prop where
  len : qs.length = n
  nd : qs.Nodup
  lt : ∀ q ∈ qs, q < n
  all : ∀ j, j < n → j ∈ qs
theorem Ord.of {qs : List Nat} {n : Nat} (p : qs.Perm (List.range n)) : Ord qs n :=
  ⟨by rw [p.length_eq, List.length_range], p.nodup_iff.mpr List.nodup_range, fun q hq => List.mem_range.mp (p.mem_iff.mp hq), fun j hj => p.mem_iff.mpr (List.mem_range.mpr hj)⟩
theorem Ord.inj {qs : List Nat} {n p r : Nat} (o : Ord qs n) (hp : p < n) (hr : r < n) (h : qa qs p = qa qs r) : p = r := by
  have h1 : p < qs.length := by rw [o.len]; exact hp
  have h2 : r < qs.length := by rw [o.len]; exact hr
  have e1 := qa_at h1
  have e2 := qa_at h2
  rw [List.getElem?_eq_getElem h1] at e1
  rw [List.getElem?_eq_getElem h2] at e2
  exact (List.getElem_inj o.nd).mp ((Option.some.inj e1).trans (h.trans (Option.some.inj e2).symm))
theorem Ord.lt' {qs : List Nat} {n p : Nat} (o : Ord qs n) (hp : p < n) : qa qs p < n := o.lt _ (List.mem_of_getElem? (qa_at (by rw [o.len]; exact hp)))
theorem Ord.onto {qs : List Nat} {n j : Nat} (o : Ord qs n) (hj : j < n) : ∃ p, p < n ∧ qa qs p = j := by
  obtain ⟨p, hp⟩ := List.mem_iff_getElem?.mp (o.all j hj)
  have h1 : p < qs.length := (List.getElem?_eq_some_iff.mp hp).1
  rw [qa_at h1] at hp
  exact ⟨p, by rw [← o.len]; exact h1, Option.some.inj hp⟩
def ends (t : Tie) : Nat × Nat := (t.1, t.2.1)
structure Named (w : Web) (qs : List Nat) (w' : Web) : Prop where
  len : w'.1.length = w.1.length
  kinds : ∀ p, p < w.1.length → w'.1[qa qs p]? = w.1[p]?
  ties : w'.2.Perm (w.2.map (mapTie qs))
theorem mapTie_ends {w : Web} {qs : List Nat} (W : WOk w) (o : Ord qs w.1.length) : (w.2.map (mapTie qs)).Pairwise (fun x y => ends x ≠ ends y) := by
  rw [List.pairwise_map]
  refine List.Pairwise.imp_of_mem (fun {t u} ht hu lt e => ?_) W.rise
  have r1 := W.ends t ht
  have r2 := W.ends u hu
  unfold ends mapTie at e
  simp only [Prod.mk.injEq] at e
  obtain ⟨e1, e2⟩ := e
  by_cases c : qa qs t.1 = qa qs u.1
  · have a := o.inj (by omega) (by omega) c
    have c2 : qa qs t.2.1 = qa qs u.2.1 := by omega
    have b := o.inj (by omega) (by omega) c2
    rcases lt with z | ⟨_, z⟩ <;> omega
  · have c1 : qa qs t.1 = qa qs u.2.1 := by omega
    have c2 : qa qs t.2.1 = qa qs u.1 := by omega
    have a := o.inj (by omega) (by omega) c1
    have b := o.inj (by omega) (by omega) c2
    omega
/-- sorted ties of different ends rise -/
theorem rise_of {ts : List Tie} (s : ts.Pairwise (fun x y => lexT ((y.1 : Int), (y.2.1 : Int), y.2.2) ((x.1 : Int), (x.2.1 : Int), x.2.2) = false)) (d : ts.Pairwise (fun x y => ends x ≠ ends y)) : ts.Pairwise tlt := by
  refine (s.and d).imp fun {x y} h => ?_
  obtain ⟨h1, h2⟩ := h
  have a := lexT_no.mp h1
  unfold ends at h2
  simp only [ne_eq, Prod.mk.injEq, not_and] at h2
  dsimp only at a
  unfold tlt
  by_cases c : x.1 = y.1
  · have := h2 c
    right
    omega
  · left
    omega
theorem named_ok {w w' : Web} {qs : List Nat} (W : WOk w) (o : Ord qs w.1.length) (N : Named w qs w') (s : w'.2.Pairwise (fun x y => lexT ((y.1 : Int), (y.2.1 : Int), y.2.2) ((x.1 : Int), (x.2.1 : Int), x.2.2) = false)) : WOk w' := by
  refine ⟨by rw [N.len]; exact W.few, by rw [N.ties.length_eq, List.length_map]; exact W.most, fun c hc => ?_, rise_of s ?_, fun t ht => ?_⟩
  · obtain ⟨j, hj⟩ := List.mem_iff_getElem?.mp hc
    have hj' : j < w.1.length := by rw [← N.len]; exact (List.getElem?_eq_some_iff.mp hj).1
    obtain ⟨p, hp, rfl⟩ := o.onto hj'
    rw [N.kinds p hp] at hj
    exact W.kinds c (List.mem_of_getElem? hj)
  · exact (List.Perm.pairwise_iff (fun {x y} h => h.symm) N.ties).mpr (mapTie_ends W o)
  · obtain ⟨u, hu, rfl⟩ := List.mem_map.mp (N.ties.mem_iff.mp ht)
    have r := W.ends u hu
    have a := o.lt' (p := u.1) (by omega)
    have b := o.lt' (p := u.2.1) (by omega)
    have n : qa qs u.1 ≠ qa qs u.2.1 := fun z => by
      have := o.inj (by omega) (by omega) z
      omega
    refine ⟨?_, ?_, r.2.2⟩
    · show min _ _ < max _ _; omega
    · show max _ _ < w'.1.length; rw [N.len]; omega
theorem flat_rep (n : Nat) (x : V) : (List.replicate n [x]).flatten = List.replicate n x := by
  induction n with
  | zero => rfl
  | succ n ih => rw [List.replicate_succ, List.flatten_cons, ih, List.replicate_succ]; rfl
end Cw

namespace Cw
open PySem PySem.Spec PyProof.Rows L2
/-! ### a dict of ties by their ends -/
def kE (a b : Int) : List Key := [.inl a, .inl b]
structure DictOk (n : Nat) (kvs : List (List Key × V)) : Prop where
  nd : (kvs.map (·.1)).Nodup
  ok : ∀ p ∈ kvs, ∃ a b c : Nat, p = (kE a b, V.str (sg c)) ∧ a < b ∧ b < n ∧ Ltr c
theorem DictOk.nil (n : Nat) : DictOk n [] := ⟨List.nodup_nil, fun p hp => by simp at hp⟩
theorem valV_mem {kvs : List (List Key × V)} {k : List Key} {v : V} (h : valV kvs k = some v) : (k, v) ∈ kvs := by
  unfold valV at h
  obtain ⟨p, hp, rfl⟩ := Option.map_eq_some_iff.mp h
  have h1 := List.find?_some hp
  have h2 := List.mem_of_find?_eq_some hp
  have e : p.1 = k := of_decide_eq_true h1
  subst e
  exact h2
theorem DictOk.at {n : Nat} {kvs : List (List Key × V)} (d : DictOk n kvs) {k : List Key} {v : V} (h : valV kvs k = some v) : ∃ a b c : Nat, k = kE a b ∧ v = V.str (sg c) ∧ a < b ∧ b < n ∧ Ltr c := by
  obtain ⟨a, b, c, e, r⟩ := d.ok _ (valV_mem h)
  cases e
  exact ⟨a, b, c, rfl, rfl, r⟩
theorem DictOk.put {n : Nat} {kvs : List (List Key × V)} (d : DictOk n kvs) {a b c : Nat} (h1 : a < b) (h2 : b < n) (h3 : Ltr c) : DictOk n (putK kvs (kE a b) (.str (sg c))) := by
  unfold putK
  by_cases h : (kvs.any fun kv => decide (kv.1 = kE a b)) = true
  · rw [if_pos h]
    refine ⟨?_, fun p hp => ?_⟩
    · rw [List.map_map]
      have e : kvs.map ((·.1) ∘ fun kv => if kv.1 = kE a b then (kv.1, V.str (sg c)) else kv) = kvs.map (·.1) := by
        refine List.map_congr_left fun x _ => ?_
        show (if x.1 = kE a b then (x.1, V.str (sg c)) else x).1 = x.1
        split <;> rfl
      rw [e]
      exact d.nd
    · obtain ⟨x, hx, rfl⟩ := List.mem_map.mp hp
      by_cases e : x.1 = kE a b
      · rw [if_pos e, e]
        exact ⟨a, b, c, rfl, h1, h2, h3⟩
      · rw [if_neg e]
        exact d.ok x hx
  · rw [if_neg h]
    have hno : kE a b ∉ kvs.map (·.1) := fun hm => by
      obtain ⟨x, hx, e⟩ := List.mem_map.mp hm
      exact h (List.any_eq_true.mpr ⟨x, hx, decide_eq_true e⟩)
    refine ⟨?_, fun p hp => ?_⟩
    · rw [List.map_append]
      exact List.nodup_append.mpr ⟨d.nd, by simp, fun x hx y hy => by rw [List.mem_singleton.mp hy]; intro z; exact hno (by rw [← (show x = kE a b from z)]; exact hx)⟩
    · rcases List.mem_append.mp hp with hp | hp
      · exact d.ok p hp
      · rw [List.mem_singleton.mp hp]
        exact ⟨a, b, c, rfl, h1, h2, h3⟩
theorem DictOk.drop {n : Nat} {kvs : List (List Key × V)} (d : DictOk n kvs) (k : List Key) : DictOk n (dropK kvs k) :=
  ⟨d.nd.sublist ((List.filter_sublist).map _), fun p hp => d.ok p (List.mem_filter.mp hp).1⟩
theorem valV_drop {kvs : List (List Key × V)} {k j : List Key} (h : j ≠ k) : valV (dropK kvs k) j = valV kvs j := by
  unfold valV dropK
  congr 1
  induction kvs with
  | nil => rfl
  | cons x kvs ih =>
    by_cases e : x.1 = k
    · have e2 : ¬ x.1 = j := fun z => h (z.symm.trans e)
      rw [List.filter_cons_of_neg (by simp [e]), List.find?_cons_of_neg (by simp [e2])]
      exact ih
    · rw [List.filter_cons_of_pos (by simp [e])]
      by_cases e2 : x.1 = j
      · rw [List.find?_cons_of_pos (by simp [e2]), List.find?_cons_of_pos (by simp [e2])]
      · rw [List.find?_cons_of_neg (by simp [e2]), List.find?_cons_of_neg (by simp [e2])]
        exact ih
theorem DictOk.has {n : Nat} {kvs : List (List Key × V)} {k : List Key} (d : DictOk n kvs) (h : k ∈ kvs.map (·.1)) : ∃ v, valV kvs k = some v := by
  obtain ⟨x, hx, rfl⟩ := List.mem_map.mp h
  cases e : valV kvs x.1 with
  | some v => exact ⟨v, rfl⟩
  | none => exact absurd (List.mem_map.mpr ⟨x, hx, rfl⟩) (valV_not e)
theorem DictOk.len {n : Nat} {kvs : List (List Key × V)} (d : DictOk n kvs) (hn : n ≤ 40) : kvs.length ≤ 1600 := by
  let code : List Key × V → Nat := fun p => match p.1 with
    | [.inl a, .inl b] => a.toNat * 40 + b.toNat
    | _ => 0
  have hc : ∀ p ∈ kvs, ∃ a b : Nat, p.1 = kE a b ∧ code p = a * 40 + b ∧ a < 40 ∧ b < 40 := fun p hp => by
    obtain ⟨a, b, c, rfl, h1, h2, _⟩ := d.ok p hp
    exact ⟨a, b, rfl, rfl, by omega, by omega⟩
  have l := nodup_len 1600 (kvs.map code) (by
    have z := d.nd
    unfold List.Nodup at z ⊢
    rw [List.pairwise_map] at z ⊢
    refine List.Pairwise.imp_of_mem (fun {x y} hx hy hne e => ?_) z
    obtain ⟨a, b, e1, e2, b1, b2⟩ := hc x hx
    obtain ⟨a', b', e1', e2', b1', b2'⟩ := hc y hy
    rw [e2, e2'] at e
    have : a = a' ∧ b = b' := by omega
    rw [e1, e1', this.1, this.2] at hne
    exact hne rfl) (fun x hx => by
    obtain ⟨p, hp, rfl⟩ := List.mem_map.mp hx
    obtain ⟨a, b, _, e2, b1, b2⟩ := hc p hp
    rw [e2]; omega)
  rw [List.length_map] at l
  exact l
theorem DictOk.pairs {n : Nat} {kvs : List (List Key × V)} (d : DictOk n kvs) : ∀ p ∈ kvs, ∃ i j : Int, p.1 = [.inl i, .inl j] := fun p hp => by
  obtain ⟨a, b, c, rfl, _⟩ := d.ok p hp
  exact ⟨a, b, rfl⟩
/-- the web's other, in the making -/
def OI (h d : Addr) (H3 : Hp) (N : Nat) (kvs : List (List Key × V)) (H' : Hp) : Prop := H' d = some (.dT kvs) ∧ Keep h H3 H' ∧ Hand H' h ∧ DictOk N kvs
section
variable {h d p : Addr} {H3 H' H'' : Hp} {N : Nat} {kvs : List (List Key × V)} {o : HO}
theorem OI.new (x : OI h d H3 N kvs H') (f : H' p = none) : OI h d H3 N kvs (upd H' p o) := by
  obtain ⟨e, k, hh, dk⟩ := x
  exact ⟨at_upd e f, Keep.new k (Keep.free k (hh.ne f) f), hh.put (hh.ne f), dk⟩
theorem OI.draw (x : OI h d H3 N kvs H') (k' : Keep h H' H'') (hh' : Hand H'' h) : OI h d H3 N kvs H'' := by
  obtain ⟨e, k, hh, dk⟩ := x
  obtain ⟨_, _, eh, _⟩ := hh
  exact ⟨k' d _ (ne_of e eh (by intro z; cases z)) e, Keep.trans k k', hh', dk⟩
theorem OI.same (x : OI h d H3 N kvs H') (s : Same H' H'') : OI h d H3 N kvs H'' := x.draw (Same.keep s) (x.2.2.1.same s)
theorem OI.set (x : OI h d H3 N kvs H') (f : H3 d = none) {kvs' : List (List Key × V)} (dk' : DictOk N kvs') : OI h d H3 N kvs' (upd H' d (.dT kvs')) := by
  obtain ⟨e, k, hh, dk⟩ := x
  obtain ⟨_, _, eh, _⟩ := id hh
  exact ⟨upd_same, Keep.new k f, hh.put (ne_of e eh (by intro z; cases z)), dk'⟩
end
theorem putK_keys {kvs : List (List Key × V)} {k j : List Key} {v : V} (h : j ∈ kvs.map (·.1)) : j ∈ (putK kvs k v).map (·.1) := by
  obtain ⟨x, hx, rfl⟩ := List.mem_map.mp h
  unfold putK
  split
  · refine List.mem_map.mpr ⟨_, List.mem_map.mpr ⟨x, hx, rfl⟩, ?_⟩
    split <;> rfl
  · exact List.mem_map.mpr ⟨x, List.mem_append_left _ hx, rfl⟩
theorem dropK_keys {kvs : List (List Key × V)} {k j : List Key} (h : j ∈ kvs.map (·.1)) (n : j ≠ k) : j ∈ (dropK kvs k).map (·.1) := by
  obtain ⟨x, hx, rfl⟩ := List.mem_map.mp h
  exact List.mem_map.mpr ⟨x, List.mem_filter.mpr ⟨hx, decide_eq_true n⟩, rfl⟩
/-- the web's other, its keys being gone through -/
def OL (h d : Addr) (H3 : Hp) (N : Nat) (p : Addr) (es : List (Addr × Int × Int)) (i : Nat) (kvs : List (List Key × V)) (H' : Hp) : Prop :=
  OI h d H3 N kvs H' ∧ H' p = some (.lst (es.map fun e => V.ref e.1)) ∧ p ≠ h ∧ (∀ e ∈ es, H' e.1 = some (.tup [.int e.2.1, .int e.2.2])) ∧ (∀ j e, i ≤ j → es[j]? = some e → kE e.2.1 e.2.2 ∈ kvs.map (·.1)) ∧ (es.map fun e => kE e.2.1 e.2.2).Nodup
section
variable {h d p b : Addr} {H3 H' H'' : Hp} {N i : Nat} {kvs : List (List Key × V)} {o : HO} {es : List (Addr × Int × Int)}
theorem OL.start (x : OI h d H3 N kvs H') (f : H' p = none) (pm : (es.map fun e => kE e.2.1 e.2.2).Perm (kvs.map (·.1))) (he : ∀ e ∈ es, H' e.1 = some (.tup [.int e.2.1, .int e.2.2])) : OL h d H3 N p es 0 kvs (upd H' p (.lst (es.map fun e => V.ref e.1))) :=
  ⟨x.new f, upd_same, x.2.2.1.ne f, fun e h => at_upd (he e h) f, fun j e _ h => pm.mem_iff.mp (List.mem_map.mpr ⟨e, List.mem_of_getElem? h, rfl⟩), pm.nodup_iff.mpr x.2.2.2.nd⟩
theorem OL.next (x : OL h d H3 N p es i kvs H') : OL h d H3 N p es (i + 1) kvs H' := ⟨x.1, x.2.1, x.2.2.1, x.2.2.2.1, fun j e hj => x.2.2.2.2.1 j e (by omega), x.2.2.2.2.2⟩
theorem OL.new (x : OL h d H3 N p es i kvs H') (f : H' b = none) : OL h d H3 N p es i kvs (upd H' b o) := ⟨x.1.new f, at_upd x.2.1 f, x.2.2.1, fun e h => at_upd (x.2.2.2.1 e h) f, x.2.2.2.2⟩
theorem OL.list (x : OL h d H3 N p es i kvs H') {ys ys' : List V} (e : H' b = some (.lst ys)) (np : b ≠ p) (nh : b ≠ h) (f : H3 b = none) : OL h d H3 N p es i kvs (upd H' b (.lst ys')) := by
  obtain ⟨⟨ed, k, hh, dk⟩, ep, n, he, r⟩ := x
  exact ⟨⟨by rw [upd_ne (ne_of ed e (by intro z; cases z))]; exact ed, Keep.new k f, hh.put nh, dk⟩, by rw [upd_ne np.symm]; exact ep, n, fun t h => by rw [upd_ne (ne_of (he t h) e (by intro z; cases z))]; exact he t h, r⟩
theorem OL.draw (x : OL h d H3 N p es i kvs H') (k' : Keep h H' H'') (hh' : Hand H'' h) : OL h d H3 N p es i kvs H'' := by
  obtain ⟨O, ep, np, he, r⟩ := x
  obtain ⟨_, _, eh, _⟩ := id O.2.2.1
  exact ⟨O.draw k' hh', k' p _ np ep, np, fun e h => k' _ _ (ne_of (he e h) eh (by intro z; cases z)) (he e h), r⟩
theorem OL.set (x : OL h d H3 N p es i kvs H') (f : H3 d = none) {c c2 t : Nat} (h1 : c < c2) (h2 : c2 < N) (h3 : Ltr t) : OL h d H3 N p es i (putK kvs (kE c c2) (.str (sg t))) (upd H' d (.dT (putK kvs (kE c c2) (.str (sg t))))) := by
  obtain ⟨O, ep, np, he, hk, nd⟩ := x
  exact ⟨O.set f (O.2.2.2.put h1 h2 h3), by rw [upd_ne (ne_of ep O.1 (by intro z; cases z))]; exact ep, np, fun e h => by rw [upd_ne (ne_of (he e h) O.1 (by intro z; cases z))]; exact he e h, fun j e hj h => putK_keys (hk j e hj h), nd⟩
theorem OL.pop (x : OL h d H3 N p es i kvs H') (f : H3 d = none) {e : Addr × Int × Int} (h0 : es[i]? = some e) : OL h d H3 N p es (i + 1) (dropK kvs (kE e.2.1 e.2.2)) (upd H' d (.dT (dropK kvs (kE e.2.1 e.2.2)))) := by
  obtain ⟨O, ep, np, he, hk, nd⟩ := x
  refine ⟨O.set f (O.2.2.2.drop _), by rw [upd_ne (ne_of ep O.1 (by intro z; cases z))]; exact ep, np, fun e h => by rw [upd_ne (ne_of (he e h) O.1 (by intro z; cases z))]; exact he e h, fun j e' hj h => dropK_keys (hk j e' (by omega) h) fun z => ?_, nd⟩
  have li : i < es.length := (List.getElem?_eq_some_iff.mp h0).1
  have lj : j < es.length := (List.getElem?_eq_some_iff.mp h).1
  have e1 := (List.getElem?_eq_some_iff.mp h0).2
  have e2 := (List.getElem?_eq_some_iff.mp h).2
  have ne := List.pairwise_iff_getElem.mp nd i j (by rw [List.length_map]; exact li) (by rw [List.length_map]; exact lj) (by omega)
  simp only [List.getElem_map, e1, e2] at ne
  exact ne z.symm
end
theorem valV_mem' {kvs : List (List Key × V)} {n : Nat} (d : DictOk n kvs) {k : List Key} (h : k ∈ kvs.map (·.1)) : ∃ a b c : Nat, k = kE a b ∧ valV kvs k = some (V.str (sg c)) ∧ a < b ∧ b < n ∧ Ltr c := by
  obtain ⟨v, e⟩ := d.has h
  obtain ⟨a, b, c, e1, rfl, r⟩ := d.at e
  exact ⟨a, b, c, e1, e, r⟩
theorem kE_inj {a b c d : Int} (h : kE a b = kE c d) : a = c ∧ b = d := by
  unfold kE at h
  injection h with h1 h2
  injection h1 with h1
  injection h2 with h2
  injection h2 with h2
  exact ⟨h1, h2⟩
theorem rise_keys {es : List (Addr × Int × Int)} {ts : List Tie} (e : ts.map (fun t => ((t.1 : Int), (t.2.1 : Int))) = es.map (·.2)) (nd : (es.map fun e => kE e.2.1 e.2.2).Nodup)
    (s : (es.map (·.2)).Pairwise (fun x y => SrtO.lexB y x = false)) : ts.Pairwise tlt := by
  rw [← e, List.pairwise_map] at s
  have e2 : (es.map fun e => kE e.2.1 e.2.2) = ts.map fun t => kE t.1 t.2.1 := by
    have z := congrArg (List.map fun q : Int × Int => kE q.1 q.2) e
    rw [List.map_map, List.map_map] at z
    exact z.symm
  rw [e2] at nd
  have nd' := List.pairwise_map.mp nd
  refine (List.Pairwise.and s nd').imp fun {x y} ⟨h1, h2⟩ => ?_
  have h3 : ¬ ((y.1 : Int) < x.1 ∨ ((y.1 : Int) = x.1 ∧ (y.2.1 : Int) < x.2.1)) := fun z => by
    rw [← SrtO.lexB_iff (p := ((y.1 : Int), (y.2.1 : Int))) (q := ((x.1 : Int), (x.2.1 : Int)))] at z
    rw [z] at h1; cases h1
  have h4 : ¬ (x.1 = y.1 ∧ x.2.1 = y.2.1) := fun z => h2 (by rw [z.1, z.2])
  unfold tlt
  omega
/-- names that lead each place of the one to a like place of the other -/
structure NamesOk (w w' : Web) (ns : List Nat) : Prop where
  len : ns.length = w.1.length
  nd : ns.Nodup
  like : ∀ p q : Nat, ns[p]? = some q → q < w'.1.length ∧ w'.1[q]? = w.1[p]?
theorem cut_take (xs : List V) (n : Nat) (h : n ≤ xs.length) : cutV xs none (some (n : Nat)) = xs.take n := by
  unfold cutV
  have e : HT.sIx xs.length xs.length (some ((n : Nat) : Int)) = min n xs.length := HT.sIx_nat xs.length xs.length n
  rw [HT.sIx_none, e, List.drop_zero, Nat.sub_zero, Nat.min_eq_left h]
end Cw

namespace Cw
open PySem PySem.Spec PyProof.Rows L2
/-! ### leads -/
abbrev Lead := List (Nat × Nat)
structure LOk (w w' : Web) (ld : Lead) : Prop where
  rise : ld.Pairwise (fun x y => x.1 < y.1)
  ends : (ld.map (·.2)).Nodup
  like : ∀ p ∈ ld, p.1 < w.1.length ∧ p.2 < w'.1.length ∧ w'.1[p.2]? = w.1[p.1]?
def PairAt (K : PySem.W.Frag) (H : Hp) (v : V) (p : Nat × Nat) : Prop := ∃ a, v = .ref a ∧ SqT K H a [.int (p.1 : Nat), .int (p.2 : Nat)]
theorem PairAt.same {K : PySem.W.Frag} {H H' : Hp} {v : V} {p : Nat × Nat} (x : PairAt K H v p) (s : Same H H') : PairAt K H' v p := by
  obtain ⟨a, e, q⟩ := x
  exact ⟨a, e, Same.sqt s q⟩
theorem PairAt.keep {K : PySem.W.Frag} {H H' : Hp} {v : V} {p : Nat × Nat} {h : Addr} {ys : List V} (x : PairAt K H v p) (k : Keep h H H') (e : H h = some (.lst ys)) : PairAt K H' v p := by
  obtain ⟨a, e', q⟩ := x
  exact ⟨a, e', k.sqt e q⟩
theorem PairAt.put {K : PySem.W.Frag} {H : Hp} {v : V} {p : Nat × Nat} {b : Addr} {o : HO} (x : PairAt K H v p) (n : H b = none ∨ ∃ ys, H b = some (.lst ys)) : PairAt K (upd H b o) v p := by
  obtain ⟨a, e, q⟩ := x
  exact ⟨a, e, sqt_upd n q⟩
def Pairs (K : PySem.W.Frag) (H : Hp) (pvs : List V) (ld : Lead) : Prop := Paired (PairAt K H) pvs ld
section
variable {K : PySem.W.Frag} {H H' : Hp} {pvs : List V} {ld : Lead} {h b : Addr} {ys : List V} {o : HO}
theorem Pairs.same (x : Pairs K H pvs ld) (s : Same H H') : Pairs K H' pvs ld := Paired.imp x fun _ _ z => z.same s
theorem Pairs.keep (x : Pairs K H pvs ld) (k : Keep h H H') (e : H h = some (.lst ys)) : Pairs K H' pvs ld := Paired.imp x fun _ _ z => z.keep k e
theorem Pairs.put (x : Pairs K H pvs ld) (n : H b = none ∨ ∃ ys, H b = some (.lst ys)) : Pairs K (upd H b o) pvs ld := Paired.imp x fun _ _ z => z.put n
/-- one more pair, at a new place, and the list itself -/
theorem Pairs.more {p q : Nat} {l : Addr} {zs : List V} (x : Pairs K H pvs ld) (e : H l = some (.lst ys)) (f : H b = none) : Pairs K (upd (upd H b (.tup [.int (p : Nat), .int (q : Nat)])) l (.lst zs)) (pvs ++ [.ref b]) (ld ++ [(p, q)]) := by
  have el : (upd H b (.tup [.int (p : Nat), .int (q : Nat)])) l = some (.lst ys) := at_upd e f
  exact Paired.snoc ((x.put (.inl f)).put (.inr ⟨_, el⟩)) ⟨b, rfl, sqt_upd (.inr ⟨_, el⟩) (SqT.of upd_same)⟩
theorem Pairs.len (x : Pairs K H pvs ld) : pvs.length = ld.length := Paired.length x
end
theorem LOk.few {w w' : Web} {ld : Lead} (l : LOk w w' ld) : ld.length ≤ w'.1.length := by
  have := nodup_len w'.1.length (ld.map (·.2)) l.ends fun x hx => by
    obtain ⟨p, hp, rfl⟩ := List.mem_map.mp hx
    exact (l.like p hp).2.1
  rwa [List.length_map] at this
theorem eqv_nil (ds : List PyData) : PyData.eqv (.list ds) (.list []) = ds.isEmpty := by
  cases ds <;> simp [PyData.eqv, PyData.eqvAll]
theorem erase_zs (ls : List Nat) (j : Nat) : (zs ls).eraseIdx j = zs (ls.eraseIdx j) := erase_map _ _ _
theorem zs_at {ls : List Nat} {j x : Nat} : (zs ls)[j]? = some (x : Int) ↔ ls[j]? = some x := by
  unfold zs
  rw [List.getElem?_map, Option.map_eq_some_iff]
  constructor
  · rintro ⟨a, ha, e⟩
    rw [ha]; congr 1; omega
  · intro h
    exact ⟨x, h, rfl⟩
theorem nodup_at {ls : List Nat} (nd : ls.Nodup) {i j x : Nat} (h1 : ls[i]? = some x) (h2 : ls[j]? = some x) : i = j := by
  obtain ⟨l1, e1⟩ := List.getElem?_eq_some_iff.mp h1
  obtain ⟨l2, e2⟩ := List.getElem?_eq_some_iff.mp h2
  rcases Nat.lt_trichotomy i j with z | z | z
  · exact absurd (e1.trans e2.symm) (List.pairwise_iff_getElem.mp nd i j l1 l2 z)
  · exact z
  · exact absurd (e2.trans e1.symm) (List.pairwise_iff_getElem.mp nd j i l2 l1 z)
theorem nodup_erase {ls : List Nat} (nd : ls.Nodup) {j x : Nat} (h : ls[j]? = some x) : ∀ y, y ∈ ls.eraseIdx j ↔ y ∈ ls ∧ y ≠ x := by
  intro y
  obtain ⟨l1, e1⟩ := List.getElem?_eq_some_iff.mp h
  have p := erase_perm ls j l1
  rw [e1] at p
  have nd2 := p.nodup_iff.mpr nd
  rw [List.nodup_cons] at nd2
  have m := p.mem_iff (a := y)
  rw [List.mem_cons] at m
  constructor
  · intro hy
    exact ⟨m.mp (.inr hy), fun z => nd2.1 (z ▸ hy)⟩
  · rintro ⟨hy, ne⟩
    rcases m.mpr hy with z | z
    · exact absurd z ne
    · exact z
/-! ### led ties -/
def ldAt (ld : Lead) (p : Nat) : Option Nat := (ld.find? fun q => q.1 == p).map (·.2)
def isLed (w' : Web) (ld : Lead) (t : Tie) : Bool := match ldAt ld t.1, ldAt ld t.2.1 with
  | some a, some b => decide (tieL w'.2 a b = some t.2.2)
  | _, _ => false
def dueL (w w' : Web) (ld : Lead) : List Tie := w.2.filter (isLed w' ld)
theorem ldAt_nil (p : Nat) : ldAt [] p = none := rfl
theorem ldAt_pos {x : Nat × Nat} {r : Lead} {p : Nat} (e : x.1 = p) : ldAt (x :: r) p = some x.2 := by
  unfold ldAt; rw [List.find?_cons_of_pos (by simp [e])]; rfl
theorem ldAt_neg {x : Nat × Nat} {r : Lead} {p : Nat} (e : x.1 ≠ p) : ldAt (x :: r) p = ldAt r p := by
  unfold ldAt; rw [List.find?_cons_of_neg (by simp [e])]
theorem ldAt_none {ld : Lead} {p : Nat} (h : ∀ q ∈ ld, q.1 ≠ p) : ldAt ld p = none := by
  unfold ldAt
  rw [List.find?_eq_none.mpr fun q hq => by simp [h q hq]]; rfl
theorem filt_at (p : Nat) : ∀ ld : Lead, ld.Pairwise (fun x y => x.1 < y.1) → (ld.filter fun q => q.1 == p).map (·.2) = (ldAt ld p).toList
  | [], _ => rfl
  | x :: r, s => by
    obtain ⟨h, t⟩ := List.pairwise_cons.mp s
    by_cases e : x.1 = p
    · rw [ldAt_pos e, List.filter_cons_of_pos (by simp [e]), List.map_cons, filt_at p r t, ldAt_none fun q hq => by have := h q hq; omega]; rfl
    · rw [ldAt_neg e, List.filter_cons_of_neg (by simp [e])]; exact filt_at p r t
theorem ldAt_mem {ld : Lead} {p q : Nat} (h : ldAt ld p = some q) : (p, q) ∈ ld := by
  unfold ldAt at h
  obtain ⟨x, hx, rfl⟩ := Option.map_eq_some_iff.mp h
  have e : x.1 = p := by simpa using List.find?_some hx
  subst e
  exact List.mem_of_find?_eq_some hx
theorem led_merge (k : Nat) : ∀ (ld : Lead) (acc : List (Key × V)), ld.Pairwise (fun x y => x.1 < y.1) → valV (mergeK acc (ld.map fun p => ((.inl (p.1 : Int) : Key), V.int (p.2 : Nat)))) (.inl (k : Int)) = ((ldAt ld k).map fun q => V.int (q : Nat)).or (valV acc (.inl (k : Int)))
  | [], acc, _ => rfl
  | x :: r, acc, s => by
    obtain ⟨h, t⟩ := List.pairwise_cons.mp s
    show valV (mergeK (putK acc (.inl (x.1 : Int)) (V.int (x.2 : Nat))) (r.map _)) _ = _
    rw [led_merge k r _ t, valV_put]
    by_cases e : x.1 = k
    · rw [ldAt_pos e, ldAt_none fun q hq => by have := h q hq; omega, e, if_pos rfl]; rfl
    · rw [ldAt_neg e, if_neg (by intro z; injection z with z; omega)]
theorem led_dict (ld : Lead) (s : ld.Pairwise (fun x y => x.1 < y.1)) (k : Nat) : valV (mergeK [] (ld.map fun p => ((.inl (p.1 : Int) : Key), V.int (p.2 : Nat)))) (.inl (k : Int)) = (ldAt ld k).map fun q => V.int (q : Nat) := by
  rw [led_merge k ld [] s]
  show Option.or _ none = _
  rw [Option.or_none]
theorem optV_get (o : Option Nat) : (o.map fun c => V.str (sg c)).getD .non = optV o := by cases o <;> rfl
theorem optV_str (o : Option Nat) (c : Nat) : scal (optV o) (.str (sg c)) = true := by cases o <;> rfl
theorem optV_eq (o : Option Nat) (c : Nat) : decide (optV o = .str (sg c)) = decide (o = some c) := by
  cases o with
  | none => rfl
  | some d =>
    rw [Bool.eq_iff_iff, decide_eq_true_eq, decide_eq_true_eq]
    constructor
    · intro z
      injection z with z
      rw [sg_inj.mp z]
    · intro z
      cases z; rfl
theorem due_snoc {w' : Web} {ld : Lead} {ts : List Tie} {i : Nat} {t : Tie} (h : ts[i]? = some t) : (ts.take (i + 1)).filter (isLed w' ld) = (ts.take i).filter (isLed w' ld) ++ if isLed w' ld t = true then [t] else [] := by
  rw [take_snoc h, List.filter_append]
  congr 1
  by_cases c : isLed w' ld t = true
  · rw [if_pos c, List.filter_cons_of_pos c]; rfl
  · rw [if_neg c, List.filter_cons_of_neg c]; rfl
def Ties (K : PySem.W.Frag) (H : Hp) (xs : List V) (ts : List Tie) : Prop := Paired (TieAt K H) xs ts
section
variable {K : PySem.W.Frag} {H H' : Hp} {xs : List V} {ts : List Tie} {h b : Addr} {ys : List V} {o : HO}
theorem Ties.same (x : Ties K H xs ts) (s : Same H H') : Ties K H' xs ts := Paired.imp x fun _ _ z => z.same s
theorem Ties.keep (x : Ties K H xs ts) (k : Keep h H H') (e : H h = some (.lst ys)) : Ties K H' xs ts := Paired.imp x fun _ _ z => z.keep k e
theorem Ties.put (x : Ties K H xs ts) (n : H b = none ∨ ∃ ys, H b = some (.lst ys)) : Ties K (upd H b o) xs ts := Paired.imp x fun _ _ z => z.put n
theorem Ties.more {t : Tie} {l : Addr} {zs : List V} (x : Ties K H xs ts) (e : H l = some (.lst ys)) (f : H b = none) : Ties K (upd (upd H b (.tup [.int (t.1 : Nat), .int (t.2.1 : Nat), .str (sg t.2.2)])) l (.lst zs)) (xs ++ [.ref b]) (ts ++ [t]) := by
  have el : (upd H b (.tup [.int (t.1 : Nat), .int (t.2.1 : Nat), .str (sg t.2.2)])) l = some (.lst ys) := at_upd e f
  exact Paired.snoc ((x.put (.inl f)).put (.inr ⟨_, el⟩)) ⟨b, rfl, sqt_upd (.inr ⟨_, el⟩) (SqT.of upd_same)⟩
theorem Ties.len (x : Ties K H xs ts) : xs.length = ts.length := Paired.length x
end
theorem two_led {ld : Lead} {t : Tie} (h : ((ldAt ld t.1).toList ++ (ldAt ld t.2.1).toList).length = 2) : ∃ x y, ldAt ld t.1 = some x ∧ ldAt ld t.2.1 = some y := by
  cases e1 : ldAt ld t.1 <;> cases e2 : ldAt ld t.2.1 <;> rw [e1, e2] at h <;> simp at h
  exact ⟨_, _, rfl, rfl⟩
theorem not_two {w' : Web} {ld : Lead} {t : Tie} (h : ¬ ((ldAt ld t.1).toList ++ (ldAt ld t.2.1).toList).length = 2) : isLed w' ld t = false := by
  unfold isLed
  cases e1 : ldAt ld t.1 <;> cases e2 : ldAt ld t.2.1 <;> rw [e1, e2] at h <;> simp at h <;> rfl
theorem isLed_at {w' : Web} {ld : Lead} {t : Tie} {x y : Nat} (h1 : ldAt ld t.1 = some x) (h2 : ldAt ld t.2.1 = some y) : isLed w' ld t = decide (tieL w'.2 x y = some t.2.2) := by
  unfold isLed; rw [h1, h2]
theorem isLed_no {w' : Web} {ld : Lead} {t : Tie} (h : ldAt ld t.1 = none ∨ ldAt ld t.2.1 = none) : isLed w' ld t = false := by
  unfold isLed
  rcases h with h | h
  · rw [h]
  · rw [h]; cases ldAt ld t.1 <;> rfl
theorem Pairs.refs {K : PySem.W.Frag} {H : Hp} : ∀ {pvs : List V} {ld : Lead}, Pairs K H pvs ld → ∃ ps : List Addr, pvs = ps.map V.ref ∧ Paired (fun p (kv : Key × V) => SqT K H p [kV kv.1, kv.2]) ps (ld.map fun p => ((.inl (p.1 : Int) : Key), V.int (p.2 : Nat)))
  | _, _, .nil => ⟨[], rfl, .nil⟩
  | _, _, .cons h t => by
    obtain ⟨a, rfl, q⟩ := h
    obtain ⟨ps, rfl, r⟩ := Pairs.refs t
    exact ⟨a :: ps, rfl, .cons q r⟩
end Cw

namespace Cw
open PySem PySem.Spec PyProof.Rows L2
/-! ### data told -/
def tieD (t : Tie) : PyData := .tuple [.int (t.1 : Nat), .int (t.2.1 : Nat), .str (sg t.2.2)]
def pairD (p : Nat × Nat) : PyData := .tuple [.int (p.1 : Nat), .int (p.2 : Nat)]
def tiesD (ts : List Tie) : PyData := .list (ts.map tieD)
def pairsD (ld : Lead) : PyData := .list (ld.map pairD)
theorem Ties.dpa {K : PySem.W.Frag} {H : Hp} : ∀ {xs : List V} {ts : List Tie}, Ties K H xs ts → DpAll K H xs (ts.map tieD)
  | _, _, .nil => .nil
  | _, _, .cons h t => by
    obtain ⟨a, rfl, q⟩ := h
    exact .cons (.tup q (.cons (.int _) (.cons (.int _) (.cons (.str _) .nil)))) (Ties.dpa t)
theorem Pairs.dpa {K : PySem.W.Frag} {H : Hp} : ∀ {xs : List V} {ts : Lead}, Pairs K H xs ts → DpAll K H xs (ts.map pairD)
  | _, _, .nil => .nil
  | _, _, .cons h t => by
    obtain ⟨a, rfl, q⟩ := h
    exact .cons (.tup q (.cons (.int _) (.cons (.int _) .nil))) (Pairs.dpa t)
theorem Ties.dp {K : PySem.W.Frag} {H : Hp} {xs : List V} {ts : List Tie} {l : Addr} (x : Ties K H xs ts) (e : H l = some (.lst xs)) : Dp K H (.ref l) (tiesD ts) := .lst (SqL.of e) x.dpa
theorem Pairs.dp {K : PySem.W.Frag} {H : Hp} {xs : List V} {ts : Lead} {l : Addr} (x : Pairs K H xs ts) (e : H l = some (.lst xs)) : Dp K H (.ref l) (pairsD ts) := .lst (SqL.of e) x.dpa
theorem lay_all : ∀ {ds : List PyData} {k : Nat}, (∀ d ∈ ds, d.canLay0 = true ∧ d.depth ≤ k) → PyData.canLayAll0 ds = true ∧ PyData.depthAll ds ≤ k
  | [], k, _ => ⟨by simp [PyData.canLayAll0], by simp [PyData.depthAll]⟩
  | d :: ds, k, h => by
    obtain ⟨h1, h2⟩ := lay_all (ds := ds) (k := k) fun x hx => h x (List.mem_cons_of_mem _ hx)
    obtain ⟨h3, h4⟩ := h d List.mem_cons_self
    exact ⟨by simp [PyData.canLayAll0, h1, h3], by simp only [PyData.depthAll]; omega⟩
theorem shaped_list {ds : List PyData} {k : Nat} (hk : k ≤ 63) (h : ∀ d ∈ ds, d.canLay0 = true ∧ d.depth ≤ k) : SeqAt.shaped (.list ds) = true := by
  obtain ⟨h1, h2⟩ := lay_all h
  have : PyData.depth (.list ds) ≤ 64 := by simp only [PyData.depth]; omega
  simp [SeqAt.shaped, PyData.canLay0, h1, this]
theorem good_eqv {d : PyData} (h : SeqAt.shaped d = true) : PyData.eqv d d = true := SeqAt.eqv_refl d (SeqAt.canLay_of_shaped h)
theorem str_ok : ∀ c : Nat, c < 123 → PyData.strOk (sg c) = true := fun c h => by
  unfold PyData.strOk sg
  simp; omega
theorem tieD_lay {t : Tie} (h : Ltr t.2.2) : (tieD t).canLay0 = true ∧ (tieD t).depth ≤ 1 := by
  have := str_ok t.2.2 (by unfold Ltr at h; omega)
  unfold tieD
  simp [PyData.canLay0, PyData.canLayAll0, PyData.depth, PyData.depthAll, this]
theorem pairD_lay (p : Nat × Nat) : (pairD p).canLay0 = true ∧ (pairD p).depth ≤ 1 := by
  unfold pairD
  simp [PyData.canLay0, PyData.canLayAll0, PyData.depth, PyData.depthAll]
theorem tiesD_good {ts : List Tie} (h : ∀ t ∈ ts, Ltr t.2.2) : SeqAt.shaped (tiesD ts) = true := shaped_list (k := 1) (by decide) fun d hd => by
  obtain ⟨t, ht, rfl⟩ := List.mem_map.mp hd
  exact tieD_lay (h t ht)
theorem pairsD_good (ld : Lead) : SeqAt.shaped (pairsD ld) = true := shaped_list (k := 1) (by decide) fun d hd => by
  obtain ⟨t, ht, rfl⟩ := List.mem_map.mp hd
  exact pairD_lay t
theorem due_good {w w' : Web} (W : WOk w) (ld : Lead) : SeqAt.shaped (tiesD (dueL w w' ld)) = true := tiesD_good fun t ht => (W.ends t (List.mem_filter.mp ht).1).2.2
/-! ### what is held -/
def HeldG (K : PySem.W.Frag) (H : Hp) (hd : Addr) (m : Nat) : Prop := ∃ (hs : List V) (xs : List PyData), H hd = some (.lst hs) ∧ hs.length ≤ m ∧ DpAll K (del H hd) hs (xs.map fun x => PyData.list [x, x]) ∧ ∀ x ∈ xs, SeqAt.shaped x = true
/-- and nothing of it at h -/
def HeldH (K : PySem.W.Frag) (H : Hp) (hd h : Addr) (m : Nat) : Prop := ∃ (hs : List V) (xs : List PyData), H hd = some (.lst hs) ∧ hs.length ≤ m ∧ DpAll K (del (del H hd) h) hs (xs.map fun x => PyData.list [x, x]) ∧ ∀ x ∈ xs, SeqAt.shaped x = true
section
variable {K : PySem.W.Frag} {H H' : Hp} {hd h : Addr} {m n : Nat}
theorem HeldG.same (x : HeldG K H hd m) (s : Same H H') : HeldG K H' hd m := by
  obtain ⟨hs, xs, e, l, a, g⟩ := x
  exact ⟨hs, xs, s _ _ e, l, dpa_same (Keep.del (Same.keep s)) _ _ a, g⟩
theorem HeldG.mono (x : HeldG K H hd m) (h : m ≤ n) : HeldG K H hd n := by
  obtain ⟨hs, xs, e, l, a, g⟩ := x
  exact ⟨hs, xs, e, Nat.le_trans l h, a, g⟩
theorem HeldG.hand (x : HeldG K H hd m) (s : Same H H') (f : H h = none) : HeldH K H' hd h m := by
  obtain ⟨hs, xs, e, l, a, g⟩ := x
  refine ⟨hs, xs, s _ _ e, l, dpa_same (fun b o hb => ?_) _ _ a, g⟩
  have h1 := del_same _ _ b o hb
  rw [del_ne (ne_of_none h1 f)]
  exact Keep.del (Same.keep s) b o hb
theorem HeldH.out (x : HeldH K H hd h m) : HeldG K H hd m := by
  obtain ⟨hs, xs, e, l, a, g⟩ := x
  exact ⟨hs, xs, e, l, dpa_same (del_same _ _) _ _ a, g⟩
theorem keep_dd (k : Keep h H H') : Same (del (del H hd) h) (del (del H' hd) h) := Keep.del fun b o nb e => by
  have := del_same _ _ b o e
  by_cases n : b = hd
  · unfold del at e; rw [if_pos n] at e; cases e
  · rw [del_ne n]; exact k b o nb this
theorem HeldH.keep (x : HeldH K H hd h m) (k : Keep h H H') (n : hd ≠ h) : HeldH K H' hd h m := by
  obtain ⟨hs, xs, e, l, a, g⟩ := x
  exact ⟨hs, xs, k _ _ n e, l, dpa_same (keep_dd k) _ _ a, g⟩
theorem HeldH.same (x : HeldH K H hd h m) (s : Same H H') (n : hd ≠ h) : HeldH K H' hd h m := x.keep (Same.keep s) n
end
theorem sqt_del {K : PySem.W.Frag} {H : Hp} {a b : Addr} {xs ys : List V} (e : H b = some (.lst ys)) (q : SqT K H a xs) : SqT K (del H b) a xs := by
  rcases q with (q | ⟨o, q⟩) | q
  · exact .inl (.inl (del_at (ne_of q e (by intro z; cases z)) q))
  · exact .inl (.inr ⟨o, del_at (ne_of q e (by intro z; cases z)) q⟩)
  · exact .inr q
theorem Ties.del {K : PySem.W.Frag} {H : Hp} {b : Addr} {xs ys : List V} {ts : List Tie} (x : Ties K H xs ts) (e : H b = some (.lst ys)) : Ties K (Cw.del H b) xs ts := Paired.imp x fun _ _ ⟨a, r, q⟩ => ⟨a, r, sqt_del e q⟩
/-- a pair of lists of ties, held -/
theorem dp_two {K : PySem.W.Frag} {H : Hp} {hd h r t f : Addr} {hs hv tv fv : List V} {ts : List Tie} (ehd : H hd = some (.lst hs)) (eh : H h = some (.lst hv)) (er : H r = some (.lst [.ref t, .ref f])) (et : H t = some (.lst tv)) (ef : H f = some (.lst fv)) (x : Ties K H tv ts) (y : Ties K H fv ts)
    (n0 : h ≠ hd) (n1 : r ≠ hd) (n2 : t ≠ hd) (n3 : f ≠ hd) (m1 : r ≠ h) (m2 : t ≠ h) (m3 : f ≠ h) : Dp K (del (del H hd) h) (.ref r) (.list [tiesD ts, tiesD ts]) := by
  have eh' := del_at n0 eh
  refine .lst (SqL.of (del_at m1 (del_at n1 er))) (.cons ?_ (.cons ?_ .nil))
  · exact ((x.del ehd).del eh').dp (del_at m2 (del_at n2 et))
  · exact ((y.del ehd).del eh').dp (del_at m3 (del_at n3 ef))
end Cw

namespace Cw
open PySem PySem.Spec PyProof.Rows L2
theorem LOk.sub {w w' : Web} {ld kd : Lead} (L : LOk w w' ld) (s : kd.Sublist ld) : LOk w w' kd := ⟨L.rise.sublist s, L.ends.sublist (s.map _), fun p hp => L.like p (s.subset hp)⟩
theorem ldAt_iff {ld : Lead} (s : ld.Pairwise (fun x y => x.1 < y.1)) {p q : Nat} : ldAt ld p = some q ↔ (p, q) ∈ ld := by
  refine ⟨ldAt_mem, fun h => ?_⟩
  cases e : ldAt ld p with
  | none =>
    have : ld.find? (fun q => q.1 == p) = none := by
      unfold ldAt at e
      exact Option.map_eq_none_iff.mp e
    have := List.find?_eq_none.mp this _ h
    simp at this
  | some r =>
    have h2 := ldAt_mem e
    obtain ⟨i, hi, e1⟩ := List.getElem_of_mem h
    obtain ⟨j, hj, e2⟩ := List.getElem_of_mem h2
    have pw := List.pairwise_iff_getElem.mp s
    rcases Nat.lt_trichotomy i j with z | z | z
    · have := pw i j hi hj z
      rw [e1, e2] at this
      exact absurd this (Nat.lt_irrefl _)
    · subst z
      rw [e1] at e2
      injection e2 with _ e2
      rw [e2]
    · have := pw j i hj hi z
      rw [e1, e2] at this
      exact absurd this (Nat.lt_irrefl _)
theorem isLed_iff {w' : Web} {ld : Lead} (s : ld.Pairwise (fun x y => x.1 < y.1)) {t : Tie} : isLed w' ld t = true ↔ ∃ a b, (t.1, a) ∈ ld ∧ (t.2.1, b) ∈ ld ∧ tieL w'.2 a b = some t.2.2 := by
  constructor
  · intro h
    cases e1 : ldAt ld t.1 with
    | none => rw [isLed_no (.inl e1)] at h; cases h
    | some a =>
      cases e2 : ldAt ld t.2.1 with
      | none => rw [isLed_no (.inr e2)] at h; cases h
      | some b =>
        rw [isLed_at e1 e2] at h
        exact ⟨a, b, ldAt_mem e1, ldAt_mem e2, of_decide_eq_true h⟩
  · rintro ⟨a, b, h1, h2, h3⟩
    rw [isLed_at ((ldAt_iff s).mpr h1) ((ldAt_iff s).mpr h2)]
    exact decide_eq_true h3
def onT (p : Nat) (t : Tie) : Bool := t.1 == p || t.2.1 == p
/-- the pairs on some ties -/
def tiedL (ts : List Tie) (ld : Lead) : Lead := ld.filter fun p => ts.any (onT p.1)
theorem due_tied {w w' : Web} {ld : Lead} (L : LOk w w' ld) : dueL w w' (tiedL (dueL w w' ld) ld) = dueL w w' ld := by
  have sub : (tiedL (dueL w w' ld) ld).Sublist ld := List.filter_sublist
  refine List.filter_congr fun t ht => ?_
  rw [Bool.eq_iff_iff, isLed_iff (L.rise.sublist sub), isLed_iff L.rise]
  constructor
  · rintro ⟨a, b, h1, h2, h3⟩
    exact ⟨a, b, sub.subset h1, sub.subset h2, h3⟩
  · rintro ⟨a, b, h1, h2, h3⟩
    have hd : t ∈ dueL w w' ld := List.mem_filter.mpr ⟨ht, (isLed_iff L.rise).mpr ⟨a, b, h1, h2, h3⟩⟩
    exact ⟨a, b, List.mem_filter.mpr ⟨h1, List.any_eq_true.mpr ⟨t, hd, by simp [onT]⟩⟩, List.mem_filter.mpr ⟨h2, List.any_eq_true.mpr ⟨t, hd, by simp [onT]⟩⟩, h3⟩
theorem optV_scal2 (a b : Option Nat) : scal (optV a) (optV b) = true := by cases a <;> cases b <;> rfl
theorem optV_inj (a b : Option Nat) : decide (optV a = optV b) = decide (a = b) := by
  rw [Bool.eq_iff_iff, decide_eq_true_eq, decide_eq_true_eq]
  constructor
  · intro z
    cases a <;> cases b
    · rfl
    · cases z
    · cases z
    · injection z with z; rw [sg_inj.mp z]
  · intro z; rw [z]
theorem tiedL_snoc {ts : List Tie} {ld : Lead} {i : Nat} {p : Nat × Nat} (h : ld[i]? = some p) : tiedL ts (ld.take (i + 1)) = tiedL ts (ld.take i) ++ if ts.any (onT p.1) = true then [p] else [] := by
  unfold tiedL
  rw [take_snoc h, List.filter_append]
  congr 1
  by_cases c : ts.any (onT p.1) = true
  · rw [if_pos c, List.filter_cons_of_pos (p := fun p : Nat × Nat => ts.any (onT p.1)) c]; rfl
  · rw [if_neg c, List.filter_cons_of_neg (p := fun p : Nat × Nat => ts.any (onT p.1)) c]; rfl
/-- a block in a block -/
theorem any_ends (ts : List Tie) (p : Nat) : (!(((ts.map ends).filter fun e => e.1 == p || e.2 == p).map pairD).isEmpty) = ts.any (onT p) := by
  induction ts with
  | nil => rfl
  | cons t r ih =>
    rw [List.any_cons, List.map_cons]
    by_cases c : onT p t = true
    · rw [List.filter_cons_of_pos (p := fun e : Nat × Nat => e.1 == p || e.2 == p) (a := ends t) c, c, Bool.true_or]; rfl
    · rw [List.filter_cons_of_neg (p := fun e : Nat × Nat => e.1 == p || e.2 == p) (a := ends t) c, ih, Bool.eq_false_iff.mpr c, Bool.false_or]
theorem sh2 (x y : Int) : SeqAt.shaped (.tuple [.int x, .int y]) = true := by simp [SeqAt.shaped, PyData.canLay0, PyData.canLayAll0, PyData.depth, PyData.depthAll]
theorem two_good (a b : Lead) : SeqAt.shaped (.list [pairsD a, pairsD b]) = true := shaped_list (k := 2) (by decide) fun d hd => by
  have g : ∀ l : Lead, (pairsD l).canLay0 = true ∧ (pairsD l).depth ≤ 2 := fun l => by
    obtain ⟨h1, h2⟩ := lay_all (ds := l.map pairD) (k := 1) fun d hd => by
      obtain ⟨t, ht, rfl⟩ := List.mem_map.mp hd
      exact pairD_lay t
    unfold pairsD
    exact ⟨by simp only [PyData.canLay0]; exact h1, by simp only [PyData.depth]; omega⟩
  rcases List.mem_cons.mp hd with e | hd
  · rw [e]; exact g a
  · rw [List.mem_singleton.mp hd]; exact g b
end Cw

namespace Cw
open PySem PySem.Spec PyProof.Rows L2
theorem d_dc {σ : L2.St} {H : Hp} {Q : VK} {wi : TI} {g : TG} {tt : TT} {tk tv : TE} {vs : List Nat} (h : wi σ H fun J H1 => ∀ D, H1 D = none → ∃ W : Nat → Nat → Hp → Prop, (∃ m, W 0 m (upd H1 D (.dK []))) ∧ ∀ i m H, W i m H →
  (J.stop i H ∧ Q (.ref D) H) ∨ (J.go i H ∧ ∃ Nx : Hp → Prop, (∀ H', Nx H' → ∃ m', m' < m ∧ W (i + 1) m' H') ∧ ∀ x H', J.yld i H x H' → g x (wipe σ vs) H' fun σ2 H2 => wipe σ2 vs = wipe σ vs ∧ tt σ2 H2 fun b H3 =>
    if b = true then tk σ2 H3 fun y H4 => tv σ2 H4 fun z H5 => ∃ kvs k, y = kV k ∧ H5 D = some (.dK kvs) ∧ kvs.length < sizeLine ∧ Nx (upd H5 D (.dK (putK kvs k z))) else Nx H3)) : tDc wi g tt tk tv vs σ H Q := h
/-- the dict made over what is walked -/
theorem dc_it {J : It} {n : Nat} {G : Hp → Prop} {Y : Nat → Hp → V → Hp → Prop} (w : Walk J n G Y) {g : TG} {tt : TT} {tk tv : TE} {vs : List Nat} {σ : L2.St} {H1 : Hp} {D : Addr} {Qd : Hp → Prop} (Pv : Nat → Hp → Prop) (h0 : Pv 0 (upd H1 D (.dK []))) (hG : ∀ i H, i ≤ n → Pv i H → G H)
    (hs : ∀ i x H H', i < n → Pv i H → Y i H x H' → g x (wipe σ vs) H' fun σ2 H2 => wipe σ2 vs = wipe σ vs ∧ tt σ2 H2 fun b H3 =>
      if b = true then tk σ2 H3 fun y H4 => tv σ2 H4 fun z H5 => ∃ kvs k, y = kV k ∧ H5 D = some (.dK kvs) ∧ kvs.length < sizeLine ∧ Pv (i + 1) (upd H5 D (.dK (putK kvs k z))) else Pv (i + 1) H3) (hd : ∀ H, Pv n H → Qd H) :
    ∃ W : Nat → Nat → Hp → Prop, (∃ m, W 0 m (upd H1 D (.dK []))) ∧ ∀ i m H, W i m H →
      (J.stop i H ∧ Qd H) ∨ (J.go i H ∧ ∃ Nx : Hp → Prop, (∀ H', Nx H' → ∃ m', m' < m ∧ W (i + 1) m' H') ∧ ∀ x H', J.yld i H x H' → g x (wipe σ vs) H' fun σ2 H2 => wipe σ2 vs = wipe σ vs ∧ tt σ2 H2 fun b H3 =>
        if b = true then tk σ2 H3 fun y H4 => tv σ2 H4 fun z H5 => ∃ kvs k, y = kV k ∧ H5 D = some (.dK kvs) ∧ kvs.length < sizeLine ∧ Nx (upd H5 D (.dK (putK kvs k z))) else Nx H3) := by
  refine ⟨fun i m H => m = n - i ∧ i ≤ n ∧ Pv i H, ⟨n, by simp, Nat.zero_le _, h0⟩, ?_⟩
  rintro i m H ⟨rfl, hi, p⟩
  have q := hG i H hi p
  by_cases hlt : i < n
  · refine .inr ⟨w.goes i H hlt q, fun H' => Pv (i + 1) H', fun H' h' => ⟨n - (i + 1), by omega, rfl, by omega, h'⟩, fun x H' hy => ?_⟩
    exact hs i x H H' hlt p (w.yields i H x H' hlt q hy)
  · have e : i = n := by omega
    subst e
    exact .inl ⟨w.stops H q, hd H p⟩
/-- where p stands among some places -/
def posOf (os : List Nat) (p : Nat) : Option Nat := os.findIdx? (· == p)
theorem posOf_snoc (os : List Nat) (q p : Nat) (h : q ∉ os) : posOf (os ++ [q]) p = if p = q then some os.length else posOf os p := by
  unfold posOf
  rw [List.findIdx?_append]
  by_cases e : p = q
  · subst e
    rw [if_pos rfl]
    have n : os.findIdx? (· == p) = none := List.findIdx?_eq_none_iff.mpr fun x hx => by
      simp only [beq_eq_false_iff_ne]
      exact fun z => h (z ▸ hx)
    rw [n]; simp
  · rw [if_neg e]
    have : [q].findIdx? (· == p) = none := by
      rw [List.findIdx?_eq_none_iff]
      intro x hx
      rw [List.mem_singleton.mp hx]
      simp only [beq_eq_false_iff_ne]
      exact fun z => e z.symm
    rw [this]; simp
def cutTie (os : List Nat) (t : Tie) : Option Tie := (posOf os t.1).bind fun a => (posOf os t.2.1).map fun b => (a, b, t.2.2)
/-- the web of some places alone, called by their order -/
def cutL (w : Web) (os : List Nat) : Web := (os.map fun p => w.1.getD p 0, w.2.filterMap (cutTie os))
/-! ### name = {k: v for ..} on one line -/
section
variable {X : Cx}
theorem sw_dict {kx vx : Expr} {gs : List Comprehension} {scope : Scope} {pos py : Pos} {y : Str} {l : Nat} {env : Env} (hk : env.scope.kind = .function) (hy : env.scope.names.lookup y = some .local) (hl : (py.line == pos.line) = true)
    (ha : (scope.names.any fun (n, k) => n == y && (k == .local || k == .cell)) = false) : swapsWith (.DictComp kx vx gs scope pos) (some (.Name y py)) l env = pure true := by
  have e1 : env.blockKind = .function := by rw [Env.blockKind, hk]; rfl
  have e2 : env.kindOf y = some .local := hy
  simp only [swapsWith, e1, e2, ha, Expr.pos, hl]
  rfl
theorem ps_setDc {i : Nat} {y : Str} {py : Pos} {kx vx tg iter : Expr} {ifs : List Expr} {scope : Scope} {own : List (Str × Nat)} {pos spos : Pos} {wi : TI} {g : TG} {tt : TT} {tk tv : TE} (hc : X.calm = true) (hN : X.N.Nodup) (hy : X.N[i]? = some y)
    (hyl : X.env.scope.names.lookup y = some .local) (hsw : swapsWith (.DictComp kx vx [⟨tg, iter, ifs, 0⟩] scope pos) (some (.Name y py)) spos.line X.env = pure true) (hi : PI X tg iter wi) (ok : BlkOk X.N X.env.scope scope own)
    (hg : ∀ (s : Shared) (H : Hp) (C : Addr) (cl : List (Str × Addr)) (fp : List Addr), PG (X.blk s H scope (compEnvC scope cl C X.env) fp) tg g)
    (ht : ∀ (s : Shared) (H : Hp) (C : Addr) (cl : List (Str × Addr)) (fp : List Addr), PTs (X.blk s H scope (compEnvC scope cl C X.env) fp) ifs tt)
    (hkx : ∀ (s : Shared) (H : Hp) (C : Addr) (cl : List (Str × Addr)) (fp : List Addr), PE (X.blk s H scope (compEnvC scope cl C X.env) fp) kx tk)
    (hvx : ∀ (s : Shared) (H : Hp) (C : Addr) (cl : List (Str × Addr)) (fp : List Addr), PE (X.blk s H scope (compEnvC scope cl C X.env) fp) vx tv) (hs : ∀ x, foldedSetIterable iter X.env x = pure x := by intro _; rfl) :
    PS X (.Assign [.Name y py] (.DictComp kx vx [⟨tg, iter, ifs, 0⟩] scope pos) spos) (tAsg (tDc wi g tt tk tv (own.map (·.2))) (gName i)) := by
  refine ⟨fun pins s σ H D I h => ?_⟩
  have h : tDc wi g tt tk tv (own.map (·.2)) σ H (fun x H1 => gName i x σ H1 D.nx) := h
  rw [exec_Assign_Name_used _ _ _ _ hsw]
  refine wpAny_bind (wpAny_standAt (wpAny_bind ?_))
  refine wpAny_bind (thn (dc_core (Qf := fun _ s' => SP X pins D .next s') hc hN I hi ok hg ht hkx hvx hs h fun L C s' m H' I' q hn f => ?_) fun _ s' hq => wpAny_pure (wpAny_pure hq))
  refine wpAny_assign_Name (store_ok2 (v := V.ref L) I' hN hy (.inl hyl) rfl (fun s2 I2 ⟨a, sb, ha⟩ => ?_) (.inr hyl))
  obtain ⟨f0, f1, f2, f3, f4, f5⟩ := f
  have ne : C ≠ a := ha.elim (fun z => z ▸ f1) fun z e => f4 y a z e.symm
  exact ⟨m, hn.sameBut sb ne, fun h3 sb3 => ⟨_, H', I2.turned (t' := s2.toks) (fun b o hb e => (sb3.2 b hb).trans e) f0 f1 f3 f4 f5, q⟩⟩
end
theorem nat_list {ns : List Int} {qs : List Nat} (pm : ns.Perm (zs qs)) : ∃ os : List Nat, ns = zs os ∧ os.Perm qs := by
  have h : ∀ n ∈ ns, ((n.toNat : Nat) : Int) = n := fun n hn => by
    obtain ⟨q, _, rfl⟩ := List.mem_map.mp (pm.mem_iff.mp hn)
    rfl
  have e : ns = zs (ns.map Int.toNat) := by
    unfold zs
    rw [List.map_map]
    exact (List.map_id ns).symm.trans (List.map_congr_left fun n hn => (h n hn).symm)
  refine ⟨ns.map Int.toNat, e, ?_⟩
  have z := pm.map Int.toNat
  have e2 : (zs qs).map Int.toNat = qs := by
    unfold zs
    rw [List.map_map]
    exact (List.map_congr_left fun n _ => (rfl : (Int.toNat ∘ fun o : Nat => (o : Int)) n = id n)).trans (List.map_id qs)
  rwa [e2] at z
theorem cutTie_snoc {os : List Nat} {ts : List Tie} {i : Nat} {t : Tie} (h : ts[i]? = some t) : (ts.take (i + 1)).filterMap (cutTie os) = (ts.take i).filterMap (cutTie os) ++ (cutTie os t).toList := by
  rw [take_snoc h, List.filterMap_append]
  cases e : cutTie os t with
  | none => rw [List.filterMap_cons_none e]; rfl
  | some x => rw [List.filterMap_cons_some e]; rfl
end Cw

/-! sets of whole numbers: set(a list), {one}; a def's code told to its body -/
namespace Cw
open PySem PySem.Spec PySem.Calls PyProof.Rows L2
section
variable {P : Program} {w : World} {A : Around} {E : Value → Shared → Prop} {s : Shared}
abbrev noSet (w : World) : Obj := { cls := .type "set", dict := none, data := .set #[] 0 (.fresh 0 0 (!w.params.followText "set-order")) }
set_option maxHeartbeats 3200000 in
theorem call_set_lstI {l : Addr} {items : Array Value} (ns : List Int) {Q : Value → Shared → Prop} (hh : A.handled = none) (lst : s.heap.IsList l items) (nums : IntsAre items.toList ns) (room : ns.length + 1 < scanBound)
    (h : ∀ (h' : Heap) (tk c : Nat), SetR w h' s.heap.objs.size (fun j => decide (j ∈ ns)) c → c ≤ ns.length → (∀ b o, s.heap.get? b = some o → h'.get? b = some o) → Q (.ref s.heap.objs.size) { s with heap := h', toks := tk }) :
    wpAny (model P w) A (call (.type "set") [.ref l]) Q E s := by
  have many : items.size = ns.length := by
    have z := IntsAre.length nums
    rwa [Array.length_toList] at z
  obtain ⟨c, tl, hmro⟩ := F.called_set.mro
  have hmade := F.called_set.made
  have hsub := F.called_set.sub
  (refine wpAny_call (codeAny_of_tree ?_))
  show wpAny _ _ (callAny (.type "set") _) _ _ _
  (refine wpAny_pure ⟨Code.quiet_builtin _ (by decide +kernel), codeAny_builtin F.entry_type_call ?_⟩)
  (rw [Around.under_plain (weight_type_call_type "set" [.ref l] []) rfl])
  have h1 := F.called_set.notType
  have h2 := F.called_set.canCreate
  have hct := F.typeCall_set_1 (.ref l)
  (repeat (any_goals (first | assumption | wp_step)))
  refine codeAny_mono (code_set_led1 (.ref l) (E := E) (Q₁ := fun obj s₁ => obj = .ref s.heap.objs.size ∧ s₁ = { s with heap := s.heap.push (noSet w) }) ⟨rfl, rfl⟩) fun r s₁ hr => ?_
  match r, hr with
  | .error e, hr => exact hr
  | .ok (.next), hr => exact hr.elim
  | .ok (.brk), hr => exact hr.elim
  | .ok (.cont), hr => exact hr.elim
  | .ok (.ret obj), hr =>
    obtain ⟨rfl, rfl⟩ := hr
    have eS : (s.heap.push (noSet w)).get? s.heap.objs.size = some (noSet w) := Heap.get?_push_size _ rfl
    have tyS : Shared.TypeIs { s with heap := s.heap.push (noSet w) } (.ref s.heap.objs.size) "set" := ⟨_, eS, rfl⟩
    have hli := F.called_set.init.lookup
    have hbi := F.called_set.init.bind (.ref s.heap.objs.size)
    (repeat (any_goals (first | assumption | wp_step)))
    refine codeAny_mono (codeAny_call_builtin (R := wants (fun r s₂ => r = .none ∧ ∃ h' tk c, s₂ = { s with heap := h', toks := tk } ∧ SetR w h' s.heap.objs.size (fun j => decide (j ∈ ns)) c ∧ c ≤ ns.length ∧
        (∀ b o, s.heap.get? b = some o → h'.get? b = some o)) E) F.called_set.init.plain F.entry_set_init (check_set_init_1 tyS ?_)) fun r₂ s₂ hr₂ => ?_
    · obtain ⟨ol, eol, cl, nl, dl⟩ := lst
      obtain ⟨lcls, ldict, ldata, lslots⟩ := ol
      simp only at cl dl
      subst cl
      subst dl
      have eol' : (s.heap.push (noSet w)).get? l = some { cls := .type "list", dict := ldict, data := .seq items nl, slots := lslots } := Heap.get?_push_of_some _ eol
      have hsls := F.sub_list_set
      have hslf := F.sub_list_frozenset
      have hne : (Value.type "list" == Value.type "dict") = false := by decide
      have lst1 : (s.heap.push (noSet w)).IsList l items := ⟨_, eol', rfl, nl, rfl⟩
      (unfold Builtin.«set.__init__» noKeywords; unfold Builtin.Frozenset.updateFrom)
      generalize hPI : pyIter = PI
      wp_walk
      subst hPI
      refine wpAny_pyIter_list lst1 ?_
      refine wpAny_bind (wpAny_runValue ?_)
      have below : l < s.heap.objs.size := Heap.lt_size eol
      have hh3 : A.in1.in1.in1.handled = none := by simp [hh]
      have sz1 : (s.heap.push (noSet w)).objs.size = s.heap.objs.size + 1 := Heap.size_push ..
      have neI : l ≠ (s.heap.push (noSet w)).objs.size := by
        rw [sz1]
        exact Nat.ne_of_lt (Nat.lt_succ_of_lt below)
      have apart : s.heap.objs.size ∉ [(s.heap.push (noSet w)).objs.size, l] := by
        rw [sz1]
        intro z
        rcases List.mem_cons.mp z with z | z
        · exact absurd z (Nat.ne_of_lt (Nat.lt_succ_self _))
        · exact absurd (List.mem_singleton.mp z) (Nat.ne_of_gt below)
      have vals : ∀ (i : Nat) (v : Value), items[i]? = some v → ∃ k t, ns[i]? = some k ∧ v = .int k t := fun i v hv => by
        have hi : i < ns.length := by rw [← many]; exact (Array.getElem?_eq_some_iff.mp hv).1
        obtain ⟨t, e⟩ := PyProof.Rows.IntsAre.int_at nums i v (by rw [Array.getElem?_toList]; exact hv)
        exact ⟨ns[i], t, List.getElem?_eq_getElem hi, by rw [e, List.getD_eq_getElem?_getD, List.getElem?_eq_getElem hi]; rfl⟩
      refine set_update_ints ((Walks.list hh3 _ l neI items).toS) s.heap.objs.size apart ns many room vals (items.size - 0) 0 _ (by omega) (Nat.zero_le _) ⟨⟨_, Heap.get?_push_size _ rfl, rfl, rfl⟩, (lst1.push _)⟩ ⟨0, Nat.le_refl 0, setR_new_at (Heap.get?_push_of_some _ eS)⟩ ?_
      intro s' c' mv le' new
      obtain ⟨h', g2, d', tk', os'⟩ := s'
      have eg : g2 = s.gens := mv.gens
      have ed : d' = s.drawn := mv.drawn
      have eo : os' = s.os := mv.os
      subst eg
      subst ed
      subst eo
      show wpAny _ _ _ _ _ _
      refine wpAny_pure ?_
      show wpAny _ _ (ret Value.none) _ _ _
      rw [many] at le'
      refine wpAny_pure ⟨rfl, h', tk', c', rfl, new, le', fun b o e => ?_⟩
      have b0 : b < s.heap.objs.size := Heap.lt_size e
      refine mv.heap b o (fun z => ?_) (Heap.get?_push_of_some _ (Heap.get?_push_of_some _ e))
      rcases List.mem_cons.mp z with z | z
      · exact absurd z (Nat.ne_of_lt b0)
      · have z := List.mem_singleton.mp z
        rw [sz1] at z
        exact absurd z (Nat.ne_of_lt (Nat.lt_succ_of_lt b0))
    · match r₂, hr₂ with
      | .error e, hr₂ => exact hr₂
      | .ok (.next), hr₂ => exact hr₂.elim
      | .ok (.brk), hr₂ => exact hr₂.elim
      | .ok (.cont), hr₂ => exact hr₂.elim
      | .ok (.ret r), hr₂ =>
        obtain ⟨rfl, h', tk, c', rfl, new, le', kept⟩ := hr₂
        (repeat (any_goals (first | assumption | wp_step)))
        exact h _ _ _ new le' kept
end
section
variable {X : Cx}
/-- set(xs), xs a list of whole numbers -/
def rSetL (K : PySem.W.Frag) (w : World) : List V → Hp → VK → Prop := fun xs H Q => ∃ (a : Addr) (ns : List Int), xs = [.ref a] ∧ SqL K H a (ns.map V.int) ∧ ns.length ≤ 1000 ∧
  ∀ p c, c ≤ ns.length → H p = none → Q (.ref p) (upd H p (SetO w p (fun k => decide (k ∈ ns)) c))
theorem cr_setL (hc : X.calm = true) : CallR X (.type "set") (rSetL X.K X.w) := by
  intro pins s σ H xs us Q I r h
  obtain ⟨a, ns, rfl, hx, few, q⟩ := h
  obtain ⟨u, rfl, ru⟩ := vals1 r
  cases ru
  obtain ⟨its, rel, lst, _⟩ := I.list hx
  refine call_set_lstI ns (I.ok.hd hc) lst.isList (by simpa using intsAre_of rel) (by unfold scanBound; omega) fun h' tk c R le kept => ?_
  exact ⟨.ref _, _, I.laid (t' := tk) kept (Nat.le_refl _) (setO_new R), rfl, q _ c le (I.hok.fresh (Nat.le_refl _))⟩
end
/-! ### {one} -/
theorem codeIn_kds {K : PySem.W.Frag} {cd : Value} {q : Str} (h : PySem.W.codeIn K cd q = true) : PySem.W.kdsCode K cd = true := by
  unfold PySem.W.codeIn at h
  unfold PySem.W.kdsCode
  split at h
  · split at h
    · rename_i e
      simp only [e]
    · cases h
  · cases h
section
variable {P : Program} {w : World} {A : Around} {E : Value → Shared → Prop} {s : Shared}
theorem newSet_led {Q : Value → Shared → Prop} (h : Q (.ref s.heap.objs.size) { s with heap := s.heap.push (noSet w) }) : wpAny (model P w) A (newSet (.type "set")) Q E s := by
  unfold newSet
  refine wpAny_bind (wpAny_byText ?_)
  dsimp only
  exact wpAny_newObj_type h
theorem display_one {b : Bool} {T : Sem Value} {Q : Value → Shared → Prop}
    (h : wpAny (model P w) A T (fun v s1 => wpAny (model P w) A (setAdd s.heap.objs.size v) (fun _ s2 => Q (.ref s.heap.objs.size) s2) E s1) E { s with heap := s.heap.push (noSet w) }) :
    wpAny (model P w) A (setDisplay .oneByOne b [(false, T)]) Q E s := by
  unfold setDisplay
  dsimp only
  rw [if_neg (by decide)]
  refine wpAny_bind (newSet_led ?_)
  dsimp only
  refine wpAny_bind (wpAny_holding ?_)
  refine wpAny_bind ?_
  show wpAny _ _ (T >>= fun v => holding [v] (evalAll []) >>= fun r => pure (v :: r)) _ _ _
  refine wpAny_bind (wpAny_mono h (fun v s1 h1 => ?_) fun _ _ x => x)
  refine wpAny_bind (wpAny_holding (wpAny_pure ?_))
  refine wpAny_pure ?_
  refine wpAny_bind (wpAny_holding ?_)
  rw [List.forIn_cons]
  refine wpAny_bind (wpAny_bind (wpAny_bind (wpAny_mono h1 (fun _ s2 h2 => wpAny_pure ?_) fun _ _ x => x)))
  dsimp only
  rw [List.forIn_nil]
  refine wpAny_pure ?_
  rw [if_neg (by decide)]
  refine wpAny_pure ?_
  refine wpAny_bind ?_
  show wpAny _ _ (forIn ([] : List (Bool × Sem Value)) PUnit.unit _) _ _ s2
  rw [List.forIn_nil]
  exact wpAny_pure (wpAny_pure (wpAny_pure h2))
end
def tSet1 (w : World) (te : TE) : TE := fun σ H Q => ∀ p, H p = none → te σ (upd H p (SetO w p (fun _ => false) 0)) fun x H1 => ∃ k : Int, x = .int k ∧ H1 p = some (SetO w p (fun _ => false) 0) ∧ Q (.ref p) (upd H1 p (SetO w p (fun j => false || decide (j = k)) 1))
theorem pe_set1 {X : Cx} {e : Expr} {te : TE} {pos : Pos} {q : Str} {wd : World} (hw : X.w = wd) (hcd : PySem.W.codeIn X.K X.env.code q = true) (he : PE X e te) (hp : PySem.W.kdsPlain e = true := by rfl) : PE X (.Set [e] 0 pos) (tSet1 wd te) := by
  subst hw
  refine ⟨fun pins s σ H Q I h => ?_⟩
  rw [arm_eval_Set]
  refine wpAny_bind (wpAny_standAt ?_)
  refine wpAny_bind (PySem.W.kds_main I.kIn (codeIn_kds hcd) fun bm => ?_)
  rw [PySem.W.kds_star [e] (by simp [hp]), List.map_map, arm_evalEach_cons]
  refine (show wpAny (model X.prog X.w) X.A (setDisplay .oneByOne bm [(false, do let v ← eval e X.env; standAt pos; pure v)]) (EP X pins σ Q) X.xe s from display_one ?_)
  have R0 : SetR X.w (s.heap.push (noSet X.w)) s.heap.objs.size (fun _ => false) 0 := setR_fresh X.w
  have f0 : H s.heap.objs.size = none := I.hok.fresh (Nat.le_refl _)
  have I1 : Inv X pins σ (upd H s.heap.objs.size (SetO X.w s.heap.objs.size (fun _ => false) 0)) { s with heap := s.heap.push (noSet X.w) } := I.laid (t' := s.toks) (fun b u g => Heap.get?_push_of_some _ g) (Nat.le_refl _) (setO_new R0)
  refine wpAny_bind (thn (he.run pins _ σ _ _ I1 (h _ f0)) fun v s1 ⟨x, H1, I2, r1, k, ex, ep, q1⟩ => ?_)
  subst ex
  obtain ⟨tk, rfl⟩ := r1
  refine wpAny_bind (wpAny_standAt (wpAny_pure ?_))
  have R1 := setO_get I2 ep
  unfold setAdd
  refine wpAny_holding ?_
  refine wpAny_bind ((intKind X.prog X.w).pyHash (k := k) (intKind_is _ _ _ _) ?_)
  refine setR_add_hashed (s := { s1 with toks := s1.toks + 1 }) R1 (by decide) fun h' sb new => ?_
  have he' : ∃ u, h'.get? s.heap.objs.size = some u := let ⟨o, _, _, _, ho, _⟩ := new; ⟨o, ho⟩
  exact ⟨.ref _, _, I2.write (e := s.heap.objs.size) (t' := s1.toks + 1) (by rw [ep]; trivial) (.inl rfl) (fun b u hb hu => (sb.2 b hb).trans hu) he' (setO_new new), rfl, q1⟩
end Cw

/-! what hangs together -/
namespace Cw
open PySem PySem.Spec PyProof.Rows L2
noncomputable def dec (p : Prop) : Bool := @decide p (Classical.propDecidable p)
theorem dec_iff {p : Prop} : dec p = true ↔ p := by unfold dec; exact @decide_eq_true_iff p (Classical.propDecidable p)
theorem dec_true {p : Prop} (h : p) : dec p = true := dec_iff.mpr h
theorem dec_false {p : Prop} (h : ¬ p) : dec p = false := by
  cases e : dec p with
  | false => rfl
  | true => exact absurd (dec_iff.mp e) h
theorem dec_congr {p q : Prop} (h : p ↔ q) : dec p = dec q := by
  rw [Bool.eq_iff_iff, dec_iff, dec_iff]; exact h
theorem mem_nb {w : Web} (W : WOk w) {p q : Nat} : q ∈ nb w.2 p ↔ ∃ t ∈ w.2, at2 p q t = true := by
  unfold nb
  rw [List.mem_filterMap]
  constructor
  · rintro ⟨t, ht, h⟩
    exact ⟨t, ht, (beside_iff (W.ends t ht).1).mp h⟩
  · rintro ⟨t, ht, h⟩
    exact ⟨t, ht, (beside_iff (W.ends t ht).1).mpr h⟩
theorem nb_symm {w : Web} (W : WOk w) {p q : Nat} (h : q ∈ nb w.2 p) : p ∈ nb w.2 q := by
  obtain ⟨t, ht, e⟩ := (mem_nb W).mp h
  exact (mem_nb W).mpr ⟨t, ht, by rw [at2_swap]; exact e⟩
theorem nb_lt {w : Web} (W : WOk w) {p q : Nat} (h : q ∈ nb w.2 p) : p < w.1.length ∧ q < w.1.length := by
  obtain ⟨t, ht, e⟩ := (mem_nb W).mp h
  have r := W.ends t ht
  rcases at2_iff.mp e with ⟨a, b⟩ | ⟨a, b⟩ <;> omega
/-- from a one comes to it -/
inductive Rch (ts : List Tie) (a : Nat) : Nat → Prop
  | base : Rch ts a a
  | step {p q : Nat} : Rch ts a p → q ∈ nb ts p → Rch ts a q
theorem Rch.trans {ts : List Tie} {a b c : Nat} (h : Rch ts a b) (k : Rch ts b c) : Rch ts a c := by
  induction k with
  | base => exact h
  | step _ m ih => exact ih.step m
theorem Rch.symm {w : Web} (W : WOk w) {a b : Nat} (h : Rch w.2 a b) : Rch w.2 b a := by
  induction h with
  | base => exact .base
  | step _ m ih => exact Rch.trans (Rch.base.step (nb_symm W m)) ih
theorem Rch.lt {w : Web} (W : WOk w) {a b : Nat} (h : Rch w.2 a b) (ha : a < w.1.length) : b < w.1.length := by
  cases h with
  | base => exact ha
  | step _ m => exact (nb_lt W m).2
/-- the places that hang together with a -/
noncomputable def partL (w : Web) (a : Nat) : List Nat := (List.range w.1.length).filter fun k => dec (Rch w.2 a k)
theorem mem_partL {w : Web} (W : WOk w) {a k : Nat} (ha : a < w.1.length) : k ∈ partL w a ↔ Rch w.2 a k := by
  unfold partL
  rw [List.mem_filter, dec_iff, List.mem_range]
  exact ⟨fun h => h.2, fun h => ⟨h.lt W ha, h⟩⟩
theorem partL_rise (w : Web) (a : Nat) : (partL w a).Pairwise (· < ·) := List.Pairwise.filter _ List.pairwise_lt_range
theorem partL_len (w : Web) (a : Nat) : (partL w a).length ≤ w.1.length := Nat.le_trans (List.length_filter_le _ _) (by rw [List.length_range]; exact Nat.le_refl _)
/-- no lesser place hangs together with it -/
def Lst (w : Web) (a : Nat) : Prop := ∀ b, Rch w.2 a b → a ≤ b
noncomputable def leastsL (w : Web) (n : Nat) : List Nat := (List.range n).filter fun a => dec (Lst w a)
noncomputable def partsN (w : Web) (n : Nat) : List (List Nat) := (leastsL w n).map (partL w)
noncomputable def partsL (w : Web) : List (List Nat) := partsN w w.1.length
theorem leastsL_succ (w : Web) (n : Nat) : leastsL w (n + 1) = leastsL w n ++ if dec (Lst w n) = true then [n] else [] := by
  unfold leastsL
  rw [List.range_succ, List.filter_append]
  congr 1
  by_cases c : dec (Lst w n) = true
  · rw [if_pos c]; simp [c]
  · rw [if_neg c]; simp [c]
theorem partsN_succ (w : Web) (n : Nat) : partsN w (n + 1) = partsN w n ++ if dec (Lst w n) = true then [partL w n] else [] := by
  unfold partsN
  rw [leastsL_succ, List.map_append]
  congr 1
  split <;> rfl
theorem partsN_len (w : Web) (n : Nat) : (partsN w n).length ≤ n := by
  unfold partsN leastsL
  rw [List.length_map]
  exact Nat.le_trans (List.length_filter_le _ _) (by rw [List.length_range]; exact Nat.le_refl _)
/-- a place that none of the lesser ones comes to is least -/
theorem seen_iff {w : Web} (W : WOk w) {n : Nat} : (∃ a, a < n ∧ Rch w.2 a n) ↔ ¬ Lst w n := by
  constructor
  · rintro ⟨a, h1, h2⟩ l
    have := l a (h2.symm W)
    omega
  · intro h
    unfold Lst at h
    obtain ⟨b, hb⟩ := Classical.not_forall.mp h
    obtain ⟨h1, h2⟩ := Classical.not_imp.mp hb
    exact ⟨b, by omega, h1.symm W⟩
/-! ### the least place that one comes to, by turns -/
def Dn (ts : List Tie) : Nat → Nat → Nat → Prop
  | 0, p, q => p = q
  | k + 1, p, q => Dn ts k p q ∨ ∃ r, r ∈ nb ts p ∧ Dn ts k r q
theorem Dn.mono {ts : List Tie} {k p q : Nat} (h : Dn ts k p q) : ∀ m, Dn ts (k + m) p q
  | 0 => h
  | m + 1 => .inl (Dn.mono h m)
theorem filter_lt {α : Type} {P Q : α → Bool} : ∀ {l : List α}, (∀ x ∈ l, P x = true → Q x = true) → (∃ x ∈ l, Q x = true ∧ P x = false) → (l.filter P).length < (l.filter Q).length
  | [], _, ⟨x, h, _⟩ => absurd h (by simp)
  | y :: l, i, ⟨x, h, h1, h2⟩ => by
    have le : ∀ {l : List α}, (∀ x ∈ l, P x = true → Q x = true) → (l.filter P).length ≤ (l.filter Q).length := fun {l} i => by
      induction l with
      | nil => exact Nat.le_refl _
      | cons a r ih =>
        have ihr := ih fun x hx => i x (List.mem_cons_of_mem _ hx)
        by_cases c : P a = true
        · rw [List.filter_cons_of_pos c, List.filter_cons_of_pos (i a List.mem_cons_self c)]
          exact Nat.succ_le_succ ihr
        · rw [List.filter_cons_of_neg c]
          by_cases d : Q a = true
          · rw [List.filter_cons_of_pos d]; exact Nat.le_succ_of_le ihr
          · rw [List.filter_cons_of_neg d]; exact ihr
    have il : ∀ x ∈ l, P x = true → Q x = true := fun x hx => i x (List.mem_cons_of_mem _ hx)
    rcases List.mem_cons.mp h with z | z
    · subst z
      rw [List.filter_cons_of_neg (by rw [h2]; simp), List.filter_cons_of_pos h1]
      exact Nat.lt_succ_of_le (le il)
    · have ih := filter_lt il ⟨x, z, h1, h2⟩
      by_cases c : P y = true
      · rw [List.filter_cons_of_pos c, List.filter_cons_of_pos (i y List.mem_cons_self c)]
        exact Nat.succ_lt_succ ih
      · rw [List.filter_cons_of_neg c]
        by_cases d : Q y = true
        · rw [List.filter_cons_of_pos d]; exact Nat.lt_succ_of_lt ih
        · rw [List.filter_cons_of_neg d]; exact ih
/-- as many turns as there are places are enough -/
theorem dn_all {w : Web} (W : WOk w) {p q : Nat} (hq : q < w.1.length) (h : Rch w.2 p q) : Dn w.2 w.1.length p q := by
  have grow : ∀ k, (∀ a r, r ∈ nb w.2 a → Dn w.2 k r q → Dn w.2 k a q) ∨ k + 1 ≤ ((List.range w.1.length).filter fun a => dec (Dn w.2 k a q)).length := by
    intro k
    induction k with
    | zero =>
      right
      have : q ∈ (List.range w.1.length).filter fun a => dec (Dn w.2 0 a q) := List.mem_filter.mpr ⟨List.mem_range.mpr hq, dec_true rfl⟩
      exact List.length_pos_of_mem this
    | succ k ih =>
      rcases Classical.em (∀ a r, r ∈ nb w.2 a → Dn w.2 k r q → Dn w.2 k a q) with c | c
      · left
        have back : ∀ a, Dn w.2 (k + 1) a q → Dn w.2 k a q := fun a d => by
          rcases d with d | ⟨r, h1, h2⟩
          · exact d
          · exact c a r h1 h2
        intro a r h1 h2
        exact .inl (c a r h1 (back r h2))
      · right
        rcases ih with ih | ih
        · exact absurd ih c
        obtain ⟨a, ha⟩ := Classical.not_forall.mp c
        obtain ⟨r, hr⟩ := Classical.not_forall.mp ha
        obtain ⟨h1, hr⟩ := Classical.not_imp.mp hr
        obtain ⟨h2, h3⟩ := Classical.not_imp.mp hr
        have lt := filter_lt (l := List.range w.1.length) (P := fun a => dec (Dn w.2 k a q)) (Q := fun a => dec (Dn w.2 (k + 1) a q)) (fun x _ hx => dec_true (.inl (dec_iff.mp hx)))
          ⟨a, List.mem_range.mpr (nb_lt W h1).1, dec_true (.inr ⟨r, h1, h2⟩), dec_false h3⟩
        omega
  have closed : ∀ a r, r ∈ nb w.2 a → Dn w.2 w.1.length r q → Dn w.2 w.1.length a q := by
    rcases grow w.1.length with c | c
    · exact c
    · have := List.length_filter_le (fun a => dec (Dn w.2 w.1.length a q)) (List.range w.1.length)
      rw [List.length_range] at this
      omega
  have d0 : Dn w.2 w.1.length q q := by
    have z := Dn.mono (show Dn w.2 0 q q from rfl) w.1.length
    rw [Nat.zero_add] at z
    exact z
  have go : ∀ x, Rch w.2 p x → Dn w.2 w.1.length x q → Dn w.2 w.1.length p q := by
    intro x hx
    induction hx with
    | base => exact id
    | step _ m ih => exact fun d => ih (closed _ _ m d)
  exact go q h d0
/-- what the labels are while they sink: of its own part, and no greater than what k steps come to -/
structure Lab (w : Web) (k : Nat) (ls : List Nat) : Prop where
  len : ls.length = w.1.length
  own : ∀ (p l : Nat), ls[p]? = some l → Rch w.2 p l
  low : ∀ (p l q : Nat), ls[p]? = some l → Dn w.2 k p q → l ≤ q
/-- within a turn: i ties are done -/
structure LabT (w : Web) (k i : Nat) (old ls : List Nat) : Prop where
  len : ls.length = w.1.length
  own : ∀ (p l : Nat), ls[p]? = some l → Rch w.2 p l
  sink : ∀ (p l m : Nat), ls[p]? = some l → old[p]? = some m → l ≤ m
  done : ∀ t ∈ w.2.take i, ∀ (l m : Nat), (ls[t.1]? = some l → old[t.2.1]? = some m → l ≤ m) ∧ (ls[t.2.1]? = some l → old[t.1]? = some m → l ≤ m)
theorem Lab.start (w : Web) : Lab w 0 (List.range w.1.length) := by
  refine ⟨List.length_range, fun p l h => ?_, fun p l q h d => ?_⟩
  · obtain ⟨h1, h2⟩ := List.getElem?_eq_some_iff.mp h
    rw [List.getElem_range] at h2
    subst h2
    exact .base
  · obtain ⟨h1, h2⟩ := List.getElem?_eq_some_iff.mp h
    rw [List.getElem_range] at h2
    have : p = q := d
    omega
theorem LabT.start {w : Web} {k : Nat} {ls : List Nat} (L : Lab w k ls) : LabT w k 0 ls ls :=
  ⟨L.len, L.own, fun p l m h1 h2 => by rw [h1] at h2; cases h2; exact Nat.le_refl _, fun t ht => by simp at ht⟩
theorem LabT.tie {w : Web} (W : WOk w) {k i : Nat} {old ls : List Nat} (T : LabT w k i old ls) {t : Tie} (ht : w.2[i]? = some t) {l m : Nat} (hl : ls[t.1]? = some l) (hm : ls[t.2.1]? = some m) :
    LabT w k (i + 1) old ((ls.set t.1 (min l m)).set t.2.1 (min l m)) := by
  have r := W.ends t (List.mem_of_getElem? ht)
  have n1 : t.1 < ls.length := by rw [T.len]; omega
  have n2 : t.2.1 < ls.length := by rw [T.len]; omega
  have adj : t.2.1 ∈ nb w.2 t.1 := (mem_nb W).mpr ⟨t, List.mem_of_getElem? ht, at2_iff.mpr (.inl ⟨rfl, rfl⟩)⟩
  have at_ : ∀ p, ((ls.set t.1 (min l m)).set t.2.1 (min l m))[p]? = if p = t.1 ∨ p = t.2.1 then some (min l m) else ls[p]? := fun p => by
    by_cases c2 : t.2.1 = p
    · subst c2
      rw [List.getElem?_set_self (by rw [List.length_set]; exact n2), if_pos (.inr rfl)]
    · rw [List.getElem?_set_ne c2]
      by_cases c1 : t.1 = p
      · subst c1
        rw [List.getElem?_set_self n1, if_pos (.inl rfl)]
      · rw [List.getElem?_set_ne c1, if_neg (by intro z; rcases z with z | z; exact c1 z.symm; exact c2 z.symm)]
  have rl := T.own _ _ hl
  have rm := T.own _ _ hm
  have down : ∀ p x y, ((ls.set t.1 (min l m)).set t.2.1 (min l m))[p]? = some x → ls[p]? = some y → x ≤ y := fun p x y hx hy => by
    rw [at_] at hx
    split at hx
    · rename_i c
      have e := (Option.some.inj hx).symm
      subst e
      rcases c with c | c
      · subst c; rw [hl] at hy; cases hy; exact Nat.min_le_left _ _
      · subst c; rw [hm] at hy; cases hy; exact Nat.min_le_right _ _
    · rw [hx] at hy; cases hy; exact Nat.le_refl _
  have here : ∀ p x, ((ls.set t.1 (min l m)).set t.2.1 (min l m))[p]? = some x → ∃ y, ls[p]? = some y := fun p x hx => by
    have := (List.getElem?_eq_some_iff.mp hx).1
    rw [List.length_set, List.length_set] at this
    exact ⟨_, List.getElem?_eq_getElem this⟩
  refine ⟨by rw [List.length_set, List.length_set]; exact T.len, fun p x hx => ?_, fun p x y hx hy => ?_, fun u hu x y => ⟨fun hx hy => ?_, fun hx hy => ?_⟩⟩
  · rw [at_] at hx
    split at hx
    · rename_i c
      have e := (Option.some.inj hx).symm
      subst e
      have to1 : Rch w.2 t.1 (min l m) := by
        rcases Nat.le_total l m with z | z
        · rw [Nat.min_eq_left z]; exact rl
        · rw [Nat.min_eq_right z]; exact Rch.trans (Rch.base.step adj) rm
      rcases c with c | c
      · subst c; exact to1
      · subst c; exact Rch.trans (Rch.base.step (nb_symm W adj)) to1
    · exact T.own p x hx
  · obtain ⟨z, hz⟩ := here p x hx
    exact Nat.le_trans (down p x z hx hz) (T.sink p z y hz hy)
  · rw [take_snoc ht] at hu
    rcases List.mem_append.mp hu with hu | hu
    · obtain ⟨z, hz⟩ := here _ x hx
      exact Nat.le_trans (down _ x z hx hz) ((T.done u hu z y).1 hz hy)
    · rw [List.mem_singleton.mp hu] at hx hy
      rw [at_, if_pos (.inl rfl)] at hx
      cases hx
      exact Nat.le_trans (Nat.min_le_right _ _) (T.sink _ m y hm hy)
  · rw [take_snoc ht] at hu
    rcases List.mem_append.mp hu with hu | hu
    · obtain ⟨z, hz⟩ := here _ x hx
      exact Nat.le_trans (down _ x z hx hz) ((T.done u hu z y).2 hz hy)
    · rw [List.mem_singleton.mp hu] at hx hy
      rw [at_, if_pos (.inr rfl)] at hx
      cases hx
      exact Nat.le_trans (Nat.min_le_left _ _) (T.sink _ l y hl hy)
theorem LabT.turn {w : Web} (W : WOk w) {k : Nat} {old ls : List Nat} (L : Lab w k old) (T : LabT w k w.2.length old ls) : Lab w (k + 1) ls := by
  refine ⟨T.len, T.own, fun p l q hl d => ?_⟩
  have hp : p < old.length := by rw [L.len, ← T.len]; exact (List.getElem?_eq_some_iff.mp hl).1
  have ho := List.getElem?_eq_getElem hp
  rcases d with d | ⟨r, h1, h2⟩
  · exact Nat.le_trans (T.sink p l _ hl ho) (L.low p _ q ho d)
  · obtain ⟨t, ht, e⟩ := (mem_nb W).mp h1
    have hr : r < old.length := by rw [L.len]; exact (nb_lt W h1).2
    have hr' := List.getElem?_eq_getElem hr
    have tm : t ∈ w.2.take w.2.length := by rw [List.take_length]; exact ht
    have dn := T.done t tm l old[r]
    have le : l ≤ old[r] := by
      rcases at2_iff.mp e with ⟨a, b⟩ | ⟨a, b⟩
      · exact dn.1 (by rw [a]; exact hl) (by rw [b]; exact hr')
      · exact dn.2 (by rw [b]; exact hl) (by rw [a]; exact hr')
    exact Nat.le_trans le (L.low r _ q hr' h2)
/-- at the end: each label is the least place of its part -/
theorem Lab.end_ {w : Web} (W : WOk w) {ls : List Nat} (L : Lab w w.1.length ls) {p l : Nat} (h : ls[p]? = some l) : Rch w.2 p l ∧ Lst w l := by
  have hp : p < w.1.length := by rw [← L.len]; exact (List.getElem?_eq_some_iff.mp h).1
  have r := L.own p l h
  refine ⟨r, fun b hb => ?_⟩
  have rb := r.trans hb
  exact L.low p l b h (dn_all W (rb.lt W hp) rb)
theorem lst_uniq {w : Web} (W : WOk w) {a b : Nat} (ha : Lst w a) (hb : Lst w b) (h : Rch w.2 a b) : a = b := by
  have h1 := ha b h
  have h2 := hb a (h.symm W)
  omega
theorem Lab.is_ {w : Web} (W : WOk w) {ls : List Nat} (L : Lab w w.1.length ls) {p l a : Nat} (h : ls[p]? = some l) (ha : Lst w a) : l = a ↔ Rch w.2 a p := by
  obtain ⟨h1, h2⟩ := L.end_ W h
  constructor
  · rintro rfl
    exact h1.symm W
  · intro z
    exact (lst_uniq W ha h2 (z.trans h1)).symm
theorem labs_mem {w : Web} (W : WOk w) {ls : List Nat} (L : Lab w w.1.length ls) (x : Nat) : x ∈ ls ↔ x ∈ leastsL w w.1.length := by
  unfold leastsL
  rw [List.mem_filter, List.mem_range, dec_iff]
  constructor
  · intro h
    obtain ⟨p, hp⟩ := List.getElem?_of_mem h
    obtain ⟨h1, h2⟩ := L.end_ W hp
    have hp' : p < w.1.length := by rw [← L.len]; exact (List.getElem?_eq_some_iff.mp hp).1
    exact ⟨h1.lt W hp', h2⟩
  · rintro ⟨h1, h2⟩
    have hx : x < ls.length := by rw [L.len]; exact h1
    have g := List.getElem?_eq_getElem hx
    have e := (L.is_ W g h2).mpr .base
    rw [e] at g
    exact List.mem_of_getElem? g
theorem leasts_rise (w : Web) (n : Nat) : (leastsL w n).Pairwise (· < ·) := List.Pairwise.filter _ List.pairwise_lt_range
theorem mem_leasts {w : Web} {n x : Nat} (h : x ∈ leastsL w n) : x < n ∧ Lst w x := by
  unfold leastsL at h
  rw [List.mem_filter, List.mem_range, dec_iff] at h
  exact h
theorem labs_part {w : Web} (W : WOk w) {ls : List Nat} (L : Lab w w.1.length ls) {a : Nat} (ha : Lst w a) : ((List.range w.1.length).filter fun p => decide (ls[p]? = some a)) = partL w a := by
  unfold partL
  refine List.filter_congr fun p hp => ?_
  have hp' : p < ls.length := by rw [L.len]; exact List.mem_range.mp hp
  have g := List.getElem?_eq_getElem hp'
  rw [Bool.eq_iff_iff, dec_iff, decide_eq_true_eq, g, Option.some.injEq]
  exact L.is_ W g ha

/-! ### a def's code told to its body -/
section
variable {P : Program} {w : World} {K : PySem.W.Frag} {mg : Str → Option Value} {base : Heap}
theorem funOkC {x qual : Str} {st : Stmt} {f : Addr} {fd : FuncData} {N ps : List Str} {k : Nat} {sp : Sp} (F : Fun K x qual st f fd) (S : FnScope N ps (defScope st)) (len : ∀ vs H Q E, sp vs H Q E → vs.length = ps.length)
    (hbody : ∀ (cdv : Value), PySem.W.codeIn K cdv qual = true → ∀ (A : Around) (outer : List Env) (s : Shared) (H : Hp) (vs : List V) (Q : VK) (E : XK), Room k (A.deeper (envOfC qual (defScope st) s.heap.objs.size f cdv)) → sp vs H Q E →
      ∃ t, PSs (cxOf CX0 P w K mg base N qual (defScope st) f cdv A outer s H E).nox (defBody st) t ∧ t { nx := fun _ H' => Q .non H', rt := Q } (start N vs) H) : FnOk P w K mg base CX0 (k + 1) f fd ps sp := by
  obtain ⟨oc, od, kV, doc, pm, an, cdv, ct, osl, rfl, lk, hcd⟩ := F.ex
  refine fn_of lk hcd S len fun A outer s H vs Q E hr hsp => ?_
  obtain ⟨t, h, q⟩ := hbody cdv hcd A outer s H vs Q E hr hsp
  exact ⟨t, h.nox, q⟩
end
/-! ### a set of places -/
theorem cr_set0w {X : Cx} {wd : World} (hw : X.w = wd) : CallR X (.type "set") (rSet0 wd) := by
  subst hw
  exact cr_set0
def SetN (wd : World) (H : Hp) (S : Addr) (ms : List Nat) : Prop := ∃ Sx n, H S = some (SetO wd S Sx n) ∧ n ≤ ms.length ∧ (ms.Nodup → n = ms.length) ∧ ∀ k : Int, Sx k = true ↔ ∃ q : Nat, k = (q : Int) ∧ q ∈ ms
section
variable {wd : World} {K : PySem.W.Frag} {H H' : Hp} {S : Addr} {ms : List Nat} {q : Nat} {Q : VK}
theorem SetN.new (h : H S = some (SetO wd S (fun _ => false) 0)) : SetN wd H S [] := ⟨_, 0, h, Nat.le_refl _, fun _ => rfl, fun k => by simp⟩
theorem SetN.same (x : SetN wd H S ms) (s : Same H H') : SetN wd H' S ms := by
  obtain ⟨a, n, e, r⟩ := x
  exact ⟨a, n, s _ _ e, r⟩
theorem SetN.at_ (x : SetN wd H S ms) {b : Addr} {o : HO} (n : b ≠ S) : SetN wd (upd H b o) S ms := by
  obtain ⟨a, m, e, r⟩ := x
  exact ⟨a, m, by rw [upd_ne n.symm]; exact e, r⟩
theorem SetN.ne (x : SetN wd H S ms) {b : Addr} {ys : List V} (e : H b = some (.lst ys)) : b ≠ S := by
  obtain ⟨a, m, e', r⟩ := x
  exact ne_of e e' (by intro z; cases z)
theorem d_snotin (x : SetN wd H S ms) (k : Q (.bl (!decide (q ∈ ms))) H) : rSNotIn wd (.int (q : Nat)) (.ref S) H Q := by
  obtain ⟨Sx, n, e, l, l', m⟩ := x
  refine ⟨q, S, Sx, n, rfl, rfl, e, ?_⟩
  have : Sx (q : Nat) = decide (q ∈ ms) := by
    rw [Bool.eq_iff_iff, decide_eq_true_eq, m]
    constructor
    · rintro ⟨q', h1, h2⟩
      have : q = q' := by omega
      rw [this]; exact h2
    · intro h
      exact ⟨q, rfl, h⟩
  rw [this]
  exact k
theorem d_tsadd {to : TE} {t : TA} {σ : L2.St} (h : to σ H fun x H1 => (∃ a S n, x = V.ref a ∧ H1 a = some (SetO wd a S n)) ∧ t σ H1 fun xs H2 => rSAdd wd x xs H2 Q) : tSAdd wd to t σ H Q := h
theorem d_sadd0 (x : SetN wd H S ms) {C : Prop} (h : C) : (∃ a Sx n, V.ref S = V.ref a ∧ H a = some (SetO wd a Sx n)) ∧ C := by
  obtain ⟨a, n, e, r⟩ := x
  exact ⟨⟨S, a, n, rfl, e⟩, h⟩
theorem d_sadd (x : SetN wd H S ms) (few : ms.length ≤ 4000) (k : ∀ o ms', SetN wd (upd H S o) S ms' → (∀ y, y ∈ ms' ↔ y ∈ ms ∨ y = q) → ms'.length ≤ ms.length + 1 → (q ∉ ms → ms' = ms ++ [q]) → Q .non (upd H S o)) : rSAdd wd (.ref S) [.int (q : Nat)] H Q := by
  obtain ⟨Sx, n, e, l, l', m⟩ := x
  refine ⟨S, q, Sx, n, rfl, rfl, e, by unfold scanBound; omega, ?_⟩
  have mem : ∀ j : Int, (Sx j || decide (j = (q : Int))) = true ↔ ∃ y : Nat, j = (y : Int) ∧ (y ∈ ms ∨ y = q) := fun j => by
    rw [Bool.or_eq_true, m, decide_eq_true_eq]
    constructor
    · rintro (⟨y, h1, h2⟩ | h)
      · exact ⟨y, h1, .inl h2⟩
      · exact ⟨q, h, .inr rfl⟩
    · rintro ⟨y, h1, h2 | h2⟩
      · exact .inl ⟨y, h1, h2⟩
      · exact .inr (by rw [h1, h2])
  by_cases c : q ∈ ms
  · have c' : Sx (q : Nat) = true := (m _).mpr ⟨q, rfl, c⟩
    rw [if_pos c']
    refine k _ ms ⟨_, n, upd_same, l, l', fun j => ?_⟩ (fun y => ⟨.inl, fun h => h.elim id fun z => z ▸ c⟩) (by omega) fun z => absurd c z
    rw [mem]
    exact ⟨fun ⟨y, h1, h2⟩ => ⟨y, h1, h2.elim id fun z => z ▸ c⟩, fun ⟨y, h1, h2⟩ => ⟨y, h1, .inl h2⟩⟩
  · have c' : ¬ Sx (q : Nat) = true := fun z => by
      obtain ⟨y, h1, h2⟩ := (m _).mp z
      have : q = y := by omega
      exact c (this ▸ h2)
    rw [if_neg c']
    refine k _ (ms ++ [q]) ⟨_, n + 1, upd_same, by rw [List.length_append]; show n + 1 ≤ ms.length + 1; omega, fun nd => ?_, fun j => ?_⟩ (fun y => by rw [List.mem_append, List.mem_singleton]) (by rw [List.length_append]; exact Nat.le_refl _) fun _ => rfl
    · rw [List.length_append, l' (List.nodup_append.mp nd).1]; rfl
    · rw [mem]
      exact ⟨fun ⟨y, h1, h2⟩ => ⟨y, h1, by rw [List.mem_append, List.mem_singleton]; exact h2⟩, fun ⟨y, h1, h2⟩ => ⟨y, h1, by rw [List.mem_append, List.mem_singleton] at h2; exact h2⟩⟩
theorem nats_of {ns : List Int} {l : List Nat} (s : ns.Pairwise (· < ·)) (sl : l.Pairwise (· < ·)) (m : ∀ k, k ∈ ns ↔ ∃ q : Nat, k = (q : Int) ∧ q ∈ l) : ns = zs l := by
  have nn : ∀ k ∈ ns, 0 ≤ k := fun k hk => by
    obtain ⟨q, h, _⟩ := (m k).mp hk
    omega
  have e1 : zs (ns.map Int.toNat) = ns := by
    unfold zs
    rw [List.map_map]
    refine (List.map_congr_left fun k hk => ?_).trans (List.map_id _)
    show ((k.toNat : Nat) : Int) = k
    exact Int.toNat_of_nonneg (nn k hk)
  rw [← e1]
  congr 1
  refine sorted_ext ?_ sl fun x => ?_
  · rw [List.pairwise_map]
    refine s.imp_of_mem fun {x y} hx hy h => ?_
    have := nn x hx
    have := nn y hy
    omega
  · rw [List.mem_map]
    constructor
    · rintro ⟨k, h1, h2⟩
      obtain ⟨q, h3, h4⟩ := (m k).mp h1
      have : x = q := by omega
      rw [this]; exact h4
    · intro h
      exact ⟨(x : Int), (m _).mpr ⟨x, rfl, h⟩, by simp⟩
theorem d_ssort (x : SetN wd H S ms) {l : List Nat} (nd : ms.Nodup) (few : ms.length < 64) (sl : l.Pairwise (· < ·)) (m : ∀ y, y ∈ ms ↔ y ∈ l) (k : ∀ p, H p = none → Q (.ref p) (upd H p (.lst (l.map fun y => V.int (y : Nat))))) : rSortedSet wd [.ref S] H Q := by
  obtain ⟨Sx, n, e, l1, l2, m1⟩ := x
  refine ⟨S, Sx, n, rfl, e, by have := l2 nd; omega, fun ns p s mem len fp => ?_⟩
  have : ns = zs l := nats_of s sl fun j => by
    rw [mem, m1]
    exact ⟨fun ⟨y, h1, h2⟩ => ⟨y, h1, (m y).mp h2⟩, fun ⟨y, h1, h2⟩ => ⟨y, h1, (m y).mpr h2⟩⟩
  rw [this, ← ints_map]
  exact k p fp
end
/-! ### lists of lists of places -/
abbrev natsV (p : List Nat) : List V := p.map fun q => V.int (q : Nat)
def PartsAt (H : Hp) (rs : List Addr) (ps : List (List Nat)) : Prop := Paired (fun r p => H r = some (.lst (natsV p))) rs ps
def partsD (ps : List (List Nat)) : PyData := .list (ps.map fun p => .list ((zs p).map PyData.int))
section
variable {K : PySem.W.Frag} {H H' : Hp} {rs : List Addr} {ps : List (List Nat)}
theorem PartsAt.same (x : PartsAt H rs ps) (s : Same H H') : PartsAt H' rs ps := Paired.imp x fun _ _ e => s _ _ e
theorem PartsAt.keep {h : Addr} (x : PartsAt H rs ps) (k : Keep h H H') (n : h ∉ rs) : PartsAt H' rs ps := by
  induction x with
  | nil => exact .nil
  | cons e _ ih =>
    exact .cons (k _ _ (fun z => n (z ▸ List.mem_cons_self)) e) (ih fun z => n (List.mem_cons_of_mem _ z))
theorem PartsAt.dpa : ∀ {rs : List Addr} {ps : List (List Nat)}, PartsAt H rs ps → DpAll K H (rs.map V.ref) (ps.map fun p => PyData.list ((zs p).map PyData.int))
  | _, _, .nil => .nil
  | _, _, .cons e r => .cons (dp_nats e) (PartsAt.dpa r)
theorem PartsAt.dp {T : Addr} (x : PartsAt H rs ps) (e : H T = some (.lst (rs.map V.ref))) : Dp K H (.ref T) (partsD ps) := .lst (SqL.of e) x.dpa
theorem partsD_good (ps : List (List Nat)) : SeqAt.shaped (partsD ps) = true := by
  refine shaped_list (k := 1) (by decide) fun d hd => ?_
  obtain ⟨p, _, rfl⟩ := List.mem_map.mp hd
  have h := shaped_ints (zs p)
  refine ⟨SeqAt.canLay_of_shaped h, ?_⟩
  have : PyData.depthAll ((zs p).map PyData.int) ≤ 0 := by
    generalize zs p = l
    induction l with
    | nil => simp [PyData.depthAll]
    | cons a l ih => simp [PyData.depthAll, PyData.depth]; omega
  simp only [PyData.depth]; omega
end
theorem cr_setLw {X : Cx} {wd : World} (hw : X.w = wd) (hc : X.calm = true) : CallR X (.type "set") (rSetL X.K wd) := by
  subst hw
  exact cr_setL hc
/-! ### webs beside one another; a row -/
def shiftT (n : Nat) (t : Tie) : Tie := (t.1 + n, t.2.1 + n, t.2.2)
def joinW (u v : Web) : Web := (u.1 ++ v.1, u.2 ++ v.2.map (shiftT u.1.length))
def rowW (u : Web) : Web := (u.1, (List.range (u.1.length - 1)).map fun j => (j, j + 1, 115))
theorem ties_few {ts : List Tie} {n : Nat} (s : ts.Pairwise tlt) (e : ∀ t ∈ ts, t.1 < n ∧ t.2.1 < n) : ts.length ≤ n * n := by
  have h := nodup_len (n * n) (ts.map fun t => t.1 * n + t.2.1) ?_ ?_
  · rw [List.length_map] at h; exact h
  · unfold List.Nodup
    rw [List.pairwise_map]
    refine s.imp_of_mem fun {x y} hx hy h z => ?_
    obtain ⟨a1, a2⟩ := e x hx
    obtain ⟨b1, b2⟩ := e y hy
    unfold tlt at h
    have e1 : (x.1 * n + x.2.1) / n = x.1 := by rw [Nat.add_comm, Nat.add_mul_div_right _ _ (by omega), Nat.div_eq_of_lt a2, Nat.zero_add]
    have e2 : (y.1 * n + y.2.1) / n = y.1 := by rw [Nat.add_comm, Nat.add_mul_div_right _ _ (by omega), Nat.div_eq_of_lt b2, Nat.zero_add]
    have : x.1 = y.1 := by rw [← e1, ← e2, z]
    rw [this] at z
    omega
  · intro x hx
    obtain ⟨t, ht, rfl⟩ := List.mem_map.mp hx
    obtain ⟨a1, a2⟩ := e t ht
    calc t.1 * n + t.2.1 < t.1 * n + n := by omega
      _ = (t.1 + 1) * n := by rw [Nat.add_mul, Nat.one_mul]
      _ ≤ n * n := Nat.mul_le_mul_right _ a1
theorem few_most {n m : Nat} (h : n ≤ 40) (k : m ≤ n * n) : m ≤ 1600 := Nat.le_trans k (Nat.le_trans (Nat.mul_le_mul h h) (by decide))
theorem joinW_ok {u v : Web} (U : WOk u) (V : WOk v) (h : u.1.length + v.1.length ≤ 40) : WOk (joinW u v) := by
  have en : ∀ t ∈ (joinW u v).2, t.1 < t.2.1 ∧ t.2.1 < (joinW u v).1.length ∧ Ltr t.2.2 := fun t ht => by
    unfold joinW at ht ⊢
    dsimp only at ht ⊢
    rw [List.length_append]
    rcases List.mem_append.mp ht with ht | ht
    · obtain ⟨a, b, c⟩ := U.ends t ht
      exact ⟨a, by omega, c⟩
    · obtain ⟨s, hs, rfl⟩ := List.mem_map.mp ht
      obtain ⟨a, b, c⟩ := V.ends s hs
      unfold shiftT
      exact ⟨by dsimp only; omega, by dsimp only; omega, c⟩
  have ri : (joinW u v).2.Pairwise tlt := by
    unfold joinW
    refine List.pairwise_append.mpr ⟨U.rise, ?_, fun x hx y hy => ?_⟩
    · rw [List.pairwise_map]
      refine V.rise.imp fun {x y} h => ?_
      unfold tlt shiftT at *
      dsimp only
      omega
    · obtain ⟨s, hs, rfl⟩ := List.mem_map.mp hy
      obtain ⟨a, b, c⟩ := U.ends x hx
      unfold tlt shiftT
      left
      dsimp only
      omega
  have le : (joinW u v).1.length ≤ 40 := by unfold joinW; rw [List.length_append]; exact h
  refine ⟨le, few_most le (ties_few ri fun t ht => ?_), fun c hc => ?_, ri, en⟩
  · obtain ⟨a, b, _⟩ := en t ht
    omega
  · unfold joinW at hc
    rcases List.mem_append.mp hc with hc | hc
    · exact U.kinds c hc
    · exact V.kinds c hc
theorem rowW_ok {u : Web} (U : WOk u) : WOk (rowW u) := by
  refine ⟨U.few, ?_, U.kinds, ?_, fun t ht => ?_⟩
  · unfold rowW
    rw [List.length_map, List.length_range]
    have := U.few
    omega
  · unfold rowW
    rw [List.pairwise_map]
    refine List.pairwise_lt_range.imp fun {x y} h => ?_
    unfold tlt
    left
    exact h
  · unfold rowW at ht ⊢
    obtain ⟨j, hj, rfl⟩ := List.mem_map.mp ht
    rw [List.mem_range] at hj
    exact ⟨Nat.lt_succ_self _, by dsimp only; omega, by unfold Ltr; dsimp only; omega⟩
theorem wok_nil : WOk ([], []) := ⟨by decide, by decide, by simp, .nil, by simp⟩
theorem partsL_nil : partsL ([], []) = [] := rfl
end Cw

namespace Cw
open PySem PySem.Spec PyProof.Rows L2
/-! ### all, any of a generator expression: one clause without tests, over whatever PI serves; its item may call defs -/
/-- a def's table of code objects, which grows at the first call -/
def TbX (P : Addr) : HO := .ext fun h => ∃ ps : Array Value, h.get? P = some { cls := .none, data := .fields ps } ∧ TriplesOk ps.toList
theorem upd_id {H : Hp} {P : Addr} {o : HO} (e : H P = some o) : upd H P o = H := funext fun b => by
  by_cases hb : b = P
  · rw [hb, upd_same, e]
  · exact upd_ne hb
section
variable {X : Cx} {pins : List (Addr × Obj)} {σ : L2.St} {H : Hp} {s : Shared} {P : Addr}
theorem tb_at (I : Inv X pins σ H s) (hP : H P = some (TbX P)) : ∃ ps : Array Value, s.heap.get? P = some { cls := .none, data := .fields ps } ∧ TriplesOk ps.toList := (I.hok P _ hP).1
theorem tb_grown (I : Inv X pins σ H s) (hP : H P = some (TbX P)) {h' : Heap} {tk : Nat} {ps : Array Value} (k : ∀ b o, b ≠ P → s.heap.get? b = some o → h'.get? b = some o)
    (e : h'.get? P = some { cls := .none, data := .fields ps }) (ht : TriplesOk ps.toList) : Inv X pins σ H { s with heap := h', toks := tk } := by
  have J := I.write (x := P) (e := P) (o := TbX P) (t' := tk) (by rw [hP]; exact trivial) (.inl rfl) k ⟨_, e⟩ ⟨⟨ps, e, ht⟩, ⟨_, e⟩, fun h1 h2 ⟨qs, z, zt⟩ st => ⟨qs, st _ z, zt⟩⟩
  rw [upd_id hP] at J
  exact J
/-- the code object of a generator expression, made now or found -/
theorem gx_code {c : Addr} {gpos : Pos} {qual : Str} {scope : Scope} {E : Value → Shared → Prop} {A : Around} {Qc : Value → Shared → Prop} (TB : GxR.TabB X.base X.mg c P) (hcode : X.env.code = .ref c) (I : Inv X pins σ H s) (hP : H P = some (TbX P))
    (h : ∀ code h' tk, Inv X pins σ H { s with heap := h', toks := tk } → (∀ b o, b ≠ P → s.heap.get? b = some o → h'.get? b = some o) → s.heap.objs.size ≤ h'.objs.size → Qc code { s with heap := h', toks := tk }) :
    wpAny (model X.prog X.w) A (genexprCode X.env gpos qual scope) Qc E s := by
  obtain ⟨ps, e, ht⟩ := tb_at I hP
  have cd : PySem.W.CodeHd s.heap c P := TB.code.keeps fun b o q => I.bk b o q
  cases hf : codeAmong gpos ps.toList with
  | some cv => exact wpAny_genexprCode_hit hcode (cd.code e ht) hf (h cv s.heap s.toks I (fun _ _ _ q => q) (Nat.le_refl _))
  | none =>
    refine wpAny_genexprCodeX hcode (cd.code e ht) (cd.tab e) hf fun c' h' tk ext big less known _ tab _ => ?_
    obtain ⟨_, _, _, _, _, _, _, _, _, _, _, _, _, _, _, _, _, _, _, trip, _⟩ := known
    exact h _ h' tk (tb_grown I hP ext tab.2 trip) ext (Nat.le_trans big (Nat.le_of_lt less))
end
/-- where a generator expression's items run: its frame over the frames that stand, made at s -/
abbrev _root_.L2.Cx.gx (X : Cx) (Ag : Around) (s : Shared) (H : Hp) (cenv : Env) (fp : List Addr) : Cx := { X with A := Ag, s_0 := s, H_0 := H, env := cenv, outer := X.stack, stack := cenv :: X.stack, ex := fp, fn := fun _ => false, pn := [], xe := fun _ _ => False }
abbrev gxEnv (X : Cx) (scope : Scope) (C : Addr) (code : Value) : Env := genEnv scope (cloFrom X.env.cells scope.names []) C code builtinsNs X.env
section
variable {X : Cx} {pins : List (Addr × Obj)} {σ : L2.St} {H : Hp} {s : Shared} {scope : Scope} {own : List (Str × Nat)} {fp : List Addr} {Ag : Around} {code : Value} {h5 : Heap} {tk : Nat} {g5 : Array GenState} {a : Addr} {go : Obj}
theorem gx_cells (I : Inv X pins σ H s) {y : Str} {c : Addr} (free : ∀ y ∈ scope.names, y.2 = .free → ∃ c, X.env.cells.lookup y.1 = some c) (e : (cloFrom X.env.cells scope.names []).lookup y = some c) : X.env.cells.lookup y = some c ∧ c < s.heap.objs.size := by
  rcases cloFrom_mem (PySem.mem_of_lookup e) with z | ⟨z, rfl⟩
  · cases z
  · obtain ⟨c, hc⟩ := free _ z rfl
    obtain ⟨v, w⟩ := I.cell _ _ hc
    rw [hc]
    exact ⟨rfl, w.lt⟩
theorem gx_start (I : Inv X pins σ H s) (ok : BlkOk X.N X.env.scope scope own) (nc : ∀ y ∈ scope.names, y.2 ≠ .cell) (hN : X.N.Nodup) (hfp : ∀ b ∈ fp, FpOk X pins H b ∧ b < s.heap.objs.size) (hA : X.calm = true → Ag.handled = none) (hfr : Ag.frames = some (gxEnv X scope s.heap.objs.size code :: X.stack))
    (keep : ∀ b o, s.heap.get? b = some o → h5.get? b = some o) {m : Str → Option Value} (ns : h5.Ns s.heap.objs.size m) (ha : h5.get? a = some go) (la : s.heap.objs.size < a) (nv : ∀ v, go.data ≠ .cell v) (hg : AllBare g5) :
    Inv (X.gx Ag s H (gxEnv X scope s.heap.objs.size code) fp) [(a, go)] (wipe σ (own.map (·.2))) H { s with gens := g5, toks := tk, heap := h5 } := by
  have free : ∀ y ∈ scope.names, y.2 = .free → ∃ c, X.env.cells.lookup y.1 = some c := fun y hy e => (ok.free y hy e).elim (fun k => I.ok.has _ (.inl k)) fun k => I.ok.has _ (.inr k)
  have cm := fun {y : Str} {c : Addr} (e : (cloFrom X.env.cells scope.names []).lookup y = some c) => gx_cells I free e
  have there : ∀ {y : Str}, scope.names.lookup y = some .free → ∃ c, (cloFrom X.env.cells scope.names []).lookup y = some c ∧ X.env.cells.lookup y = some c := fun {y} hl => by
    obtain ⟨c', e'⟩ := mem_lookup (cloFrom_has (cells := X.env.cells) (acc := []) (PySem.mem_of_lookup hl))
    exact ⟨c', e', (cm e').1⟩
  have young : ∀ b o, s.heap.get? b = some o → b ≠ s.heap.objs.size := fun b o e => Nat.ne_of_lt (Heap.lt_size e)
  have okG : (X.gx Ag s H (gxEnv X scope s.heap.objs.size code) fp).Ok := {
    mod := I.ok.mod, kind := ok.kind, glob := I.ok.glob, blt := rfl, above := Nat.le_refl _
    inj := fun x y c e1 e2 => I.ok.inj x y c (cm e1).1 (cm e2).1
    has := fun x hx => by
      rcases hx with hx | hx
      · exact absurd rfl (nc _ (PySem.mem_of_lookup hx))
      · obtain ⟨c, e, _⟩ := there hx
        exact ⟨c, e⟩
    cab := fun x c z _ => nomatch z
    hd := hA, frames := hfr, stk := .inr ⟨rfl, rfl⟩
    exf := fun b hb => ⟨Nat.ne_of_lt (hfp b hb).2, fun x c e => (hfp b hb).1.2.2.2.2.1 x c (cm e).1⟩
    bs := I.bs, bsz := Nat.le_trans I.ok.bsz I.sz
    noex := fun b o e hb => by
      rcases (hfp b hb).1.2.2.2.1 with z | z
      · exact I.ok.noex b o e z
      · exact absurd (Nat.lt_of_lt_of_le (Heap.lt_size e) (Nat.le_trans I.ok.bsz z)) (Nat.lt_irrefl _)
    exfs := fun b hb z => (List.mem_cons.mp (I.stkSub b z)).elim (hfp b hb).1.2.1 (hfp b hb).1.2.2.1
    funs := I.stack, frf := I.stkFree }
  refine { ok := okG, os := rfl, bare := hg, base := Un.kept keep, loc := ⟨m, ns, fun i y v e1 e2 e3 => ?_⟩, cell := fun y c e => ?_, free := I.hok.fresh (Nat.le_refl _), freeC := fun y c e => I.freeC y c (cm e).1, pin := fun p hp => ?_, hok := I.hok.kept keep, len := by rw [wipe_length]; exact I.len }
  · obtain ⟨e2, hne⟩ := wipe_some e2
    have notOwn : ∀ k, scope.names.lookup y = some k → k = .local ∨ k = .cell → False := fun k hk hk' => by
      rcases ok.own _ (PySem.mem_of_lookup hk) hk' with z | z
      · obtain ⟨p, hp, hpy⟩ := List.mem_map.mp z
        exact hne (List.mem_map.mpr ⟨p, hp, nodup_ix hN (by rw [ok.ix p hp, show p.1 = y from hpy]) e1⟩)
      · exact z (List.mem_of_getElem? e1)
    have fr : scope.names.lookup y = some .free := by
      rcases e3 with z | z | z
      · exact (notOwn _ z (.inl rfl)).elim
      · exact (notOwn _ z (.inr rfl)).elim
      · exact z
    obtain ⟨c, h1, h2⟩ := there fr
    obtain ⟨m', _, hl⟩ := I.loc
    have cf := ok.free _ (PySem.mem_of_lookup fr) rfl
    obtain ⟨u, r, q⟩ := hl i y v e1 e2 (cf.elim (fun k => .inr (.inl k)) fun k => .inr (.inr k))
    refine ⟨u, r, .inr ⟨.inr fr, c, h1, ?_⟩⟩
    rcases q with ⟨k, _⟩ | ⟨_, c', e', z⟩
    · have k : X.env.scope.names.lookup y = some .local := k
      rcases cf with z | z <;> (rw [show X.env.scope.names.lookup y = _ from z] at k; cases k)
    · rw [h2] at e'
      cases e'
      exact z.keeps keep
  · obtain ⟨v, z⟩ := I.cell y c (cm e).1
    exact ⟨v, z.keeps keep⟩
  · obtain rfl : p = (a, go) := List.mem_singleton.mp (show p ∈ [(a, go)] from hp)
    refine ⟨ha, I.hok.fresh (Nat.le_of_lt la), Nat.ne_of_gt la, fun z => ?_, nv⟩
    obtain ⟨_, o, ho, _⟩ := I.stack.mem z
    exact absurd (Nat.lt_trans (Heap.lt_size ho) la) (Nat.lt_irrefl _)
/-- the state but for its generators, texts' numbers and draws -/
theorem inv_re {X : Cx} {s s' : Shared} (I : Inv X pins σ H s) (hh : s'.heap = s.heap) (ho : s'.os = s.os) (hg : AllBare s'.gens) : Inv X pins σ H s' := by
  obtain ⟨a1, a2, a3, a4, a5, a6, a7, a8, a9, a10, a11⟩ := I
  rw [← hh] at a4 a5 a6 a9 a10
  exact ⟨a1, ho.trans a2, hg, a4, a5, a6, a7, a8, a9, a10, a11⟩
end
/-! the generator's own run -/
/-- an item handed out: a truth; the one at which the consumer stops, and the others, behind which it asks again -/
def gxY (X : Cx) (p : Addr × Obj) (st : Bool) (QS : Hp → Prop) : Protocol := fun _ _ v s kap => ∃ (b : Bool) (σ : L2.St) (H : Hp), v = .bool b ∧ Inv X [p] σ H s ∧ (b = st → QS H) ∧
  (b = !st → ∀ s2 : Shared, s2.heap = s.heap → s2.os = s.os → AllBare s2.gens → kap (.send .none) s2)
def gxP (X : Cx) (p : Addr × Obj) (QE : Hp → Prop) : Nat → Shared → Shared → Prop := fun _ _ s => ∃ (σ : L2.St) (H : Hp), Inv X [p] σ H s ∧ QE H
abbrev gxR (X : Cx) (p : Addr × Obj) (QE : Hp → Prop) : GenEnd := fun n s0 r s => r = .ok .next ∧ gxP X p QE n s0 s
/-- one turn by the walk, the target, the item -/
def gxTurn (J : It) (g : TG) (te : TE) (vs : List Nat) (st : Bool) (σ : L2.St) (QE QS : Hp → Prop) (W : Nat → Nat → Hp → Prop) : Prop := ∀ i m H, W i m H → (J.stop i H ∧ QE H) ∨ (J.go i H ∧ ∀ x H', J.yld i H x H' →
  g x (wipe σ vs) H' fun σ2 H2 => wipe σ2 vs = wipe σ vs ∧ te σ2 H2 fun y H3 => ∃ b, y = .bl b ∧ (b = st → QS H3) ∧ (b = !st → ∃ m', m' < m ∧ W (i + 1) m' H3))
section
variable {X : Cx} {p : Addr × Obj} {st : Bool} {QE QS : Hp → Prop} {J : It} {g : TG} {te : TE} {vs : List Nat} {σ : L2.St} {W : Nat → Nat → Hp → Prop} {fp : List Addr} {it : Addr} {tn : Nat → Heap → Prop} {elt tg iter : Expr} {scope : Scope} {pos : Pos} {A0 : Around}
theorem gx_loop (hA : X.A = A0.over (.compLoop (.GeneratorExp elt [⟨tg, iter, [], 0⟩] scope pos) 0 (.ref it) .none X.env) []) (hco : X.env.scope.isCoroutine = false) (hx : ∀ e s, X.xe e s → False) (hc : X.calm = true)
    (T : Turn X.prog X.w X.K tg J fp it tn) (hex : ∀ b ∈ fp, b ∈ X.ex) (hpn : X.pn = []) (hap : ∀ b ∈ fp, p.1 ≠ b) (pg : PG X tg g) (pe : PE X elt te) (turn : gxTurn J g te vs st σ QE QS W) :
    ∀ (n i m : Nat) (H : Hp) (s s0 : Shared), m + 1 ≤ n → Inv X [p] (wipe σ vs) H s → tn i s.heap → (∀ b ∈ fp, H b = none) → W i m H →
      Seg (model X.prog X.w) A0 (gxR X p QE) (gxY X p st QS) n s0 (.compLoop (.GeneratorExp elt [⟨tg, iter, [], 0⟩] scope pos) 0 (.ref it) .none X.env)
        ((model X.prog X.w).den (.compLoop (.GeneratorExp elt [⟨tg, iter, [], 0⟩] scope pos) 0 (.ref it) .none X.env)) [] s := by
  have stat : ∀ {σ' : L2.St} {H' : Hp} {s' : Shared}, Inv X [p] σ' H' s' → (∀ b ∈ fp, H' b = none) → ∀ b ∈ fp, FpOk X [p] H' b := fun {σ' H' s'} I' hn b hb =>
    ⟨hn b hb, (I'.ok.exf b (hex b hb)).1, I'.ok.exfs b (hex b hb), .inl (hex b hb), (I'.ok.exf b (hex b hb)).2, fun q hq => by
      rw [hpn] at hq
      rw [List.mem_singleton.mp (show q ∈ [p] from hq)]
      exact hap b hb⟩
  intro n
  induction n with
  | zero => intro i m H s s0 hm; omega
  | succ n ih =>
    intro i m H s s0 hm I t hn w
    show Seg _ A0 _ _ _ s0 _ ((compTurn (.GeneratorExp elt [⟨tg, iter, [], 0⟩] scope pos) 0 (.ref it) .none X.env).onRaise (leaving X.env)) [] s
    rw [compTurn_gen, Sem.onRaise_eq_wrap]
    refine seg_bind_wrap (wpAny_standAt ?_)
    rcases turn i m H w with ⟨stop, qe⟩ | ⟨go, step⟩
    · have d := T.done X rfl rfl rfl hc i [p] s _ H (fun _ _ => False) I (stat I hn) t stop
      rw [hA] at d
      exact seg_bind_wrap (thnF d fun r s1 ⟨hr, I1⟩ => by subst hr; exact seg_end (.ok .next) ⟨rfl, _, _, I1, qe⟩)
    · have d := T.item X rfl rfl rfl hc i [p] s _ H (fun _ _ => False) I (stat I hn) t go
      rw [hA] at d
      refine seg_bind_wrap (thnF d fun r s1 ⟨u, hr, d1⟩ => ?_)
      subst hr
      refine seg_bind_wrap (thnF d1 fun _ s2 ⟨x, H2, I2, r2, y2, t2, n2⟩ => ?_)
      have I2' := I2.pinned (stat I2 n2) (T.obj _ _ t2)
      have dg := pg.run _ s2 _ H2 x u _ I2' r2 (step x H2 y2)
      rw [hA] at dg
      refine seg_bind_wrap (wpAny_mono dg (fun _ s3 ⟨σ3, H3, I3, w3, q3⟩ => ?_) fun e s' z => (hx e s' z).elim)
      simp only [List.forIn_nil]
      refine seg_bind_wrap (wpAny_pure ?_)
      simp only [if_true]
      have out : ∀ v, yieldOut X.env v = yieldValue v := fun v => by simp only [yieldOut, hco, Bool.false_eq_true, if_false]
      simp only [out]
      have de := pe.run _ s3 σ3 H3 _ I3 q3
      rw [hA] at de
      rw [Sem.bind_eq_wrap', Sem.bind_eq_wrap', Sem.wrap_wrap, Sem.wrap_wrap]
      refine seg_wrap (wpAny_mono de (fun v s4 ⟨y, H4, I4, r4, b, hy, qs, qn⟩ => ?_) fun e s' z => (hx e s' z).elim)
      subst hy
      obtain rfl : v = Value.bool b := r4
      have kept : ∀ b ∈ fp, ∀ o, s2.heap.get? b = some o → s4.heap.get? b = some o ∧ H4 b = none := fun b hb o e =>
        let z := I4.pin (b, o) (List.mem_append_right _ (List.mem_append_right _ (mem_pinsAt hb e)))
        ⟨z.1, z.2.1⟩
      refine seg_at (seg_yield rfl rfl rfl ⟨b, σ3, H4, rfl, I4.unpinned, qs, fun hb s5 e1 e2 e3 => ?_⟩)
      obtain ⟨m', lm, w'⟩ := qn hb
      have I5 := inv_re ((I4.unpinned (pins := [p])).weak (σ' := wipe σ vs) (by rw [← w3, wipe_length]) fun j v e => by rw [← w3] at e; exact (wipe_some e).1) e1 e2 e3
      refine seg_again rfl (ih (i + 1) m' H4 s5 s5 (by omega) I5 ?_ (fun b hb => ?_) w')
      · rw [e1]
        exact T.keep _ _ _ t2 fun b hb o e => (kept b hb o e).1
      · obtain ⟨o, e, _⟩ := T.obj _ _ t2 b hb
        exact (kept b hb o e).2
/-- its start: the iterator is asked for itself, then the loop -/
theorem gx_fresh {n : Nat} {s : Shared} (h : ∀ s0, Seg (model X.prog X.w) A0 (gxR X p QE) (gxY X p st QS) n s0 (.compLoop (.GeneratorExp elt [⟨tg, iter, [], 0⟩] scope pos) 0 (.ref it) .none X.env)
        ((model X.prog X.w).den (.compLoop (.GeneratorExp elt [⟨tg, iter, [], 0⟩] scope pos) 0 (.ref it) .none X.env)) [] s) (T : Turn X.prog X.w X.K tg J fp it tn) (t : tn 0 s.heap) (s0 : Shared) :
    Seg (model X.prog X.w) A0 (gxR X p QE) (gxY X p st QS) n s0 (.compStart (.GeneratorExp elt [⟨tg, iter, [], 0⟩] scope pos) 0 (.ref it) .none X.env)
      ((model X.prog X.w).den (.compStart (.GeneratorExp elt [⟨tg, iter, [], 0⟩] scope pos) 0 (.ref it) .none X.env)) [] s := by
  have go := seg_again (c := .compStart (.GeneratorExp elt [⟨tg, iter, [], 0⟩] scope pos) 0 (.ref it) .none X.env) (c' := .compLoop (.GeneratorExp elt [⟨tg, iter, [], 0⟩] scope pos) 0 (.ref it) .none X.env) rfl (h s0)
  show Seg _ A0 _ _ _ s0 _ ((compStart (.GeneratorExp elt [⟨tg, iter, [], 0⟩] scope pos) 0 (.ref it) .none X.env).onRaise (leaving X.env)) [] s
  unfold compStart
  rw [Sem.onRaise_eq_wrap]
  show Seg _ A0 _ _ _ s0 _ ((ask >>= _).wrap _ _ _ _) [] s
  refine seg_bind_wrap (wpAny_askSetting ?_)
  split
  · exact go
  · refine seg_bind_wrap (wpAny_rule ?_)
    show Seg _ A0 _ _ _ s0 _ ((standAt iter.pos >>= _).wrap _ _ _ _) [] s
    exact seg_bind_wrap (wpAny_standAt (seg_bind_wrap (T.self _ 0 s _ _ t go)))
end
/-! the consumer -/
section
variable {X : Cx} {a : Addr} {gn : Nat} {go : Obj} {st : Bool} {QE QS : Hp → Prop} {A : Around} {R : Result → Shared → Prop}
/-- the generator stands ready for at most n turns -/
def GxAt (X : Cx) (A : Around) (a : Addr) (go : Obj) (gn : Nat) (st : Bool) (QE QS : Hp → Prop) (n : Nat) (s : Shared) : Prop := ∃ (gs : GenState) (σ : L2.St) (H : Hp), s.gens[gn]? = some gs ∧ Inv X [(a, go)] σ H s ∧
  ∀ s2 : Shared, s2.heap = s.heap → s2.os = s.os → AllBare s2.gens → gs.Goes (model X.prog X.w) A (gxR X (a, go) QE) (gxY X (a, go) st QS) n (.send .none) s2
theorem allBare_set {gs : GenState} {s : Shared} (h : AllBare s.gens) (hb : gs.bare = true) : AllBare (s.setGen gn gs).gens := fun x hx => by
  obtain ⟨i, hi, e⟩ := Array.mem_iff_getElem.mp hx
  have e2 : (s.gens.setIfInBounds gn gs)[i]? = some x := Array.getElem?_eq_some_iff.mpr ⟨hi, e⟩
  rw [Array.getElem?_setIfInBounds] at e2
  split at e2
  · split at e2
    · cases e2; exact hb
    · cases e2
  · exact h x (Array.mem_of_getElem? e2)
theorem setGen_at {gs : GenState} {s : Shared} (h : gn < (s.setGen gn gs).gens.size) : (s.setGen gn gs).gens[gn]? = some gs := by
  rw [GenW.setGen_size] at h
  simp [Shared.setGen, h]
theorem gx_next {E : Value → Shared → Prop} {s : Shared} {n : Nat} {Qn : Option Value → Shared → Prop} (hh : A.handled = none) (hroom : A.depth < recursionLimit) (isg : ∀ h : Heap, h.get? a = some go → h.IsGen a gn) (G : GxAt X A.in1 a go gn st QE QS n s)
    (hend : ∀ s' σ H, Inv X [(a, go)] σ H s' → QE H → Qn none s') (hstop : ∀ s' σ H, Inv X [(a, go)] σ H s' → QS H → Qn (some (.bool st)) s') (hgo : ∀ k s', n = k + 1 → GxAt X A.in1 a go gn st QE QS k s' → Qn (some (.bool !st)) s') :
    wpAny (model X.prog X.w) A (pyNext (.ref a)) Qn E s := by
  obtain ⟨gs, σ, H, hgs, I, goes⟩ := G
  have at_ := fun {σ' : L2.St} {H' : Hp} {s' : Shared} (I' : Inv X [(a, go)] σ' H' s') => (I'.pin (a, go) (List.mem_append_right _ (List.mem_singleton.mpr rfl))).1
  have lt : gn + 1 ≤ s.gens.size := (Array.getElem?_eq_some_iff.mp hgs).1
  refine GenW.wpAny_gsz lt (wpAny_pyNext_genexpQ (P := gxP X (a, go) QE) hh I.nolimit hroom (isg _ (at_ I)) hgs (goes _ rfl rfl (allBare_set I.bare rfl)) (fun v s1 g1 hb hy => ?_) fun s1 ⟨σ1, H1, I1, q1⟩ h' k => ?_)
  · intro sz
    obtain ⟨b, σ1, H1, rfl, I1, qs, qn⟩ := hy
    have I2 : Inv X [(a, go)] σ1 H1 (s1.setGen gn g1) := inv_re I1 rfl rfl (allBare_set I1.bare hb)
    by_cases e : b = st
    · subst e
      exact hstop _ _ _ I2 (qs rfl)
    · have e2 : b = !st := by cases b <;> cases st <;> simp_all
      subst e2
      match n, qn rfl with
      | 0, qn => exact (qn s1 rfl rfl I1.bare).elim
      | n + 1, qn => exact hgo n _ rfl ⟨g1, σ1, H1, setGen_at sz, I2, qn⟩
  · intro _
    have I2 : Inv X [(a, go)] σ1 H1 (s1.setGen gn .finished) := inv_re I1 rfl rfl (allBare_set I1.bare rfl)
    exact hend _ _ _ (I2.kept (t' := s1.toks) k) q1
theorem gx_all_loop (hh : A.handled = none) (hroom : A.depth < recursionLimit) (isg : ∀ h : Heap, h.get? a = some go → h.IsGen a gn) (hend : ∀ s' σ H, Inv X [(a, go)] σ H s' → QE H → R (.ok (.ret (.bool true))) s')
    (hstop : ∀ s' σ H, Inv X [(a, go)] σ H s' → QS H → R (.ok (.ret (.bool false))) s') : ∀ (n : Nat) (s : Shared), GxAt X A.in1.in1 a go gn false QE QS n s → codeAny (model X.prog X.w) A (.builtin "all.loop" ⟨[.ref a], []⟩) R s := by
  intro n
  induction n with
  | zero =>
    intro s G
    refine codeAny_builtin F.entry_all_loop ?_
    rw [Around.under_plainId F.plain_all_loop _]
    show wpAny _ A.in1 (pyNext (.ref a) >>= _) _ _ s
    refine wpAny_bind (gx_next (A := A.in1) hh hroom isg G (fun s' σ H I q => ?_) (fun s' σ H I q => ?_) fun k s' e => absurd e (by omega))
    · exact wpAny_bind (wpAny_rule (wpAny_pure (hend _ _ _ I q)))
    · exact wpAny_bind (wpAny_holding (wpAny_truthy_bool (wpAny_bind (wpAny_letGo (wpAny_bind (wpAny_rule (wpAny_pure (hstop _ _ _ I q))))))))
  | succ n ih =>
    intro s G
    refine codeAny_builtin F.entry_all_loop ?_
    rw [Around.under_plainId F.plain_all_loop _]
    show wpAny _ A.in1 (pyNext (.ref a) >>= _) _ _ s
    refine wpAny_bind (gx_next (A := A.in1) hh hroom isg G (fun s' σ H I q => ?_) (fun s' σ H I q => ?_) fun k s' e G' => ?_)
    · exact wpAny_bind (wpAny_rule (wpAny_pure (hend _ _ _ I q)))
    · exact wpAny_bind (wpAny_holding (wpAny_truthy_bool (wpAny_bind (wpAny_letGo (wpAny_bind (wpAny_rule (wpAny_pure (hstop _ _ _ I q))))))))
    · cases e
      exact wpAny_bind (wpAny_holding (wpAny_truthy_bool (wpAny_bind (wpAny_letGo (wpAny_pure ⟨plainId_quiet F.plain_all_loop _, ih s' G'⟩)))))
theorem gx_any_loop (hh : A.handled = none) (hroom : A.depth < recursionLimit) (isg : ∀ h : Heap, h.get? a = some go → h.IsGen a gn) (hend : ∀ s' σ H, Inv X [(a, go)] σ H s' → QE H → R (.ok (.ret (.bool false))) s')
    (hstop : ∀ s' σ H, Inv X [(a, go)] σ H s' → QS H → R (.ok (.ret (.bool true))) s') : ∀ (n : Nat) (s : Shared), GxAt X A.in1.in1 a go gn true QE QS n s → codeAny (model X.prog X.w) A (.builtin "any.loop" ⟨[.ref a], []⟩) R s := by
  intro n
  induction n with
  | zero =>
    intro s G
    refine codeAny_builtin F.entry_any_loop ?_
    rw [Around.under_plainId F.plain_any_loop _]
    show wpAny _ A.in1 (pyNext (.ref a) >>= _) _ _ s
    refine wpAny_bind (gx_next (A := A.in1) hh hroom isg G (fun s' σ H I q => ?_) (fun s' σ H I q => ?_) fun k s' e => absurd e (by omega))
    · exact wpAny_bind (wpAny_rule (wpAny_pure (hend _ _ _ I q)))
    · exact wpAny_bind (wpAny_holding (wpAny_truthy_bool (wpAny_bind (wpAny_letGo (wpAny_bind (wpAny_rule (wpAny_pure (hstop _ _ _ I q))))))))
  | succ n ih =>
    intro s G
    refine codeAny_builtin F.entry_any_loop ?_
    rw [Around.under_plainId F.plain_any_loop _]
    show wpAny _ A.in1 (pyNext (.ref a) >>= _) _ _ s
    refine wpAny_bind (gx_next (A := A.in1) hh hroom isg G (fun s' σ H I q => ?_) (fun s' σ H I q => ?_) fun k s' e G' => ?_)
    · exact wpAny_bind (wpAny_rule (wpAny_pure (hend _ _ _ I q)))
    · exact wpAny_bind (wpAny_holding (wpAny_truthy_bool (wpAny_bind (wpAny_letGo (wpAny_bind (wpAny_rule (wpAny_pure (hstop _ _ _ I q))))))))
    · cases e
      exact wpAny_bind (wpAny_holding (wpAny_truthy_bool (wpAny_bind (wpAny_letGo (wpAny_pure ⟨plainId_quiet F.plain_any_loop _, ih s' G'⟩)))))
end
/-! the rule -/
abbrev gxAr (A : Around) (elt tg iter : Expr) (scope : Scope) (pos : Pos) (it : Addr) (env : Env) : Around := A.in1.in1.over (.compLoop (.GeneratorExp elt [⟨tg, iter, [], 0⟩] scope pos) 0 (.ref it) .none env) []
theorem gx_room {k : Nat} {A : Around} {elt tg iter : Expr} {scope : Scope} {pos : Pos} {it : Addr} {env : Env} (hr : Room (k + 1) A) : Room k (gxAr A elt tg iter scope pos it env) := by
  have e1 : (gxAr A elt tg iter scope pos it env).depth ≤ A.depth + 1 := Nat.le_of_eq rfl
  have e2 : (gxAr A elt tg iter scope pos it env).units ≤ A.units + 5 := Nat.le_of_eq rfl
  exact ⟨hr.hd, by have := hr.dp; omega, by have := hr.un; omega⟩
section
variable {X : Cx} {pins : List (Addr × Obj)} {σ : L2.St} {H : Hp} {s : Shared} {scope : Scope} {own : List (Str × Nat)} {elt tg iter : Expr} {gpos : Pos} {c P : Addr} {wi : TI} {g : TG} {te : TE} {k : Nat} {st : Bool} {QE QS : Hp → Prop}
/-- the generator is made at a; s4, H4: ahead of its frame -/
def GxMade (X : Cx) (pins : List (Addr × Obj)) (σ : L2.St) (elt tg iter : Expr) (scope : Scope) (gpos : Pos) (st : Bool) (QE QS : Hp → Prop) (a : Addr) (s5 : Shared) : Prop := ∃ (s4 : Shared) (H4 : Hp) (cenv : Env) (it : Addr) (fp : List Addr) (go : Obj) (gn n : Nat), Inv X pins σ H4 s4 ∧ (∀ b ∈ fp, FpOk X pins H4 b) ∧
  (∀ h : Heap, h.get? a = some go → h.IsGen a gn) ∧ GxAt (X.gx (gxAr X.A elt tg iter scope gpos it cenv) s4 H4 cenv fp) X.A.in1.in1 a go gn st QE QS n s5
theorem gx_made {Q' : Value → Shared → Prop} (hr : Room (k + 1) X.A) (hc : X.calm = true) (hN : X.N.Nodup) (TB : GxR.TabB X.base X.mg c P) (hcode : X.env.code = .ref c) (ok : BlkOk X.N X.env.scope scope own) (nc : ∀ y ∈ scope.names, y.2 ≠ .cell)
    (hdot : scope.names.lookup (".0" : Str) = some .local) (hco : scope.isCoroutine = false) (hi : PI X tg iter wi) (hg : ∀ (Ag : Around) (s : Shared) (H : Hp) (C : Addr) (code : Value) (fp : List Addr), PG (X.gx Ag s H (gxEnv X scope C code) fp) tg g)
    (he : ∀ (Ag : Around) (s : Shared) (H : Hp) (C : Addr) (code : Value) (fp : List Addr), Room k Ag → PE (X.gx Ag s H (gxEnv X scope C code) fp) elt te) (hs : ∀ v, genFold iter X.env v = pure v) (I : Inv X pins σ H s)
    (h : wi σ H fun J H1 => H1 P = some (TbX P) ∧ ∃ W, (∃ m, W 0 m H1) ∧ gxTurn J g te (own.map (·.2)) st σ QE QS W) (hQ : ∀ a s5, GxMade X pins σ elt tg iter scope gpos st QE QS a s5 → Q' (.ref a) s5) :
    wpAny (model X.prog X.w) X.A (eval (.GeneratorExp elt [⟨tg, iter, [], 0⟩] scope gpos) X.env) Q' X.xe s := by
  have free : ∀ y ∈ scope.names, y.2 = .free → ∃ c, X.env.cells.lookup y.1 = some c := fun y hy e => (ok.free y hy e).elim (fun k => I.ok.has _ (.inl k)) fun k => I.ok.has _ (.inr k)
  refine wpAny_GeneratorExp_make hco (closure_ok free) nc hdot ok.kind hr.depth (thn (hi.run pins s σ H _ I h) fun xv s1 hx => thn hx fun itv s2 h2 => ?_) hs
  obtain ⟨it, fp, tn, J, H2, rfl, I2, T, t2, f2, hP, W, ⟨m0, w0⟩, turn⟩ := h2
  refine ⟨I2.nolimit, gx_code TB hcode I2 hP fun code h3 tk I3 k3 z3 => ?_⟩
  obtain ⟨bm, ob, e1, e2, _, _, e5, e6, e7, e8⟩ := TB.bm
  refine wpAny_builtinsFor (m := X.mg) (by rw [I3.ok.glob]; exact I3.mod.glob.keeps I3.bk) e1 e2 (I3.bk _ _ e5) e6 e7 e8 ?_
  have fP : ∀ b ∈ fp, b ≠ P := fun b hb z => by
    have := (f2 b hb).1
    rw [z, hP] at this
    cases this
  have t3 : tn 0 h3 := T.keep _ _ _ t2 fun b hb o e => k3 b o (fP b hb) e
  have f3 : ∀ b ∈ fp, FpOk X pins H2 b ∧ b < h3.objs.size := fun b hb => by
    obtain ⟨o, e, _⟩ := T.obj _ _ t3 b hb
    exact ⟨f2 b hb, Heap.lt_size e⟩
  intro h4 ns sb
  have k4 : ∀ b o, h3.get? b = some o → h4.get? b = some o := fun b o e => sb.extBut b o (Nat.ne_of_lt (Heap.lt_size e)) (Heap.get?_push_of_some _ e)
  have z4 : h4.objs.size = h3.objs.size + 1 := by rw [sb.1, Heap.size_push]
  generalize hgo : ({ cls := .type "generator", data := .fields _ } : Obj) = go
  have nv : ∀ v, go.data ≠ .cell v := fun v z => by rw [← hgo] at z; cases z
  have k5 : ∀ b o, h3.get? b = some o → (h4.push go).get? b = some o := fun b o e => Heap.get?_push_of_some _ (k4 b o e)
  have t5 : tn 0 (h4.push go) := T.keep _ _ _ t3 fun b _ o e => k5 b o e
  have fr : (gxAr X.A elt tg iter scope gpos it (gxEnv X scope h3.objs.size code)).frames = some (gxEnv X scope h3.objs.size code :: X.stack) := by
    have e : (gxAr X.A elt tg iter scope gpos it (gxEnv X scope h3.objs.size code)).frames = pushEnvs (Code.envs (.compLoop (.GeneratorExp elt [⟨tg, iter, [], 0⟩] scope gpos) 0 (.ref it) .none (gxEnv X scope h3.objs.size code))) (pushEnvs (envsOf (([] : List Frame).map Frame.where_)) X.A.frames) := rfl
    rw [e, I.ok.frames]
    rfl
  have IG := fun (g5 : Array GenState) (tk5 : Nat) (hb : AllBare g5) => gx_start (Ag := gxAr X.A elt tg iter scope gpos it (gxEnv X scope h3.objs.size code)) (code := code) (h5 := h4.push go) (tk := tk5) (g5 := g5) (a := h4.objs.size) (go := go) I3 ok nc hN f3 (fun _ => hr.hd) fr k5 (ns.push _) (Heap.get?_push_size _ (by rw [← hgo]; rfl)) (by show h3.objs.size < h4.objs.size; omega) nv hb
  have I5 := IG _ (s2.toks) (AllBare.push (g := .fresh (.compStart (.GeneratorExp elt [⟨tg, iter, [], 0⟩] scope gpos) 0 (.ref it) .none (gxEnv X scope h3.objs.size code))) I3.bare rfl)
  refine hQ _ _ ⟨_, H2, gxEnv X scope h3.objs.size code, it, fp, go, s2.gens.size, m0 + 1, I3, f2, fun h e => ⟨go, _, _, e, by rw [← hgo], by rw [← hgo], by rw [← hgo]⟩, ?_⟩
  refine ⟨_, _, H2, Array.getElem?_push_size .., inv_re I5 rfl rfl I5.bare, fun s6 q1 q2 q3 => ⟨rfl, ?_⟩⟩
  have I6 := inv_re (s' := s6) I5 q1 q2 q3
  have t6 : tn 0 s6.heap := by rw [q1]; exact t5
  refine gx_fresh (X := X.gx (gxAr X.A elt tg iter scope gpos it (gxEnv X scope h3.objs.size code)) _ H2 (gxEnv X scope h3.objs.size code) fp) (fun s0 => ?_) T t6 s6
  exact gx_loop (X := X.gx (gxAr X.A elt tg iter scope gpos it (gxEnv X scope h3.objs.size code)) _ H2 (gxEnv X scope h3.objs.size code) fp) rfl hco (fun _ _ z => z) hc T (fun b hb => hb) rfl (fun b hb z => by
    have q : b < h3.objs.size := (f3 b hb).2
    have e : h4.objs.size = b := z
    have z5 : h4.objs.size = h3.objs.size + 1 := z4
    exact absurd (e ▸ q : h4.objs.size < h3.objs.size) (by rw [z5]; exact Nat.not_lt.mpr (Nat.le_succ _))) (hg _ _ _ _ _ _) (he _ _ _ _ _ _ (gx_room hr)) turn (m0 + 1) 0 m0 H2 s6 s0 (Nat.le_refl _) I6 t6 (fun b hb => (f2 b hb).1) w0
/-- behind it: the def's own state again -/
theorem gx_back {A2 : Around} {s4 : Shared} {H4 : Hp} {cenv : Env} {fp : List Addr} {p : Addr × Obj} {σ2 : L2.St} {H2 : Hp} {s' : Shared} (I : Inv X pins σ H4 s4) (hf : ∀ b ∈ fp, FpOk X pins H4 b) (I2 : Inv (X.gx A2 s4 H4 cenv fp) [p] σ2 H2 s') : Inv X pins σ H2 s' :=
  I.call' (ch := fp) I2.os I2.base I2.hok I2.bare fun b hb => let ⟨_, f1, _, f3, f4, f5⟩ := hf b hb; ⟨f3, f1, f4, f5⟩
/-- all(item for target in iter) where st is false, any(..) where it is true; it ends at the first st -/
def tAA (P : Addr) (st : Bool) (wi : TI) (g : TG) (te : TE) (vs : List Nat) : TE := fun σ H Q => wi σ H fun J H1 => H1 P = some (TbX P) ∧ ∃ W, (∃ m, W 0 m H1) ∧ gxTurn J g te vs st σ (fun H => Q (.bl (!st)) H) (fun H => Q (.bl st) H) W
theorem pe_all {p pos : Pos} (hr : Room (k + 1) X.A) (hc : X.calm = true) (hN : X.N.Nodup) (hgl : Gl X "all") (hm : X.mg "all" = none) (hb : bootBuiltins "all" = some (.builtin "all")) (TB : GxR.TabB X.base X.mg c P) (hcode : X.env.code = .ref c) (ok : BlkOk X.N X.env.scope scope own) (nc : ∀ y ∈ scope.names, y.2 ≠ .cell)
    (hdot : scope.names.lookup (".0" : Str) = some .local) (hco : scope.isCoroutine = false) (hi : PI X tg iter wi) (hg : ∀ (Ag : Around) (s : Shared) (H : Hp) (C : Addr) (code : Value) (fp : List Addr), PG (X.gx Ag s H (gxEnv X scope C code) fp) tg g)
    (he : ∀ (Ag : Around) (s : Shared) (H : Hp) (C : Addr) (code : Value) (fp : List Addr), Room k Ag → PE (X.gx Ag s H (gxEnv X scope C code) fp) elt te) (hs : ∀ v, genFold iter X.env v = pure v := by intro _; rfl)
    (hst : starEach [.GeneratorExp elt [⟨tg, iter, [], 0⟩] scope gpos] X.env = (false, eval (.GeneratorExp elt [⟨tg, iter, [], 0⟩] scope gpos) X.env) :: starEach [] X.env := by rfl) :
    PE X (.Call (.Name "all" p) [.GeneratorExp elt [⟨tg, iter, [], 0⟩] scope gpos] [] pos) (tAA P false wi g te (own.map (·.2))) := ⟨fun pins s σ H Q I h => by
  refine wpAny_Call_Name_kw (ld_blt I hgl hm hb (PyProof.Rows.callWith_builtin1 ?_ hst (by rfl)))
  rw [hst]
  refine Calls.spliced_cons (gx_made hr hc hN TB hcode ok nc hdot hco hi hg he hs I h fun a s5 made => Calls.spliced_nil ?_)
  obtain ⟨s4, H4, cenv, it, fp, go, gn, n, I4, f4, isg, G⟩ := made
  have isg5 : s5.heap.IsGen a gn := isg _ (let ⟨_, _, _, _, J, _⟩ := G; (J.pin (a, go) (List.mem_append_right _ (List.mem_singleton.mpr rfl))).1)
  refine call_function_tree F.kind_all F.plain_all F.entry_all (F.args_all1 _) ?_
  unfold Builtin.«all»
  refine wpAny_bind (m := oneArg "all" _) (wpAny_pure (wpAny_bind (wpAny_pyIter_gen isg5 (wpAny_pure ⟨plainId_quiet F.plain_all_loop _, ?_⟩))))
  exact gx_all_loop (X := X.gx (gxAr X.A elt tg iter scope gpos it cenv) s4 H4 cenv fp) hr.hd hr.depth isg (fun s' σ' H' J q => ⟨.bl true, H', gx_back I4 f4 J, rfl, q⟩) (fun s' σ' H' J q => ⟨.bl false, H', gx_back I4 f4 J, rfl, q⟩) n s5 G⟩
theorem pe_any {p pos : Pos} (hr : Room (k + 1) X.A) (hc : X.calm = true) (hN : X.N.Nodup) (hgl : Gl X "any") (hm : X.mg "any" = none) (hb : bootBuiltins "any" = some (.builtin "any")) (TB : GxR.TabB X.base X.mg c P) (hcode : X.env.code = .ref c) (ok : BlkOk X.N X.env.scope scope own) (nc : ∀ y ∈ scope.names, y.2 ≠ .cell)
    (hdot : scope.names.lookup (".0" : Str) = some .local) (hco : scope.isCoroutine = false) (hi : PI X tg iter wi) (hg : ∀ (Ag : Around) (s : Shared) (H : Hp) (C : Addr) (code : Value) (fp : List Addr), PG (X.gx Ag s H (gxEnv X scope C code) fp) tg g)
    (he : ∀ (Ag : Around) (s : Shared) (H : Hp) (C : Addr) (code : Value) (fp : List Addr), Room k Ag → PE (X.gx Ag s H (gxEnv X scope C code) fp) elt te) (hs : ∀ v, genFold iter X.env v = pure v := by intro _; rfl)
    (hst : starEach [.GeneratorExp elt [⟨tg, iter, [], 0⟩] scope gpos] X.env = (false, eval (.GeneratorExp elt [⟨tg, iter, [], 0⟩] scope gpos) X.env) :: starEach [] X.env := by rfl) :
    PE X (.Call (.Name "any" p) [.GeneratorExp elt [⟨tg, iter, [], 0⟩] scope gpos] [] pos) (tAA P true wi g te (own.map (·.2))) := ⟨fun pins s σ H Q I h => by
  refine wpAny_Call_Name_kw (ld_blt I hgl hm hb (PyProof.Rows.callWith_builtin1 ?_ hst (by rfl)))
  rw [hst]
  refine Calls.spliced_cons (gx_made hr hc hN TB hcode ok nc hdot hco hi hg he hs I h fun a s5 made => Calls.spliced_nil ?_)
  obtain ⟨s4, H4, cenv, it, fp, go, gn, n, I4, f4, isg, G⟩ := made
  have isg5 : s5.heap.IsGen a gn := isg _ (let ⟨_, _, _, _, J, _⟩ := G; (J.pin (a, go) (List.mem_append_right _ (List.mem_singleton.mpr rfl))).1)
  refine call_function_tree F.kind_any F.plain_any F.entry_any (F.args_any1 _) ?_
  unfold Builtin.«any»
  refine wpAny_bind (m := oneArg "any" _) (wpAny_pure (wpAny_bind (wpAny_pyIter_gen isg5 (wpAny_pure ⟨plainId_quiet F.plain_any_loop _, ?_⟩))))
  exact gx_any_loop (X := X.gx (gxAr X.A elt tg iter scope gpos it cenv) s4 H4 cenv fp) hr.hd hr.depth isg (fun s' σ' H' J q => ⟨.bl false, H', gx_back I4 f4 J, rfl, q⟩) (fun s' σ' H' J q => ⟨.bl true, H', gx_back I4 f4 J, rfl, q⟩) n s5 G⟩
end
/-- a def whose code object is at c -/
theorem funOkT {P : Program} {w : World} {K : PySem.W.Frag} {mg : Str → Option Value} {base : Heap} {c : Addr} {x qual : Str} {st : Stmt} {f : Addr} {fd : FuncData} {N ps : List Str} {k : Nat} {sp : Sp} (hc : fd.code = .ref c) (F : Fun K x qual st f fd) (S : FnScope N ps (defScope st)) (len : ∀ vs H Q E, sp vs H Q E → vs.length = ps.length)
    (hbody : ∀ (A : Around) (outer : List Env) (s : Shared) (H : Hp) (vs : List V) (Q : VK) (E : XK), Room k (A.deeper (envOfC qual (defScope st) s.heap.objs.size f (.ref c))) → sp vs H Q E →
      ∃ t, PSs (cxOf CX0 P w K mg base N qual (defScope st) f (.ref c) A outer s H E).nox (defBody st) t ∧ t { nx := fun _ H' => Q .non H', rt := Q } (start N vs) H) : FnOk P w K mg base CX0 (k + 1) f fd ps sp := by
  obtain ⟨oc, od, kV, doc, pm, an, cdv, ct, osl, rfl, lk, hcd⟩ := F.ex
  obtain rfl : cdv = .ref c := hc
  exact fn_of lk hcd S len fun A outer s H vs Q E hr hsp => let ⟨t, h, q⟩ := hbody A outer s H vs Q E hr hsp; ⟨t, h.nox, q⟩
/-- readings -/
theorem d_aa {P : Addr} {st : Bool} {wi : TI} {g : TG} {te : TE} {vs : List Nat} {σ : L2.St} {H : Hp} {Q : VK} (h : wi σ H fun J H1 => H1 P = some (TbX P) ∧ ∃ W, (∃ m, W 0 m H1) ∧ gxTurn J g te vs st σ (fun H => Q (.bl (!st)) H) (fun H => Q (.bl st) H) W) : tAA P st wi g te vs σ H Q := h
theorem aa_it {J : It} {n : Nat} {G : Hp → Prop} {Y : Nat → Hp → V → Hp → Prop} (w : Walk J n G Y) {g : TG} {te : TE} {vs : List Nat} {st : Bool} {σ : L2.St} {H1 : Hp} {QE QS : Hp → Prop} (Pv : Nat → Hp → Prop) (h0 : Pv 0 H1) (hG : ∀ i H, i ≤ n → Pv i H → G H)
    (hs : ∀ i x H H', i < n → Pv i H → Y i H x H' → g x (wipe σ vs) H' fun σ2 H2 => wipe σ2 vs = wipe σ vs ∧ te σ2 H2 fun y H3 => ∃ b, y = .bl b ∧ (b = st → QS H3) ∧ (b = !st → Pv (i + 1) H3)) (hd : ∀ H, Pv n H → QE H) :
    ∃ W, (∃ m, W 0 m H1) ∧ gxTurn J g te vs st σ QE QS W := by
  refine ⟨fun i m H => m = n - i ∧ i ≤ n ∧ Pv i H, ⟨n, by simp, Nat.zero_le _, h0⟩, ?_⟩
  rintro i m H ⟨rfl, hi, p⟩
  have gg := hG i H hi p
  rcases Nat.lt_or_eq_of_le hi with lt | rfl
  · have imp : ∀ {x : V} {H' : Hp} {y : V} {H3 : Hp}, (∃ b, y = V.bl b ∧ (b = st → QS H3) ∧ (b = !st → Pv (i + 1) H3)) → ∃ b, y = V.bl b ∧ (b = st → QS H3) ∧ (b = !st → ∃ m', m' < n - i ∧ m' = n - (i + 1) ∧ i + 1 ≤ n ∧ Pv (i + 1) H3) := fun ⟨b, e, q1, q2⟩ => ⟨b, e, q1, fun z => ⟨n - (i + 1), by omega, rfl, lt, q2 z⟩⟩
    refine .inr ⟨w.goes i H lt gg, fun x H' y => ?_⟩
    have z := hs i x H H' lt p (w.yields i H x H' lt gg y)
    have e : (fun (y : V) (H3 : Hp) => ∃ b, y = V.bl b ∧ (b = st → QS H3) ∧ (b = !st → ∃ m', m' < n - i ∧ m' = n - (i + 1) ∧ i + 1 ≤ n ∧ Pv (i + 1) H3)) = fun y H3 => ∃ b, y = V.bl b ∧ (b = st → QS H3) ∧ (b = !st → Pv (i + 1) H3) := by
      funext y H3
      refine propext ⟨fun ⟨b, e, q1, q2⟩ => ⟨b, e, q1, fun z => ?_⟩, fun q => imp (x := x) (H' := H') q⟩
      obtain ⟨_, _, _, _, q⟩ := q2 z
      exact q
    show g x (wipe σ vs) H' fun σ2 H2 => wipe σ2 vs = wipe σ vs ∧ te σ2 H2 (fun (y : V) (H3 : Hp) => ∃ b, y = V.bl b ∧ (b = st → QS H3) ∧ (b = !st → ∃ m', m' < n - i ∧ m' = n - (i + 1) ∧ i + 1 ≤ n ∧ Pv (i + 1) H3))
    rw [e]
    exact z
  · exact .inl ⟨w.stops H gg, hd H p⟩
end Cw

namespace Cw
open PySem PySem.Spec PyProof.Rows L2
/-! ### the end of a law whose defs hold generator expressions: their tables are tracked, and may grow -/
/-- what is tracked at the law's entry: the tables, and the script where it is not written -/
def entry (T : List Addr) (K : PySem.W.Frag) (a : Addr) (o : Obj) (xs : List V) : Hp := fun b => if b ∈ T then some (TbX b) else if b = a ∧ (K.lookup a).isNone = true then some (.frz o (.lst xs)) else none
section
variable {T : List Addr} {K : PySem.W.Frag} {a b : Addr} {o : Obj} {xs : List V} {u : HO}
theorem entry_tab (h : b ∈ T) : entry T K a o xs b = some (TbX b) := if_pos h
theorem entry_cases (h : entry T K a o xs b = some u) : (b ∈ T ∧ u = TbX b) ∨ (b ∉ T ∧ b = a ∧ K.lookup a = none ∧ u = .frz o (.lst xs)) := by
  unfold entry at h
  split at h
  · rename_i hb; exact .inl ⟨hb, (Option.some.inj h).symm⟩
  · rename_i hb
    split at h
    · rename_i ha; exact .inr ⟨hb, ha.1, Option.isNone_iff_eq_none.mp ha.2, (Option.some.inj h).symm⟩
    · cases h
theorem entry_none (hT : b ∉ T) (ha : b ≠ a ∨ ∃ z, K.lookup a = some z) : entry T K a o xs b = none := by
  cases e : entry T K a o xs b with
  | none => rfl
  | some u =>
    rcases entry_cases e with ⟨h, _⟩ | ⟨_, h, h2, _⟩
    · exact absurd h hT
    · rcases ha with z | ⟨z, e2⟩
      · exact absurd h z
      · rw [h2] at e2; cases e2
end
/-- a promise of a def where it is called from one place -/
structure FnAt (P : Program) (w : World) (K : PySem.W.Frag) (mg : Str → Option Value) (base : Heap) (A : Around) (f : Addr) (fd : FuncData) (ps : List Str) (sp : Sp) : Prop where
  run : ∀ (outer : List Env) (s : Shared) (H : Hp) (args : Args) (us : List Value) (vs : List V) (Q : VK) (E : XK), Env0 P w K mg base A outer s H → BindsTo s fd args (ps.zip us) → Vals vs us → sp vs H Q E → codeAny (model P w) A (.call (.ref f) args) (CR CX0 outer P w H s Q E) s
theorem FnAt.of {P : Program} {w : World} {K : PySem.W.Frag} {mg : Str → Option Value} {base : Heap} {A : Around} {k : Nat} {f : Addr} {fd : FuncData} {ps : List Str} {sp : Sp} (F : FnOk P w K mg base CX0 k f fd ps sp) (hr : Room k A) : FnAt P w K mg base A f fd ps sp :=
  ⟨fun outer s H args us vs Q E => F.run A outer s H args us vs Q E hr⟩
/-- by its body, where what stands around is known (its guards, say) -/
theorem fun_at {P : Program} {w : World} {K : PySem.W.Frag} {mg : Str → Option Value} {base : Heap} {A : Around} {x qual : Str} {st : Stmt} {f : Addr} {fd : FuncData} {N ps : List Str} {k : Nat} {sp : Sp} (F : Fun K x qual st f fd) (S : FnScope N ps (defScope st)) (ha : Room (k + 1) A)
    (len : ∀ vs H Q E, sp vs H Q E → vs.length = ps.length)
    (body : ∀ (cdv : Value) (outer : List Env) (s : Shared) (H : Hp) (vs : List V) (Q : VK) (E : XK), Room k (A.deeper (envOfC qual (defScope st) s.heap.objs.size f cdv)) → sp vs H Q E →
      ∃ t, PSs (cxOf CX0 P w K mg base N qual (defScope st) f cdv A outer s H E).nox (defBody st) t ∧ t { nx := fun _ H' => Q .non H', rt := Q } (start N vs) H) : FnAt P w K mg base A f fd ps sp := by
  obtain ⟨oc, od, kV, doc, pm, an, cdv, ct, osl, rfl, at_, code⟩ := F.ex
  refine ⟨fun outer s H args us vs Q E e0 bnd rv want => ?_⟩
  have nvs := len _ _ _ _ want
  have stays : ∀ b o, base.get? b = some o → s.heap.get? b = some o := fun b o e => (e0.bs b o e).1
  have inK : K.In s.heap := e0.mod.kin.keeps stays
  have kinds : ∀ y ∈ ps.zip us, (defScope st).names.lookup y.1 = some .local ∨ ((defScope st).names.lookup y.1 = some .cell ∧ ((cellsFrom (s.heap.objs.size + 1) (defScope st).names []).lookup y.1).isSome = true) := fun y hy =>
    (S.par y.1 (List.of_mem_zip (show (y.1, y.2) ∈ ps.zip us from hy)).1).imp_right fun q => ⟨q, PySem.W.cellsFrom_some _ _ _ (.inl q)⟩
  refine codeAny_call_function ha.depth (inK _ _ at_) rfl S.co S.gen rfl (PySem.W.codeRec_of inK code) (bnd _ _ _ _ (wpAny_newFunctionEnv_cells S.kind kinds fun env he s1 made => ?_))
  cases he
  obtain ⟨t, ht, hq⟩ := body cdv outer s H vs Q E (ha.deeper _) want
  refine ⟨(e0.mod.nolimit.keeps stays).keeps made.toInCall.keep, codeAny_func (wpAny_mono (ht.nox.run [] s1 (start N vs) H _ (inv_start S ha.hd e0 nvs rv made) hq) (fun fl s' hs => ?_) fun _ _ hs => hs)⟩
  match fl, hs with
  | .ret u, ⟨v, _, H', J, r, q⟩ => exact ⟨v, H', J.os, J.bare, J.base, J.hok, r, q⟩
  | .next, ⟨_, H', J, q⟩ => exact ⟨.non, H', J.os, J.bare, J.base, J.hok, rfl, q⟩
  | .brk, ⟨_, _, _, q⟩ => exact q.elim
  | .cont, ⟨_, _, _, q⟩ => exact q.elim
abbrev tab0 : Obj := { cls := .none, data := .fields #[] }
theorem law_tabs {P : Program} {w : World} {K : PySem.W.Frag} {mg mb : Str → Option Value} {fa a : Addr} {cs : List (Addr × Addr)} {fd : FuncData} {x : Str} {sp : Sp} {s : Shared} {vs : List Value} {ns : List Int}
    (KX : K.In s.heap) (hns : s.heap.Ns mainGlobals mg) (hb : s.heap.Ns builtinsNs mb) (hbb : ∀ x : Str, x ≠ "__name__" → mb x = bootBuiltins x) (hlim : s.heap.NoLimit) (hg : s.gens = #[])
    (hT : ∀ p ∈ cs, s.heap.get? p.2 = some tab0) (nT : ∀ p ∈ cs, K.lookup p.2 = none) (C : ∀ p ∈ cs, PySem.W.CodeHd s.heap p.1 p.2)
    (hbm : ∃ (bm : Addr) (ob : Obj), mg "__builtins__" = some (.ref bm) ∧ bm ≠ builtinsNs ∧ s.heap.get? bm = some ob ∧ ob.cls = .type "module" ∧ ob.dict = some builtinsNs ∧ ob.data = .plain)
    (ha : s.heap.get? a = some { cls := .type "list", data := .seq vs.toArray }) (hi : IntsAre vs ns) (hl : ns.length ≤ sizeLine)
    (F : ∀ base : Heap, K.In base → base.Ns mainGlobals mg → (∀ p ∈ cs, GxR.TabB base mg p.1 p.2) → FnAt P w K mg base callerA fa fd [x] sp) (hbind : ∀ (s : Shared) (u : Value), BindsTo s fd ⟨[u], []⟩ [(x, u)])
    (hsp : ∀ H : Hp, (∀ p ∈ cs, H p.2 = some (TbX p.2)) → SqL K H a (ns.map V.int) → sp [.ref a] H (fun v H' => v = .bl true ∧ ∀ p ∈ cs, H' p.2 = some (TbX p.2)) fun _ _ _ => False)
    :
    codeAny (model P w) callerA (.call (.ref fa) ⟨[.ref a], []⟩) (fun r s' => r = .ok (.ret (.bool true)) ∧ OldK s.heap s'.heap ∧ s'.os = s.os ∧ AllBare s'.gens) s := by
  have inT : ∀ {b}, b ∈ cs.map (·.2) → ∃ p ∈ cs, p.2 = b := fun h => by simpa using h
  have atT : ∀ {b}, b ∈ cs.map (·.2) → s.heap.get? b = some tab0 := fun h => let ⟨p, hp, e⟩ := inT h; e ▸ hT p hp
  have rv : Vals (ns.map V.int) vs := vals_ints hi
  have lv : (ns.map V.int).length = vs.length := rv.length
  generalize hH : entry (cs.map (·.2)) K a { cls := .type "list", data := .seq vs.toArray } (ns.map V.int) = H
  have tabH : ∀ p ∈ cs, H p.2 = some (TbX p.2) := fun p hp => by rw [← hH]; exact entry_tab (List.mem_map.mpr ⟨p, hp, rfl⟩)
  -- what is neither a table nor a list is not tracked
  have off : ∀ {b : Addr} {o : Obj}, s.heap.get? b = some o → o.data ≠ .fields #[] → (∀ zs n, o.data ≠ .seq zs n) → H b = none := fun {b o} e d1 d2 => by
    rw [← hH]
    refine entry_none (fun z => ?_) (.inl fun z => ?_)
    · rw [atT z] at e; cases e; exact d1 rfl
    · rw [z, ha] at e; cases e; exact d2 _ _ rfl
  have okH : HOk P w H s.heap := fun b u e => by
    rw [← hH] at e
    rcases entry_cases e with ⟨h, rfl⟩ | ⟨_, rfl, _, rfl⟩
    · exact ⟨⟨#[], atT h, trivial⟩, ⟨_, atT h⟩, fun h1 h2 ⟨ps, z, zt⟩ st => ⟨ps, st _ z, zt⟩⟩
    · exact ⟨ha, by rw [List.length_map]; exact hl, vs, _, rv, ha⟩
  have hidden : ∀ {b : Addr} {m : Str → Option Value}, s.heap.Ns b m → (hidT s.heap H).Ns b m := fun ⟨o, es, ep, e, d, r⟩ => ⟨o, es, ep, hidT_get e (off e (by rw [d]; exact fun z => nomatch z) (by rw [d]; exact fun _ _ z => nomatch z)), d, r⟩
  have KB : K.In (hidT s.heap H) := fun b o e => hidT_get (KX b o e) (by
    rw [← hH]
    refine entry_none (fun z => ?_) ?_
    · obtain ⟨p, hp, rfl⟩ := inT z
      rw [nT p hp] at e; cases e
    · by_cases z : b = a
      · exact .inr ⟨o, z ▸ e⟩
      · exact .inl z)
  have TB : ∀ p ∈ cs, GxR.TabB (hidT s.heap H) mg p.1 p.2 := fun p hp => by
    refine ⟨?_, ?_, fun z => ?_⟩
    · obtain ⟨o, us, fl, tf, fs, tg, iF, tx, tt, e1, r1, r2, r3, r⟩ := C p hp
      exact ⟨o, us, fl, tf, fs, tg, iF, tx, tt, hidT_get e1 (off e1 (fun z => by rw [r2] at z; cases z; simp at r3) (by rw [r2]; exact fun _ _ z => nomatch z)), r1, r2, r3, r⟩
    · obtain ⟨bm, ob, b1, b2, b3, b4, b5, b6⟩ := hbm
      refine ⟨bm, ob, b1, b2, fun q => ?_, fun q => ?_, hidT_get b3 (off b3 (by rw [b6]; exact fun z => nomatch z) (by rw [b6]; exact fun _ _ z => nomatch z)), b4, b5, b6⟩
      · obtain ⟨o, es, ep, e, d, _⟩ := hns
        rw [← q, b3] at e; cases e; rw [b6] at d; cases d
      · rw [q, hT p hp] at b3; cases b3; cases b6
    · obtain ⟨o, es, ep, e, d, _⟩ := hns
      rw [z, hT p hp] at e; cases e; cases d
  have SQ : SqL K H a (ns.map V.int) := by
    cases e : K.lookup a with
    | some o =>
      have e' := KX a o e
      rw [ha] at e'; cases e'
      exact .inr ⟨_, vs.toArray, _, e, rfl, rfl, rfl, by rw [List.size_toArray, ← lv, List.length_map]; exact hl, by simpa using rv⟩
    | none =>
      refine .inl (.inr ⟨{ cls := .type "list", data := .seq vs.toArray }, ?_⟩)
      rw [← hH]
      unfold entry
      rw [if_neg (fun z => by have := atT z; rw [ha] at this; cases this), if_pos ⟨rfl, by rw [e]; rfl⟩]
  have E0 : Env0 P w K mg (hidT s.heap H) callerA [] s H := ⟨rfl, ⟨KB, hidden hns, ⟨mb, hidden hb, hbb⟩, let ⟨mc, h1, h2⟩ := hlim; ⟨mc, hidden h1, h2⟩⟩, fun b o e => of_hidT e, Nat.le_of_eq (hidT_size _ _), trivial, fun b z => (nomatch z), okH, .of_eq hg⟩
  refine codeAny_mono ((F _ KB (hidden hns) TB).run [] s H ⟨[.ref a], []⟩ [.ref a] [.ref a] _ _ E0 (hbind s (.ref a)) (.cons rfl .nil) (hsp H tabH SQ)) fun r s' h => ?_
  match r, h with
  | .error e, h => exact h.elim
  | .ok .next, h => exact h.elim
  | .ok .brk, h => exact h.elim
  | .ok .cont, h => exact h.elim
  | .ok (.ret u), ⟨v, H', os, bare, un, ok', rel, ev, tabs⟩ =>
    subst ev
    obtain rfl : u = Value.bool true := rel
    have grown : ∀ p ∈ cs, ∃ more : Array Value, s'.heap.get? p.2 = some { cls := .none, data := .fields more } := fun p hp => let ⟨ps, e, _⟩ := (ok' _ _ (tabs p hp)).1; ⟨ps, e⟩
    have stays : ∀ b o, b ∉ cs.map (·.2) → s.heap.get? b = some o → s'.heap.get? b = some o := fun b o nb e => by
      cases q : H b with
      | none => exact un.keep b o e q (fun z => nomatch z) (fun z => nomatch z)
      | some u =>
        have q2 := q
        rw [← hH] at q2
        rcases entry_cases q2 with ⟨z, _⟩ | ⟨_, _, _, rfl⟩
        · exact absurd z nb
        · have e1 := (okH b _ q).1
          rw [e] at e1
          rw [e1]
          exact (ok' b _ (un.frzs b _ _ q)).1
    refine ⟨rfl, ⟨fun b o e => ?_, fun b o e => ?_⟩, os, bare⟩ <;> by_cases hb : b ∈ cs.map (·.2)
    · obtain ⟨p, hp, rfl⟩ := inT hb
      obtain ⟨more, hm⟩ := grown p hp
      rw [hT p hp] at e
      cases e
      exact .inr (.inl ⟨((C p hp).tab (hT p hp)).isCodeTable, rfl, #[], more, rfl, by rw [Array.empty_append]; exact hm⟩)
    · exact .inl (stays b o hb e)
    · obtain ⟨p, hp, rfl⟩ := inT hb
      obtain ⟨more, hm⟩ := grown p hp
      exact ⟨_, hm⟩
    · exact ⟨o, stays b o hb e⟩
/-- a def of the top with its empty table -/
def TabFact (mg : Str → Option Value) (h : Heap) (x : Str) : Prop := ∃ (a : Addr) (o : Obj) (fd : FuncData) (c P : Addr), mg x = some (.ref a) ∧ h.get? a = some o ∧ o.data = .func fd ∧ fd.code = .ref c ∧ h.IsCode c P #[] ∧ h.TableAt c P #[]
theorem tab_of {K : PySem.W.Frag} {mg : Str → Option Value} {h : Heap} {x : Str} {f c P : Addr} {oc tc : Value} {od td : Option Addr} {fd : FuncData} {osl ts : Array (Option Value)} {tv : Array Value} (X : K.In h) (hf : mg x = some (.ref f)) (l : K.lookup f = some ⟨oc, od, .func fd, osl⟩)
    (hc : fd.code = .ref c) (t : K.lookup c = some ⟨tc, td, .fields tv, ts⟩) (u : tv[11]? = some (.ref P)) (F : TabFact mg h x) : h.get? P = some tab0 ∧ PySem.W.CodeHd h c P := by
  obtain ⟨a, o, fd', c', P', h1, h2, h3, h4, h5, h6⟩ := F
  rw [hf] at h1
  cases h1
  rw [X _ _ l] at h2
  cases h2
  cases h3
  rw [hc] at h4
  cases h4
  have cd := PySem.W.CodeHd.of h5 h6
  obtain ⟨⟨o2, vs2, e1, _, e3, e4⟩, hP⟩ := h6
  rw [X _ _ t] at e1
  cases e1
  cases e3
  rw [u] at e4
  cases e4
  exact ⟨hP, cd⟩
/-- the law's promise, its tables tracked -/
def spLawT (K : PySem.W.Frag) (cs : List (Addr × Addr)) : Sp := fun vs H Q _ => ∃ (a : Addr) (ns : List Int), vs = [.ref a] ∧ SqL K H a (ns.map V.int) ∧ ns.length ≤ 63 ∧ (∀ p ∈ cs, H p.2 = some (TbX p.2)) ∧ ∀ H', (∀ p ∈ cs, H' p.2 = some (TbX p.2)) → Q (.bl true) H'
def LawX (l : PySem.W.OpenLaw) (w : World) (K : PySem.W.Frag) (mg : Str → Option Value) (fa : Addr) (h : Heap) : Prop := ∃ (fd : FuncData) (cs : List (Addr × Addr)), (∀ (s : Shared) (u : Value), BindsTo s fd ⟨[u], []⟩ [("script", u)]) ∧ (∀ p ∈ cs, h.get? p.2 = some tab0) ∧ (∀ p ∈ cs, K.lookup p.2 = none) ∧ (∀ p ∈ cs, PySem.W.CodeHd h p.1 p.2) ∧
  ∀ base : Heap, K.In base → base.Ns mainGlobals mg → (∀ p ∈ cs, GxR.TabB base mg p.1 p.2) → FnAt l.prog w K mg base callerA fa fd ["script"] (spLawT K cs)
theorem walk_ofX {l : PySem.W.OpenLaw} {q : Program} {loose : List Str} {XP : (Str → Option Value) → Heap → Prop} {YP : World → Heap → Prop} {d : DefRec} {K : Params → PySem.W.Frag} (names : List Str)
    (hn : l.most = some 63) (hdf : d.params.defaults = []) (hrec : (names.all fun x => (recsOf q).any fun e => e.name == x) = true) (hY : ∀ (w : World) (h : Heap), YP w h → (K w.params).In h)
    (F : ∀ (w : World) (mg : Str → Option Value) (fa : Addr) (h : Heap), (K w.params).In h → h.Ns mainGlobals mg → mg d.name = some (.ref fa) → (∀ x ∈ names, TabFact mg h x) → LawX l w (K w.params) mg fa h) :
    PySem.W.WalkO q loose XP YP l.row.toRowW d [] (fun f vs => PySem.call f vs) := by
  refine Att.attach_callB hn hdf fun w s₀ s₁ mg mb fa o pm cd doc a vs ns G Y ho hd hcd hmg hobj hints hlen hbits hg => ?_
  have KX := hY w _ Y
  have facts : ∀ x ∈ names, TabFact mg s₁.heap x := fun x hx => by
    obtain ⟨e, he, ee⟩ := List.any_eq_true.mp (List.all_eq_true.mp hrec x hx)
    obtain ⟨a1, o1, fd1, c1, P1, r⟩ := G.T.tab e he
    have : e.name = x := beq_iff_eq.mp ee
    rw [this] at r
    exact ⟨a1, o1, fd1, c1, P1, r⟩
  obtain ⟨fd, cs, hb, hT, nT, C, hF⟩ := F w mg fa _ KX G.T.g hmg facts
  exact law_tabs KX G.T.g G.T.b G.T.builtins G.T.nolimit hg hT nT C G.T.bmain hobj hints (Nat.le_trans hlen (by decide)) hF hb (fun H hH hS => ⟨a, ns, rfl, hS, hlen, hH, fun H' h' => ⟨rfl, h'⟩⟩)
end Cw

namespace Cw
open PySem PySem.Spec PySem.Calls PyProof.Rows L2
/-! ### the kind of a thing told -/
inductive TyS (K : PySem.W.Frag) (H : Hp) : V → String → Prop
  | int (i : Int) : TyS K H (.int i) "int"
  | str (x : Str) : TyS K H (.str x) "str"
  | lst {a : Addr} {xs : List V} (e : SqL K H a xs) : TyS K H (.ref a) "list"
  | tup {a : Addr} {xs : List V} (e : SqT K H a xs) : TyS K H (.ref a) "tuple"
def rTyS (K : PySem.W.Frag) : List V → Hp → VK → Prop := fun xs H Q => ∃ x T, xs = [x] ∧ TyS K H x T ∧ Q (.ty T) H
theorem cr_type {X : Cx} : CallR X (.type "type") (rTyS X.K) := by
  intro pins s σ H xs us Q I r h
  obtain ⟨x, T, rfl, t, q⟩ := h
  obtain ⟨u, rfl, rx⟩ := vals1 r
  have fin : EP X pins σ Q (.type T) s := ⟨.ty T, H, I, rfl, q⟩
  cases t with
  | int i =>
    obtain ⟨k, rfl⟩ := rx
    exact call_type_of (typeIs_int s i k) (by decide +kernel) fin
  | str z =>
    obtain ⟨k, rfl⟩ := rx
    exact call_type_of (typeIs_str s z k) (by decide +kernel) fin
  | lst e =>
    cases rx
    obtain ⟨_, _, p, _⟩ := I.list e
    exact call_type_of p.isList.typeIs (by decide +kernel) fin
  | tup e =>
    cases rx
    obtain ⟨_, _, p, _⟩ := I.tuple e
    exact call_type_of p.typeIs (by decide +kernel) fin
theorem d_type {K : PySem.W.Frag} {H : Hp} {Q : VK} {x : V} {T : String} (t : TyS K H x T) (q : Q (.ty T) H) : rTyS K [x] H Q := ⟨x, T, rfl, t, q⟩
/-! ### how many members a set has -/
def rLenSO (w : World) : List V → Hp → VK → Prop := fun xs H Q => ∃ a S n, xs = [.ref a] ∧ H a = some (SetO w a S n) ∧ ∀ ks : List Int, ks.Nodup → (∀ k, S k = true ↔ k ∈ ks) → ks.length = n → Q (.int (n : Nat)) H
theorem cr_lenSO {X : Cx} {wd : World} (hw : X.w = wd) : CallR X (.builtin "len") (rLenSO wd) := by
  subst hw
  intro pins s σ H xs us Q I r h
  obtain ⟨a, S, n, rfl, e, q⟩ := h
  obtain ⟨u, rfl, ru⟩ := vals1 r
  obtain rfl : u = Value.ref a := ru
  obtain ⟨o, es, ep, t, ho, ex, d, _, nd, mem, _, fits, hn, _⟩ := setO_get I e
  refine call_len_set ho ex d fits ?_ ⟨.int (n : Nat), H, I.tok _, ⟨_, by rw [hn]⟩, q _ nd mem (by rw [List.length_map, Array.length_toList, hn])⟩
  have := ‹es.size < scanBound›
  unfold scanBound at this
  omega
theorem sub_len {α : Type} [DecidableEq α] : ∀ (ks ns : List α), ks.Nodup → (∀ k ∈ ks, k ∈ ns) → ks.length ≤ ns.length
  | [], _, _, _ => Nat.zero_le _
  | k :: r, ns, nd, sub => by
    have hk := sub k List.mem_cons_self
    have h1 := sub_len r (ns.erase k) (List.nodup_cons.mp nd).2 fun x hx => (List.mem_erase_of_ne fun (z : x = k) => (List.nodup_cons.mp nd).1 (z ▸ hx)).mpr (sub x (List.mem_cons_of_mem _ hx))
    rw [List.length_erase_of_mem hk] at h1
    have := List.length_pos_of_mem hk
    rw [List.length_cons]
    omega
theorem len_nodup {α : Type} [DecidableEq α] {ks ns : List α} (nd : ks.Nodup) (m : ∀ k, k ∈ ks ↔ k ∈ ns) : ks.length = ns.length ↔ ns.Nodup := by
  constructor
  · intro e
    refine Decidable.byContradiction fun c => ?_
    have : ∃ x : α, ∃ l : List α, l.length + 1 = ns.length ∧ (∀ y, y ∈ ns → y ∈ l) := by
      clear e nd m
      induction ns with
      | nil => exact absurd .nil c
      | cons x r ih =>
        by_cases h : x ∈ r
        · exact ⟨x, r, rfl, fun y hy => (List.mem_cons.mp hy).elim (fun z => z ▸ h) id⟩
        · obtain ⟨y, l, hl, hm⟩ := ih fun z => c (List.nodup_cons.mpr ⟨h, z⟩)
          exact ⟨y, x :: l, by rw [List.length_cons, List.length_cons, hl], fun z hz => (List.mem_cons.mp hz).elim (fun q => q ▸ List.mem_cons_self) fun q => List.mem_cons_of_mem _ (hm z q)⟩
    obtain ⟨_, l, hl, hm⟩ := this
    have := sub_len ks l nd fun k hk => hm k ((m k).mp hk)
    omega
  · intro nn
    exact Nat.le_antisymm (sub_len _ _ nd fun k hk => (m k).mp hk) (sub_len _ _ nn fun k hk => (m k).mpr hk)
/-! ### numbers that rise -/
theorem rise_ext {ns ks : List Int} (a : ns.Pairwise (· < ·)) (b : ks.Pairwise (· < ·)) (m : ∀ k, k ∈ ns ↔ k ∈ ks) : ns = ks := by
  have nd : ∀ {l : List Int}, l.Pairwise (· < ·) → l.Nodup := fun h => h.imp fun {x y} h => by omega
  have p : ns.Perm ks := (List.perm_ext_iff_of_nodup (nd a) (nd b)).mpr m
  exact p.eq_of_pairwise (le := (· < ·)) (fun x y _ _ h1 h2 => by omega) a b
theorem dp_ints {K : PySem.W.Frag} {H : Hp} {L : Addr} {ns : List Int} (e : SqL K H L (ns.map V.int)) : Dp K H (.ref L) (.list (ns.map PyData.int)) := .lst e (dpa_ints ns)
theorem eqv_ints2 : ∀ ns ks : List Int, PyData.eqvAll (ns.map PyData.int) (ks.map PyData.int) = decide (ns = ks)
  | [], [] => by simp [PyData.eqvAll]
  | [], _ :: _ => by simp [PyData.eqvAll]
  | _ :: _, [] => by simp [PyData.eqvAll]
  | a :: r, b :: t => by
    have := eqv_ints2 r t
    simp only [List.map_cons, PyData.eqvAll, this, PyData.eqv]
    rw [Bool.eq_iff_iff]
    simp
theorem eqv_intsB (ns ks : List Int) : PyData.eqv (.list (ns.map PyData.int)) (.list (ks.map PyData.int)) = decide (ns = ks) := by
  simp only [PyData.eqv]
  exact eqv_ints2 ns ks
/-- firsts rise, ends are no two alike -/
def leadB (ld : Lead) : Bool := decide ((ld.map (·.1)).Pairwise (· < ·) ∧ (ld.map (·.2)).Nodup)
end Cw

/-! greater tables: each slot is met in a round -/
namespace Cw
open PySem L2
/-- the slots of a round, as the figures of a number -/
def orb (m : Nat) : Nat → Nat → Nat → Nat
  | 0, _, acc => acc
  | f + 1, x, acc => orb m f ((x * 5 + 1) % (m + 1)) (acc ||| 2 ^ x)
theorem lcgI_succ (m x : Nat) : ∀ k, lcgI m ((x * 5 + 1) % (m + 1)) k = lcgI m x (k + 1)
  | 0 => rfl
  | k + 1 => by
    show (lcgI m ((x * 5 + 1) % (m + 1)) k * 5 + 1) % (m + 1) = (lcgI m x (k + 1) * 5 + 1) % (m + 1)
    rw [lcgI_succ m x k]
theorem orb_has (m j : Nat) : ∀ (f x acc : Nat), (orb m f x acc).testBit j = true → acc.testBit j = true ∨ ∃ k, k < f ∧ lcgI m x k = j
  | 0, _, _, h => .inl h
  | f + 1, x, acc, h => by
    rcases orb_has m j f _ _ h with e | ⟨k, hk, e⟩
    · rw [Nat.testBit_or, Bool.or_eq_true] at e
      rcases e with e | e
      · exact .inl e
      · refine .inr ⟨0, by omega, ?_⟩
        rw [Nat.testBit_two_pow] at e
        exact of_decide_eq_true e
    · exact .inr ⟨k + 1, by omega, by rw [← lcgI_succ]; exact e⟩
theorem lcgI_zero (m : Nat) : ∀ k, lcgI m 0 k = lcgN m k
  | 0 => rfl
  | k + 1 => by
    show (lcgI m 0 k * 5 + 1) % (m + 1) = (lcgN m k * 5 + 1) % (m + 1)
    rw [lcgI_zero m k]
/-- where the round ends -/
def lastOf (m : Nat) : Nat → Nat → Nat
  | 0, x => x
  | f + 1, x => lastOf m f ((x * 5 + 1) % (m + 1))
theorem lastOf_eq (m : Nat) : ∀ f x, lastOf m f x = lcgI m x f
  | 0, _ => rfl
  | f + 1, x => by rw [← lcgI_succ]; exact lastOf_eq m f _
/-- each slot is met in a round, and the round closes -/
structure FullW (m : Nat) : Prop where
  odd : m % 2 = 1
  round : lcgN m (m + 1) = 0
  all : ∀ j, j ≤ m → ∃ b, b ≤ m ∧ lcgN m b = j
theorem full_of {m : Nat} (o : m % 2 = 1) (h : orb m (m + 1) 0 0 = 2 ^ (m + 1) - 1) (r : lastOf m (m + 1) 0 = 0) : FullW m := by
  refine ⟨o, by rw [← lcgI_zero, ← lastOf_eq]; exact r, fun j hj => ?_⟩
  have b : (orb m (m + 1) 0 0).testBit j = true := by
    rw [h, Nat.testBit_two_pow_sub_one]
    exact decide_eq_true (by omega)
  rcases orb_has m j _ _ _ b with e | ⟨k, hk, e⟩
  · rw [Nat.zero_testBit] at e; cases e
  · exact ⟨k, by omega, by rw [← lcgI_zero]; exact e⟩
theorem full7 : FullW 7 := full_of (by decide) (by decide +kernel) (by decide +kernel)
theorem full31 : FullW 31 := full_of (by decide) (by decide +kernel) (by decide +kernel)
theorem full127 : FullW 127 := full_of (by decide) (by decide +kernel) (by decide +kernel)
theorem full511 : FullW 511 := full_of (by decide) (by decide +kernel) (by decide +kernel)
theorem full2047 : FullW 2047 := full_of (by decide) (by decide +kernel) (by decide +kernel)
end Cw

/-! tables of sets, greater ones: where a search comes, what stands where -/
namespace Cw
open PySem L2
section
variable {m : Nat}
theorem FullW.again (F : FullW m) : ∀ k, lcgN m (k + (m + 1)) = lcgN m k
  | 0 => by rw [Nat.zero_add]; exact F.round
  | k + 1 => by
    rw [show k + 1 + (m + 1) = k + (m + 1) + 1 by omega]
    show (lcgN m (k + (m + 1)) * 5 + 1) % (m + 1) = (lcgN m k * 5 + 1) % (m + 1)
    rw [F.again k]
theorem FullW.from_ (F : FullW m) {p q : Nat} (hp : p ≤ m) (hq : q ≤ m) : ∃ k, k ≤ m ∧ lcgI m p k = q := by
  obtain ⟨b, hb, e1⟩ := F.all p hp
  obtain ⟨c, hc, e2⟩ := F.all q hq
  by_cases le : b ≤ c
  · exact ⟨c - b, by omega, by rw [← e1, lcgN_add, show b + (c - b) = c by omega, e2]⟩
  · exact ⟨c + (m + 1) - b, by omega, by rw [← e1, lcgN_add, show b + (c + (m + 1) - b) = c + (m + 1) by omega, F.again, e2]⟩
/-- a search meets each slot within its bound -/
theorem FullW.meets (F : FullW m) (h : Int) {q : Nat} (hq : q ≤ m) : ∃ k, k < 10 * SetTable.turns m ∧ way m h k = q := by
  obtain ⟨k, hk, e⟩ := F.from_ (runI_le m (SetTable.bits h) 12) hq
  rw [← runI_tail (bits_lt h) k] at e
  obtain ⟨c, hc, e2⟩ := run_nth m (SetTable.bits h) (12 + k)
  refine ⟨c, by unfold SetTable.turns; omega, ?_⟩
  show (nth m (runAt m (SetTable.bits h % (m + 1)) (SetTable.bits h)) c).j = q
  rw [e2, e]
  rfl
theorem way_top (h : Int) (k : Nat) : way m h k ≤ m := by
  have lo : SetTable.bits h % (m + 1) ≤ m := Nat.le_of_lt_succ (Nat.mod_lt (SetTable.bits h) (Nat.zero_lt_succ m))
  have ends := runEnd_bd lo
  show (nth m (runAt m (SetTable.bits h % (m + 1)) (SetTable.bits h)) k).j ≤ m
  generalize SetTable.bits h % (m + 1) = lo' at lo ends ⊢
  have z := nth_in (m := m) k (runAt m lo' (SetTable.bits h)) (show lo' + (SetTable.runEnd m lo' - lo') ≤ m by omega)
  exact Nat.le_trans (Nat.le_add_right _ _) z
end
/-- each slot of the table is found again by its hash -/
structure TabW (tb : SetTable) (hs : List Int) : Prop where
  rise : Ris tb.place.toList
  bare : tb.dummies = #[]
  size : tb.place.size = hs.length
  full : FullW tb.mask
  top : ∀ q ∈ tb.place.toList, q ≤ tb.mask
  comes : ∀ (i : Nat) (h : Int) (q : Nat), hs[i]? = some h → tb.place.toList[i]? = some q → ∃ k, way tb.mask h k = q ∧ ∀ c, c < k → way tb.mask h c ∈ tb.place.toList
section
variable {tb : SetTable} {hs : List Int}
/-- the first empty slot that a search comes to -/
theorem TabW.gap (T : TabW tb hs) (le : hs.length ≤ tb.mask) (h : Int) : ∃ K, K < 10 * SetTable.turns tb.mask ∧ way tb.mask h K ∉ tb.place.toList ∧ ∀ c, c < K → way tb.mask h c ∈ tb.place.toList := by
  obtain ⟨q, hq, out⟩ := st_missing tb.place.toList (tb.mask + 1) (by rw [Array.length_toList, T.size]; omega)
  obtain ⟨k, hk, e⟩ := T.full.meets h (q := q) (by omega)
  obtain ⟨K, le2, z1, z2⟩ := st_least (p := fun c => way tb.mask h c ∉ tb.place.toList) k (by rw [e]; exact out)
  exact ⟨K, by omega, z1, fun c hc => Classical.byContradiction fun y => z2 c hc y⟩
theorem TabW.ahead (T : TabW tb hs) {h : Int} {K i q : Nat} (out : way tb.mask h K ∉ tb.place.toList) (e1 : hs[i]? = some h) (e2 : tb.place.toList[i]? = some q) : ∃ c, c < K ∧ way tb.mask h c = q := by
  obtain ⟨c, ec, all⟩ := T.comes i h q e1 e2
  refine ⟨c, Classical.byContradiction fun ge => out ?_, ec⟩
  rcases Nat.lt_or_ge K c with lt | ge2
  · exact all K lt
  · rw [show K = c by omega, ec]
    exact List.mem_of_getElem? e2
/-- one more put in where a search found room -/
theorem TabW.more (T : TabW tb hs) {h : Int} {K : Nat} (out : way tb.mask h K ∉ tb.place.toList) (all : ∀ c, c < K → way tb.mask h c ∈ tb.place.toList) {q at_ : Nat} (eq_ : q = way tb.mask h K) (ea : at_ = SetTable.below tb.place q) :
    at_ ≤ hs.length ∧ TabW (tb.put q).1 (hs.take at_ ++ h :: hs.drop at_) := by
  have qm : q ≤ tb.mask := by rw [eq_]; exact way_top h K
  rw [← eq_] at out
  have le : at_ ≤ tb.place.size := by rw [ea]; exact (below_cut T.rise q).1
  have le1 : at_ ≤ tb.place.toList.length := by rw [Array.length_toList]; exact le
  have le2 : at_ ≤ hs.length := by rw [← T.size]; exact le
  have pl : (tb.put q).1.place.toList = tb.place.toList.take at_ ++ q :: tb.place.toList.drop at_ := by rw [ea]; exact put_place tb q
  have no : tb.place[SetTable.below tb.place q]? ≠ some q := fun e => out (by rw [← Array.getElem?_toList] at e; exact List.mem_of_getElem? e)
  have mem : ∀ x, x ∈ (tb.put q).1.place.toList ↔ x = q ∨ x ∈ tb.place.toList := fun x => by rw [pl]; exact mem_ins
  refine ⟨le2, ⟨ris_insert T.rise no, put_dm T.bare q, ?_, T.full, fun x hx => ?_, fun i g x e1 e2 => ?_⟩⟩
  · rw [← Array.length_toList, pl, len_ins _ le1, len_ins _ le2, Array.length_toList, T.size]
  · rcases (mem x).mp hx with rfl | y
    · exact qm
    · exact T.top x y
  · have old : ∀ i', hs[i']? = some g → tb.place.toList[i']? = some x → ∃ k, way (tb.put q).1.mask g k = x ∧ ∀ c, c < k → way (tb.put q).1.mask g c ∈ (tb.put q).1.place.toList := fun i' y1 y2 => by
      obtain ⟨k, y3, y4⟩ := T.comes i' g x y1 y2
      exact ⟨k, y3, fun c hc => (mem _).mpr (.inr (y4 c hc))⟩
    rw [tins_get hs le2] at e1
    rw [pl, tins_get _ le1] at e2
    rcases Nat.lt_trichotomy i at_ with lt | rfl | gt
    · rw [if_pos lt] at e1 e2
      exact old i e1 e2
    · rw [if_neg (Nat.lt_irrefl _), if_pos rfl] at e1 e2
      cases e1
      cases e2
      exact ⟨K, eq_.symm, fun c hc => (mem _).mpr (.inr (all c hc))⟩
    · rw [if_neg (by omega), if_neg (by omega)] at e1 e2
      exact old (i - 1) e1 e2
theorem TabW.fill (T : TabW tb hs) : tb.fill = hs.length := by
  unfold SetTable.fill
  rw [T.size, T.bare]
  rfl
end
end Cw

/-! greater tables laid anew -/
namespace Cw
open PySem L2
section
variable {m : Nat}
/-- a slot that nobody has is found, the first such on the way -/
theorem FullW.free (F : FullW m) {ow : Array (Option Nat)} (h : Int) {q : Nat} (hq : q ≤ m) (e : oAt ow q = none) :
    ∃ K, SetTable.layClean.free m ow (SetTable.turns m) (SetTable.bits h % (m + 1)) (SetTable.bits h) = some (way m h K) ∧ oAt ow (way m h K) = none ∧ ∀ c, c < K → oAt ow (way m h c) ≠ none := by
  obtain ⟨k, hk, e1⟩ := F.from_ (runI_le m (SetTable.bits h) 12) hq
  rw [← runI_tail (bits_lt h) k] at e1
  generalize hn : 12 + k = n at e1
  have there : (nth m (runAt m (SetTable.bits h % (m + 1)) (SetTable.bits h)) (off m (SetTable.bits h % (m + 1)) (SetTable.bits h) n)).j = q := by
    rw [nth_off, itL_run]
    exact e1
  have here : oAt ow (way m h (off m (SetTable.bits h % (m + 1)) (SetTable.bits h) n)) = none := by
    show oAt ow (nth m (runAt m (SetTable.bits h % (m + 1)) (SetTable.bits h)) (off m (SetTable.bits h % (m + 1)) (SetTable.bits h) n)).j = none
    rw [there]; exact e
  obtain ⟨K, le, y1, y2⟩ := st_least (p := fun c => oAt ow (way m h c) = none) _ here
  refine ⟨K, free_spec m ow (SetTable.turns m) n _ _ K (by unfold SetTable.turns; omega) le (fun c hc => ?_) ?_, y1, y2⟩
  · have y : ¬ oAt ow (way m h c) = none := y2 c hc
    cases z : oAt ow (way m h c) with
    | none => exact absurd z y
    | some v => rfl
  · show (oAt ow (way m h K)).isNone = true
    rw [y1]; rfl
/-- one more has its slot -/
theorem own_more (F : FullW m) {ds : List Int} {ow : Array (Option Nat)} (O : Own m ds ow) (le : ds.length ≤ m) (h : Int) :
    ∃ q, SetTable.layClean.free m ow (SetTable.turns m) (SetTable.bits h % (m + 1)) (SetTable.bits h) = some q ∧ Own m (ds ++ [h]) (ow.setIfInBounds q (some ds.length)) := by
  obtain ⟨ps, lp, own⟩ := O.ps
  obtain ⟨q0, b0, n0⟩ := st_missing ps (m + 1) (by omega)
  have z0 : oAt ow q0 = none := Classical.byContradiction fun y => n0 (own q0 (by omega) y)
  obtain ⟨K, e1, e2, e3⟩ := F.free h (q := q0) (by omega) z0
  generalize eq_ : way m h K = q at e1 e2
  have qm : q ≤ m := eq_ ▸ way_top h K
  have me : oAt (ow.setIfInBounds q (some ds.length)) q = some ds.length := oAt_set_self _ (by rw [O.sz]; omega)
  have ot : ∀ {i}, i ≠ q → oAt (ow.setIfInBounds q (some ds.length)) i = oAt ow i := fun ne => oAt_set_ne _ ne
  have still : ∀ {i}, oAt ow i ≠ none → oAt (ow.setIfInBounds q (some ds.length)) i ≠ none := fun {i} y => by
    by_cases c : i = q
    · subst c; rw [me]; simp
    · rw [ot c]; exact y
  refine ⟨q, e1, ⟨by rw [Array.size_setIfInBounds, O.sz], fun j k hj y => ?_, fun k hk => ?_, ⟨q :: ps, by simp [lp], fun j hj y => ?_⟩⟩⟩
  · by_cases c : j = q
    · subst c
      rw [me] at y
      cases y
      exact ⟨h, K, by rw [List.getElem?_append_right (Nat.le_refl _), Nat.sub_self]; rfl, eq_, fun c hc => still (e3 c hc)⟩
    · rw [ot c] at y
      obtain ⟨g, L, y1, y2, y3⟩ := O.at_ j k hj y
      exact ⟨g, L, by rw [List.getElem?_append_left (List.getElem?_eq_some_iff.mp y1).1]; exact y1, y2, fun c hc => still (y3 c hc)⟩
  · rcases Nat.lt_or_ge k ds.length with lt | ge
    · obtain ⟨j, hj, y⟩ := O.all k lt
      exact ⟨j, hj, by rw [ot fun z => by rw [z, e2] at y; cases y]; exact y⟩
    · rw [List.length_append, List.length_singleton] at hk
      exact ⟨q, qm, by rw [me, show k = ds.length by omega]⟩
  · by_cases c : j = q
    · rw [c]; exact List.mem_cons_self
    · rw [ot c] at y
      exact List.mem_cons_of_mem _ (own j hj y)
theorem own_all (F : FullW m) : ∀ (rs ds : List Int) (ow : Array (Option Nat)), Own m ds ow → ds.length + rs.length ≤ m → ∃ ow', rs.foldl (stepF m) (some (ow, ds.length)) = some (ow', ds.length + rs.length) ∧ Own m (ds ++ rs) ow'
  | [], ds, ow, O, _ => ⟨ow, rfl, by rw [List.append_nil]; exact O⟩
  | h :: rs, ds, ow, O, le => by
    rw [List.length_cons] at le
    obtain ⟨q, e, O2⟩ := own_more F O (by omega) h
    have l1 : (ds ++ [h]).length = ds.length + 1 := by simp
    obtain ⟨ow', f, O3⟩ := own_all F rs (ds ++ [h]) _ O2 (by rw [l1]; omega)
    rw [l1] at f
    refine ⟨ow', ?_, by simpa using O3⟩
    rw [List.foldl_cons, stepF_some e, f, List.length_cons]
    congr 2
    omega
theorem laid_clean (F : FullW m) {hs : Array Int} (le : hs.size ≤ m) : ∃ ow, SetTable.layClean m hs = some ow ∧ Own m hs.toList ow := by
  obtain ⟨ow, f, O⟩ := own_all F hs.toList [] _ (Own.init m) (by simpa using le)
  refine ⟨ow, ?_, by simpa using O⟩
  rw [layClean_eq]
  have f' : hs.toList.foldl (stepF m) (some (Array.replicate (m + 1) none, 0)) = some (ow, 0 + hs.toList.length) := f
  rw [f']
  rfl
/-- the table laid anew: the same hashes in another order -/
theorem relaidW (tb : SetTable) {hs : Array Int} {wanted : Nat} (ew : SetTable.sizeAbove wanted - 1 = m) (F : FullW m) (le : hs.size ≤ m) :
    ∃ tb' order, tb.relaid hs wanted = some (tb', order) ∧ order.toList.Perm (List.range hs.size) ∧ TabW tb' (order.toList.map fun i => hs.getD i 0) ∧ tb'.mask = m ∧ tb'.led = tb.led ∧ tb'.plain = tb.plain := by
  obtain ⟨ow, e, O⟩ := laid_clean F le
  have er : tb.relaid hs wanted = some (tabOf tb m ow, ((liveOf m ow).map (·.2)).toArray) := by
    rw [relaid_eq, ew, e]; rfl
  have live := fun (j k : Nat) => mem_live (j := j) (k := k) O.sz
  obtain ⟨ri, inr⟩ := ris_live (fun j => ow.getD j none) (List.range (m + 1)) List.pairwise_lt_range
  have ri : Ris ((liveOf m ow).map (·.1)) := ri
  have inr : ∀ x ∈ (liveOf m ow).map (·.1), x ∈ List.range (m + 1) := inr
  have nd : ((liveOf m ow).map (·.1)).Nodup := ri.imp fun h => Nat.ne_of_lt h
  have lz : hs.toList.length = hs.size := Array.length_toList
  have has : ∀ k, k < hs.size → k ∈ (liveOf m ow).map (·.2) := fun k hk => by
    obtain ⟨j, hj, y⟩ := O.all k (by rw [lz]; exact hk)
    exact List.mem_map.mpr ⟨(j, k), (live j k).mpr ⟨hj, y⟩, rfl⟩
  have len : (liveOf m ow).length = hs.size := by
    obtain ⟨ps, lp, own⟩ := O.ps
    have up := nat_nodup_len _ ps nd fun x hx => by
      obtain ⟨⟨j, k⟩, hq, rfl⟩ := List.mem_map.mp hx
      obtain ⟨hj, y⟩ := (live j k).mp hq
      exact own j hj (by rw [y]; simp)
    have dn := nat_nodup_len (List.range hs.size) _ List.nodup_range fun k hk => has k (List.mem_range.mp hk)
    rw [List.length_map, lp] at up
    rw [List.length_map, List.length_range] at dn
    omega
  refine ⟨_, _, er, perm_range _ _ (by show ((liveOf m ow).map (·.2)).length = _; rw [List.length_map, len]) has, ⟨ri, rfl, ?_, F, fun x hx => ?_, fun i g q y1 y2 => ?_⟩, rfl, rfl, rfl⟩
  · show (((liveOf m ow).map (·.1)).toArray).size = (((liveOf m ow).map (·.2)).map fun i => hs.getD i 0).length
    simp
  · have := List.mem_range.mp (inr x hx)
    show x ≤ m
    omega
  · have y1 : (((liveOf m ow).map (·.2)).map fun i => hs.getD i 0)[i]? = some g := y1
    have y2 : ((liveOf m ow).map (·.1))[i]? = some q := y2
    rw [List.getElem?_map] at y2
    obtain ⟨⟨q', k⟩, hq, z⟩ := Option.map_eq_some_iff.mp y2
    subst z
    rw [List.getElem?_map, List.getElem?_map, hq] at y1
    have eg : hs.getD k 0 = g := Option.some.inj y1
    obtain ⟨hj, y⟩ := (live q' k).mp (List.mem_of_getElem? hq)
    obtain ⟨g', K, z1, z2, z3⟩ := O.at_ q' k hj y
    have eg' : hs.getD k 0 = g' := by rw [Array.getD_eq_getD_getElem?, ← Array.getElem?_toList, z1]; rfl
    rw [← eg, eg']
    refine ⟨K, z2, fun c hc => ?_⟩
    show way m g' c ∈ (liveOf m ow).map (·.1)
    cases z : oAt ow (way m g' c) with
    | none => exact absurd z (z3 c hc)
    | some v => exact List.mem_map.mpr ⟨(way m g' c, v), (live _ _).mpr ⟨way_top g' c, z⟩, rfl⟩
end
end Cw

/-! sets of many tuples: the search -/
namespace Cw
open PySem PySem.Spec PyProof.Rows L2
section
variable {P : Program} {w : World} {A : Around} {E : Value → Shared → Prop} {s : Shared}
/-- a set of tuples of whole numbers, to a thousand -/
structure SetW (P : Program) (w : World) (h : Heap) (a : Addr) (L : List (Addr × List Int)) (es : Array (Int × Value)) (ep : Nat) (tb : SetTable) : Prop where
  here : ∃ ob, h.get? a = some ob ∧ ob.ExactSet ∧ ob.data = .set es ep tb
  rows : es.toList = rowsOf P w L
  tab : TabW tb (L.map fun e => thash P w e.2)
  once : (L.map (·.2)).Nodup
  tups : ∀ e ∈ L, IsT P w h e.2 e.1
  plain : tb.plain = true
  led : w.params.followText "set-order" = true ∨ tb.led = true
  room : L.length * 5 < tb.mask * 3
  mask : tb.mask = 7 ∨ tb.mask = 31 ∨ tb.mask = 127 ∨ tb.mask = 511 ∨ tb.mask = 2047
  few : L.length ≤ 1000
variable {a : Addr} {L : List (Addr × List Int)} {es : Array (Int × Value)} {ep : Nat} {tb : SetTable}
theorem SetW.len (R : SetW P w s.heap a L es ep tb) : es.size = L.length := by
  rw [← Array.length_toList, R.rows]
  unfold rowsOf
  rw [List.length_map]
theorem SetW.fits (R : SetW P w s.heap a L es ep tb) : tb.fits es.size = true := by
  have z1 := R.tab.size
  have z2 := R.tab.fill
  rw [List.length_map] at z1 z2
  have z3 := R.room
  unfold SetTable.fits
  rw [z2, z1, R.len, Bool.and_eq_true, beq_iff_eq, decide_eq_true_eq]
  omega
theorem SetW.entry (R : SetW P w s.heap a L es ep tb) {i : Nat} {e : Addr × List Int} (h : L[i]? = some e) : es[i]? = some (thash P w e.2, Value.ref e.1) := by
  rw [← Array.getElem?_toList, R.rows]
  unfold rowsOf
  rw [List.getElem?_map, h]
  rfl
theorem SetW.stays (R : SetW P w s.heap a L es ep tb) : ¬ tb.gaveWay = true := by
  unfold SetTable.gaveWay
  rw [R.tab.full.odd]
  decide
theorem no_dummy (m : Nat) : ∀ (n : Nat) (p : SetTable.Probe), p.dummy = none → (nth m p n).dummy = none
  | 0, _, h => h
  | n + 1, p, h => no_dummy m n (adv m p) (by unfold adv; split <;> exact h)
/-- the search, from the c-th step of its way on -/
theorem seekW (R : SetW P w s.heap a L es ep tb) {x : Addr} {k : List Int} (hx : IsT P w s.heap k x) (hu : A.units < cLine) {hv : Int} (ehv : hv = thash P w k) {K : Nat} (rm : K < 10 * SetTable.turns tb.mask)
    (out : way tb.mask hv K ∉ tb.place.toList) (all : ∀ c, c < K → way tb.mask hv c ∈ tb.place.toList) {Q : SetFound → Shared → Prop}
    (q1 : k ∈ L.map (·.2) → Q (.there none) s) (q2 : k ∉ L.map (·.2) → Q (.free (way tb.mask hv K) false) s) :
    ∀ (f c : Nat) (at_ : Option SetTable.Probe), at_.getD (tb.probeStart hv) = nth tb.mask (runAt tb.mask (SetTable.bits hv % (tb.mask + 1)) (SetTable.bits hv)) c → c ≤ K → K - c < f →
      (∀ (i : Nat) e, L[i]? = some e → e.2 = k → ∃ c', c ≤ c' ∧ c' < K ∧ tb.place.toList[i]? = some (way tb.mask hv c')) →
      wpAny (model P w) A (setSearchFrom a (.ref x) hv true f at_) Q E s
  | 0, _, _, _, _, z, _ => absurd z (Nat.not_lt_zero _)
  | f + 1, c, at_, ea, le, lf, left => by
    obtain ⟨ob, eo, ex, ed⟩ := R.here
    generalize est : runAt tb.mask (SetTable.bits hv % (tb.mask + 1)) (SetTable.bits hv) = st at ea
    have wj : ∀ n, (nth tb.mask st n).j = way tb.mask hv n := fun n => by rw [← est]
    have go : ∀ n, nth tb.mask (nth tb.mask st c) n = nth tb.mask st (c + n) := fun n => (nth_add tb.mask c st n).symm
    rw [setSearchFrom_succ]
    refine wpAny_bind (wpAny_setState_of eo ed R.fits ?_)
    dsimp only
    refine wp_if_neg R.stays ?_
    try refine wpAny_bind (wpAny_pure ?_)
    have hA : ∀ (i : Nat) e, L[i]? = some e → (fun i => (es[i]?.map (·.1)).getD 0) i = thash P w e.2 := fun i e he => by
      dsimp only
      rw [R.entry he]; rfl
    have spec := go_spec tb R.tab.rise R.tab.bare (fun i => (es[i]?.map (·.1)).getD 0) hv (10 * SetTable.turns tb.mask) (K - c) (nth tb.mask st c) (no_dummy _ _ _ (by rw [← est]; rfl)) (by omega)
      (fun n hn => by rw [go, wj]; exact all (c + n) (by omega)) (by rw [go, wj, show c + (K - c) = K by omega]; exact out)
    rcases spec with ⟨n, i, hn, hi, hh, hno, hp⟩ | ⟨hno, hp⟩
    · rw [go, wj] at hi
      rw [go, wj, go] at hp
      have hp2 : tb.probe (fun i => (es[i]?.map (·.1)).getD 0) hv (nth tb.mask st c) = _ := hp
      rw [ea, hp2]
      dsimp only
      have il : i < L.length := by
        have y := (List.getElem?_eq_some_iff.mp hi).1
        have z := R.tab.size
        rw [List.length_map] at z
        rw [Array.length_toList, z] at y
        exact y
      obtain ⟨e, he⟩ : ∃ e, L[i]? = some e := ⟨_, List.getElem?_eq_getElem il⟩
      have hm := List.mem_of_getElem? he
      have rest : wpAny (model P w) A (searchRest a (.ref x) hv true f es tb (way tb.mask hv (c + n)) i (nth tb.mask st (c + (n + 1)))) Q E s := by
        unfold searchRest
        rw [R.entry he]
        dsimp only
        refine wpAny_bind (wpAny_holding (wpAny_eqBool_tuple hu (R.tups e hm) hx ?_))
        refine wpAny_bind (wpAny_setState_of eo ed R.fits ?_)
        dsimp only
        by_cases same : e.2 = k
        · refine wp_if_pos (by simp [same]) ?_
          exact wpAny_pure (q1 (List.mem_map.mpr ⟨e, hm, same⟩))
        · refine wp_if_neg (by simp [same]) ?_
          try refine wpAny_bind (wpAny_pure ?_)
          rw [sameMem]
          dsimp only
          have lv : tb.slot (way tb.mask hv (c + n)) = .live i := slot_live R.tab.rise hi
          simp only [if_true, lv, R.entry he]
          refine wpAny_bind (wpAny_isSame_ref_self (wpAny_bind (wpAny_pure ?_)))
          simp only [if_true]
          refine wp_if_neg (by simp [same]) ?_
          refine seekW R hx hu ehv rm out all q1 q2 f (c + (n + 1)) _ (by rw [est]; rfl) (by omega) (by omega) fun i' e' he' hk' => ?_
          obtain ⟨c', y1, y2, y3⟩ := left i' e' he' hk'
          refine ⟨c', Classical.byContradiction fun lt => ?_, y2, y3⟩
          rcases Nat.lt_or_ge c' (c + n) with z | z
          · refine hno (c' - c) i' (by omega) (by rw [go, wj, show c + (c' - c) = c' by omega]; exact y3) ?_
            exact (hA i' e' he').trans (by rw [hk', ehv])
          · rw [show c' = c + n by omega] at y3
            have lv' := slot_live R.tab.rise y3
            rw [lv] at lv'
            injection lv' with ei
            rw [← ei, he] at he'
            cases he'
            exact same hk'
      by_cases ld : tb.led = true
      · refine wp_if_neg (by simp [ld]) ?_
        try refine wpAny_bind (wpAny_pure ?_)
        exact rest
      · refine wp_if_pos (by simp [ld]) ?_
        refine wpAny_bind (seen_tup hx (fun y hy => ?_) ?_)
        · obtain ⟨g, hg, eg⟩ := List.mem_map.mp hy
          have hg1 : g ∈ es ∧ g.1 = hv := by simpa using hg
          have hg2 : g ∈ es.toList := by simpa using hg1.1
          rw [R.rows] at hg2
          obtain ⟨e2, he2, z⟩ := List.mem_map.mp hg2
          exact ⟨e2.2, e2.1, by rw [← eg, ← z], R.tups e2 he2⟩
        · refine wp_if_neg (by decide) ?_
          try refine wpAny_bind (wpAny_pure ?_)
          exact rest
    · rw [go, wj, show c + (K - c) = K by omega] at hp
      have hp2 : tb.probe (fun i => (es[i]?.map (·.1)).getD 0) hv (nth tb.mask st c) = _ := hp
      rw [ea, hp2]
      dsimp only
      refine wpAny_pure (q2 fun hm => ?_)
      obtain ⟨e, he, hk⟩ := List.mem_map.mp hm
      obtain ⟨i, hi, ei⟩ := List.getElem_of_mem he
      have hi' : L[i]? = some e := by rw [List.getElem?_eq_getElem hi, ei]
      obtain ⟨c', y1, y2, y3⟩ := left i e hi' hk
      refine hno (c' - c) i (by omega) (by rw [go, wj, show c + (c' - c) = c' by omega]; exact y3) ?_
      exact (hA i e hi').trans (by rw [hk, ehv])
theorem seek0W (R : SetW P w s.heap a L es ep tb) {x : Addr} {k : List Int} (hx : IsT P w s.heap k x) (hu : A.units < cLine) {Q : SetFound → Shared → Prop} (q1 : k ∈ L.map (·.2) → Q (.there none) s)
    (q2 : ∀ K, k ∉ L.map (·.2) → way tb.mask (thash P w k) K ∉ tb.place.toList → (∀ c, c < K → way tb.mask (thash P w k) c ∈ tb.place.toList) → Q (.free (way tb.mask (thash P w k) K) false) s) :
    wpAny (model P w) A (setSearch a (.ref x) (thash P w k) true) Q E s := by
  have rm := R.room
  obtain ⟨K, lt, out, all⟩ := R.tab.gap (by rw [List.length_map]; omega) (thash P w k)
  have big : K < 100000 := by
    unfold SetTable.turns at lt
    rcases R.mask with e | e | e | e | e <;> rw [e] at lt <;> omega
  unfold setSearch
  refine seekW R hx hu rfl lt out all q1 (fun no => q2 K no out all) 100000 0 none rfl (Nat.zero_le _) (by omega) fun i e he hk => ?_
  have il : i < tb.place.toList.length := by
    have y := (List.getElem?_eq_some_iff.mp he).1
    have z := R.tab.size
    rw [List.length_map] at z
    rw [Array.length_toList, z]
    exact y
  obtain ⟨c, hc, ec⟩ := R.tab.ahead (h := thash P w k) (i := i) out (by rw [List.getElem?_map, he, ← hk]; rfl) (List.getElem?_eq_getElem il)
  exact ⟨c, Nat.zero_le _, hc, by rw [List.getElem?_eq_getElem il, ec]⟩
end
end Cw

/-! sets of many tuples: one more -/
namespace Cw
open PySem PySem.Spec PyProof.Rows L2
theorem above5 : SetTable.sizeAbove (SetTable.grown 5) = 32 := by decide +kernel
theorem above19 : SetTable.sizeAbove (SetTable.grown 19) = 128 := by decide +kernel
theorem above77 : SetTable.sizeAbove (SetTable.grown 77) = 512 := by decide +kernel
theorem above307 : SetTable.sizeAbove (SetTable.grown 307) = 2048 := by decide +kernel
section
variable {P : Program} {w : World} {A : Around} {E : Value → Shared → Prop} {s : Shared}
variable {a : Addr} {L : List (Addr × List Int)} {es : Array (Int × Value)} {ep : Nat} {tb : SetTable}
theorem relayW {ob : Obj} (eo : s.heap.get? a = some ob) (ex : ob.ExactSet) (ed : ob.data = .set es ep tb) (rows : es.toList = rowsOf P w L) (tab : TabW tb (L.map fun e => thash P w e.2)) (le : L.length ≤ tb.mask)
    (once : (L.map (·.2)).Nodup) (tups : ∀ e ∈ L, IsT P w s.heap e.2 e.1) (pl : tb.plain = true) (ld : w.params.followText "set-order" = true ∨ tb.led = true) (few : L.length ≤ 1000) {wanted m : Nat}
    (ew : SetTable.sizeAbove wanted = m + 1) (F : FullW m) (em : m = 7 ∨ m = 31 ∨ m = 127 ∨ m = 511 ∨ m = 2047) (rm : L.length * 5 < m * 3) {Q : Unit → Shared → Prop}
    (q : ∀ h' L' es' ep' tb', Heap.SameBut a s.heap h' → SetW P w h' a L' es' ep' tb' → L'.Perm L → Q () { s with heap := h' }) : wpAny (model P w) A (setRelay a wanted) Q E s := by
  have sz : es.size = L.length := by
    rw [← Array.length_toList, rows]
    unfold rowsOf
    rw [List.length_map]
  have fits : tb.fits es.size = true := by
    have z1 := tab.size
    have z2 := tab.fill
    rw [List.length_map] at z1 z2
    unfold SetTable.fits
    rw [z2, z1, sz, Bool.and_eq_true, beq_iff_eq, decide_eq_true_eq]
    exact ⟨rfl, le⟩
  have big : (100000 : Nat) ≤ sizeLine := by decide
  have lm : m ≤ 2047 := by omega
  obtain ⟨tb', order, er, pm, T', y1, y2, y3⟩ := relaidW tb (hs := es.map (·.1)) (wanted := wanted) (m := m) (by omega) F (by rw [Array.size_map, sz]; omega)
  rw [Array.size_map, sz] at pm
  obtain ⟨L', z1, z2, z3⟩ := order_rows L es order rows pm
  rw [← z3] at T'
  have sz' : (order.filterMap (es[·]?)).size = es.size := by
    rw [← Array.length_toList, z1]
    unfold rowsOf
    rw [List.length_map, z2.length_eq, sz]
  rw [setRelay_eq]
  refine wpAny_bind (wpAny_setState_of eo ed fits ?_)
  dsimp only
  refine wp_if_neg (by rw [ew]; omega) ?_
  try refine wpAny_bind (wpAny_pure ?_)
  rw [er]
  dsimp only
  refine wpAny_bind ?_
  refine wp_if_neg (by rw [sz']; simp) ?_
  try refine wpAny_bind (wpAny_pure ?_)
  refine wpAny_pure ?_
  dsimp only
  refine wpAny_storeSet_of eo ed ?_ (by rw [sz', sz]; omega)
  have sb : Heap.SameBut a s.heap (s.heap.update a (Obj.putSet (order.filterMap (es[·]?)) tb')) := Heap.SameBut.update ..
  exact q _ L' _ (ep + 1) tb' sb ⟨⟨_, store_at eo ed, ⟨ex.1, ex.2.1, ex.2.2⟩, rfl⟩, z1, T', (z2.map (·.2)).nodup_iff.mpr once, fun e he => isT_same (tups e (z2.mem_iff.mp he)) eo ed sb, by rw [y3]; exact pl, by rw [y2]; exact ld, by rw [z2.length_eq, y1]; exact rm, by rw [y1]; exact em, by rw [z2.length_eq]; exact few⟩ z2
theorem addW (R : SetW P w s.heap a L es ep tb) {x : Addr} {k : List Int} (hx : IsT P w s.heap k x) (hu : A.units < cLine) (few : L.length + 1 ≤ 1000) {Q : Bool → Shared → Prop}
    (q : ∀ b h' L' es' ep' tb', Heap.SameBut a s.heap h' → SetW P w h' a L' es' ep' tb' → (k ∈ L.map (·.2) → L' = L) → (k ∉ L.map (·.2) → L'.Perm ((x, k) :: L)) → Q b { s with heap := h' }) :
    wpAny (model P w) A (setAddHashed a (.ref x) (thash P w k)) Q E s := by
  obtain ⟨ob, eo, ex, ed⟩ := R.here
  have sz := R.len
  have rm := R.room
  have big : (100000 : Nat) ≤ sizeLine := by decide
  unfold setAddHashed
  refine wpAny_holding ?_
  rw [show (100000 : Nat) = 99999 + 1 from rfl, setAddHashedIn_succ]
  refine wpAny_bind (wpAny_setState_of eo ed R.fits ?_)
  dsimp only
  refine wp_if_neg (by simp [byScan, Value.scannable]) ?_
  try refine wpAny_bind (wpAny_pure ?_)
  refine wpAny_bind (seek0W R hx hu (fun yes => ?_) fun K no out all => ?_)
  · dsimp only
    exact wpAny_pure (q false s.heap L es ep tb (Heap.SameBut.refl a s.heap) R (fun _ => rfl) fun z => absurd yes z)
  · dsimp only
    refine wpAny_bind (wpAny_setState_of eo ed R.fits ?_)
    dsimp only
    generalize esl : way tb.mask (thash P w k) K = sl at out ⊢
    obtain ⟨le, T1⟩ := R.tab.more (h := thash P w k) (K := K) (q := sl) (at_ := SetTable.below tb.place sl) (by rw [esl]; exact out) all esl.symm rfl
    have pl1 : (tb.put sl).1.plain = true := R.plain
    have mk1 : (tb.put sl).1.mask = tb.mask := rfl
    have ld1 : w.params.followText "set-order" = true ∨ (tb.put sl).1.led = true := R.led
    have at1 : (tb.put sl).2 = SetTable.below tb.place sl := rfl
    generalize ept : tb.put sl = pt at T1 pl1 mk1 ld1 at1 ⊢
    obtain ⟨tb1, p⟩ := pt
    dsimp only at T1 pl1 mk1 ld1 at1 ⊢
    rw [← at1] at le T1
    first
      | (refine wpAny_bind ?_; refine wp_if_pos pl1 ?_; refine hashBy_tup hx ?_)
      | refine wp_if_pos pl1 (wpAny_bind (hashBy_tup hx ?_))
    simp only [if_true]
    have rows1 : (SetTable.insertAt es p (thash P w k, Value.ref x)).toList = rowsOf P w (L.take p ++ (x, k) :: L.drop p) := by
      rw [SetTable.toList_insertAt, rows_put, R.rows]
    have pm : (L.take p ++ (x, k) :: L.drop p).Perm ((x, k) :: L) := put_perm L p (x, k)
    have T2 : TabW tb1 ((L.take p ++ (x, k) :: L.drop p).map fun e => thash P w e.2) := by
      rw [List.map_append, List.map_cons, List.map_take, List.map_drop]
      exact T1
    have len1 : (L.take p ++ (x, k) :: L.drop p).length = L.length + 1 := pm.length_eq
    have once1 : ((L.take p ++ (x, k) :: L.drop p).map (·.2)).Nodup := (pm.map (·.2)).nodup_iff.mpr (List.nodup_cons.mpr ⟨no, R.once⟩)
    generalize SetTable.insertAt es p (thash P w k, Value.ref x) = es1 at rows1 ⊢
    generalize L.take p ++ (x, k) :: L.drop p = L1 at pm len1 once1 rows1 T2
    have sz1 : es1.size = L.length + 1 := by
      rw [← Array.length_toList, rows1]
      unfold rowsOf
      rw [List.length_map, len1]
    refine wpAny_bind (wpAny_storeSet_of eo ed ?_ (by rw [sz1]; omega))
    have sb : Heap.SameBut a s.heap (s.heap.update a (Obj.putSet es1 tb1)) := Heap.SameBut.update ..
    have eo1 := store_at (es' := es1) (t' := tb1) eo ed
    generalize s.heap.update a (Obj.putSet es1 tb1) = h1 at sb eo1 ⊢
    have tups1 : ∀ e ∈ L1, IsT P w h1 e.2 e.1 := fun e he => by
      rcases List.mem_cons.mp (pm.mem_iff.mp he) with rfl | he
      · exact isT_same hx eo ed sb
      · exact isT_same (R.tups e he) eo ed sb
    have full : tb1.tooFull = decide ((L.length + 1) * 5 ≥ tb.mask * 3) := by
      unfold SetTable.tooFull
      rw [T2.fill, List.length_map, len1, mk1]
    by_cases tf : tb1.tooFull = true
    · first
        | (refine wpAny_bind ?_; refine wp_if_pos (by simp [tf]) ?_)
        | (refine wp_if_pos (by simp [tf]) ?_; refine wpAny_bind ?_)
      rw [full] at tf
      have tf := of_decide_eq_true tf
      rw [sz]
      have go : ∀ m, SetTable.sizeAbove (SetTable.grown (L.length + 1)) = m + 1 → FullW m → (m = 7 ∨ m = 31 ∨ m = 127 ∨ m = 511 ∨ m = 2047) → (L.length + 1) * 5 < m * 3 →
          wpAny (model P w) A (setRelay a (SetTable.grown (L.length + 1))) (fun _ s' => wpAny (model P w) A (pure true) Q E s') E { s with heap := h1 } := fun m y1 y2 y3 y4 => by
        refine relayW (s := { s with heap := h1 }) eo1 ⟨ex.1, ex.2.1, ex.2.2⟩ rfl rows1 T2 (by rw [len1, mk1]; rcases R.mask with e | e | e | e | e <;> omega) once1 tups1 pl1 ld1 (by rw [len1]; exact few) y1 y2 y3 (by rw [len1]; exact y4) fun h2 L2 es2 ep2 tb2 sb2 R2 pm2 => ?_
        exact wpAny_pure (q true h2 L2 es2 ep2 tb2 (sb.trans sb2) R2 (fun z => absurd z no) fun _ => pm2.trans pm)
      rcases R.mask with e | e | e | e | e <;> rw [e] at tf rm
      · have l4 : L.length = 4 := by omega
        exact go 31 (by rw [l4]; exact above5) full31 (by omega) (by omega)
      · have l4 : L.length = 18 := by omega
        exact go 127 (by rw [l4]; exact above19) full127 (by omega) (by omega)
      · have l4 : L.length = 76 := by omega
        exact go 511 (by rw [l4]; exact above77) full511 (by omega) (by omega)
      · have l4 : L.length = 306 := by omega
        exact go 2047 (by rw [l4]; exact above307) full2047 (by omega) (by omega)
      · exfalso; omega
    · first
        | refine wp_if_neg (by simp [tf]) ?_
        | (refine wpAny_bind ?_; refine wp_if_neg (by simp [tf]) ?_; refine wpAny_pure ?_)
      refine wpAny_pure (q true h1 L1 es1 (ep + 1) tb1 sb ⟨⟨_, eo1, ⟨ex.1, ex.2.1, ex.2.2⟩, rfl⟩, rows1, T2, once1, tups1, pl1, ld1, ?_, by rw [mk1]; exact R.mask, by rw [len1]; exact few⟩ (fun z => absurd z no) fun _ => pm)
      rw [full] at tf
      have tf : ¬ ((L.length + 1) * 5 ≥ tb.mask * 3) := fun z => tf (decide_eq_true z)
      rw [len1, mk1]
      omega
end
end Cw

/-! set(a list of many tuples) -/
namespace Cw
open PySem PySem.Spec PySem.Calls PyProof.Rows L2
section
variable {P : Program} {w : World} {A : Around} {E : Value → Shared → Prop} {s : Shared}
theorem SetW.keep {h h' : Heap} {a : Addr} {L : List (Addr × List Int)} {es : Array (Int × Value)} {ep : Nat} {tb : SetTable} (R : SetW P w h a L es ep tb) (k : ∀ u, h.get? a = some u → h'.get? a = some u) (t : ∀ e ∈ L, IsT P w h' e.2 e.1) : SetW P w h' a L es ep tb := by
  obtain ⟨ob, eo, r⟩ := R.here
  exact ⟨⟨ob, k ob eo, r⟩, R.rows, R.tab, R.once, t, R.plain, R.led, R.room, R.mask, R.few⟩
theorem setW_new {h : Heap} {a : Addr} (eo : h.get? a = some (noSet w)) : SetW P w h a [] #[] 0 (.fresh 0 0 (!w.params.followText "set-order")) where
  here := ⟨_, eo, ⟨rfl, rfl, rfl⟩, rfl⟩
  rows := rfl
  tab := ⟨List.Pairwise.nil, rfl, rfl, full7, (fun q hq => nomatch hq), fun i g q z => nomatch (show (none : Option Int) = some g from z)⟩
  once := List.nodup_nil
  tups := (fun e he => nomatch he)
  plain := rfl
  led := by
    show _ ∨ (!w.params.followText "set-order") = true
    cases w.params.followText "set-order"
    · exact .inr rfl
    · exact .inl rfl
  room := by show 0 * 5 < 7 * 3; decide
  mask := .inl rfl
  few := Nat.zero_le _
/-- tuple by tuple goes in -/
theorem wide_update {I : Addr} {fp wr : List Addr} {G : Array GenState → Array GenState → Prop} {n : Nat} {Pv : Nat → Value → Prop} {St : Nat → Shared → Prop} {R : Result → Shared → Prop}
    (W : WalksS P w A.in1 I fp wr G n Pv St) (D : Addr) (outp : D ∉ fp) (ks : List (Addr × List Int)) (hn : n = ks.length) (few : ks.length ≤ 1000) (vals : ∀ i v, Pv i v → ∃ e, ks[i]? = some e ∧ v = .ref e.1)
    (h0 : Heap) (tups : ∀ e ∈ ks, IsT P w h0 e.2 e.1) (newD : h0.get? D = none) (neww : ∀ b ∈ wr, h0.get? b = none) (hu : A.in1.units < cLine) :
    ∀ (k i : Nat) (s : Shared), n - i = k → i ≤ n → St i s → (∀ b u, h0.get? b = some u → s.heap.get? b = some u) → (∃ L es ep tb, SetW P w s.heap D L es ep tb ∧ Got ks i L) →
      (∀ s' L es ep tb, Moved (D :: wr) G s s' → SetW P w s'.heap D L es ep tb → Got ks n L → R (.ok (.ret .none)) s') → codeAny (model P w) A (.builtin "set.update.loop" ⟨[.ref D, .ref I], []⟩) R s := by
  have offw : D ∉ wr := fun h => outp (W.sub _ h)
  have wide : ∀ b ∈ wr, b ∈ D :: wr := fun b hb => List.mem_cons_of_mem _ hb
  have on : ∀ {s s' : Shared}, Moved wr G s s' → (∀ b u, h0.get? b = some u → s.heap.get? b = some u) → ∀ b u, h0.get? b = some u → s'.heap.get? b = some u := fun mv z b u e =>
    mv.heap b u (fun hb => by rw [neww b hb] at e; cases e) (z b u e)
  intro k
  induction k with
  | zero =>
    intro i s e1 e2 st kp ⟨L, es, ep, tb, z, g⟩ q
    obtain rfl : i = n := by omega
    refine codeAny_builtin F.entry_set_update_loop ?_
    rw [Around.under_plainId F.plain_set_update_loop _]
    show wpAny _ A.in1 (pyNext (.ref I) >>= _) _ _ s
    refine wpAny_bind (W.done s _ _ st fun s2 mv => ?_)
    show wpAny _ A.in1 (ret Value.none) _ _ s2
    have kp2 := on mv kp
    exact wpAny_pure (q s2 L es ep tb (mv.mono wide) (z.keep (fun u e => mv.heap D u offw e) fun e he => isT_keep (tups e (List.mem_of_mem_take (g.sub e he))) kp2) g)
  | succ k ih =>
    intro i s e1 e2 st kp ⟨L, es, ep, tb, z, g⟩ q
    have lt : i < n := by omega
    refine codeAny_builtin F.entry_set_update_loop ?_
    rw [Around.under_plainId F.plain_set_update_loop _]
    show wpAny _ A.in1 (pyNext (.ref I) >>= _) _ _ s
    refine wpAny_bind (W.item i s _ _ lt st fun v s2 pv st2 mv => ?_)
    obtain ⟨e, he, rfl⟩ := vals i v pv
    have kp2 := on mv kp
    have z2 : SetW P w s2.heap D L es ep tb := z.keep (fun u y => mv.heap D u offw y) fun y hy => isT_keep (tups y (List.mem_of_mem_take (g.sub y hy))) kp2
    have hx : IsT P w s2.heap e.2 e.1 := isT_keep (tups e (List.mem_of_getElem? he)) kp2
    have lg := g.len
    show wpAny _ A.in1 (holding [Value.ref e.1] (setAdd D (.ref e.1)) >>= _) _ _ s2
    refine wpAny_bind (wpAny_holding ?_)
    unfold setAdd
    refine wpAny_holding ?_
    refine wpAny_bind (wpAny_pyHash_tuple hu hx ?_)
    refine addW (s := { s2 with toks := s2.toks + (e.2.length + 1) }) z2 hx hu (by omega) fun b h' L' es' ep' tb' sb z3 c1 c2 => ?_
    have g2 : Got ks (i + 1) L' := by
      by_cases c : e.2 ∈ L.map (·.2)
      · rw [c1 c]; exact g.same he c
      · exact g.more he (c2 c)
    have kp3 : ∀ b u, h0.get? b = some u → h'.get? b = some u := fun b u y => (sb.2 b (fun x => by rw [x, newD] at y; cases y)).trans (kp2 b u y)
    refine wpAny_pure ⟨plainId_quiet F.plain_set_update_loop _, ih (i + 1) _ (by omega) lt (W.frame _ s2 _ _ st2 (Nat.le_add_right _ _) fun b hb u y => ?_) kp3 ⟨L', es', ep', tb', z3, g2⟩ fun s3 L2 es2 ep2 tb2 mv3 z4 g4 => ?_⟩
    · rw [sb.2 b (fun x : b = D => outp (by rw [← x]; exact hb))]; exact y
    · refine q s3 L2 es2 ep2 tb2 (Moved.trans W.gtrans ((mv.mono wide).then_heap (Nat.le_add_right _ _) fun b u hb y => ?_) mv3) z4 g4
      rw [sb.2 b (fun x : b = D => hb (by rw [x]; exact List.mem_cons_self))]; exact y
set_option maxHeartbeats 3200000 in
theorem call_set_wide {l : Addr} {items : Array Value} (ks : List (Addr × List Int)) {Q : Value → Shared → Prop} (hh : A.handled = none) (lst : s.heap.IsList l items) (its : items.toList = ks.map fun e => Value.ref e.1)
    (tups : ∀ e ∈ ks, IsT P w s.heap e.2 e.1) (few : ks.length ≤ 1000) (hu : A.units + 3 < cLine)
    (h : ∀ (h' : Heap) (tk : Nat) L es ep tb, SetW P w h' s.heap.objs.size L es ep tb → Got ks ks.length L → (∀ b o, s.heap.get? b = some o → h'.get? b = some o) → Q (.ref s.heap.objs.size) { s with heap := h', toks := tk }) :
    wpAny (model P w) A (call (.type "set") [.ref l]) Q E s := by
  have many : items.size = ks.length := by rw [← Array.length_toList, its, List.length_map]
  obtain ⟨c, tl, hmro⟩ := F.called_set.mro
  have hmade := F.called_set.made
  have hsub := F.called_set.sub
  (refine wpAny_call (codeAny_of_tree ?_))
  show wpAny _ _ (callAny (.type "set") _) _ _ _
  (refine wpAny_pure ⟨Code.quiet_builtin _ (by decide +kernel), codeAny_builtin F.entry_type_call ?_⟩)
  (rw [Around.under_plain (weight_type_call_type "set" [.ref l] []) rfl])
  have h1 := F.called_set.notType
  have h2 := F.called_set.canCreate
  have hct := F.typeCall_set_1 (.ref l)
  (repeat (any_goals (first | assumption | wp_step)))
  refine codeAny_mono (code_set_led1 (.ref l) (E := E) (Q₁ := fun obj s₁ => obj = .ref s.heap.objs.size ∧ s₁ = { s with heap := s.heap.push (noSet w) }) ⟨rfl, rfl⟩) fun r s₁ hr => ?_
  match r, hr with
  | .error e, hr => exact hr
  | .ok (.next), hr => exact hr.elim
  | .ok (.brk), hr => exact hr.elim
  | .ok (.cont), hr => exact hr.elim
  | .ok (.ret obj), hr =>
    obtain ⟨rfl, rfl⟩ := hr
    have eS : (s.heap.push (noSet w)).get? s.heap.objs.size = some (noSet w) := Heap.get?_push_size _ rfl
    have tyS : Shared.TypeIs { s with heap := s.heap.push (noSet w) } (.ref s.heap.objs.size) "set" := ⟨_, eS, rfl⟩
    have hli := F.called_set.init.lookup
    have hbi := F.called_set.init.bind (.ref s.heap.objs.size)
    (repeat (any_goals (first | assumption | wp_step)))
    refine codeAny_mono (codeAny_call_builtin (R := wants (fun r s₂ => r = .none ∧ ∃ h' tk L es ep tb, s₂ = { s with heap := h', toks := tk } ∧ SetW P w h' s.heap.objs.size L es ep tb ∧ Got ks ks.length L ∧
        (∀ b o, s.heap.get? b = some o → h'.get? b = some o)) E) F.called_set.init.plain F.entry_set_init (check_set_init_1 tyS ?_)) fun r₂ s₂ hr₂ => ?_
    · obtain ⟨ol, eol, cl, nl, dl⟩ := lst
      obtain ⟨lcls, ldict, ldata, lslots⟩ := ol
      simp only at cl dl
      subst cl
      subst dl
      have eol' : (s.heap.push (noSet w)).get? l = some { cls := .type "list", dict := ldict, data := .seq items nl, slots := lslots } := Heap.get?_push_of_some _ eol
      have hsls := F.sub_list_set
      have hslf := F.sub_list_frozenset
      have hne : (Value.type "list" == Value.type "dict") = false := by decide
      have lst1 : (s.heap.push (noSet w)).IsList l items := ⟨_, eol', rfl, nl, rfl⟩
      (unfold Builtin.«set.__init__» noKeywords; unfold Builtin.Frozenset.updateFrom)
      generalize hPI : pyIter = PI
      wp_walk
      subst hPI
      refine wpAny_pyIter_list lst1 ?_
      refine wpAny_bind (wpAny_runValue ?_)
      have below : l < s.heap.objs.size := Heap.lt_size eol
      have hh3 : A.in1.in1.in1.handled = none := by simp [hh]
      have sz1 : (s.heap.push (noSet w)).objs.size = s.heap.objs.size + 1 := Heap.size_push ..
      have neI : l ≠ (s.heap.push (noSet w)).objs.size := by
        rw [sz1]
        exact Nat.ne_of_lt (Nat.lt_succ_of_lt below)
      have apart : s.heap.objs.size ∉ [(s.heap.push (noSet w)).objs.size, l] := by
        rw [sz1]
        intro z
        rcases List.mem_cons.mp z with z | z
        · exact absurd z (Nat.ne_of_lt (Nat.lt_succ_self _))
        · exact absurd (List.mem_singleton.mp z) (Nat.ne_of_gt below)
      have vals : ∀ (i : Nat) (v : Value), items[i]? = some v → ∃ e, ks[i]? = some e ∧ v = .ref e.1 := fun i v hv => by
        rw [← Array.getElem?_toList, its, List.getElem?_map] at hv
        obtain ⟨e, he, z⟩ := Option.map_eq_some_iff.mp hv
        exact ⟨e, he, z.symm⟩
      have unborn : ∀ b, s.heap.objs.size ≤ b → s.heap.get? b = none := fun b hb => by
        cases z : s.heap.get? b with
        | none => rfl
        | some o => exact absurd (Nat.lt_of_lt_of_le (Heap.lt_size z) hb) (Nat.lt_irrefl _)
      refine wide_update ((Walks.list hh3 _ l neI items).toS) s.heap.objs.size apart ks many few vals s.heap tups (unborn _ (Nat.le_refl _)) (fun b hb => unborn b (by rw [List.mem_singleton.mp hb, sz1]; exact Nat.le_succ _)) hu (items.size - 0) 0 _ (by omega) (Nat.zero_le _)
        ⟨⟨_, Heap.get?_push_size _ rfl, rfl, rfl⟩, (lst1.push _)⟩ (fun b o e => Heap.get?_push_of_some _ (Heap.get?_push_of_some _ e)) ⟨[], #[], 0, _, setW_new (Heap.get?_push_of_some _ eS), Got.zero ks⟩ ?_
      intro s' L es ep tb mv new got
      obtain ⟨h', g2, d', tk', os'⟩ := s'
      have eg : g2 = s.gens := mv.gens
      have ed : d' = s.drawn := mv.drawn
      have eo : os' = s.os := mv.os
      subst eg
      subst ed
      subst eo
      show wpAny _ _ _ _ _ _
      refine wpAny_pure ?_
      show wpAny _ _ (ret Value.none) _ _ _
      rw [many] at got
      refine wpAny_pure ⟨rfl, h', tk', L, es, ep, tb, rfl, new, got, fun b o e => ?_⟩
      have b0 : b < s.heap.objs.size := Heap.lt_size e
      refine mv.heap b o (fun z => ?_) (Heap.get?_push_of_some _ (Heap.get?_push_of_some _ e))
      rcases List.mem_cons.mp z with z | z
      · exact absurd z (Nat.ne_of_lt b0)
      · have z := List.mem_singleton.mp z
        rw [sz1] at z
        exact absurd z (Nat.ne_of_lt (Nat.lt_succ_of_lt b0))
    · match r₂, hr₂ with
      | .error e, hr₂ => exact hr₂
      | .ok (.next), hr₂ => exact hr₂.elim
      | .ok (.brk), hr₂ => exact hr₂.elim
      | .ok (.cont), hr₂ => exact hr₂.elim
      | .ok (.ret r), hr₂ =>
        obtain ⟨rfl, h', tk, L, es, ep, tb, rfl, new, got, kept⟩ := hr₂
        (repeat (any_goals (first | assumption | wp_step)))
        exact h _ _ _ _ _ _ new got kept
end
end Cw

/-! sorted(a set of many pairs) -/
namespace Cw
open PySem PySem.Spec PySem.Calls PyProof.Rows L2
def pk2 (e : Addr × List Int) : Int × Int := (e.2.getD 0 0, e.2.getD 1 0)
/-- the pair that stands at an address -/
def keyAt (L : List (Addr × List Int)) (v : Value) : Int × Int := match v with
  | .ref b => match L.find? (fun e => decide (e.1 = b)) with
    | some e => pk2 e
    | none => (0, 0)
  | _ => (0, 0)
section
variable {P : Program} {w : World} {A : Around} {E : Value → Shared → Prop} {s : Shared} {a : Addr} {L : List (Addr × List Int)} {es : Array (Int × Value)} {ep : Nat} {tb : SetTable}
theorem keyAt_of (own : ∀ e ∈ L, ∀ g ∈ L, e.1 = g.1 → e = g) {e : Addr × List Int} (he : e ∈ L) : keyAt L (.ref e.1) = pk2 e := by
  unfold keyAt
  dsimp only
  cases z : L.find? (fun g => decide (g.1 = e.1)) with
  | none =>
    have y := List.find?_eq_none.mp z e he
    simp at y
  | some g =>
    have y : decide (g.1 = e.1) = true := List.find?_some (p := fun g : Addr × List Int => decide (g.1 = e.1)) z
    have y := of_decide_eq_true y
    rw [own g (List.mem_of_find?_eq_some z) e he y]
theorem pair_at {h : Heap} {e : Addr × List Int} (t : IsT P w h e.2 e.1) (two : e.2.length = 2) : Srt.IsPair h (.ref e.1) (pk2 e).1 (pk2 e).2 := by
  obtain ⟨o, items, n, ho, hc, hd, hi⟩ := t
  obtain ⟨b, l⟩ := e
  match l, two with
  | [x, y], _ =>
    have hi : IntsAre items.toList [x, y] := ints_of_items hi
    generalize hl : items.toList = l at hi
    cases hi with
    | cons _ t1 r =>
      cases r with
      | cons _ t2 r2 =>
        cases r2
        refine ⟨b, o, t1, t2, n, rfl, ho, hc, ?_⟩
        have ei : items = #[.int x t1, .int y t2] := by
          apply Array.ext'
          rw [hl]
        rw [hd, ei]
        rfl
/-- the addresses tell the rows -/
theorem rows_back (own : ∀ e ∈ L, ∀ g ∈ L, e.1 = g.1 → e = g) (nd : L.Nodup) {vs : List Value} (pm : vs.Perm (L.map fun e => Value.ref e.1)) : ∃ L' : List (Addr × List Int), vs = L'.map (fun e => Value.ref e.1) ∧ L'.Perm L := by
  have ex : ∀ us : List Value, (∀ v ∈ us, v ∈ L.map fun e => Value.ref e.1) → ∃ L' : List (Addr × List Int), us = L'.map (fun e => Value.ref e.1) ∧ ∀ e ∈ L', e ∈ L := by
    intro us
    induction us with
    | nil => exact fun _ => ⟨[], rfl, (fun e he => nomatch he)⟩
    | cons v us ih =>
      intro hv
      obtain ⟨e, he, z⟩ := List.mem_map.mp (hv v List.mem_cons_self)
      obtain ⟨L', z1, z2⟩ := ih fun u hu => hv u (List.mem_cons_of_mem _ hu)
      refine ⟨e :: L', by rw [List.map_cons, z, z1], fun g hg => ?_⟩
      rcases List.mem_cons.mp hg with rfl | hg
      · exact he
      · exact z2 g hg
  obtain ⟨L', e1, sub⟩ := ex vs fun v hv => pm.mem_iff.mp hv
  refine ⟨L', e1, ?_⟩
  have ndr : (L.map fun e => Value.ref e.1).Nodup := by
    unfold List.Nodup
    rw [List.pairwise_map]
    refine List.Pairwise.imp_of_mem (fun {e g} he hg ne z => ?_) nd
    injection z with z
    exact ne (own e he g hg z)
  have nd' : L'.Nodup := by
    have y := pm.nodup_iff.mpr ndr
    rw [e1] at y
    exact nodup_of_map y
  refine (List.perm_ext_iff_of_nodup nd' nd).mpr fun e => ⟨sub e, fun he => ?_⟩
  have y : Value.ref e.1 ∈ L'.map (fun e => Value.ref e.1) := by rw [← e1]; exact pm.mem_iff.mpr (List.mem_map.mpr ⟨e, he, rfl⟩)
  obtain ⟨g, hg, z⟩ := List.mem_map.mp y
  injection z with z
  rw [← own g (sub g hg) e he z]
  exact hg
theorem sorted_wide {Q : Value → Shared → Prop} (R : SetW P w s.heap a L es ep tb) (hh : A.handled = none) (two : ∀ e ∈ L, e.2.length = 2)
    (q : ∀ s' p (out : Array Value) (c : Nat) (L' : List (Addr × List Int)), (∀ b o, s.heap.get? b = some o → s'.heap.get? b = some o) → s'.gens = s.gens → s'.os = s.os → s.heap.objs.size ≤ p →
      s'.heap.get? p = some (seqObj "list" out c) → out.toList = L'.map (fun e => Value.ref e.1) → L'.Perm L → L'.Pairwise (fun e g => SrtO.lexB (pk2 g) (pk2 e) = false) → Q (.ref p) s') :
    wpAny (model P w) A (call (.builtin "sorted") [.ref a]) Q E s := by
  obtain ⟨ob, eo, ex, ed⟩ := R.here
  have big : (100000 : Nat) ≤ sizeLine := by decide
  have few := R.few
  have sz := R.len
  have own : ∀ e ∈ L, ∀ g ∈ L, e.1 = g.1 → e = g := fun e he g hg z => by
    have y1 := R.tups e he
    have y2 := R.tups g hg
    rw [z] at y1
    exact Prod.ext z (y1.inj y2)
  have ndL : L.Nodup := nodup_of_map R.once
  refine call_function_entry kind_sorted plain_sorted entry_sorted (args_sorted1 _) ?_
  unfold Builtin.«sorted»
  refine wpAny_bind (m := checkCount "sorted" 1 1 _) (wpAny_pure ?_)
  refine wpAny_bind (collect_set (A := A.in1) hh ⟨ob, eo, ex.1, ed⟩ R.fits (by unfold scanBound; omega) R.tab.rise R.led fun s1 vs k1 gr g1 o1 pm => ?_)
  have er : es.toList.map (·.2) = L.map fun e => Value.ref e.1 := by
    rw [R.rows]
    unfold rowsOf
    rw [List.map_map]
    rfl
  rw [er] at pm
  have lv : vs.length = L.length := by rw [pm.length_eq, List.length_map]
  have hL : vs.length ≤ sizeLine := by omega
  refine wpAny_bind (wpAny_newList ?_ hL)
  have oL : (s1.heap.push (seqObj "list" vs.toArray 0)).get? s1.heap.objs.size = some (seqObj "list" vs.toArray 0) := Heap.get?_push_size _ rfl
  have hp : ∀ v ∈ vs, Srt.IsPair (s1.heap.push (seqObj "list" vs.toArray 0)) v (keyAt L v).1 (keyAt L v).2 := fun v hv => by
    obtain ⟨e, he, rfl⟩ := List.mem_map.mp (pm.mem_iff.mp hv)
    rw [keyAt_of own he]
    exact pair_at (P := P) (w := w) (isT_keep (R.tups e he) fun b u y => Heap.get?_push_of_some _ (k1 b u y)) (two e he)
  refine wpAny_bind (wpAny_holding (wpAny_call_entry slot_list_sort ⟨_, oL, rfl⟩ entry_list_sort (SrtO.list_sort_ord (SrtO.swo_lex (keyAt L)) oL hL (fun h2 => SrtO.pairs_sortableO (by omega) hp fun o y => by
      rw [oL] at y
      cases y
      exact fun z => by
        injection z with z3
        exact absurd z3 (by decide)) fun out h1 h2 => ⟨_, rfl, ?_⟩) (args_list_sort _)))
  obtain ⟨c, hc⟩ := sortedHeap_at (vs := vs) (out := out.toArray) oL
  obtain ⟨L', e1, pL⟩ := rows_back own ndL (h2.perm.trans pm)
  refine wpAny_pure ⟨_, rfl, q _ s1.heap.objs.size out.toArray c L' (fun b u y => ?_) g1 o1 gr hc e1 pL ?_⟩
  · have y := k1 b u y
    have lt := Heap.lt_size y
    show (sortedHeap (s1.heap.push (seqObj "list" vs.toArray 0)) s1.heap.objs.size vs _).get? b = some u
    rw [sortedHeap_old (Nat.ne_of_lt lt) (by rw [size_push']; exact Nat.lt_succ_of_lt lt)]
    exact Heap.get?_push_of_some _ y
  · have y : out.Pairwise fun v u => SrtO.lexB (keyAt L u) (keyAt L v) = false := h1
    rw [e1, List.pairwise_map] at y
    refine List.Pairwise.imp_of_mem (fun {e g} he hg z => ?_) y
    rw [keyAt_of own (pL.mem_iff.mp he), keyAt_of own (pL.mem_iff.mp hg)] at z
    exact z
end
/-- the set of tuples at a, without the tuples themselves -/
def SetW0 (P : Program) (w : World) (h : Heap) (a : Addr) (L : List (Addr × List Int)) : Prop :=
  ∃ (es : Array (Int × Value)) (ep : Nat) (tb : SetTable), (∃ ob, h.get? a = some ob ∧ ob.ExactSet ∧ ob.data = .set es ep tb) ∧ es.toList = rowsOf P w L ∧ TabW tb (L.map fun e => thash P w e.2) ∧ (L.map (·.2)).Nodup ∧ tb.plain = true ∧
    (w.params.followText "set-order" = true ∨ tb.led = true) ∧ L.length * 5 < tb.mask * 3 ∧ (tb.mask = 7 ∨ tb.mask = 31 ∨ tb.mask = 127 ∨ tb.mask = 511 ∨ tb.mask = 2047) ∧ L.length ≤ 1000
def SetWO (P : Program) (w : World) (a : Addr) (L : List (Addr × List Int)) : HO := .ext fun h => SetW0 P w h a L
theorem SetW.bare {P : Program} {w : World} {h : Heap} {a : Addr} {L : List (Addr × List Int)} {es : Array (Int × Value)} {ep : Nat} {tb : SetTable} (R : SetW P w h a L es ep tb) : SetW0 P w h a L :=
  ⟨es, ep, tb, R.here, R.rows, R.tab, R.once, R.plain, R.led, R.room, R.mask, R.few⟩
theorem SetW0.full {P : Program} {w : World} {h : Heap} {a : Addr} {L : List (Addr × List Int)} (R : SetW0 P w h a L) (t : ∀ e ∈ L, IsT P w h e.2 e.1) : ∃ es ep tb, SetW P w h a L es ep tb := by
  obtain ⟨es, ep, tb, y1, y2, y3, y4, y5, y6, y7, y8, y9⟩ := R
  exact ⟨es, ep, tb, y1, y2, y3, y4, t, y5, y6, y7, y8, y9⟩
theorem setWO_new {P : Program} {w : World} {H : Hp} {h : Heap} {a : Addr} {L : List (Addr × List Int)} (R : SetW0 P w h a L) : ObjOk P w H h a (SetWO P w a L) := by
  have ⟨es, ep, tb, ⟨ob, eo, r⟩, y⟩ := R
  refine ⟨R, ⟨ob, eo⟩, fun h1 h2 p k => ?_⟩
  have ⟨es', ep', tb', ⟨ob', eo', r'⟩, y'⟩ := p
  exact ⟨es', ep', tb', ⟨ob', k ob' eo', r'⟩, y'⟩
section
variable {X : Cx}
/-- set(xs), xs a list of tuples of whole numbers, to a thousand -/
def rSetWide (K : PySem.W.Frag) (P : Program) (w : World) : List V → Hp → VK → Prop := fun xs H Q => ∃ (l : Addr) (ks : List (Addr × List Int)), xs = [V.ref l] ∧ SqL K H l (ks.map fun e => V.ref e.1) ∧ (∀ e ∈ ks, SqT K H e.1 (e.2.map V.int)) ∧ ks.length ≤ 1000 ∧
  ∀ a L, H a = none → (∀ e ∈ L, e ∈ ks) → (∀ e ∈ ks, e.2 ∈ L.map (·.2)) → (L.map (·.2)).Nodup → L.length ≤ ks.length → Q (.ref a) (upd H a (SetWO P w a L))
theorem cr_setWide (hc : X.calm = true) (hu : X.A.units + 64 < cLine) : CallR X (.type "set") (rSetWide X.K X.prog X.w) := by
  intro pins s σ H xs us Q I r h
  obtain ⟨l, ks, rfl, hl, hk, few, q⟩ := h
  rw [Vals.ref1 r]
  obtain ⟨its, rv, pl, _⟩ := I.list hl
  refine call_set_wide (P := X.prog) (w := X.w) ks (I.ok.hd hc) pl.isList (by simpa using refs_of_vals rv) (fun e he => Inv.isT I (hk e he)) few (by omega) fun h' tk L es ep tb R g kept => ?_
  exact ⟨.ref s.heap.objs.size, _, I.laid (t' := tk) kept (Nat.le_refl _) (setWO_new R.bare), rfl, q _ L (I.hok.fresh (Nat.le_refl _)) (fun e he => List.mem_of_mem_take (g.sub e he)) (fun e he => g.all e (by rw [List.take_length]; exact he)) R.once g.len⟩
/-- sorted(a set of pairs) -/
def rSortedWide (K : PySem.W.Frag) (P : Program) (w : World) : List V → Hp → VK → Prop := fun vs H Q => ∃ (a : Addr) (L : List (Addr × List Int)), vs = [V.ref a] ∧ H a = some (SetWO P w a L) ∧ (∀ e ∈ L, SqT K H e.1 (e.2.map V.int)) ∧ (∀ e ∈ L, e.2.length = 2) ∧
  ∀ (L' : List (Addr × List Int)) (p : Addr), L'.Perm L → L'.Pairwise (fun e g => SrtO.lexB (pk2 g) (pk2 e) = false) → H p = none → Q (.ref p) (upd H p (.lst (L'.map fun e => V.ref e.1)))
theorem cr_sortedWide (hc : X.calm = true) : CallR X (.builtin "sorted") (rSortedWide X.K X.prog X.w) := by
  intro pins s σ H vs us Q I r h
  obtain ⟨a, L, rfl, ea, hk, two, q⟩ := h
  have R0 : SetW0 X.prog X.w s.heap a L := (I.hok a _ ea).1
  obtain ⟨es, ep, tb, R⟩ := R0.full fun e he => Inv.isT I (hk e he)
  have big : (100000 : Nat) ≤ sizeLine := by decide
  have few := R.few
  rw [Vals.ref1 r]
  refine sorted_wide R (I.ok.hd hc) two fun s' p out c L' kept eg eo gr hp ho pm so => ?_
  have fp : H p = none := I.hok.fresh gr
  have hlen : (L'.map fun e => V.ref e.1).length ≤ sizeLine := by rw [List.length_map, pm.length_eq]; omega
  have hv : Vals (L'.map fun e => V.ref e.1) out.toList := by rw [ho]; exact vals_of_refs L'
  have J : Inv X pins σ (upd H p (.lst (L'.map fun e => V.ref e.1))) { s with heap := s'.heap, gens := s'.gens, drawn := s'.drawn, toks := s'.toks } :=
    I.call (ch := []) (Un.laid kept gr fp) (I.hok.laid kept gr ⟨hlen, out.toList, c, hv, hp⟩) (by rw [eg]; exact I.bare) (fun _ y => nomatch y)
  have es' : s' = { s with heap := s'.heap, gens := s'.gens, drawn := s'.drawn, toks := s'.toks } := by
    cases s'
    cases s
    cases eo
    rfl
  rw [es']
  exact ⟨.ref p, _, J, rfl, q L' p pm so fp⟩
end
theorem cr_setWidew {X : Cx} {pd : Program} {wd : World} (hp : X.prog = pd) (hw : X.w = wd) (hc : X.calm = true) (hu : X.A.units + 64 < cLine) : CallR X (.type "set") (rSetWide X.K pd wd) := by
  subst hp hw
  exact cr_setWide hc hu
theorem cr_sortedWidew {X : Cx} {pd : Program} {wd : World} (hp : X.prog = pd) (hw : X.w = wd) (hc : X.calm = true) : CallR X (.builtin "sorted") (rSortedWide X.K pd wd) := by
  subst hp hw
  exact cr_sortedWide hc
end Cw

/-! list(reversed(xs)), xs[i:j:k] -/
namespace Cw
open PySem PySem.Spec PySem.Calls PyProof.Rows L2
section
variable {prog : Program} {w : World} {A : Around} {E : Value → Shared → Prop} {s : Shared} {rv l S : Addr} {items : Array Value}
abbrev BackOf (items : Array Value) (acc : Array Value) : Prop := ItemsOf (fun k y => items[items.size - 1 - k]? = some y) acc items.size
theorem rv_extend {R : Result → Shared → Prop} (hh : A.handled = none) (hit : s.heap.IsRevIter rv l ((items.size : Int) - 1)) (hl : s.heap.IsList l items) (hli : l ≠ rv) (hiS : rv ≠ S) (hlS : l ≠ S) (res : Value) (c₀ : Nat) (hS : s.heap.get? S = some { cls := .type "list", data := .seq #[] c₀ })
    (hR : ∀ h' tk acc c, (∀ b o, b ≠ S → b ≠ rv → s.heap.get? b = some o → h'.get? b = some o) → h'.get? S = some { cls := .type "list", dict := none, data := .seq acc c, slots := #[] } → BackOf items acc → R (.ok (.ret res)) { s with heap := h', toks := tk })
    (hn : items.size ≤ sizeLine) :
    wpAny (model prog w) A.in1 (Builtin.List.listExtendWith (.ref S) (.ref rv) res)
      (fun fin s' => match fin with | .done f => R (.ok f) s' | .again c' => c'.quiet = true ∧ codeAny (model prog w) A c' R s') (fun e s' => R (.error e) s') s := by
  have Wk := (Walks.listRev (prog := prog) (w := w) (A := A.in1) hh rv l hli items).toS
  have apart : S ∉ [rv, l] := by
    simp only [List.mem_cons, List.not_mem_nil, or_false, not_or]
    exact ⟨hiS.symm, hlS.symm⟩
  have tyR : s.TypeIs (.ref rv) "list_reverseiterator" := Heap.IsRevIter.typeIs hit
  have ns : Builtin.List.listSameRef (.ref S) (.ref rv) = false := by
    simp [Builtin.List.listSameRef, hiS.symm]
  unfold Builtin.List.listExtendWith
  refine wpAny_bind (wpAny_typeOf tyR ?_)
  rw [if_neg (by rw [ns]; decide)]
  refine wpAny_bind (wpAny_pyIter_revIter (s := s) hit ?_)
  refine wpAny_bind (wpAny_holding ?_)
  unfold Builtin.List.listLengthHint
  refine wpAny_bind (wpAny_specialOf tyR RT.nolen_lri ?_)
  show wpAny _ A.in1 (specialOf (Value.ref rv) (Str.ofString "__length_hint__") >>= _) _ _ _
  refine wpAny_bind (wpAny_specialOf tyR RT.hint_lri ?_)
  generalize hid : ("list_reverseiterator.__length_hint__" : String) = nm
  wp_delta
  rw [show splitId nm = some ("list_reverseiterator", "__length_hint__") from by subst hid; decide +kernel]
  subst hid
  refine wpAny_bind (wpAny_isInstance (b := true) tyR (by rw [isSubtype_type]; kernel_rfl) ?_)
  refine wpAny_pure ?_
  rw [if_neg (by decide)]
  have z0 : ((items.size : Nat) : Int) - 1 - ((0 : Nat) : Int) = (items.size : Int) - 1 := by omega
  refine wpAny_pure ⟨plainId_quiet PySem.F.plain_extend_loop _, codeAny_extend_loopS Wk hn _ apart _ items.size 0 _ _ _ rfl (Nat.zero_le _) ⟨Nat.zero_le _, by rw [z0]; exact hit, hl⟩ hS (ItemsOf.nil _) fun s' acc' c' mv eS got => ?_⟩
  rw [Moved.eq_with mv]
  refine hR s'.heap s'.toks acc' c' (fun b o h1 h2 q => mv.heap b o (fun m => ?_) q) eS got
  rcases List.mem_cons.mp m with m | m
  · exact h1 m
  · exact h2 (List.mem_singleton.mp m)
theorem rv_call {Q : Value → Shared → Prop} (hh : A.handled = none) (hit : s.heap.IsRevIter rv l ((items.size : Int) - 1)) (hl : s.heap.IsList l items) (hli : l ≠ rv) (hn : items.size ≤ sizeLine)
    (hQ : ∀ h' tk acc c, (∀ b o, b ≠ rv → s.heap.get? b = some o → h'.get? b = some o) → h'.get? s.heap.objs.size = some { cls := .type "list", dict := none, data := .seq acc c, slots := #[] } → BackOf items acc → Q (.ref s.heap.objs.size) { s with heap := h', toks := tk }) :
    wpAny (model prog w) A (call (.type "list") [.ref rv]) Q E s := by
  refine callType_codes (Q₁ := fun obj s₁ => obj = .ref s.heap.objs.size ∧ s₁ = { s with heap := s.heap.push { cls := .type "list", data := .seq #[] } }) PySem.F.called_list (PySem.F.typeCall_list_1 _) PySem.F.entry_list_init (code_list_new _ ⟨rfl, rfl⟩) fun obj s₁ h₁ => ?_
  obtain ⟨rfl, rfl⟩ := h₁
  have hS : (s.heap.push { cls := .type "list", data := .seq #[] }).get? s.heap.objs.size = some { cls := .type "list", data := .seq #[] } := Heap.get?_push_size _ rfl
  have k1 : ∀ b o, s.heap.get? b = some o → (s.heap.push { cls := .type "list", data := .seq #[] }).get? b = some o := fun b o q => Heap.get?_push_of_some _ q
  have hiS : rv < s.heap.objs.size := by obtain ⟨_, q, _⟩ := hit; exact Heap.lt_size q
  have hlS : l < s.heap.objs.size := by obtain ⟨_, q, _⟩ := hl; exact Heap.lt_size q
  refine ⟨⟨_, hS, rfl⟩, PySem.F.args_list_init_2 _ _, ?_⟩
  show wpAny _ _ (do let old ← Builtin.List.listItems (.ref s.heap.objs.size); Builtin.List.listUpdate (.ref s.heap.objs.size) (fun _ => #[]); letGo old.toList.reverse; Builtin.List.listExtendWith (.ref s.heap.objs.size) (.ref rv) .none) _ _ _
  refine wpAny_bind ?_; unfold Builtin.List.listItems; refine wpAny_bind (wpAny_seqItems hS rfl (wpAny_pure ?_))
  show wpAny _ _ (updateSeq s.heap.objs.size (fun _ => #[]) >>= fun _ => letGo (#[] : Array Value).toList.reverse >>= fun _ => Builtin.List.listExtendWith (.ref s.heap.objs.size) (.ref rv) .none) _ _ _
  refine wpAny_bind (wpAny_updateSeq hS rfl (wpAny_bind (wpAny_letGo ?_)))
  have hS₂ := Heap.get?_update_self (Obj.mapSeq (fun _ => (#[] : Array Value))) hS rfl
  have k2 : ∀ b o, b ≠ s.heap.objs.size → s.heap.get? b = some o → ((s.heap.push { cls := .type "list", data := .seq #[] }).update s.heap.objs.size (Obj.mapSeq (fun _ => (#[] : Array Value)))).get? b = some o := fun b o hb q => (Heap.get?_update_other _ _ (Ne.symm hb)).trans (k1 b o q)
  refine rv_extend (A := A.in1) (s := { s with heap := (s.heap.push { cls := .type "list", data := .seq #[] }).update s.heap.objs.size (Obj.mapSeq (fun _ => (#[] : Array Value))) }) hh (hit.at fun o q => k2 rv o (Nat.ne_of_lt hiS) q) (hl.at fun o q => k2 l o (Nat.ne_of_lt hlS) q) hli (Nat.ne_of_lt hiS) (Nat.ne_of_lt hlS) .none _ hS₂ (fun h' tk acc c hk hS' got => ?_) hn
  exact ⟨rfl, hQ h' tk acc c (fun b o h1 q => hk b o (Nat.ne_of_lt (Heap.lt_size q)) h1 (k2 b o (Nat.ne_of_lt (Heap.lt_size q)) q)) hS' got⟩
end
/-- list(reversed(x)), x a list: a new list -/
def tLstRev (K : PySem.W.Frag) (te : TE) : TE := fun σ H Q => te σ H fun v H1 => ∃ (a : Addr) (xs : List V), v = .ref a ∧ SqL K H1 a xs ∧ ∀ q, H1 q = none → Q (.ref q) (upd H1 q (.lst xs.reverse))
section
variable {X : Cx}
theorem pe_lstRev {e : Expr} {te : TE} {p p2 pos pos2 : Pos} (hc : X.calm = true) (hg : Gl X "list") (hm : X.mg "list" = none) (hg2 : Gl X "reversed") (hm2 : X.mg "reversed" = none) (he : PE X e te)
    (hs : starEach [e] X.env = (false, eval e X.env) :: starEach [] X.env := by rfl)
    (hs2 : starEach [.Call (.Name "reversed" p2) [e] [] pos2] X.env = (false, eval (.Call (.Name "reversed" p2) [e] [] pos2) X.env) :: starEach [] X.env := by rfl) :
    PE X (.Call (.Name "list" p) [.Call (.Name "reversed" p2) [e] [] pos2] [] pos) (tLstRev X.K te) := by
  refine ⟨fun pins s σ H Q I h => ?_⟩
  refine Call_ (ld_blt I hg hm boot_list (PyProof.Rows.callWith_type1 (args_cons (Call_ (ld_blt I hg2 hm2 PyProof.Rows.boot_reversed (PyProof.Rows.callWith_type1 (args_cons (thn (he.run pins s σ H _ I h) fun u s1 ⟨v, H1, I1, r1, q1⟩ => args_nil ?_) hs) hs rfl))) hs2) hs2 rfl))
  obtain ⟨a, xs, rfl, hx, q⟩ := q1
  cases r1
  obtain ⟨its, rel, pl, hz⟩ := I1.list hx
  refine call_reversed_list pl.isList (args_nil ?_)
  have up : ∀ b o, s1.heap.get? b = some o → (s1.heap.push (revObj a ((its.toArray.size : Int) - 1))).get? b = some o := fun b o z => Heap.get?_push_of_some _ z
  have I2 : Inv X pins σ H1 { s1 with heap := s1.heap.push (revObj a ((its.toArray.size : Int) - 1)) } := I1.kept (t' := s1.toks) up
  obtain ⟨f0, f1, f2, f3, f4, f5⟩ := I1.fpOk (H' := H1) (b := s1.heap.objs.size) (Nat.le_refl _) (I1.hok.fresh (Nat.le_refl _))
  have lst := pl.isList
  obtain ⟨ol, eol, _⟩ := id lst
  have apart : a ≠ s1.heap.objs.size := Nat.ne_of_lt (Heap.lt_size eol)
  have few : its.toArray.size ≤ sizeLine := by rw [List.size_toArray, ← rel.length]; exact hz
  refine rv_call (s := { s1 with heap := s1.heap.push (revObj a ((its.toArray.size : Int) - 1)) }) (I1.ok.hd hc) ⟨_, Heap.get?_push_size _ rfl, rfl, rfl⟩ (lst.push _) apart few fun h' tk acc c hk eS got => ?_
  have sz1 : (s1.heap.push (revObj a ((its.toArray.size : Int) - 1))).objs.size = s1.heap.objs.size + 1 := Heap.size_push ..
  -- the new list is no older than the iterator
  have I3 : Inv X pins σ (upd H1 (s1.heap.push (revObj a ((its.toArray.size : Int) - 1))).objs.size (.lst xs.reverse)) { s1 with heap := h', toks := tk } := by
    have k3 : ∀ b u, s1.heap.get? b = some u → h'.get? b = some u := fun b u z => hk b u (Nat.ne_of_lt (Heap.lt_size z)) (up b u z)
    refine I1.laid (t' := tk) k3 (by rw [sz1]; exact Nat.le_succ _) ⟨by rw [List.length_reverse]; exact hz, acc.toList, c, RT.vals_rev rel got, ?_⟩
    rw [Array.toArray_toList]
    exact eS
  exact ⟨.ref _, _, I3, rfl, q _ (I1.hok.fresh (by rw [sz1]; exact Nat.le_succ _))⟩
/-! ### a part of a list by steps: some of its items -/
def tSlStep (K : PySem.W.Frag) (te : TE) (tl tu ts : TO) : TE := fun σ H Q => te σ H fun x H1 => tl σ H1 fun _ H2 => tu σ H2 fun _ H3 => ts σ H3 fun st H4 => ∃ a xs, x = .ref a ∧ SqL K H4 a xs ∧ st ≠ some 0 ∧
  ∀ p ys, (∀ y ∈ ys, y ∈ xs) → ys.length ≤ xs.length → H4 p = none → Q (.ref p) (upd H4 p (.lst ys))
theorem picks_rel {xs : List V} {us : List Value} (r : Vals xs us) : ∀ ks : List Nat, Vals (ks.filterMap (xs[·]?)) (ks.filterMap (us.toArray[·]?))
  | [] => .nil
  | k :: ks => by
    rw [List.filterMap_cons, List.filterMap_cons]
    cases c : xs[k]? with
    | none =>
      have d : us.toArray[k]? = none := by simpa using r.none_of c
      rw [d]
      exact picks_rel r ks
    | some x =>
      obtain ⟨u, e1, e2⟩ := r.get c
      have d : us.toArray[k]? = some u := by simpa using e1
      rw [d]
      exact .cons e2 (picks_rel r ks)
theorem pe_slStep {e lo hi st : Expr} {te : TE} {tl tu ts : TO} {p3 pos : Pos} (he : PE X e te) (hl : PO X (some lo) tl) (hu : PO X (some hi) tu) (hs : PO X (some st) ts) : PE X (.Subscript e (.Slice (some lo) (some hi) (some st) p3) pos) (tSlStep X.K te tl tu ts) := by
  refine ⟨fun pins s σ H Q I h => ?_⟩
  refine Subscript_ (thn (he.run pins s σ H _ I h) fun v s1 ⟨x, H1, I1, r1, q1⟩ => ?_)
  refine wpAny_Slice (thn (hl.run pins s1 σ H1 _ I1 q1) fun vl s2 ⟨l, H2, I2, pl, q2⟩ => thn (hu.run pins s2 σ H2 _ I2 q2) fun vu s3 ⟨u, H3, I3, pu, q3⟩ => thn (hs.run pins s3 σ H3 _ I3 q3) fun vs s4 ⟨o, H4, I4, ps, q4⟩ => ?_)
  obtain ⟨a, xs, rfl, hx, n0, q⟩ := q4
  cases r1
  have I5 : Inv X pins σ H4 { s4 with heap := s4.heap.push { cls := .type "slice", data := .fields #[vl, vu, vs] } } := I4.kept (t' := s4.toks) fun b ob z => Heap.get?_push_of_some _ z
  obtain ⟨its, rel, lst, hz⟩ := I5.list hx
  show wpAny (model X.prog X.w) X.A (subscriptTail e (.Slice (some lo) (some hi) (some st) p3) (.ref a) (.ref s4.heap.objs.size)) (EP X pins σ Q) X.xe { s4 with heap := s4.heap.push { cls := .type "slice", data := .fields #[vl, vu, vs] } }
  refine tail_any (ops := [.ref a, .ref s4.heap.objs.size]) lst.isList.typeIs (PySem.slot_list_getitem.lookup) ?_ (by with_unfolding_all rfl)
  refine wpAny_getItem_list_slice lst.isList (Heap.IsSliceOf.new _ vl vu vs) pl pu ps n0 ?_ (by rw [List.size_toArray, ← rel.length]; exact hz)
  have len := slicePick_size_le its.toArray l u o
  have rp := picks_rel rel (sliceRange (sliceBounds l u o its.toArray.size).1 (sliceBounds l u o its.toArray.size).2.1 (sliceBounds l u o its.toArray.size).2.2)
  generalize hk : (sliceRange (sliceBounds l u o its.toArray.size).1 (sliceBounds l u o its.toArray.size).2.1 (sliceBounds l u o its.toArray.size).2.2) = ks at rp
  have es : slicePick its.toArray l u o = (ks.filterMap (its.toArray[·]?)).toArray := by
    unfold slicePick
    rw [hk]
  have ly : (ks.filterMap (xs[·]?)).length ≤ xs.length := by
    have e1 := rp.length
    have e2 : (slicePick its.toArray l u o).size = (ks.filterMap (its.toArray[·]?)).length := by rw [es, List.size_toArray]
    have e3 := rel.length
    have e4 : its.toArray.size = its.length := by rw [List.size_toArray]
    omega
  refine ⟨.ref _, _, I5.laid (t' := s4.toks) (o := .lst (ks.filterMap (xs[·]?))) (fun b ob z => Heap.get?_push_of_some _ z) (Nat.le_refl _) ?_, rfl, q _ _ (fun y hy => ?_) ly (I5.hok.fresh (Nat.le_refl _))⟩
  · exact ⟨Nat.le_trans ly hz, _, 0, rp, by rw [es]; exact Heap.get?_push_size _ rfl⟩
  · obtain ⟨k, _, ek⟩ := List.mem_filterMap.mp hy
    exact List.mem_of_getElem? ek
end
end Cw

/-! pairs that fit: told, turned about, by other names, by other letters -/
namespace Cw
open PySem PySem.Spec PyProof.Rows L2
theorem tieL_mem {w : Web} (W : WOk w) {a b c : Nat} : tieL w.2 a b = some c ↔ (min a b, max a b, c) ∈ w.2 := by
  constructor
  · intro h
    unfold tieL at h
    obtain ⟨t, ht, rfl⟩ := Option.map_eq_some_iff.mp h
    have hm := List.mem_of_find?_eq_some ht
    have hp := at2_iff.mp (List.find?_some ht)
    have r := (W.ends t hm).1
    have e : (min a b, max a b, t.2.2) = t := by
      obtain ⟨t1, t2, t3⟩ := t
      simp only [Prod.mk.injEq, and_true]
      dsimp only at hp r
      omega
    rw [e]; exact hm
  · intro h
    have r := (W.ends _ h).1
    have q : at2 a b (min a b, max a b, c) = true := at2_iff.mpr (by dsimp only; omega)
    cases e : tieL w.2 a b with
    | none =>
      have z := (tieL_isSome (ts := w.2) (a := a) (b := b)).mpr ⟨_, h, q⟩
      rw [e] at z; cases z
    | some d =>
      unfold tieL at e
      obtain ⟨t, ht, rfl⟩ := Option.map_eq_some_iff.mp e
      have hm := List.mem_of_find?_eq_some ht
      have hp := at2_iff.mp (List.find?_some ht)
      have r2 := (W.ends t hm).1
      obtain ⟨i, hi, ei⟩ := List.getElem_of_mem hm
      obtain ⟨j, hj, ej⟩ := List.getElem_of_mem h
      have s := List.pairwise_iff_getElem.mp W.rise
      rcases Nat.lt_trichotomy i j with c1 | c1 | c1
      · have lt := s i j hi hj c1
        rw [ei, ej] at lt
        rcases lt with lt | lt <;> dsimp only at lt <;> omega
      · subst c1
        rw [ei] at ej
        rw [ej]
      · have lt := s j i hj hi c1
        rw [ei, ej] at lt
        rcases lt with lt | lt <;> dsimp only at lt <;> omega
theorem tieL_named {w w' : Web} {qs : List Nat} (W : WOk w) (W' : WOk w') (o : Ord qs w.1.length) (N : Named w qs w') {a b : Nat} (ha : a < w.1.length) (hb : b < w.1.length) : tieL w'.2 (qa qs a) (qa qs b) = tieL w.2 a b := by
  refine Option.ext fun c => ?_
  rw [tieL_mem W', tieL_mem W, N.ties.mem_iff, List.mem_map]
  constructor
  · rintro ⟨t, ht, e⟩
    have r := W.ends t ht
    unfold mapTie at e
    simp only [Prod.mk.injEq] at e
    obtain ⟨e1, e2, e3⟩ := e
    have key : (t.1 = a ∧ t.2.1 = b) ∨ (t.1 = b ∧ t.2.1 = a) := by
      by_cases c1 : qa qs t.1 = qa qs a
      · have z1 := o.inj (by omega) ha c1
        have z2 := o.inj (p := t.2.1) (r := b) (by omega) hb (by omega)
        exact .inl ⟨z1, z2⟩
      · have z1 := o.inj (p := t.1) (r := b) (by omega) hb (by omega)
        have z2 := o.inj (p := t.2.1) (r := a) (by omega) ha (by omega)
        exact .inr ⟨z1, z2⟩
    have e : (min a b, max a b, c) = t := by
      obtain ⟨t1, t2, t3⟩ := t
      simp only [Prod.mk.injEq]
      dsimp only at key r e3
      omega
    rw [e]; exact ht
  · intro h
    have r := W.ends _ h
    refine ⟨_, h, ?_⟩
    unfold mapTie
    simp only [Prod.mk.injEq, and_true]
    dsimp only at r
    rcases Nat.le_total a b with c1 | c1
    · rw [Nat.min_eq_left c1, Nat.max_eq_right c1]; exact ⟨rfl, rfl⟩
    · rw [Nat.min_eq_right c1, Nat.max_eq_left c1]
      omega
/-- two pairs fit -/
def fitB (w w' : Web) (x y : Nat × Nat) : Bool := if x.1 = y.1 ∨ x.2 = y.2 then false else decide (optV (tieL w.2 x.1 y.1) = optV (tieL w'.2 x.2 y.2))
theorem fitB_congr {w w' u u' : Web} {x y z t : Nat × Nat} (h : (x.1 = y.1 ∨ x.2 = y.2) ↔ (z.1 = t.1 ∨ z.2 = t.2)) (e : optV (tieL w.2 x.1 y.1) = optV (tieL w'.2 x.2 y.2) ↔ optV (tieL u.2 z.1 t.1) = optV (tieL u'.2 z.2 t.2)) : fitB w w' x y = fitB u u' z t := by
  unfold fitB
  by_cases c : x.1 = y.1 ∨ x.2 = y.2
  · rw [if_pos c, if_pos (h.mp c)]
  · rw [if_neg c, if_neg fun q => c (h.mpr q)]
    exact decide_eq_decide.mpr e
theorem fitB_turn (w w' : Web) (x y : Nat × Nat) : fitB w' w (x.2, x.1) (y.2, y.1) = fitB w w' x y := fitB_congr Or.comm eq_comm
theorem fitB_named {w w' u u' : Web} {qs rs : List Nat} (W : WOk w) (U : WOk u) (o : Ord qs w.1.length) (N : Named w qs u) (W' : WOk w') (U' : WOk u') (o' : Ord rs w'.1.length) (N' : Named w' rs u') {x y : Nat × Nat}
    (hx : x.1 < w.1.length ∧ x.2 < w'.1.length) (hy : y.1 < w.1.length ∧ y.2 < w'.1.length) : fitB u u' (qa qs x.1, qa rs x.2) (qa qs y.1, qa rs y.2) = fitB w w' x y := by
  refine fitB_congr ⟨fun h => h.imp (o.inj hx.1 hy.1) (o'.inj hx.2 hy.2), fun h => h.imp (fun e => by show qa qs _ = qa qs _; rw [e]) (fun e => by show qa rs _ = qa rs _; rw [e])⟩ ?_
  show optV (tieL u.2 (qa qs x.1) (qa qs y.1)) = optV (tieL u'.2 (qa rs x.2) (qa rs y.2)) ↔ _
  rw [tieL_named W U o N hx.1 hy.1, tieL_named W' U' o' N' hx.2 hy.2]
theorem fitB_self {w : Web} {a b : Nat} (h : a ≠ b) : fitB w w (a, a) (b, b) = true := by
  unfold fitB
  rw [if_neg (by intro z; rcases z with z | z <;> exact h z)]
  exact decide_eq_true rfl
/-! ### other letters -/
def shl (k c : Nat) : Nat := 97 + (c - 97 + k) % 26
theorem shl_ltr (k c : Nat) : Ltr (shl k c) := by unfold shl Ltr; omega
theorem shl_inj {k c d : Nat} (hc : Ltr c) (hd : Ltr d) (h : shl k c = shl k d) : c = d := by
  unfold shl at h
  unfold Ltr at hc hd
  omega
def lettered (w : Web) (by_ : Nat) : Web := (w.1.map (shl by_), w.2.map fun t => (t.1, t.2.1, shl (3 * by_) t.2.2))
theorem lettered_ok {w : Web} (W : WOk w) (k : Nat) : WOk (lettered w k) := by
  refine ⟨by show (w.1.map _).length ≤ 40; rw [List.length_map]; exact W.few, by show (w.2.map _).length ≤ 1600; rw [List.length_map]; exact W.most, fun c hc => ?_, ?_, fun t ht => ?_⟩
  · obtain ⟨d, _, rfl⟩ := List.mem_map.mp hc
    exact shl_ltr k d
  · show (w.2.map _).Pairwise tlt
    rw [List.pairwise_map]
    exact W.rise
  · obtain ⟨u, hu, rfl⟩ := List.mem_map.mp ht
    have r := W.ends u hu
    exact ⟨r.1, by show u.2.1 < (w.1.map _).length; rw [List.length_map]; exact r.2.1, shl_ltr _ _⟩
theorem tieL_lettered (w : Web) (k a b : Nat) : tieL (lettered w k).2 a b = (tieL w.2 a b).map (shl (3 * k)) := by
  unfold tieL lettered
  dsimp only
  rw [List.find?_map, Option.map_map, Option.map_map]
  rfl
theorem tieL_ltr {w : Web} (W : WOk w) {a b c : Nat} (h : tieL w.2 a b = some c) : Ltr c := (W.ends _ ((tieL_mem W).mp h)).2.2
theorem fitB_lettered {w w' : Web} (W : WOk w) (W' : WOk w') (k : Nat) (x y : Nat × Nat) : fitB (lettered w k) (lettered w' k) x y = fitB w w' x y := by
  refine fitB_congr Iff.rfl ?_
  rw [tieL_lettered, tieL_lettered]
  cases e1 : tieL w.2 x.1 y.1 with
  | none =>
    cases e2 : tieL w'.2 x.2 y.2 with
    | none => exact Iff.rfl
    | some d => exact ⟨fun z => (by cases z), fun z => (by cases z)⟩
  | some c =>
    cases e2 : tieL w'.2 x.2 y.2 with
    | none => exact ⟨fun z => (by cases z), fun z => (by cases z)⟩
    | some d =>
      show V.str (sg (shl (3 * k) c)) = V.str (sg (shl (3 * k) d)) ↔ V.str (sg c) = V.str (sg d)
      constructor
      · intro z
        rw [shl_inj (tieL_ltr W e1) (tieL_ltr W' e2) (sg_inj.mp (V.str.inj z))]
      · intro z
        rw [sg_inj.mp (V.str.inj z)]
/-! ### all pairs of like kinds -/
def rowL (w w' : Web) (p m : Nat) : Lead := ((List.range m).filter fun e => decide (w.1[p]? = w'.1[e]?)).map fun e => (p, e)
def preL (w w' : Web) (n : Nat) : Lead := (List.range n).flatMap fun p => rowL w w' p w'.1.length
def pairsL (w w' : Web) : Lead := preL w w' w.1.length
def plt (x y : Nat × Nat) : Prop := x.1 < y.1 ∨ (x.1 = y.1 ∧ x.2 < y.2)
theorem rowL_succ (w w' : Web) (p m : Nat) : rowL w w' p (m + 1) = rowL w w' p m ++ if w.1[p]? = w'.1[m]? then [(p, m)] else [] := by
  unfold rowL
  rw [List.range_succ, List.filter_append, List.map_append]
  congr 1
  by_cases c : w.1[p]? = w'.1[m]?
  · rw [if_pos c]; simp [c]
  · rw [if_neg c]; simp [c]
theorem preL_succ (w w' : Web) (n : Nat) : preL w w' (n + 1) = preL w w' n ++ rowL w w' n w'.1.length := by
  unfold preL
  rw [List.range_succ, List.flatMap_append]
  simp
theorem mem_rowL {w w' : Web} {p m : Nat} {x : Nat × Nat} : x ∈ rowL w w' p m ↔ x.1 = p ∧ x.2 < m ∧ w.1[p]? = w'.1[x.2]? := by
  unfold rowL
  rw [List.mem_map]
  constructor
  · rintro ⟨e, he, rfl⟩
    obtain ⟨h1, h2⟩ := List.mem_filter.mp he
    exact ⟨rfl, List.mem_range.mp h1, of_decide_eq_true h2⟩
  · rintro ⟨h1, h2, h3⟩
    exact ⟨x.2, List.mem_filter.mpr ⟨List.mem_range.mpr h2, decide_eq_true h3⟩, by rw [← h1]⟩
theorem mem_preL {w w' : Web} {n : Nat} {x : Nat × Nat} : x ∈ preL w w' n ↔ x.1 < n ∧ x.2 < w'.1.length ∧ w.1[x.1]? = w'.1[x.2]? := by
  unfold preL
  rw [List.mem_flatMap]
  constructor
  · rintro ⟨p, hp, hx⟩
    obtain ⟨h1, h2, h3⟩ := mem_rowL.mp hx
    rw [h1]
    exact ⟨List.mem_range.mp hp, h2, h3⟩
  · rintro ⟨h1, h2, h3⟩
    exact ⟨x.1, List.mem_range.mpr h1, mem_rowL.mpr ⟨rfl, h2, h3⟩⟩
theorem mem_pairsL {w w' : Web} {x : Nat × Nat} : x ∈ pairsL w w' ↔ x.1 < w.1.length ∧ x.2 < w'.1.length ∧ w.1[x.1]? = w'.1[x.2]? := mem_preL
theorem rowL_rise (w w' : Web) (p m : Nat) : (rowL w w' p m).Pairwise plt := by
  unfold rowL
  rw [List.pairwise_map]
  exact (List.Pairwise.filter _ List.pairwise_lt_range).imp fun h => .inr ⟨rfl, h⟩
theorem preL_rise (w w' : Web) : ∀ n, (preL w w' n).Pairwise plt
  | 0 => .nil
  | n + 1 => by
    rw [preL_succ]
    refine List.pairwise_append.mpr ⟨preL_rise w w' n, rowL_rise w w' n _, fun x hx y hy => .inl ?_⟩
    have h1 := (mem_preL.mp hx).1
    have h2 := (mem_rowL.mp hy).1
    omega
theorem rowL_len (w w' : Web) (p m : Nat) : (rowL w w' p m).length ≤ m := by
  unfold rowL
  rw [List.length_map]
  exact Nat.le_trans (List.length_filter_le _ _) (by rw [List.length_range]; exact Nat.le_refl _)
theorem preL_len {w w' : Web} (W' : WOk w') : ∀ n, (preL w w' n).length ≤ 40 * n
  | 0 => by simp [preL]
  | n + 1 => by
    rw [preL_succ, List.length_append]
    have h1 := preL_len W' n (w := w)
    have h2 := rowL_len w w' n w'.1.length
    have h3 := W'.few
    omega
theorem plt_ext : ∀ {l m : Lead}, l.Pairwise plt → m.Pairwise plt → (∀ x, x ∈ l ↔ x ∈ m) → l = m
  | [], [], _, _, _ => rfl
  | [], y :: m, _, _, h => absurd ((h y).mpr List.mem_cons_self) (by simp)
  | x :: l, [], _, _, h => absurd ((h x).mp List.mem_cons_self) (by simp)
  | x :: l, y :: m, hl, hm, h => by
    obtain ⟨l1, l2⟩ := List.pairwise_cons.mp hl
    obtain ⟨m1, m2⟩ := List.pairwise_cons.mp hm
    have asym : ∀ {a b : Nat × Nat}, plt a b → plt b a → False := fun {a b} p q => by unfold plt at p q; omega
    have hx : x = y := by
      rcases List.mem_cons.mp ((h x).mp List.mem_cons_self) with z | z
      · exact z
      · rcases List.mem_cons.mp ((h y).mpr List.mem_cons_self) with z' | z'
        · exact z'.symm
        · exact (asym (m1 x z) (l1 y z')).elim
    subst hx
    congr 1
    have irr : ∀ {a : Nat × Nat}, plt a a → False := fun {a} p => asym p p
    refine plt_ext l2 m2 fun z => ⟨fun hz => ?_, fun hz => ?_⟩
    · rcases List.mem_cons.mp ((h z).mp (List.mem_cons_of_mem _ hz)) with q | q
      · subst q; exact (irr (l1 _ hz)).elim
      · exact q
    · rcases List.mem_cons.mp ((h z).mpr (List.mem_cons_of_mem _ hz)) with q | q
      · subst q; exact (irr (m1 _ hz)).elim
      · exact q
/-- pairs turned about are those of the webs the other way about -/
theorem turned_mem {w w' : Web} (x : Nat × Nat) : x ∈ (pairsL w w').map (fun p => (p.2, p.1)) ↔ x ∈ pairsL w' w := by
  rw [List.mem_map, mem_pairsL]
  constructor
  · rintro ⟨p, hp, rfl⟩
    obtain ⟨h1, h2, h3⟩ := mem_pairsL.mp hp
    exact ⟨h2, h1, h3.symm⟩
  · rintro ⟨h1, h2, h3⟩
    exact ⟨(x.2, x.1), mem_pairsL.mpr ⟨h2, h1, h3.symm⟩, rfl⟩
theorem named_mem {w w' u u' : Web} {qs rs : List Nat} (o : Ord qs w.1.length) (N : Named w qs u) (o' : Ord rs w'.1.length) (N' : Named w' rs u') (x : Nat × Nat) : x ∈ (pairsL w w').map (fun p => (qa qs p.1, qa rs p.2)) ↔ x ∈ pairsL u u' := by
  rw [List.mem_map, mem_pairsL, N.len, N'.len]
  constructor
  · rintro ⟨p, hp, rfl⟩
    obtain ⟨h1, h2, h3⟩ := mem_pairsL.mp hp
    refine ⟨o.lt' h1, o'.lt' h2, ?_⟩
    show u.1[qa qs p.1]? = u'.1[qa rs p.2]?
    rw [N.kinds _ h1, N'.kinds _ h2, h3]
  · rintro ⟨h1, h2, h3⟩
    obtain ⟨a, ha, ea⟩ := o.onto h1
    obtain ⟨b, hb, eb⟩ := o'.onto h2
    refine ⟨(a, b), mem_pairsL.mpr ⟨ha, hb, ?_⟩, by show (qa qs a, qa rs b) = x; rw [ea, eb]⟩
    rw [← ea, ← eb, N.kinds _ ha, N'.kinds _ hb] at h3
    exact h3
theorem map_nodup {f : Nat × Nat → Nat × Nat} {l : Lead} (h : l.Pairwise plt) (hf : ∀ x ∈ l, ∀ y ∈ l, f x = f y → x = y) : (l.map f).Nodup := by
  show List.Pairwise _ _
  rw [List.pairwise_map]
  refine List.Pairwise.imp_of_mem (fun {x y} hx hy lt e => ?_) h
  have := hf x hx y hy e
  subst this
  unfold plt at lt
  omega
theorem pairsL_rise (w w' : Web) : (pairsL w w').Pairwise plt := preL_rise w w' _
/-- an arrangement in order of pairs none twice rises -/
theorem arranged {l m : Lead} (p : l.Perm m) (nd : m.Nodup) (s : l.Pairwise fun x y => ¬ plt y x) : l.Pairwise plt := by
  have nl : l.Nodup := p.nodup_iff.mpr nd
  refine (List.Pairwise.and s nl).imp fun {x y} ⟨h1, h2⟩ => ?_
  obtain ⟨a, b⟩ := x
  obtain ⟨c, d⟩ := y
  unfold plt at h1 ⊢
  simp only [ne_eq, Prod.mk.injEq] at h2
  dsimp only at h1 ⊢
  omega
end Cw

/-! cuts: their ties, their neighbours, cuts of cuts -/
namespace Cw
open PySem PySem.Spec PyProof.Rows L2
theorem posOf_iff {os : List Nat} (nd : os.Nodup) {p i : Nat} : posOf os p = some i ↔ os[i]? = some p := by
  unfold posOf
  rw [List.findIdx?_eq_some_iff_getElem]
  constructor
  · rintro ⟨h, e, _⟩
    rw [List.getElem?_eq_getElem h, beq_iff_eq.mp e]
  · intro h
    obtain ⟨h1, h2⟩ := List.getElem?_eq_some_iff.mp h
    refine ⟨h1, beq_iff_eq.mpr h2, fun j hj => ?_⟩
    have : os[j] ≠ p := fun z => by
      have z2 : os[j] = os[i] := z.trans h2.symm
      have := (List.getElem_inj nd).mp z2
      omega
    simpa using this
theorem posOf_none {os : List Nat} {p : Nat} : posOf os p = none ↔ p ∉ os := by
  unfold posOf
  rw [List.findIdx?_eq_none_iff]
  constructor
  · intro h z
    have := h p z
    simp at this
  · intro h x hx
    simp only [beq_eq_false_iff_ne]
    exact fun z => h (z ▸ hx)
theorem rise_nodup {os : List Nat} (s : os.Pairwise (· < ·)) : os.Nodup := s.imp fun h => Nat.ne_of_lt h
theorem cutTie_some {os : List Nat} (nd : os.Nodup) {t s : Tie} : cutTie os t = some s ↔ os[s.1]? = some t.1 ∧ os[s.2.1]? = some t.2.1 ∧ s.2.2 = t.2.2 := by
  unfold cutTie
  rw [Option.bind_eq_some_iff]
  constructor
  · rintro ⟨a, h1, h2⟩
    obtain ⟨b, h3, h4⟩ := Option.map_eq_some_iff.mp h2
    subst h4
    exact ⟨(posOf_iff nd).mp h1, (posOf_iff nd).mp h3, rfl⟩
  · rintro ⟨h1, h2, h3⟩
    refine ⟨s.1, (posOf_iff nd).mpr h1, ?_⟩
    rw [(posOf_iff nd).mpr h2]
    show some (s.1, s.2.1, t.2.2) = some s
    rw [← h3]
theorem cutTie_at {os : List Nat} (nd : os.Nodup) {i j p q : Nat} (hi : os[i]? = some p) (hj : os[j]? = some q) (t : Tie) : ((cutTie os t).any (at2 i j)) = at2 p q t := by
  rw [Bool.eq_iff_iff, at2_iff]
  constructor
  · intro h
    obtain ⟨s, h1, h2⟩ := (Option.any_eq_true _ _).mp h
    obtain ⟨a, b, _⟩ := (cutTie_some nd).mp h1
    rcases at2_iff.mp h2 with ⟨e1, e2⟩ | ⟨e1, e2⟩
    · rw [e1, hi] at a; rw [e2, hj] at b
      exact .inl ⟨(Option.some.inj a).symm, (Option.some.inj b).symm⟩
    · rw [e1, hj] at a; rw [e2, hi] at b
      exact .inr ⟨(Option.some.inj a).symm, (Option.some.inj b).symm⟩
  · rintro (⟨e1, e2⟩ | ⟨e1, e2⟩)
    · exact (Option.any_eq_true _ _).mpr ⟨(i, j, t.2.2), (cutTie_some nd).mpr ⟨by rw [e1]; exact hi, by rw [e2]; exact hj, rfl⟩, at2_iff.mpr (.inl ⟨rfl, rfl⟩)⟩
    · exact (Option.any_eq_true _ _).mpr ⟨(j, i, t.2.2), (cutTie_some nd).mpr ⟨by rw [e1]; exact hj, by rw [e2]; exact hi, rfl⟩, at2_iff.mpr (.inr ⟨rfl, rfl⟩)⟩
theorem tieL_cut {u : Web} {os : List Nat} (nd : os.Nodup) {i j p q : Nat} (hi : os[i]? = some p) (hj : os[j]? = some q) : tieL (cutL u os).2 i j = tieL u.2 p q := by
  unfold tieL cutL
  dsimp only
  rw [List.find?_filterMap]
  have e : (fun a => (cutTie os a).any (at2 i j)) = at2 p q := funext fun t => cutTie_at nd hi hj t
  rw [e]
  cases h : u.2.find? (at2 p q) with
  | none => rfl
  | some t =>
    have h1 : at2 p q t = true := List.find?_some h
    rw [← cutTie_at nd hi hj] at h1
    obtain ⟨s, h2, _⟩ := (Option.any_eq_true _ _).mp h1
    show (cutTie os t).map (·.2.2) = some t.2.2
    rw [h2]
    exact congrArg some ((cutTie_some nd).mp h2).2.2
theorem at_rise {os : List Nat} (s : os.Pairwise (· < ·)) {i j p q : Nat} (hi : os[i]? = some p) (hj : os[j]? = some q) : i < j ↔ p < q := by
  obtain ⟨h1, rfl⟩ := List.getElem?_eq_some_iff.mp hi
  obtain ⟨h2, rfl⟩ := List.getElem?_eq_some_iff.mp hj
  have s' := List.pairwise_iff_getElem.mp s
  constructor
  · intro h
    exact s' i j h1 h2 h
  · intro h
    rcases Nat.lt_trichotomy i j with c | c | c
    · exact c
    · subst c; omega
    · have := s' j i h2 h1 c; omega
theorem cutL_ok {u : Web} (U : WOk u) {os : List Nat} (s : os.Pairwise (· < ·)) (b : ∀ p ∈ os, p < u.1.length) : WOk (cutL u os) := by
  have nd := rise_nodup s
  have lo : os.length ≤ u.1.length := nodup_len _ _ nd b
  have l40 := U.few
  refine ⟨by unfold cutL; rw [List.length_map]; omega, ?_, fun c hc => ?_, ?_, fun t ht => ?_⟩
  · have := List.length_filterMap_le (cutTie os) u.2
    have := U.most
    unfold cutL
    dsimp only
    omega
  · unfold cutL at hc
    obtain ⟨p, hp, rfl⟩ := List.mem_map.mp hc
    have := b p hp
    rw [List.getD_eq_getElem?_getD, List.getElem?_eq_getElem this]
    exact U.kinds _ (List.getElem_mem _)
  · unfold cutL
    dsimp only
    refine List.Pairwise.filterMap (cutTie os) (fun a a' h x hx y hy => ?_) U.rise
    obtain ⟨x1, x2, _⟩ := (cutTie_some nd).mp (Option.mem_def.mp hx)
    obtain ⟨y1, y2, _⟩ := (cutTie_some nd).mp (Option.mem_def.mp hy)
    unfold tlt at *
    rcases h with h | ⟨h1, h2⟩
    · exact .inl ((at_rise s x1 y1).mpr h)
    · right
      refine ⟨?_, (at_rise s x2 y2).mpr h2⟩
      rw [h1] at x1
      have e1 := (posOf_iff nd).mpr x1
      have e2 := (posOf_iff nd).mpr y1
      rw [e1] at e2
      exact Option.some.inj e2
  · unfold cutL at ht ⊢
    dsimp only at ht ⊢
    obtain ⟨t0, h0, h1⟩ := List.mem_filterMap.mp ht
    obtain ⟨a, b', c⟩ := (cutTie_some nd).mp h1
    obtain ⟨d, e, f⟩ := U.ends t0 h0
    refine ⟨(at_rise s a b').mpr d, ?_, by rw [c]; exact f⟩
    rw [List.length_map]
    exact (List.getElem?_eq_some_iff.mp b').1
theorem nb_cut {u : Web} (U : WOk u) {os : List Nat} (s : os.Pairwise (· < ·)) (b : ∀ p ∈ os, p < u.1.length) {i p : Nat} (hi : os[i]? = some p) :
    (nb (cutL u os).2 i).map (fun j => os.getD j 0) = (nb u.2 p).filter fun q => decide (q ∈ os) := by
  have nd := rise_nodup s
  have C := cutL_ok U s b
  have lc : (cutL u os).1.length = os.length := by unfold cutL; rw [List.length_map]
  have mem : ∀ j, j ∈ nb (cutL u os).2 i ↔ ∃ q, os[j]? = some q ∧ q ∈ nb u.2 p := fun j => by
    rw [nb_eq C, nb_eq U, List.mem_filter, List.mem_range, lc]
    constructor
    · rintro ⟨h1, h2⟩
      have hj := List.getElem?_eq_getElem h1
      refine ⟨_, hj, List.mem_filter.mpr ⟨List.mem_range.mpr (b _ (List.getElem_mem h1)), ?_⟩⟩
      rw [← tieL_cut nd hi hj]
      exact h2
    · rintro ⟨q, h1, h2⟩
      refine ⟨(List.getElem?_eq_some_iff.mp h1).1, ?_⟩
      rw [tieL_cut nd hi h1]
      exact (List.mem_filter.mp h2).2
  have getD : ∀ {j q}, os[j]? = some q → os.getD j 0 = q := fun {j q} h => by rw [List.getD_eq_getElem?_getD, h]; rfl
  refine sorted_ext ?_ ((nb_rise U.rise (fun t ht => (U.ends t ht).1) p).filter _) fun x => ?_
  · rw [List.pairwise_map]
    refine (nb_rise C.rise (fun t ht => (C.ends t ht).1) i).imp_of_mem fun {x y} hx hy h => ?_
    obtain ⟨q1, h1, _⟩ := (mem x).mp hx
    obtain ⟨q2, h2, _⟩ := (mem y).mp hy
    rw [getD h1, getD h2]
    exact (at_rise s h1 h2).mp h
  · rw [List.mem_map, List.mem_filter, decide_eq_true_eq]
    constructor
    · rintro ⟨j, h1, rfl⟩
      obtain ⟨q, h2, h3⟩ := (mem j).mp h1
      rw [getD h2]
      exact ⟨h3, List.mem_of_getElem? h2⟩
    · rintro ⟨h1, h2⟩
      obtain ⟨j, hj⟩ := List.getElem?_of_mem h2
      exact ⟨j, (mem j).mpr ⟨x, hj, h1⟩, getD hj⟩
theorem posOf_comp {os ls : List Nat} (no : os.Nodup) (nl : ls.Nodup) (b : ∀ k ∈ ls, k < os.length) (x : Nat) : posOf (ls.map fun k => os.getD k 0) x = (posOf os x).bind (posOf ls) := by
  have getD : ∀ {j}, (h : j < os.length) → os.getD j 0 = os[j] := fun {j} h => by rw [List.getD_eq_getElem?_getD, List.getElem?_eq_getElem h]; rfl
  have nm : (ls.map fun k => os.getD k 0).Nodup := by
    unfold List.Nodup
    rw [List.pairwise_map]
    refine nl.imp_of_mem fun {x y} hx hy h z => h ?_
    rw [getD (b x hx), getD (b y hy)] at z
    exact (List.getElem_inj no).mp z
  refine Option.ext fun i => ?_
  rw [posOf_iff nm, Option.bind_eq_some_iff, List.getElem?_map, Option.map_eq_some_iff]
  constructor
  · rintro ⟨k, h1, h2⟩
    have hk := b k (List.mem_of_getElem? h1)
    rw [getD hk] at h2
    refine ⟨k, (posOf_iff no).mpr (by rw [List.getElem?_eq_getElem hk, h2]), (posOf_iff nl).mpr h1⟩
  · rintro ⟨k, h1, h2⟩
    have h1 := (posOf_iff no).mp h1
    refine ⟨k, (posOf_iff nl).mp h2, ?_⟩
    rw [List.getD_eq_getElem?_getD, h1]; rfl
theorem cut_cut (u : Web) {os ls : List Nat} (no : os.Nodup) (nl : ls.Nodup) (b : ∀ k ∈ ls, k < os.length) : cutL (cutL u os) ls = cutL u (ls.map fun k => os.getD k 0) := by
  unfold cutL
  refine Prod.ext ?_ ?_
  · dsimp only
    rw [List.map_map]
    refine List.map_congr_left fun k hk => ?_
    have := b k hk
    simp [List.getD_eq_getElem?_getD, this]
  · dsimp only
    rw [List.filterMap_filterMap]
    congr 1
    funext t
    unfold cutTie
    rw [posOf_comp no nl b, posOf_comp no nl b]
    cases posOf os t.1 <;> cases posOf os t.2.1 <;> simp
end Cw

/-! parts of webs with a tie more, of webs without ties, of cuts -/
namespace Cw
open PySem PySem.Spec PyProof.Rows L2
theorem rch_nil {a b : Nat} : Rch [] a b ↔ a = b := by
  constructor
  · intro h
    induction h with
    | base => rfl
    | step _ m _ => simp [nb] at m
  · rintro rfl
    exact .base
theorem partsL_none (cs : List Nat) : partsL (cs, []) = (List.range cs.length).map fun a => [a] := by
  have l : ∀ a, Lst (cs, []) a := fun a b h => by
    have := rch_nil.mp h
    omega
  have e : leastsL (cs, []) cs.length = List.range cs.length := by
    unfold leastsL
    exact List.filter_eq_self.mpr fun a _ => dec_true (l a)
  unfold partsL partsN
  dsimp only
  rw [e]
  refine List.map_congr_left fun a ha => ?_
  have ha' := List.mem_range.mp ha
  refine sorted_ext (partL_rise _ _) (by simp) fun x => ?_
  unfold partL
  rw [List.mem_filter, dec_iff, List.mem_range, List.mem_singleton]
  constructor
  · rintro ⟨_, h⟩
    exact (rch_nil.mp h).symm
  · rintro rfl
    exact ⟨ha', .base⟩
/-- a tie more, between x and y -/
structure More (u u' : Web) (x y : Nat) : Prop where
  lt : x ≠ y
  same : u'.1.length = u.1.length
  adj : ∀ p q, q ∈ nb u'.2 p ↔ q ∈ nb u.2 p ∨ (p = x ∧ q = y) ∨ (p = y ∧ q = x)
section
variable {u u' : Web} {x y : Nat}
theorem More.swap (M : More u u' x y) : More u u' y x := ⟨M.lt.symm, M.same, fun p q => by rw [M.adj]; exact ⟨fun h => h.elim .inl fun h => .inr h.symm, fun h => h.elim .inl fun h => .inr h.symm⟩⟩
theorem More.up (M : More u u' x y) {a b : Nat} (h : Rch u.2 a b) : Rch u'.2 a b := by
  induction h with
  | base => exact .base
  | step _ m ih => exact ih.step ((M.adj _ _).mpr (.inl m))
theorem More.iff (M : More u u' x y) {a b : Nat} : Rch u'.2 a b ↔ Rch u.2 a b ∨ (Rch u.2 a x ∧ Rch u.2 y b) ∨ (Rch u.2 a y ∧ Rch u.2 x b) := by
  constructor
  · intro h
    induction h with
    | base => exact .inl .base
    | step _ m ih =>
      rcases (M.adj _ _).mp m with m | ⟨rfl, rfl⟩ | ⟨rfl, rfl⟩
      · rcases ih with h | ⟨h1, h2⟩ | ⟨h1, h2⟩
        · exact .inl (h.step m)
        · exact .inr (.inl ⟨h1, h2.step m⟩)
        · exact .inr (.inr ⟨h1, h2.step m⟩)
      · rcases ih with h | ⟨h1, h2⟩ | ⟨h1, h2⟩
        · exact .inr (.inl ⟨h, .base⟩)
        · exact .inr (.inl ⟨h1, .base⟩)
        · exact .inl h1
      · rcases ih with h | ⟨h1, h2⟩ | ⟨h1, h2⟩
        · exact .inr (.inr ⟨h, .base⟩)
        · exact .inl h1
        · exact .inr (.inr ⟨h1, .base⟩)
  · have s1 : Rch u'.2 x y := Rch.base.step ((M.adj _ _).mpr (.inr (.inl ⟨rfl, rfl⟩)))
    have s2 : Rch u'.2 y x := Rch.base.step ((M.adj _ _).mpr (.inr (.inr ⟨rfl, rfl⟩)))
    rintro (h | ⟨h1, h2⟩ | ⟨h1, h2⟩)
    · exact M.up h
    · exact ((M.up h1).trans s1).trans (M.up h2)
    · exact ((M.up h1).trans s2).trans (M.up h2)
/-- it lies within a part: nothing changes -/
theorem More.within (U : WOk u) (M : More u u' x y) (r : Rch u.2 x y) {a b : Nat} : Rch u'.2 a b ↔ Rch u.2 a b := by
  rw [M.iff]
  constructor
  · rintro (h | ⟨h1, h2⟩ | ⟨h1, h2⟩)
    · exact h
    · exact (h1.trans r).trans h2
    · exact (h1.trans (r.symm U)).trans h2
  · exact .inl
end
/-- each place has a least one -/
theorem least_of {u : Web} (U : WOk u) (a : Nat) : ∃ l, Rch u.2 a l ∧ Lst u l := by
  have h : ∀ n a, a ≤ n → ∃ l, Rch u.2 a l ∧ Lst u l := by
    intro n
    induction n with
    | zero =>
      intro a h
      exact ⟨a, .base, fun b _ => by omega⟩
    | succ n ih =>
      intro a h
      rcases Classical.em (Lst u a) with c | c
      · exact ⟨a, .base, c⟩
      · obtain ⟨b, h1, h2⟩ := (seen_iff U).mpr c
        obtain ⟨l, h3, h4⟩ := ih b (by omega)
        exact ⟨l, (h2.symm U).trans h3, h4⟩
  exact h a a (Nat.le_refl _)
section
variable {u u' : Web} {x y lx ly : Nat}
/-- it joins two parts: the greater of the least places is least no more -/
theorem More.least (U : WOk u) (M : More u u' x y) (h1 : Rch u.2 x lx) (h2 : Lst u lx) (h3 : Rch u.2 y ly) (h4 : Lst u ly) (lt : lx < ly) (a : Nat) : Lst u' a ↔ Lst u a ∧ a ≠ ly := by
  constructor
  · intro h
    refine ⟨fun b hb => h b (M.up hb), ?_⟩
    rintro rfl
    have := h lx (M.iff.mpr (.inr (.inr ⟨h3.symm U, h1⟩)))
    omega
  · rintro ⟨h, ne⟩ b hb
    rcases M.iff.mp hb with hb | ⟨b1, b2⟩ | ⟨b1, b2⟩
    · exact h b hb
    · have e : a = lx := lst_uniq U h h2 (b1.trans h1)
      have := h4 b ((h3.symm U).trans b2)
      omega
    · exact absurd (lst_uniq U h h4 (b1.trans h3)) ne
theorem leasts_filter (U : WOk u) (M : More u u' x y) (h1 : Rch u.2 x lx) (h2 : Lst u lx) (h3 : Rch u.2 y ly) (h4 : Lst u ly) (lt : lx < ly) (n : Nat) : leastsL u' n = (leastsL u n).filter fun a => decide (a ≠ ly) := by
  unfold leastsL
  rw [List.filter_filter]
  refine List.filter_congr fun a _ => ?_
  rw [Bool.eq_iff_iff, dec_iff, Bool.and_eq_true, dec_iff, decide_eq_true_eq, M.least U h1 h2 h3 h4 lt a]
  exact And.comm
theorem filter_one {l : List Nat} (s : l.Pairwise (· < ·)) {a : Nat} (h : a ∈ l) : (l.filter fun b => decide (b ≠ a)).length + 1 = l.length := by
  induction l with
  | nil => cases h
  | cons b r ih =>
    have sr := (List.pairwise_cons.mp s)
    by_cases c : b = a
    · subst c
      rw [List.filter_cons_of_neg (by simp)]
      rw [List.filter_eq_self.mpr fun z hz => by
        have := sr.1 z hz
        simp; omega]
      rfl
    · rw [List.filter_cons_of_pos (by simpa using c)]
      have := ih sr.2 (by
        rcases List.mem_cons.mp h with h | h
        · exact absurd h.symm c
        · exact h)
      simp only [List.length_cons]
      omega
/-- a tie more: as many parts, or one fewer -/
theorem More.count (U : WOk u) (M : More u u' x y) (hx : x < u.1.length) (hy : y < u.1.length) : (partsL u').length ≤ (partsL u).length ∧ (partsL u).length ≤ (partsL u').length + 1 := by
  have len : ∀ w : Web, (partsL w).length = (leastsL w w.1.length).length := fun w => by unfold partsL partsN; rw [List.length_map]
  rw [len, len, M.same]
  obtain ⟨lx, h1, h2⟩ := least_of U x
  obtain ⟨ly, h3, h4⟩ := least_of U y
  have go : ∀ {x y lx ly}, More u u' x y → y < u.1.length → Rch u.2 x lx → Lst u lx → Rch u.2 y ly → Lst u ly → lx < ly → (leastsL u' u.1.length).length + 1 = (leastsL u u.1.length).length := fun {x y lx ly} M hy h1 h2 h3 h4 lt => by
    rw [leasts_filter U M h1 h2 h3 h4 lt]
    refine filter_one (leasts_rise u _) ?_
    unfold leastsL
    exact List.mem_filter.mpr ⟨List.mem_range.mpr (h3.lt U hy), dec_true h4⟩
  rcases Nat.lt_trichotomy lx ly with c | c | c
  · have := go M hy h1 h2 h3 h4 c
    omega
  · subst c
    have r : Rch u.2 x y := h1.trans (h3.symm U)
    have e : leastsL u' u.1.length = leastsL u u.1.length := by
      unfold leastsL
      refine List.filter_congr fun a _ => dec_congr ?_
      unfold Lst
      exact ⟨fun h b hb => h b ((M.within U r).mpr hb), fun h b hb => h b ((M.within U r).mp hb)⟩
    rw [e]
    omega
  · have := go M.swap hx h3 h4 h1 h2 c
    omega
end
/-! ### without one place -/
theorem rch_cut {u : Web} (U : WOk u) {os : List Nat} (s : os.Pairwise (· < ·)) (b : ∀ p ∈ os, p < u.1.length) {i p : Nat} (hi : os[i]? = some p) {j : Nat} (h : Rch (cutL u os).2 i j) : ∃ q, os[j]? = some q ∧ Rch u.2 p q := by
  induction h with
  | base => exact ⟨p, hi, .base⟩
  | step _ m ih =>
    obtain ⟨q, h1, h2⟩ := ih
    have e := nb_cut U s b h1
    have m' := List.mem_map_of_mem (f := fun j => os.getD j 0) m
    rw [e, List.mem_filter, decide_eq_true_eq] at m'
    have C := cutL_ok U s b
    have lt := (nb_lt C m).2
    have lc : (cutL u os).1.length = os.length := by unfold cutL; rw [List.length_map]
    rw [lc] at lt
    rename_i r _ _
    have hr := List.getElem?_eq_getElem lt
    refine ⟨_, hr, h2.step ?_⟩
    have z := m'.1
    rw [List.getD_eq_getElem?_getD, hr] at z
    exact z
theorem rch_cut' {u : Web} (U : WOk u) {os : List Nat} (s : os.Pairwise (· < ·)) (b : ∀ p ∈ os, p < u.1.length) {i p : Nat} (hi : os[i]? = some p) (all : ∀ q, Rch u.2 p q → q ∈ os) {q : Nat} (h : Rch u.2 p q) : ∃ j, os[j]? = some q ∧ Rch (cutL u os).2 i j := by
  induction h with
  | base => exact ⟨i, hi, .base⟩
  | step h0 m ih =>
    obtain ⟨j, h1, h2⟩ := ih
    rename_i r z
    have hz := all _ (h0.step m)
    have e := nb_cut U s b h1
    have mz : z ∈ (nb u.2 r).filter fun q => decide (q ∈ os) := List.mem_filter.mpr ⟨m, decide_eq_true hz⟩
    rw [← e] at mz
    obtain ⟨k, h3, h4⟩ := List.mem_map.mp mz
    have C := cutL_ok U s b
    have lt := (nb_lt C h3).2
    have lc : (cutL u os).1.length = os.length := by unfold cutL; rw [List.length_map]
    rw [lc] at lt
    have hk := List.getElem?_eq_getElem lt
    refine ⟨k, ?_, h2.step h3⟩
    have h4' : os.getD k 0 = z := h4
    rw [List.getD_eq_getElem?_getD, hk] at h4'
    rw [hk]
    exact congrArg some h4'
/-- a part all of whose places stay is a part of the cut -/
theorem part_cut {u : Web} (U : WOk u) {os : List Nat} (s : os.Pairwise (· < ·)) (b : ∀ p ∈ os, p < u.1.length) {l : Nat} (hl : Lst u l) (ll : l < u.1.length) (all : ∀ q, Rch u.2 l q → q ∈ os) : partL u l ∈ (partsL (cutL u os)).map fun p => p.map fun j => os.getD j 0 := by
  obtain ⟨i, hi⟩ := List.getElem?_of_mem (all l .base)
  have C := cutL_ok U s b
  have lc : (cutL u os).1.length = os.length := by unfold cutL; rw [List.length_map]
  have ii := (List.getElem?_eq_some_iff.mp hi).1
  have li : Lst (cutL u os) i := fun j hj => by
    obtain ⟨q, h1, h2⟩ := rch_cut U s b hi hj
    have := hl q h2
    rcases Nat.lt_or_ge j i with c | c
    · have := (at_rise s h1 hi).mp c
      omega
    · exact c
  have getD : ∀ {j q}, os[j]? = some q → os.getD j 0 = q := fun {j q} h => by rw [List.getD_eq_getElem?_getD, h]; rfl
  refine List.mem_map.mpr ⟨partL (cutL u os) i, ?_, ?_⟩
  · unfold partsL partsN
    refine List.mem_map.mpr ⟨i, ?_, rfl⟩
    unfold leastsL
    exact List.mem_filter.mpr ⟨List.mem_range.mpr (by omega), dec_true li⟩
  · have mem : ∀ j, j ∈ partL (cutL u os) i ↔ Rch (cutL u os).2 i j := fun j => mem_partL C (by omega)
    refine sorted_ext ?_ (partL_rise u l) fun x => ?_
    · rw [List.pairwise_map]
      refine (partL_rise _ _).imp_of_mem fun {x y} hx hy h => ?_
      obtain ⟨q1, h1, _⟩ := rch_cut U s b hi ((mem x).mp hx)
      obtain ⟨q2, h2, _⟩ := rch_cut U s b hi ((mem y).mp hy)
      rw [getD h1, getD h2]
      exact (at_rise s h1 h2).mp h
    · rw [List.mem_map, mem_partL U ll]
      constructor
      · rintro ⟨j, h1, rfl⟩
        obtain ⟨q, h2, h3⟩ := rch_cut U s b hi ((mem j).mp h1)
        rw [getD h2]
        exact h3
      · intro h
        obtain ⟨j, h1, h2⟩ := rch_cut' U s b hi all h
        exact ⟨j, (mem j).mpr h2, getD h1⟩
end Cw

/-! sorted() of a tuple of triples -/
namespace Cw
open PySem PySem.Spec PyProof.Rows L2 Srt SrtO
section
variable {prog : Program} {w : World} {A : Around} {E : Value → Shared → Prop} {s : Shared}
theorem sorted_ordT {l : Addr} {o : Obj} {n : Nat} {vs : List Value} {ltv : Value → Value → Bool} {Q : Value → Shared → Prop} (O : SrtO.Swo ltv) (ho : s.heap.get? l = some o) (hc : o.cls = .type "tuple") (hd : o.data = .seq vs.toArray n) (hz : vs.length ≤ sizeLine)
    (hS : 2 ≤ vs.length → ∀ (h₁ : Heap) (a : Addr), h₁.get? a = some (seqObj "list" vs.toArray 0) → (∀ b o, s.heap.get? b = some o → b ≠ a ∧ h₁.get? b = some o) → SrtO.SortableO prog w A.in1.in1 { s with heap := h₁ } a vs ltv)
    (h : ∀ (h1 h' : Heap) (out : List Value), SrtO.Srtd ltv out → SrtO.Stb ltv out vs → (∀ b o, s.heap.get? b = some o → h1.get? b = some o) → (∀ b o, h1.get? b = some o → h'.get? b = some o) → (∃ n, h'.get? h1.objs.size = some (seqObj "list" out.toArray n)) → Q (.ref h1.objs.size) { s with heap := h' }) :
    wpAny (model prog w) A (call (.builtin "sorted") [.ref l]) Q E s := by
  refine Calls.call_function_entry kind_sorted plain_sorted entry_sorted (args_sorted1 _) ?_
  unfold Builtin.«sorted»
  refine wpAny_bind (m := checkCount "sorted" 1 1 _) (wpAny_pure ?_)
  refine wpAny_bind (PySem.wpAny_collect_seq l (.inr rfl) ho hc hd (fun h1 k1 => ?_) (by simpa using hz))
  rw [show vs.toArray.toList = vs by simp]
  refine wpAny_bind (wpAny_newList ?_ hz)
  have hoL : (h1.push (seqObj "list" vs.toArray 0)).get? h1.objs.size = some (seqObj "list" vs.toArray 0) := Heap.get?_push_size _ rfl
  have keep : ∀ b o, s.heap.get? b = some o → b ≠ h1.objs.size ∧ (h1.push (seqObj "list" vs.toArray 0)).get? b = some o := fun b o q =>
    ⟨Nat.ne_of_lt (Heap.lt_size (k1 _ _ q)), Heap.get?_push_of_some _ (k1 _ _ q)⟩
  show wpAny _ _ _ _ _ { s with heap := h1.push (seqObj "list" vs.toArray 0) }
  refine wpAny_bind (wpAny_holding (wpAny_call_entry slot_list_sort ⟨_, hoL, rfl⟩ entry_list_sort (SrtO.list_sort_ord O hoL hz (fun h2 => hS h2 _ _ hoL keep) fun out hs hb => ⟨_, rfl, ?_⟩) (args_list_sort _)))
  refine wpAny_pure ⟨_, rfl, h h1 _ out hs hb k1 (fun b o q => ?_) (sortedHeap_at hoL)⟩
  rw [sortedHeap_old (Nat.ne_of_lt (Heap.lt_size q)) (by rw [size_push']; exact Nat.lt_succ_of_lt (Heap.lt_size q))]
  exact Heap.get?_push_of_some _ q
theorem sorted_trisT {l : Addr} {o : Obj} {n : Nat} {vs : List Value} {k : Value → Tri} {Q : Value → Shared → Prop} (ho : s.heap.get? l = some o) (hc : o.cls = .type "tuple") (hd : o.data = .seq vs.toArray n) (hz : vs.length ≤ sizeLine) (hp : ∀ v ∈ vs, IsTri s.heap v (k v))
    (h : ∀ (h1 h' : Heap) (out : List Value), SrtO.Srtd (fun v u => lexT (k v) (k u)) out → out.Perm vs → (∀ b o, s.heap.get? b = some o → h1.get? b = some o) → (∀ b o, h1.get? b = some o → h'.get? b = some o) → (∃ n, h'.get? h1.objs.size = some (seqObj "list" out.toArray n)) → Q (.ref h1.objs.size) { s with heap := h' }) :
    wpAny (model prog w) A (call (.builtin "sorted") [.ref l]) Q E s := by
  refine sorted_ordT (swo_T k) ho hc hd hz (fun h2 h₁ a ha kk => tri_sortable (s := { s with heap := h₁ }) (by omega) (fun v hm => (hp v hm).keeps fun b o e _ => (kk b o e).2) fun o e c => ?_) fun h1 h' out hs hb k1 kp at_ => h h1 h' out hs hb.perm k1 kp at_
  have e' : some o = some (seqObj "list" vs.toArray 0) := e.symm.trans ha
  cases e'
  exact absurd (Value.type.inj c) (by decide)
end
theorem triV_inj {p q : Tri} (h : triV p = triV q) : p = q := by
  unfold triV at h
  simp only [List.cons.injEq, V.int.injEq, V.str.injEq] at h
  obtain ⟨h1, h2, h3, _⟩ := h
  exact Prod.ext h1 (Prod.ext h2 (sg_inj.mp h3))
/-- sorted(ties) of a tuple -/
def rSorted3T (K : PySem.W.Frag) : List V → Hp → VK → Prop := fun vs H Q => ∃ (a : Addr) (es : List (Addr × Tri)), vs = [V.ref a] ∧ SqT K H a (es.map fun e => V.ref e.1) ∧ (∀ e ∈ es, SqT K H e.1 (triV e.2)) ∧
  ∀ (es' : List (Addr × Tri)) p, es'.Perm es → (es'.map (·.2)).Pairwise (fun x y => lexT y x = false) → H p = none → Q (.ref p) (upd H p (.lst (es'.map fun e => V.ref e.1)))
section
variable {X : Cx}
theorem cr_sorted3T : CallR X (.builtin "sorted") (rSorted3T X.K) := by
  intro pins s σ H vs us Q I r h
  obtain ⟨a, es, rfl, hs, hx, q⟩ := h
  obtain ⟨its, rv, ⟨o0, g0, c0, n0, d0⟩, hz⟩ := I.tuple hs
  obtain ⟨u, rfl, ru⟩ := vals1 r
  obtain rfl : u = Value.ref a := ru
  -- the items, by their addresses
  have eits : its = es.map fun e => Value.ref e.1 := by
    have : ∀ {xs : List (Addr × Tri)} {us : List Value}, Vals (xs.map fun e => V.ref e.1) us → us = xs.map fun e => Value.ref e.1 := by
      intro xs
      induction xs with
      | nil => intro us r; cases r; rfl
      | cons x xs ih =>
        intro us r
        cases r with
        | cons r1 r2 => rw [ih r2, (show _ = Value.ref x.1 from r1)]; rfl
    exact this rv
  -- the key, read off the heap
  let kA : Addr → Tri := fun b => ((es.find? fun e => e.1 == b).map (·.2)).getD (0, 0, 0)
  have kA_eq : ∀ e ∈ es, kA e.1 = e.2 := fun e he => by
    show ((es.find? fun e' => e'.1 == e.1).map (·.2)).getD (0, 0, 0) = e.2
    cases hf : es.find? fun e' => e'.1 == e.1 with
    | none => exact absurd (beq_self_eq_true e.1) (by simpa using List.find?_eq_none.mp hf e he)
    | some e' =>
      have h1 : e'.1 = e.1 := by simpa using List.find?_some hf
      have h2 := hx e' (List.mem_of_find?_eq_some hf)
      rw [h1] at h2
      exact triV_inj (I.tuple_inj h2 (hx e he))
  let kV' : Value → Tri := fun v => match v with
    | .ref b => kA b
    | _ => (0, 0, 0)
  refine sorted_trisT (k := kV') g0 c0 d0 (by rw [← rv.length]; exact hz) (fun v hv => ?_) fun h0 h' out h1 h2 kp1 kp hn => ?_
  · rw [eits] at hv
    obtain ⟨e, he, rfl⟩ := List.mem_map.mp hv
    obtain ⟨its2, r2, ⟨o, ho, hc, n, hd⟩, _⟩ := I.tuple (hx e he)
    have ek : kV' (Value.ref e.1) = e.2 := kA_eq e he
    rw [ek]
    cases r2 with
    | cons ra rr =>
      cases rr with
      | cons rb rr =>
        cases rr with
        | cons rc rr =>
          cases rr
          obtain ⟨t1, rfl⟩ := ra
          obtain ⟨t2, rfl⟩ := rb
          obtain ⟨t3, rfl⟩ := rc
          exact ⟨e.1, o, t1, t2, t3, n, rfl, ho, hc, hd⟩
  · obtain ⟨n, hn⟩ := hn
    rw [eits] at h2
    have hmem : ∀ v ∈ out, ∃ e ∈ es, v = Value.ref e.1 := fun v hv => by
      obtain ⟨e, he, e'⟩ := List.mem_map.mp (h2.mem_iff.mp hv)
      exact ⟨e, he, e'.symm⟩
    -- back to pairs
    let back : Value → Addr × Tri := fun v => match v with
      | .ref b => (b, kA b)
      | _ => (0, (0, 0, 0))
    have p1 : (out.map back).Perm es := by
      have z := h2.map back
      rw [List.map_map] at z
      have e2 : es.map (back ∘ fun e => Value.ref e.1) = es := by
        conv => rhs; rw [← List.map_id es]
        refine List.map_congr_left fun e he => ?_
        show (e.1, kA e.1) = e
        rw [kA_eq e he]
      rw [e2] at z
      exact z
    have e3 : (out.map back).map (fun e => V.ref e.1) = out.map backV := by
      rw [List.map_map]
      refine List.map_congr_left fun v hv => ?_
      obtain ⟨e, he, rfl⟩ := hmem v hv
      rfl
    have srt : ((out.map back).map (·.2)).Pairwise (fun x y => lexT y x = false) := by
      rw [List.map_map, List.pairwise_map]
      refine h1.imp_of_mem fun {x y} hx' hy' hxy => ?_
      obtain ⟨e, he, rfl⟩ := hmem x hx'
      obtain ⟨e', he', rfl⟩ := hmem y hy'
      exact hxy
    have I1 : Inv X pins σ H { s with heap := h0 } := I.kept (t' := s.toks) kp1
    have g := q (out.map back) h0.objs.size p1 srt (I1.hok.fresh (Nat.le_refl _))
    rw [e3] at g
    have hzo : (out.map backV).length ≤ sizeLine := by
      rw [List.length_map, h2.length_eq, List.length_map]
      rw [List.length_map] at hz
      exact hz
    have hvb : Vals (out.map backV) out := vals_back fun u hu => by
      obtain ⟨e, he, rfl⟩ := hmem u hu
      exact ⟨_, rfl⟩
    exact ⟨.ref h0.objs.size, upd H h0.objs.size (.lst (out.map backV)), I1.laid (t' := s.toks) kp (Nat.le_refl _) (show ObjOk X.prog X.w _ _ _ (.lst (out.map backV)) from ⟨hzo, out, n, hvb, hn⟩), rfl, g⟩

end
end Cw

/-! webs as data; membership of whole numbers -/
namespace Cw
open PySem PySem.Spec PyProof.Rows L2
def webD (u : Web) : PyData := .tuple [.str ⟨u.1.toArray⟩, .tuple (u.2.map tieD)]
theorem strOk_of {cs : List Nat} (h : ∀ c ∈ cs, Ltr c) : PyData.strOk ⟨cs.toArray⟩ = true := by
  show cs.toArray.all (fun c => decide (c < 0x110000)) = true
  rw [List.all_toArray', List.all_eq_true] <;> first | rfl | skip
  intro c hc
  have := h c hc
  unfold Ltr at this
  exact decide_eq_true (by omega)
theorem dpa_tiesT {K : PySem.W.Frag} {H : Hp} : ∀ {xs : List V} {ts : List Tie}, Paired (TieAt K H) xs ts → DpAll K H xs (ts.map tieD)
  | _, _, .nil => .nil
  | _, _, .cons h t => by
    obtain ⟨a, rfl, q⟩ := h
    exact .cons (.tup q (.cons (.int _) (.cons (.int _) (.cons (.str _) .nil)))) (dpa_tiesT t)
theorem WebAt.dp {K : PySem.W.Frag} {H : Hp} {v : V} {u : Web} (x : WebAt K H v u) : Dp K H v (webD u) := by
  obtain ⟨a, b, tvs, rfl, q1, q2, p⟩ := x
  exact .tup q1 (.cons (.str _) (.cons (.tup q2 (dpa_tiesT p)) .nil))
theorem webD_good {u : Web} (U : WOk u) : SeqAt.shaped (webD u) = true := by
  obtain ⟨h1, h2⟩ := lay_all (ds := u.2.map tieD) (k := 1) fun d hd => by
    obtain ⟨t, ht, rfl⟩ := List.mem_map.mp hd
    exact tieD_lay (U.ends t ht).2.2
  have h3 := strOk_of U.kinds
  unfold webD
  simp [SeqAt.shaped, PyData.canLay0, PyData.canLayAll0, PyData.depth, PyData.depthAll, h1, h3]
  omega
theorem any_int (l : List Nat) (q : Nat) : (((zs l).map PyData.int).any fun z => PyData.eqv z (.int (q : Nat))) = decide (q ∈ l) := by
  rw [Bool.eq_iff_iff, List.any_eq_true, decide_eq_true_eq]
  constructor
  · rintro ⟨z, hz, e⟩
    obtain ⟨k, hk, rfl⟩ := List.mem_map.mp hz
    obtain ⟨p, hp, rfl⟩ := List.mem_map.mp hk
    have : (p : Int) = (q : Int) := by simpa [PyData.eqv] using e
    have : p = q := by omega
    exact this ▸ hp
  · intro h
    exact ⟨_, List.mem_map.mpr ⟨_, List.mem_map.mpr ⟨q, h, rfl⟩, rfl⟩, by simp [PyData.eqv]⟩
theorem sh_int (x : Int) : SeqAt.shaped (.int x) = true := by simp [SeqAt.shaped, PyData.canLay0, PyData.depth]
theorem perm_rise {os qs : List Nat} (p : os.Perm qs) (s : os.Pairwise (· < ·)) (t : qs.Pairwise (· < ·)) : os = qs := sorted_ext s t fun _ => p.mem_iff
end Cw

/-! ties found pair by pair are a cut's -/
namespace Cw
open PySem PySem.Spec PyProof.Rows L2
/-- rising ties of the same members are one list -/
theorem tlt_ext : ∀ {l m : List Tie}, l.Pairwise tlt → m.Pairwise tlt → (∀ x, x ∈ l ↔ x ∈ m) → l = m
  | [], [], _, _, _ => rfl
  | [], y :: t, _, _, h => nomatch (h y).mpr List.mem_cons_self
  | x :: r, [], _, _, h => nomatch (h x).mp List.mem_cons_self
  | x :: r, y :: t, a, b, h => by
    obtain ⟨a1, a2⟩ := List.pairwise_cons.mp a
    obtain ⟨b1, b2⟩ := List.pairwise_cons.mp b
    have irr : ∀ z w : Tie, tlt z w → tlt w z → False := fun z w h1 h2 => by unfold tlt at h1 h2; omega
    have e : x = y := by
      rcases List.mem_cons.mp ((h x).mp List.mem_cons_self) with e | hx
      · exact e
      · rcases List.mem_cons.mp ((h y).mpr List.mem_cons_self) with e | hy
        · exact e.symm
        · exact (irr _ _ (a1 y hy) (b1 x hx)).elim
    subst e
    have self : ∀ z : Tie, ¬ tlt z z := fun z h1 => irr _ _ h1 h1
    rw [tlt_ext a2 b2 fun z => ⟨fun hz => ?_, fun hz => ?_⟩]
    · rcases List.mem_cons.mp ((h z).mp (List.mem_cons_of_mem _ hz)) with e | hz'
      · subst e; exact (self _ (a1 _ hz)).elim
      · exact hz'
    · rcases List.mem_cons.mp ((h z).mpr (List.mem_cons_of_mem _ hz)) with e | hz'
      · subst e; exact (self _ (b1 _ hz)).elim
      · exact hz'
def dueIn (u : Web) (os : List Nat) (i j : Nat) (ts : List Tie) : Prop := ts.Pairwise tlt ∧ ∀ t : Tie, t ∈ ts ↔ t.1 < t.2.1 ∧ (t.1 < i ∨ (t.1 = i ∧ t.2.1 < j)) ∧ ∃ p q, os[t.1]? = some p ∧ os[t.2.1]? = some q ∧ tieL u.2 p q = some t.2.2
theorem dueIn_zero {u : Web} {os : List Nat} : dueIn u os 0 1 [] := ⟨.nil, fun t => ⟨fun h => (nomatch h), fun ⟨h1, h2, _⟩ => by omega⟩⟩
theorem dueIn_up {u : Web} {os : List Nat} {i j : Nat} {ts : List Tie} (hj : j = os.length ∨ (os.length ≤ i ∧ j = i + 1)) (h : dueIn u os i j ts) : dueIn u os (i + 1) (i + 2) ts := ⟨h.1, fun t => by
  rw [h.2]
  constructor
  · rintro ⟨a, b, c⟩
    exact ⟨a, by omega, c⟩
  · rintro ⟨a, b, p, q, h1, h2, h3⟩
    have := (List.getElem?_eq_some_iff.mp h2).1
    exact ⟨a, by omega, p, q, h1, h2, h3⟩⟩
theorem dueIn_no {u : Web} {os : List Nat} {i j p q : Nat} {ts : List Tie} (h : dueIn u os i j ts) (hp : os[i]? = some p) (hq : os[j]? = some q) (n : tieL u.2 p q = none) : dueIn u os i (j + 1) ts :=
  ⟨h.1, fun t => by
    rw [h.2]
    constructor
    · rintro ⟨a, b, c⟩
      exact ⟨a, by omega, c⟩
    · rintro ⟨a, b, p', q', h1, h2, h3⟩
      refine ⟨a, ?_, p', q', h1, h2, h3⟩
      rcases b with b | ⟨b1, b2⟩
      · exact .inl b
      · rcases Nat.lt_or_ge t.2.1 j with c | c
        · exact .inr ⟨b1, c⟩
        · exfalso
          have e : t.2.1 = j := by omega
          rw [b1, hp] at h1
          rw [e, hq] at h2
          cases h1
          cases h2
          rw [n] at h3
          cases h3⟩
theorem dueIn_one {u : Web} {os : List Nat} {i j p q c : Nat} {ts : List Tie} (h : dueIn u os i j ts) (lt : i < j) (hp : os[i]? = some p) (hq : os[j]? = some q) (e : tieL u.2 p q = some c) : dueIn u os i (j + 1) (ts ++ [(i, j, c)]) := by
  refine ⟨List.pairwise_append.mpr ⟨h.1, by simp, fun x hx y hy => ?_⟩, fun t => ?_⟩
  · rw [List.mem_singleton.mp hy]
    obtain ⟨_, b, _⟩ := (h.2 x).mp hx
    unfold tlt
    dsimp only
    omega
  · rw [List.mem_append, h.2, List.mem_singleton]
    constructor
    · rintro (⟨a, b, c⟩ | rfl)
      · exact ⟨a, by omega, c⟩
      · exact ⟨lt, .inr ⟨rfl, Nat.lt_succ_self _⟩, p, q, hp, hq, e⟩
    · rintro ⟨a, b, p', q', h1, h2, h3⟩
      by_cases c' : t.1 = i ∧ t.2.1 = j
      · right
        obtain ⟨t1, t2, t3⟩ := t
        obtain ⟨e1, e2⟩ := c'
        dsimp only at e1 e2 h1 h2 h3
        subst e1
        subst e2
        rw [hp] at h1
        rw [hq] at h2
        cases h1
        cases h2
        rw [e] at h3
        cases h3
        rfl
      · left
        exact ⟨a, by omega, p', q', h1, h2, h3⟩
theorem dueIn_end {u : Web} (U : WOk u) {os : List Nat} (s : os.Pairwise (· < ·)) (b : ∀ p ∈ os, p < u.1.length) {ts : List Tie} (h : dueIn u os os.length (os.length + 1) ts) : ts = (cutL u os).2 := by
  have C := cutL_ok U s b
  have nd := rise_nodup s
  refine tlt_ext h.1 C.rise fun t => ?_
  have lc : (cutL u os).1.length = os.length := by unfold cutL; rw [List.length_map]
  rw [h.2]
  constructor
  · rintro ⟨a, _, p, q, h1, h2, h3⟩
    have z := (tieL_mem C (a := t.1) (b := t.2.1) (c := t.2.2)).mp (by rw [tieL_cut nd h1 h2]; exact h3)
    rw [Nat.min_eq_left (by omega), Nat.max_eq_right (by omega)] at z
    exact z
  · intro ht
    obtain ⟨a, b', _⟩ := C.ends t ht
    rw [lc] at b'
    have h1 := List.getElem?_eq_getElem (l := os) (show t.1 < os.length by omega)
    have h2 := List.getElem?_eq_getElem b'
    refine ⟨a, .inl (by omega), _, _, h1, h2, ?_⟩
    rw [← tieL_cut nd h1 h2]
    exact (tieL_mem C).mpr (by rw [Nat.min_eq_left (by omega), Nat.max_eq_right (by omega)]; exact ht)
theorem eqv_ties : ∀ as bs : List Tie, PyData.eqvAll (as.map tieD) (bs.map tieD) = decide (as = bs)
  | [], [] => by simp [PyData.eqvAll]
  | [], _ :: _ => by simp [PyData.eqvAll]
  | _ :: _, [] => by simp [PyData.eqvAll]
  | a :: r, b :: t => by
    have ih := eqv_ties r t
    simp only [List.map_cons, PyData.eqvAll, ih]
    have e : PyData.eqv (tieD a) (tieD b) = decide (a = b) := by
      obtain ⟨a1, a2, a3⟩ := a
      obtain ⟨b1, b2, b3⟩ := b
      rw [Bool.eq_iff_iff, decide_eq_true_iff]
      simp [tieD, PyData.eqv, PyData.eqvAll, sg]
      omega
    rw [e, Bool.eq_iff_iff, Bool.and_eq_true, decide_eq_true_iff, decide_eq_true_iff, decide_eq_true_iff, List.cons.injEq]
theorem eqv_web (u v : Web) : PyData.eqv (webD u) (webD v) = decide (u = v) := by
  obtain ⟨a, b⟩ := u
  obtain ⟨c, d⟩ := v
  have := eqv_ties b d
  rw [Bool.eq_iff_iff, decide_eq_true_iff]
  simp [webD, PyData.eqv, PyData.eqvAll, this]
/-- two webs as data, unlike or not -/
theorem ne_webs {K : PySem.W.Frag} {H : Hp} {QB : VK} {v x : V} {u t : Web} (hv : WebAt K H v u) (hx : WebAt K H x t) (U : WOk u) (T : WOk t) (q : QB (.bl (!decide (u = t))) H) : rNeD K v x H QB :=
  ⟨_, _, hv.dp, hx.dp, webD_good U, webD_good T, by rw [eqv_web]; exact q⟩
theorem eqd_webs {K : PySem.W.Frag} {H : Hp} {QB : VK} {v x : V} {u t : Web} (hv : WebAt K H v u) (hx : WebAt K H x t) (U : WOk u) (T : WOk t) (q : QB (.bl (decide (u = t))) H) : rEqD K v x H QB :=
  ⟨_, _, hv.dp, hx.dp, webD_good U, webD_good T, by rw [eqv_web]; exact q⟩
theorem cut_nats (qs : List Nat) (n : Nat) : cutV (natsV qs) none (some (n : Nat)) = natsV (qs.take n) := by
  unfold cutV
  have e : HT.sIx (natsV qs).length (natsV qs).length (some ((n : Nat) : Int)) = min n (natsV qs).length := HT.sIx_nat _ _ n
  rw [HT.sIx_none, e, List.drop_zero, Nat.sub_zero, ← List.take_eq_take_min]
  unfold natsV
  rw [List.map_take]
end Cw

namespace Cw
open PySem PySem.Spec PyProof.Rows L2

/-! ### l.remove(x) where items are data of any depth; least and greatest of texts -/
section
variable {X : Cx}
def rRemD (K : PySem.W.Frag) : V → List V → Hp → VK → Prop := fun x xs H Q => ∃ (l : Addr) (ys : List V) (y : V) (d : PyData) (ds : List PyData) (j : Nat), x = V.ref l ∧ xs = [y] ∧ H l = some (.lst ys) ∧ DpAll K H ys ds ∧ Dp K H y d ∧
  SeqAt.shaped (.list ds) = true ∧ SeqAt.shaped d = true ∧ SeqAt.dataPlace ds d = some j ∧ Q .non (upd H l (.lst (ys.eraseIdx j)))
/-- by the library's own rule for data: the first equal one is gone -/
theorem mt_removeD (hu : X.A.units + 65 < cLine) : MtR X "list.remove" (rRemD X.K) := fun pins s σ H x xs v us Q I rx rxs ⟨l, ys, y, d, ds, j, e1, e2, hH, ha, hy, sl, sd, hj, q⟩ => by
  subst e1 e2
  obtain rfl : v = Value.ref l := rx
  obtain ⟨uy, eu, ry⟩ := rxs.one
  obtain ⟨big, its, n, rv, hlen, ho⟩ := I.lstM hH
  obtain ⟨cs, got⟩ := Dp.readsAll I ds _ its ha rv
  obtain ⟨bs, got2⟩ := Dp.reads I d y uy hy ry
  rw [eu]
  refine SeqAt.remove_list_data (vs := its.toArray) (xs := ds) (d := d) ⟨_, ho, rfl, n, rfl⟩ (by simpa using got) got2 (PyData.plainAll_of_canLay0 ds (SeqAt.canLay_of_shaped sl)) (PyData.plain_of_canLay0 d (SeqAt.canLay_of_shaped sd)) (room_in_shaped sd hu) hj (by simpa [← hlen] using big) ?_
  exact ⟨.non, upd H l (.lst (ys.eraseIdx j)), I.lset (its' := its.eraseIdx j) (f := fun zs => zs.eraseIdxIfInBounds j) hH ho (List.eraseIdxIfInBounds_toArray ..) (rv.eraseIdx j) (Nat.le_trans (List.length_eraseIdx_le ys j) big), rfl, q⟩
end

theorem cmp_gtS {prog : Program} {w : World} {A : Around} {P : Nat → Value → Prop} (val : Nat → Str) (hval : ∀ i v, P i v → ∃ t, v = .str (val i) t) :
    CmpOf prog w A .Gt P (fun i j => decide ((val j).cps.toList < (val i).cps.toList)) := fun i j vi vj s Q E hi hj h => by
  obtain ⟨t, rfl⟩ := hval i vi hi
  obtain ⟨u, rfl⟩ := hval j vj hj
  exact richCompare_gives (op := .Gt) (typeIs_str s _ t) (typeIs_str s _ u) F.slot_str_gt F.entry_str_gt (F.args_str_gt_2 _ _) (gives_str_gt _ _ t u) (fun x => nomatch x) h
theorem cmp_ltS {prog : Program} {w : World} {A : Around} {P : Nat → Value → Prop} (val : Nat → Str) (hval : ∀ i v, P i v → ∃ t, v = .str (val i) t) :
    CmpOf prog w A .Lt P (fun i j => decide ((val i).cps.toList < (val j).cps.toList)) := fun i j vi vj s Q E hi hj h => by
  obtain ⟨t, rfl⟩ := hval i vi hi
  obtain ⟨u, rfl⟩ := hval j vj hj
  exact richCompare_gives (op := .Lt) (typeIs_str s _ t) (typeIs_str s _ u) F.slot_str_lt F.entry_str_lt (F.args_str_lt_2 _ _) (gives_str_lt _ _ t u) (fun x => nomatch x) h
/-- two texts -/
def two (x y : Str) (i : Nat) : Str := if i = 0 then x else y
theorem two_at {x y : Str} {t u : Tok} {i : Nat} {v : Value} (h : (#[Value.str x t, Value.str y u] : Array Value)[i]? = some v) : ∃ t', v = .str (two x y i) t' := by
  match i, h with
  | 0, h => exact ⟨t, (Option.some.inj h).symm⟩
  | 1, h => exact ⟨u, (Option.some.inj h).symm⟩
  | i + 2, h => simp at h
theorem two_max {x y : Str} {t u : Tok} {v : Value} (h : (#[Value.str x t, Value.str y u] : Array Value)[argBest (fun i j => decide ((two x y j).cps.toList < (two x y i).cps.toList)) 1]? = some v) :
    ∃ t', v = .str (if x.cps.toList < y.cps.toList then y else x) t' := by
  by_cases hb : x.cps.toList < y.cps.toList
  · have e : argBest (fun i j => decide ((two x y j).cps.toList < (two x y i).cps.toList)) 1 = 1 := by simp [argBest, two, hb]
    rw [e] at h
    rw [if_pos hb]
    exact ⟨u, (Option.some.inj h).symm⟩
  · have e : argBest (fun i j => decide ((two x y j).cps.toList < (two x y i).cps.toList)) 1 = 0 := by simp [argBest, two, hb]
    rw [e] at h
    rw [if_neg hb]
    exact ⟨t, (Option.some.inj h).symm⟩
theorem two_min {x y : Str} {t u : Tok} {v : Value} (h : (#[Value.str x t, Value.str y u] : Array Value)[argBest (fun i j => decide ((two x y i).cps.toList < (two x y j).cps.toList)) 1]? = some v) :
    ∃ t', v = .str (if y.cps.toList < x.cps.toList then y else x) t' := by
  by_cases hb : y.cps.toList < x.cps.toList
  · have e : argBest (fun i j => decide ((two x y i).cps.toList < (two x y j).cps.toList)) 1 = 1 := by simp [argBest, two, hb]
    rw [e] at h
    rw [if_pos hb]
    exact ⟨u, (Option.some.inj h).symm⟩
  · have e : argBest (fun i j => decide ((two x y i).cps.toList < (two x y j).cps.toList)) 1 = 0 := by simp [argBest, two, hb]
    rw [e] at h
    rw [if_neg hb]
    exact ⟨t, (Option.some.inj h).symm⟩
section
variable {prog : Program} {w : World} {A : Around} {E : Value → Shared → Prop} {s : Shared} {x y : Str} {t u : Tok} {Q : Value → Shared → Prop}
/-- an iterator that was just laid over what stands at l: both are old, what was there ahead of s₂ is kept -/
theorem two_room {h : Heap} {o : Obj} {l : Addr} (hl : l < h.objs.size) : ∀ c ∈ [h.objs.size, l], c < (h.push o).objs.size := fun c hc => by
  rw [Heap.size_push]
  rcases List.mem_cons.mp hc with e | e
  · exact Nat.lt_succ_of_le (Nat.le_of_eq e)
  · rw [List.mem_singleton.mp e]; exact Nat.lt_succ_of_lt hl
theorem two_kept {g h h' : Heap} {o : Obj} (ext : ∀ b ob, g.get? b = some ob → h.get? b = some ob) (sz : g.objs.size ≤ h.objs.size) (k : ∀ b ob, b ∉ [h.objs.size] → (h.push o).get? b = some ob → h'.get? b = some ob) :
    ∀ b ob, g.get? b = some ob → h'.get? b = some ob := fun b ob e => k b ob (by have z := Heap.lt_size e; simp only [List.mem_singleton]; exact Nat.ne_of_lt (Nat.lt_of_lt_of_le z sz)) (Heap.get?_push_of_some _ (ext b ob e))
/-- the two texts as a tuple that is new, as a list that stands -/
theorem two_tup (v1 v2 : Value) : (s.heap.push { cls := .type "tuple", data := .seq #[v1, v2] }).IsTuple s.heap.objs.size #[v1, v2] := ⟨_, Heap.get?_push_size _ rfl, rfl, 0, rfl⟩
theorem max_twoS (hh : A.handled = none) (h : ∀ h' tk t', (∀ c o, s.heap.get? c = some o → h'.get? c = some o) → Q (.str (if x.cps.toList < y.cps.toList then y else x) t') { s with heap := h', toks := tk }) :
    wpAny (model prog w) A (call (.builtin "max") [.str x t, .str y u]) Q E s := by
  have T := two_tup (s := s) (Value.str x t) (Value.str y u)
  have lt : s.heap.objs.size < (s.heap.push { cls := .type "tuple", data := .seq #[Value.str x t, Value.str y u] }).objs.size := by rw [Heap.size_push]; exact Nat.lt_succ_self _
  exact call_max_two (wpAny_pyIter_tuple T ⟨_, [_, s.heap.objs.size], [_], _, _, _, _, rfl, Walks.tuple (A := A.in1) hh _ _ (Nat.ne_of_lt lt) _, ⟨⟨_, Heap.get?_push_size _ rfl, rfl, rfl⟩, T.push _⟩, two_room lt, Nat.succ_pos 1, cmp_gtS (two x y) (fun _ _ => two_at),
    fun v h' tk hP hk => (two_max hP).elim fun t' e => by subst e; exact h h' tk t' (two_kept (fun b o e => Heap.get?_push_of_some _ e) (Nat.le_of_lt lt) hk)⟩)
theorem min_twoS (hh : A.handled = none) (h : ∀ h' tk t', (∀ c o, s.heap.get? c = some o → h'.get? c = some o) → Q (.str (if y.cps.toList < x.cps.toList then y else x) t') { s with heap := h', toks := tk }) :
    wpAny (model prog w) A (call (.builtin "min") [.str x t, .str y u]) Q E s := by
  have T := two_tup (s := s) (Value.str x t) (Value.str y u)
  have lt : s.heap.objs.size < (s.heap.push { cls := .type "tuple", data := .seq #[Value.str x t, Value.str y u] }).objs.size := by rw [Heap.size_push]; exact Nat.lt_succ_self _
  exact call_min_two (wpAny_pyIter_tuple T ⟨_, [_, s.heap.objs.size], [_], _, _, _, _, rfl, Walks.tuple (A := A.in1) hh _ _ (Nat.ne_of_lt lt) _, ⟨⟨_, Heap.get?_push_size _ rfl, rfl, rfl⟩, T.push _⟩, two_room lt, Nat.succ_pos 1, cmp_ltS (two x y) (fun _ _ => two_at),
    fun v h' tk hP hk => (two_min hP).elim fun t' e => by subst e; exact h h' tk t' (two_kept (fun b o e => Heap.get?_push_of_some _ e) (Nat.le_of_lt lt) hk)⟩)
theorem max_listS {l : Addr} (hh : A.handled = none) (hl : s.heap.IsList l #[Value.str x t, Value.str y u]) (h : ∀ h' tk t', (∀ c o, s.heap.get? c = some o → h'.get? c = some o) → Q (.str (if x.cps.toList < y.cps.toList then y else x) t') { s with heap := h', toks := tk }) :
    wpAny (model prog w) A (call (.builtin "max") [.ref l]) Q E s := by
  have lt : l < s.heap.objs.size := hl.elim fun _ e => Heap.lt_size e.1
  exact call_max_walk (wpAny_pyIter_list hl ⟨_, [_, l], [_], _, _, _, _, rfl, Walks.list (A := A.in1) hh _ l (Nat.ne_of_lt lt) _, ⟨⟨_, Heap.get?_push_size _ rfl, rfl, rfl⟩, hl.push _⟩, two_room lt, Nat.succ_pos 1, cmp_gtS (two x y) (fun _ _ => two_at),
    fun v h' tk hP hk => (two_max hP).elim fun t' e => by subst e; exact h h' tk t' (two_kept (fun b o e => e) (Nat.le_refl _) hk)⟩)
theorem min_listS {l : Addr} (hh : A.handled = none) (hl : s.heap.IsList l #[Value.str x t, Value.str y u]) (h : ∀ h' tk t', (∀ c o, s.heap.get? c = some o → h'.get? c = some o) → Q (.str (if y.cps.toList < x.cps.toList then y else x) t') { s with heap := h', toks := tk }) :
    wpAny (model prog w) A (call (.builtin "min") [.ref l]) Q E s := by
  have lt : l < s.heap.objs.size := hl.elim fun _ e => Heap.lt_size e.1
  exact call_min_walk (wpAny_pyIter_list hl ⟨_, [_, l], [_], _, _, _, _, rfl, Walks.list (A := A.in1) hh _ l (Nat.ne_of_lt lt) _, ⟨⟨_, Heap.get?_push_size _ rfl, rfl, rfl⟩, hl.push _⟩, two_room lt, Nat.succ_pos 1, cmp_ltS (two x y) (fun _ _ => two_at),
    fun v h' tk hP hk => (two_min hP).elim fun t' e => by subst e; exact h h' tk t' (two_kept (fun b o e => e) (Nat.le_refl _) hk)⟩)
end
section
variable {X : Cx}
theorem plainL_is {h : Heap} {a : Addr} {its : Array Value} (p : PlainL h a its) : h.IsList a its := by
  obtain ⟨o, n, e, h1, h2, h3⟩ := p
  exact ⟨o, e, h1, n, h3⟩
theorem cr_max2S (hc : X.calm = true) : CallR X (.builtin "max") (fun xs H Q => ∃ x y : Str, xs = [.str x, .str y] ∧ Q (.str (if x.cps.toList < y.cps.toList then y else x)) H) := by
  intro pins s σ H xs us Q I r h
  obtain ⟨x, y, rfl, q⟩ := h
  obtain ⟨u, w', rfl, ⟨t, rfl⟩, ⟨t', rfl⟩⟩ := vals2 r
  exact max_twoS (I.ok.hd hc) fun h' tk t2 k => ⟨.str _, H, I.kept k, ⟨_, rfl⟩, q⟩
theorem cr_min2S (hc : X.calm = true) : CallR X (.builtin "min") (fun xs H Q => ∃ x y : Str, xs = [.str x, .str y] ∧ Q (.str (if y.cps.toList < x.cps.toList then y else x)) H) := by
  intro pins s σ H xs us Q I r h
  obtain ⟨x, y, rfl, q⟩ := h
  obtain ⟨u, w', rfl, ⟨t, rfl⟩, ⟨t', rfl⟩⟩ := vals2 r
  exact min_twoS (I.ok.hd hc) fun h' tk t2 k => ⟨.str _, H, I.kept k, ⟨_, rfl⟩, q⟩
theorem cr_maxLS (hc : X.calm = true) : CallR X (.builtin "max") (fun xs H Q => ∃ (a : Addr) (x y : Str), xs = [.ref a] ∧ SqL X.K H a [.str x, .str y] ∧ Q (.str (if x.cps.toList < y.cps.toList then y else x)) H) := by
  intro pins s σ H xs us Q I r h
  obtain ⟨a, x, y, rfl, hS, q⟩ := h
  obtain ⟨u, rfl, ru⟩ := vals1 r
  cases ru
  obtain ⟨its, rv, pl, _⟩ := I.list hS
  obtain ⟨u1, u2, rfl, ⟨t, rfl⟩, ⟨t', rfl⟩⟩ := rv.two
  exact max_listS (I.ok.hd hc) (plainL_is pl) fun h' tk t2 k => ⟨.str _, H, I.kept k, ⟨_, rfl⟩, q⟩
theorem cr_minLS (hc : X.calm = true) : CallR X (.builtin "min") (fun xs H Q => ∃ (a : Addr) (x y : Str), xs = [.ref a] ∧ SqL X.K H a [.str x, .str y] ∧ Q (.str (if y.cps.toList < x.cps.toList then y else x)) H) := by
  intro pins s σ H xs us Q I r h
  obtain ⟨a, x, y, rfl, hS, q⟩ := h
  obtain ⟨u, rfl, ru⟩ := vals1 r
  cases ru
  obtain ⟨its, rv, pl, _⟩ := I.list hS
  obtain ⟨u1, u2, rfl, ⟨t, rfl⟩, ⟨t', rfl⟩⟩ := rv.two
  exact min_listS (I.ok.hd hc) (plainL_is pl) fun h' tk t2 k => ⟨.str _, H, I.kept k, ⟨_, rfl⟩, q⟩
theorem vals_ix {xs : List V} {us : List Value} (hl : us.length = xs.length) (k : ∀ (j : Nat) (u : Value), us[j]? = some u → ∃ x, xs[j]? = some x ∧ RelV x u) : Vals xs us := by
  induction us generalizing xs with
  | nil =>
    obtain rfl : xs = [] := List.eq_nil_of_length_eq_zero hl.symm
    exact .nil
  | cons u us ih =>
    match xs, hl with
    | x :: xs, hl =>
      obtain ⟨y, e, r⟩ := k 0 u rfl
      obtain rfl : x = y := Option.some.inj e
      exact .cons r (ih (Nat.succ.inj hl) fun j v hj => k (j + 1) v hj)
/-- list(text): its signs -/
theorem cr_listStr (hc : X.calm = true) : CallR X (.type "list") (fun xs H Q => ∃ x : Str, xs = [.str x] ∧ x.length ≤ sizeLine ∧ ∀ l, H l = none → Q (.ref l) (upd H l (.lst (x.cps.toList.map fun c => V.str (sg c))))) := by
  intro pins s σ H xs us Q I r h
  obtain ⟨x, rfl, hl, q⟩ := h
  obtain ⟨u, rfl, ru⟩ := vals1 r
  obtain ⟨t, rfl⟩ := ru
  refine call_list_str (I.ok.hd hc) x t (fun h' tk acc' c' hk hS hit => ?_) (by exact hl)
  have nw : H s.heap.objs.size = none := I.hok.fresh (Nat.le_refl _)
  refine ⟨.ref s.heap.objs.size, _, I.laid (t' := tk) hk (Nat.le_refl _) ?_, rfl, q _ nw⟩
  obtain ⟨hz, hv⟩ := hit
  refine ⟨by rw [List.length_map]; exact hl, acc'.toList, c', vals_ix (by simp [hz]) (fun j u hj => ?_), by simpa using hS⟩
  rw [Array.getElem?_toList] at hj
  obtain ⟨c, k, e, rfl⟩ := hv j u hj
  exact ⟨.str (sg c), by rw [List.getElem?_map, Array.getElem?_toList, e]; rfl, _, rfl⟩
end
end Cw

namespace Cw
open PySem PySem.Spec PyProof.Rows L2
/-! ### counts: what two lists have in common -/
section
variable {α : Type} [DecidableEq α]
/-- how many of the first are in the second, one for one -/
def csum : List α → List α → Nat
  | [], _ => 0
  | x :: xs, ys => if x ∈ ys then csum xs (ys.erase x) + 1 else csum xs (ys.erase x)
/-- what is left of the second -/
def cleft : List α → List α → List α
  | [], ys => ys
  | x :: xs, ys => cleft xs (ys.erase x)
theorem cleft_snoc (x : α) : ∀ (xs ys : List α), cleft (xs ++ [x]) ys = (cleft xs ys).erase x
  | [], _ => rfl
  | _ :: xs, ys => cleft_snoc x xs _
theorem csum_snoc (x : α) : ∀ (xs ys : List α), csum (xs ++ [x]) ys = if x ∈ cleft xs ys then csum xs ys + 1 else csum xs ys
  | [], ys => by
    show (if x ∈ ys then 0 + 1 else 0) = if x ∈ ys then 0 + 1 else 0
    rfl
  | z :: xs, ys => by
    show (if z ∈ ys then csum (xs ++ [x]) (ys.erase z) + 1 else csum (xs ++ [x]) (ys.erase z)) = if x ∈ cleft xs (ys.erase z) then (if z ∈ ys then csum xs (ys.erase z) + 1 else csum xs (ys.erase z)) + 1 else (if z ∈ ys then csum xs (ys.erase z) + 1 else csum xs (ys.erase z))
    rw [csum_snoc x xs]
    split <;> split <;> rfl
theorem cleft_len : ∀ (xs ys : List α), (cleft xs ys).length ≤ ys.length
  | [], _ => Nat.le_refl _
  | x :: xs, ys => Nat.le_trans (cleft_len xs _) List.length_erase_le
theorem cleft_sub : ∀ {xs ys : List α} {z : α}, z ∈ cleft xs ys → z ∈ ys
  | [], _, _, h => h
  | _ :: _, _, _, h => List.mem_of_mem_erase (cleft_sub (xs := _) h)
theorem csum_le : ∀ (xs ys : List α), csum xs ys ≤ xs.length
  | [], _ => Nat.le_refl _
  | x :: xs, ys => by
    have := csum_le xs (ys.erase x)
    show (if x ∈ ys then csum xs (ys.erase x) + 1 else csum xs (ys.erase x)) ≤ xs.length + 1
    split <;> omega
end
section
variable {κ α : Type} [DecidableEq κ] [DecidableEq α] {key : α → κ} {kvs : List (κ × V)} {ys : List α}
/-- the dict counts ys -/
def CntIs (key : α → κ) (kvs : List (κ × V)) (ys : List α) : Prop := ∀ x, (valV kvs (key x)).getD (.int 0) = .int (ys.count x : Nat)
theorem CntIs.nil : CntIs key ([] : List (κ × V)) [] := fun _ => rfl
theorem CntIs.add (hk : ∀ x y, key x = key y → x = y) (h : CntIs key kvs ys) (x : α) : CntIs key (putK kvs (key x) (.int ((ys.count x : Nat) + 1))) (ys ++ [x]) := by
  intro z
  rw [valV_put, List.count_append]
  by_cases e : key z = key x
  · rw [if_pos e]
    have := hk _ _ e
    subst this
    rw [List.count_singleton_self]
    rfl
  · rw [if_neg e, h z]
    have e2 : ¬ x = z := fun w => e (by rw [w])
    rw [List.count_singleton, if_neg (by simpa using e2)]
    rfl
theorem CntIs.sub (hk : ∀ x y, key x = key y → x = y) (h : CntIs key kvs ys) {x : α} (hx : x ∈ ys) : CntIs key (putK kvs (key x) (.int ((ys.count x : Nat) - 1))) (ys.erase x) := by
  intro z
  rw [valV_put]
  have hp := List.count_pos_iff.mpr hx
  by_cases e : key z = key x
  · rw [if_pos e]
    have := hk _ _ e
    subst this
    rw [List.count_erase_self]
    show V.int _ = V.int _
    congr 1
    omega
  · rw [if_neg e, h z]
    have e2 : z ≠ x := fun w => e (by rw [w])
    rw [List.count_erase_of_ne e2]
theorem CntIs.there (h : CntIs key kvs ys) {x : α} (hx : x ∈ ys) : valV kvs (key x) = some (.int (ys.count x : Nat)) := by
  have z := h x
  have hp := List.count_pos_iff.mpr hx
  cases e : valV kvs (key x) with
  | some v => rw [e] at z; exact congrArg some z
  | none =>
    rw [e] at z
    have z' : (0 : Int) = ((ys.count x : Nat) : Int) := V.int.inj z
    omega
theorem putK_few (k : κ) (v : V) : (putK kvs k v).length ≤ kvs.length + 1 := by
  unfold putK
  split
  · rw [List.length_map]; omega
  · rw [List.length_append]; exact Nat.le_refl _
theorem putK_same {k : κ} {v w : V} (h : valV kvs k = some w) : (putK kvs k v).length = kvs.length := by
  unfold putK
  rw [valV_any, h, if_pos (show (some w).isSome = true from rfl), List.length_map]
end
section
variable {κ α : Type} [DecidableEq κ] [DecidableEq α] {key : α → κ} {kvs : List (κ × V)} {x y : List α} {i : Nat} {c : α}
theorem dec_in {p : Prop} {i : Decidable p} (e : decide p = true) : p := of_decide_eq_true e
theorem dec_out {p : Prop} {i : Decidable p} (e : ¬ decide p = true) : ¬ p := fun z => e (decide_eq_true z)
theorem cnt_in (h : (0 : Int) < ((cleft (x.take i) y).count c : Nat)) : c ∈ cleft (x.take i) y := List.count_pos_iff.mp (by omega)
theorem cnt_out (h : ¬ (0 : Int) < ((cleft (x.take i) y).count c : Nat)) : ¬ c ∈ cleft (x.take i) y := fun z => h (by have := List.count_pos_iff.mpr z; omega)
theorem csum_in (hc : x[i]? = some c) (hm : c ∈ cleft (x.take i) y) : csum (x.take (i + 1)) y = csum (x.take i) y + 1 := by
  rw [take_snoc hc, csum_snoc, if_pos hm]
theorem csum_out (hc : x[i]? = some c) (hm : ¬ c ∈ cleft (x.take i) y) : csum (x.take (i + 1)) y = csum (x.take i) y := by
  rw [take_snoc hc, csum_snoc, if_neg hm]
theorem cleft_in (hc : x[i]? = some c) : cleft (x.take (i + 1)) y = (cleft (x.take i) y).erase c := by
  rw [take_snoc hc, cleft_snoc]
theorem cleft_out (hc : x[i]? = some c) (hm : ¬ c ∈ cleft (x.take i) y) : cleft (x.take (i + 1)) y = cleft (x.take i) y := by
  rw [take_snoc hc, cleft_snoc, List.erase_of_not_mem hm]
theorem CntIs.turn (hk : ∀ x y, key x = key y → x = y) (h : CntIs key kvs (cleft (x.take i) y)) (hc : x[i]? = some c) (hm : c ∈ cleft (x.take i) y) :
    CntIs key (putK kvs (key c) (.int (((cleft (x.take i) y).count c : Nat) - 1))) (cleft (x.take (i + 1)) y) := by
  rw [cleft_in hc]
  exact h.sub hk hm
end
/-- a sign's key -/
def kS (c : Nat) : Key := .inr (sg c)
theorem kS_inj : ∀ c d : Nat, kS c = kS d → c = d := fun c d h => sg_inj.mp (Sum.inr.inj h)
abbrev Tr3 := Nat × Nat × Nat
def kT (t : Tr3) : List Key := [.inr (sg t.1), .inr (sg t.2.1), .inr (sg t.2.2)]
theorem kT_inj : ∀ s t : Tr3, kT s = kT t → s = t := fun s t h => by
  obtain ⟨a, b, c⟩ := s
  obtain ⟨d, e, f⟩ := t
  simp only [kT, List.cons.injEq, Sum.inr.injEq, and_true] at h
  rw [sg_inj.mp h.1, sg_inj.mp h.2.1, sg_inj.mp h.2.2]
def tr3V (t : Tr3) : List V := [.str (sg t.1), .str (sg t.2.1), .str (sg t.2.2)]
def TriAt (H : Hp) (v : V) (t : Tr3) : Prop := ∃ a, v = .ref a ∧ H a = some (.tup (tr3V t))
theorem TriAt.same {H H' : Hp} {v : V} {t : Tr3} (x : TriAt H v t) (s : Same H H') : TriAt H' v t := by
  obtain ⟨a, e, q⟩ := x
  exact ⟨a, e, s _ _ q⟩
theorem TriAt.put {H : Hp} {v : V} {t : Tr3} {b : Addr} {o : HO} (x : TriAt H v t) (n : ∀ xs, H b ≠ some (.tup xs)) : TriAt (upd H b o) v t := by
  obtain ⟨a, e, q⟩ := x
  refine ⟨a, e, ?_⟩
  rw [upd_ne (fun z => n _ (by rw [← z]; exact q))]
  exact q
/-- data of signs, of triples -/
def triD (t : Tr3) : PyData := .tuple [.str (sg t.1), .str (sg t.2.1), .str (sg t.2.2)]
theorem TriAt.dp {K : PySem.W.Frag} {H : Hp} {v : V} {t : Tr3} (x : TriAt H v t) : Dp K H v (triD t) := by
  obtain ⟨a, rfl, q⟩ := x
  exact .tup (SqT.of q) (.cons (.str _) (.cons (.str _) (.cons (.str _) .nil)))
theorem dpa_tri {K : PySem.W.Frag} {H : Hp} {vs : List V} {ts : List Tr3} (h : Paired (TriAt H) vs ts) : DpAll K H vs (ts.map triD) := by
  induction h with
  | nil => exact .nil
  | cons a _ ih => exact .cons a.dp ih
theorem tri_shaped {t : Tr3} (h : Ltr t.1 ∧ Ltr t.2.1 ∧ Ltr t.2.2) : SeqAt.shaped (triD t) = true := by
  have h1 := str_ok t.1 (by have := h.1.2; omega)
  have h2 := str_ok t.2.1 (by have := h.2.1.2; omega)
  have h3 := str_ok t.2.2 (by have := h.2.2.2; omega)
  simp [SeqAt.shaped, triD, PyData.canLay0, PyData.canLayAll0, PyData.depth, PyData.depthAll, h1, h2, h3]
theorem tris_shaped {ts : List Tr3} (h : ∀ t ∈ ts, Ltr t.1 ∧ Ltr t.2.1 ∧ Ltr t.2.2) : SeqAt.shaped (.list (ts.map triD)) = true := shaped_list (k := 1) (by decide) fun d hd => by
  obtain ⟨t, ht, rfl⟩ := List.mem_map.mp hd
  have z := h t ht
  have h1 := str_ok t.1 (by have := z.1.2; omega)
  have h2 := str_ok t.2.1 (by have := z.2.1.2; omega)
  have h3 := str_ok t.2.2 (by have := z.2.2.2; omega)
  exact ⟨by simp [triD, PyData.canLay0, PyData.canLayAll0, h1, h2, h3], by simp [triD, PyData.depth, PyData.depthAll]⟩
def sgD (c : Nat) : PyData := .str (sg c)
theorem dpa_sg {K : PySem.W.Frag} {H : Hp} : ∀ cs : List Nat, DpAll K H (cs.map fun c => V.str (sg c)) (cs.map sgD)
  | [] => .nil
  | _ :: r => .cons (.str _) (dpa_sg r)
theorem sg_shaped {c : Nat} (h : Ltr c) : SeqAt.shaped (sgD c) = true := by
  have h1 := str_ok c (by have := h.2; omega)
  simp [SeqAt.shaped, sgD, PyData.canLay0, PyData.depth, h1]
theorem sgs_shaped {cs : List Nat} (h : ∀ c ∈ cs, Ltr c) : SeqAt.shaped (.list (cs.map sgD)) = true := shaped_list (k := 0) (by decide) fun d hd => by
  obtain ⟨c, hc, rfl⟩ := List.mem_map.mp hd
  have h1 := str_ok c (by have := (h c hc).2; omega)
  exact ⟨by simp [sgD, PyData.canLay0, h1], by simp [sgD, PyData.depth]⟩
theorem sgD_eqv (c d : Nat) : PyData.eqv (sgD c) (sgD d) = decide (c = d) := by
  show ((sg c) == (sg d)) = _
  by_cases e : c = d
  · subst e; simp
  · rw [decide_eq_false e]
    exact beq_eq_false_iff_ne.mpr fun z => e (sg_inj.mp z)
theorem triD_eqv (s t : Tr3) : PyData.eqv (triD s) (triD t) = decide (s = t) := by
  obtain ⟨a, b, c⟩ := s
  obtain ⟨d, e, f⟩ := t
  have h : PyData.eqv (triD (a, b, c)) (triD (d, e, f)) = ((PyData.eqv (sgD a) (sgD d)) && ((PyData.eqv (sgD b) (sgD e)) && ((PyData.eqv (sgD c) (sgD f)) && true))) := by simp only [triD, sgD, PyData.eqv, PyData.eqvAll]
  rw [h, sgD_eqv, sgD_eqv, sgD_eqv, Bool.eq_iff_iff]
  simp
/-- the first place of x -/
theorem first_of {α : Type} [DecidableEq α] (f : α → PyData) (hf : ∀ x y, PyData.eqv (f x) (f y) = decide (x = y)) {x : α} : ∀ {ys : List α}, x ∈ ys → ∃ j, SeqAt.dataPlace (ys.map f) (f x) = some j ∧ ys[j]? = some x ∧ ys.eraseIdx j = ys.erase x
  | [], h => by simp at h
  | a :: r, h => by
    by_cases e : a = x
    · exact ⟨0, by simp [SeqAt.dataPlace, List.findIdx?_cons, hf, e], by rw [e]; rfl, by rw [e, List.erase_cons_head]; rfl⟩
    · obtain ⟨j, h1, h2, h3⟩ := first_of f hf ((List.mem_cons.mp h).resolve_left fun z => e z.symm)
      refine ⟨j + 1, ?_, h2, by rw [List.erase_cons_tail (by simpa using e), ← h3]; rfl⟩
      simp only [SeqAt.dataPlace, List.map_cons, List.findIdx?_cons, hf, e] at h1 ⊢
      simp [h1]
theorem any_mem {α : Type} [DecidableEq α] (f : α → PyData) (hf : ∀ x y, PyData.eqv (f x) (f y) = decide (x = y)) (x : α) (ys : List α) : ((ys.map f).any fun z => PyData.eqv z (f x)) = decide (x ∈ ys) := by
  rw [Bool.eq_iff_iff, List.any_eq_true, decide_eq_true_eq]
  constructor
  · rintro ⟨z, hz, e⟩
    obtain ⟨y, hy, rfl⟩ := List.mem_map.mp hz
    rw [hf, decide_eq_true_eq] at e
    rw [← e]; exact hy
  · intro h
    exact ⟨f x, List.mem_map.mpr ⟨x, h, rfl⟩, by rw [hf]; exact decide_eq_true rfl⟩
/-- x is taken out of the list -/
theorem rem_of {K : PySem.W.Frag} {H : Hp} {l : Addr} {Q : VK} {α : Type} [DecidableEq α] (f : α → PyData) (hf : ∀ x y, PyData.eqv (f x) (f y) = decide (x = y)) {x : α} {ys : List α} {vs : List V} {v : V}
    (hx : x ∈ ys) (hl : H l = some (.lst vs)) (hv : DpAll K H vs (ys.map f)) (hd : Dp K H v (f x)) (s1 : SeqAt.shaped (.list (ys.map f)) = true) (s2 : SeqAt.shaped (f x) = true)
    (q : ∀ j, ys[j]? = some x → ys.eraseIdx j = ys.erase x → Q .non (upd H l (.lst (vs.eraseIdx j)))) : rRemD K (.ref l) [v] H Q := by
  obtain ⟨j, h1, h2, h3⟩ := first_of f hf hx
  exact ⟨l, vs, v, f x, ys.map f, j, rfl, rfl, hl, hv, hd, s1, s2, h1, q j h2 h3⟩
theorem Paired.eraseIdx {α β : Type} {F : α → β → Prop} : ∀ {xs : List α} {ys : List β} (j : Nat), Paired F xs ys → Paired F (xs.eraseIdx j) (ys.eraseIdx j)
  | _, _, _, .nil => .nil
  | _, _, 0, .cons _ t => t
  | _, _, j + 1, .cons r t => .cons r (Paired.eraseIdx j t)
theorem map_eraseIdx {α β : Type} (f : α → β) : ∀ (ns : List α) (j : Nat), (ns.map f).eraseIdx j = (ns.eraseIdx j).map f
  | [], _ => rfl
  | _ :: _, 0 => rfl
  | n :: r, j + 1 => by
    show f n :: (r.map f).eraseIdx j = f n :: (r.eraseIdx j).map f
    rw [map_eraseIdx f r j]
/-! ### a tie's three letters -/
def tri (w : Web) (t : Tie) : Tr3 :=
  let a := w.1.getD t.1 0
  let b := w.1.getD t.2.1 0
  (t.2.2, if b < a then b else a, if a < b then b else a)
def tris (w : Web) : List Tr3 := w.2.map (tri w)
theorem tri_ok {w : Web} (W : WOk w) {t : Tie} (ht : t ∈ w.2) : Ltr (tri w t).1 ∧ Ltr (tri w t).2.1 ∧ Ltr (tri w t).2.2 := by
  obtain ⟨h1, h2, h3⟩ := W.ends t ht
  have k : ∀ i, i < w.1.length → Ltr (w.1.getD i 0) := fun i hi => by
    rw [List.getD_eq_getElem?_getD, List.getElem?_eq_getElem hi]
    exact W.kinds _ (List.getElem_mem hi)
  have k1 := k t.1 (by omega)
  have k2 := k t.2.1 h2
  refine ⟨h3, ?_, ?_⟩
  · show Ltr (if w.1.getD t.2.1 0 < w.1.getD t.1 0 then w.1.getD t.2.1 0 else w.1.getD t.1 0)
    split <;> assumption
  · show Ltr (if w.1.getD t.1 0 < w.1.getD t.2.1 0 then w.1.getD t.2.1 0 else w.1.getD t.1 0)
    split <;> assumption
theorem tris_ok {w : Web} (W : WOk w) : ∀ t ∈ tris w, Ltr t.1 ∧ Ltr t.2.1 ∧ Ltr t.2.2 := fun t ht => by
  obtain ⟨z, hz, rfl⟩ := List.mem_map.mp ht
  exact tri_ok W hz
theorem ite_sg (a b c d : Nat) : (if (sg a).cps.toList < (sg b).cps.toList then V.str (sg c) else V.str (sg d)) = V.str (sg (if a < b then c else d)) := by
  have h : ((sg a).cps.toList < (sg b).cps.toList) = (a < b) := by
    have z := sg_lt a b
    rw [decide_eq_decide] at z
    exact propext z
  by_cases e : a < b
  · rw [if_pos e, if_pos (by rw [h]; exact e)]
  · rw [if_neg e, if_neg (by rw [h]; exact e)]
theorem ite_sgS (a b c d : Nat) : (if (sg a).cps.toList < (sg b).cps.toList then sg c else sg d) = sg (if a < b then c else d) := by
  have h : ((sg a).cps.toList < (sg b).cps.toList) = (a < b) := by
    have z := sg_lt a b
    rw [decide_eq_decide] at z
    exact propext z
  by_cases e : a < b
  · rw [if_pos e, if_pos (by rw [h]; exact e)]
  · rw [if_neg e, if_neg (by rw [h]; exact e)]
/-- the three letters as they come -/
theorem tri_V (u : Web) (t : Tie) : some (HO.tup [V.str (sg t.2.2), V.str (if (sg (u.1.getD t.2.1 0)).cps.toList < (sg (u.1.getD t.1 0)).cps.toList then sg (u.1.getD t.2.1 0) else sg (u.1.getD t.1 0)),
    V.str (if (sg (u.1.getD t.1 0)).cps.toList < (sg (u.1.getD t.2.1 0)).cps.toList then sg (u.1.getD t.2.1 0) else sg (u.1.getD t.1 0))]) = some (HO.tup (tr3V (tri u t))) := by
  rw [ite_sgS, ite_sgS]
  rfl
/-- a list of a web's letters of three, at another place than E -/
def TLs (H : Hp) (E : Addr) (o : V) (u : Web) : Prop := ∃ p xs, o = V.ref p ∧ p ≠ E ∧ H p = some (.lst xs) ∧ Paired (TriAt H) xs (tris u)
theorem TLs.same {H H' : Hp} {E : Addr} {o : V} {u : Web} (x : TLs H E o u) (s : Same H H') : TLs H' E o u := by
  obtain ⟨p, xs, e, n, h, q⟩ := x
  exact ⟨p, xs, e, n, s _ _ h, Paired.imp q fun _ _ z => z.same s⟩
theorem TLs.put {H : Hp} {E : Addr} {o : V} {u : Web} {ys ys' : List V} (x : TLs H E o u) (e : H E = some (.lst ys)) : TLs (upd H E (.lst ys')) E o u := by
  obtain ⟨p, xs, e1, n, h, q⟩ := x
  exact ⟨p, xs, e1, n, by rw [upd_ne n]; exact h, Paired.imp q fun _ _ z => z.put fun zs zz => by rw [e] at zz; cases zz⟩
theorem _root_.PySem.Paired.two {α β : Type} {F : α → β → Prop} {xs : List α} {a b : β} (h : Paired F xs [a, b]) : ∃ x y, xs = [x, y] ∧ F x a ∧ F y b := by
  cases h with
  | cons r t =>
    cases t with
    | cons r2 t2 =>
      cases t2
      exact ⟨_, _, rfl, r, r2⟩
end Cw

/-! what two lists have in common, asked otherwise; sums; degrees by layers -/
namespace Cw
open PySem PySem.Spec PyProof.Rows L2
section
variable {α : Type} [DecidableEq α]
theorem csum_cons (x : α) (xs ys : List α) : csum (x :: xs) ys = if x ∈ ys then csum xs (ys.erase x) + 1 else csum xs (ys.erase x) := rfl
theorem csum_cons_r (y : α) : ∀ (xs ys : List α), csum xs (y :: ys) = if y ∈ xs then csum (xs.erase y) ys + 1 else csum xs ys
  | [], ys => by rw [if_neg (by simp)]; rfl
  | x :: xs, ys => by
    rw [csum_cons]
    by_cases e : x = y
    · subst e
      rw [if_pos List.mem_cons_self, if_pos List.mem_cons_self, List.erase_cons_head, List.erase_cons_head]
    · have e' : ¬ y = x := fun z => e z.symm
      rw [List.erase_cons_tail (by simpa using e'), csum_cons_r y xs (ys.erase x), List.erase_cons_tail (by simpa using e), csum_cons, csum_cons]
      have m1 : (x ∈ y :: ys) ↔ x ∈ ys := by simp [e]
      have m2 : (y ∈ x :: xs) ↔ y ∈ xs := by simp [e']
      by_cases h1 : x ∈ ys <;> by_cases h2 : y ∈ xs <;> simp [m1, m2, h1, h2]
theorem csum_comm : ∀ (xs ys : List α), csum xs ys = csum ys xs
  | [], ys => by
    induction ys with
    | nil => rfl
    | cons y ys ih => rw [csum_cons, if_neg (by simp)]; exact ih
  | x :: xs, ys => by
    rw [csum_cons, csum_cons_r]
    by_cases h : x ∈ ys
    · rw [if_pos h, if_pos h, csum_comm xs]
    · rw [if_neg h, if_neg h, List.erase_of_not_mem h, csum_comm xs]
theorem csum_perm {xs xs' : List α} (p : xs.Perm xs') : ∀ ys : List α, csum xs ys = csum xs' ys := by
  induction p with
  | nil => exact fun _ => rfl
  | cons x _ ih =>
    intro ys
    rw [csum_cons, csum_cons, ih]
  | swap x y l =>
    intro ys
    by_cases e : x = y
    · rw [e]
    · have e' : ¬ y = x := fun z => e z.symm
      rw [csum_cons, csum_cons, csum_cons, csum_cons, List.erase_comm]
      have m1 : (x ∈ ys.erase y) ↔ x ∈ ys := List.mem_erase_of_ne e
      have m2 : (y ∈ ys.erase x) ↔ y ∈ ys := List.mem_erase_of_ne e'
      by_cases h1 : x ∈ ys <;> by_cases h2 : y ∈ ys <;> simp [m1, m2, h1, h2]
  | trans _ _ h1 h2 => exact fun ys => (h1 ys).trans (h2 ys)
theorem csum_self : ∀ xs : List α, csum xs xs = xs.length
  | [] => rfl
  | x :: xs => by rw [csum_cons, if_pos List.mem_cons_self, List.erase_cons_head, csum_self xs]; rfl
theorem csum_le_r (xs ys : List α) : csum xs ys ≤ ys.length := by rw [csum_comm]; exact csum_le ys xs
theorem csum_rep (c : α) : ∀ m n : Nat, csum (List.replicate m c) (List.replicate n c) = min m n
  | 0, n => by show 0 = _; omega
  | m + 1, 0 => by rw [csum_comm]; show 0 = _; omega
  | m + 1, n + 1 => by
    rw [List.replicate_succ, List.replicate_succ, csum_cons, if_pos List.mem_cons_self, List.erase_cons_head, csum_rep c m n]
    omega
theorem csum_more (x : α) (xs ys : List α) : csum xs ys ≤ csum (xs ++ [x]) ys ∧ csum (xs ++ [x]) ys ≤ csum xs ys + 1 := by
  rw [csum_snoc]
  split <;> omega
theorem csum_less {xs : List α} {i : Nat} (h : i < xs.length) (ys : List α) : csum (xs.eraseIdx i) ys ≤ csum xs ys ∧ csum xs ys ≤ csum (xs.eraseIdx i) ys + 1 := by
  have p : xs.Perm (xs.eraseIdx i ++ [xs[i]]) := ((erase_perm xs i h).symm).trans (List.perm_append_comm (l₁ := [xs[i]]))
  rw [csum_perm p]
  exact csum_more _ _ _
end
/-! ### sums -/
section
variable {α β : Type}
def sumN (l : List α) (f : α → Nat) : Nat := (l.map f).sum
theorem sumN_nil (f : α → Nat) : sumN [] f = 0 := rfl
theorem sumN_cons (x : α) (l : List α) (f : α → Nat) : sumN (x :: l) f = f x + sumN l f := by unfold sumN; rw [List.map_cons, List.sum_cons]
theorem sumN_app (l m : List α) (f : α → Nat) : sumN (l ++ m) f = sumN l f + sumN m f := by unfold sumN; rw [List.map_append, List.sum_append]
theorem sumN_le {f g : α → Nat} : ∀ {l : List α}, (∀ x ∈ l, f x ≤ g x) → sumN l f ≤ sumN l g
  | [], _ => Nat.le_refl _
  | x :: l, h => by
    rw [sumN_cons, sumN_cons]
    have := h x List.mem_cons_self
    have := sumN_le (l := l) fun y hy => h y (List.mem_cons_of_mem _ hy)
    omega
theorem sumN_congr {f g : α → Nat} {l : List α} (h : ∀ x ∈ l, f x = g x) : sumN l f = sumN l g :=
  Nat.le_antisymm (sumN_le fun x hx => Nat.le_of_eq (h x hx)) (sumN_le fun x hx => Nat.le_of_eq (h x hx).symm)
theorem sumN_add (f g : α → Nat) : ∀ l : List α, sumN l (fun x => f x + g x) = sumN l f + sumN l g
  | [] => rfl
  | x :: l => by
    rw [sumN_cons, sumN_cons, sumN_cons, sumN_add f g l]
    omega
theorem sumN_zero {f : α → Nat} {l : List α} (h : ∀ x ∈ l, f x = 0) : sumN l f = 0 := by
  rw [sumN_congr h]
  induction l with
  | nil => rfl
  | cons x l ih => rw [sumN_cons, ih fun y hy => h y (List.mem_cons_of_mem _ hy)]
theorem sumN_swap (f : α → β → Nat) (m : List β) : ∀ l : List α, sumN l (fun x => sumN m (f x)) = sumN m (fun y => sumN l fun x => f x y)
  | [] => (sumN_zero fun _ _ => rfl).symm
  | x :: l => by
    rw [sumN_cons, sumN_swap f m l, ← sumN_add]
    exact sumN_congr fun y _ => (sumN_cons x l fun z => f z y).symm
theorem sumN_perm {l m : List α} (p : l.Perm m) (f : α → Nat) : sumN l f = sumN m f := by
  induction p with
  | nil => rfl
  | cons x _ ih => rw [sumN_cons, sumN_cons, ih]
  | swap x y l => rw [sumN_cons, sumN_cons, sumN_cons, sumN_cons]; omega
  | trans _ _ h1 h2 => exact h1.trans h2
theorem sumN_filter (p : α → Bool) (f : α → Nat) : ∀ l : List α, sumN l f = sumN (l.filter p) f + sumN (l.filter fun x => !p x) f
  | [] => rfl
  | x :: l => by
    rw [sumN_cons, sumN_filter p f l]
    cases h : p x with
    | true => rw [List.filter_cons_of_pos h, List.filter_cons_of_neg (by rw [h]; decide), sumN_cons]; omega
    | false => rw [List.filter_cons_of_neg (by rw [h]; decide), List.filter_cons_of_pos (by rw [h]; decide), sumN_cons]; omega
/-- over the keys that are there, or over all -/
theorem sumN_keys [DecidableEq α] {ks A : List α} (nk : ks.Nodup) (nA : A.Nodup) (sub : ∀ x ∈ ks, x ∈ A) {f : α → Nat} (z : ∀ x, x ∉ ks → f x = 0) : sumN ks f = sumN A f := by
  rw [sumN_filter (fun x => decide (x ∈ ks)) f A, sumN_zero (l := A.filter fun x => !decide (x ∈ ks)) fun x hx => z x (by simpa using (List.mem_filter.mp hx).2), Nat.add_zero]
  refine sumN_perm ((List.perm_ext_iff_of_nodup nk (nA.filter _)).mpr fun x => ?_) f
  rw [List.mem_filter, decide_eq_true_iff]
  exact ⟨fun h => ⟨sub x h, h⟩, fun h => h.2⟩
end
theorem sumN_one {A : List Nat} (nA : A.Nodup) {a : Nat} (ha : a ∈ A) : sumN A (fun x => if x = a then 1 else 0) = 1 := by
  rw [← sumN_keys (ks := [a]) (by simp) nA (by simpa using ha) fun x hx => if_neg (by simpa using hx), sumN_cons, sumN_nil, if_pos rfl]
theorem sumN_below (m : Nat) : ∀ T, m ≤ T → sumN (List.range T) (fun t => if t + 1 ≤ m then 1 else 0) = m := by
  intro T
  induction T with
  | zero => intro h; have : m = 0 := by omega
            subst this; rfl
  | succ T ih =>
    intro h
    rw [List.range_succ, sumN_app, sumN_cons, sumN_nil]
    by_cases e : T + 1 ≤ m
    · have em : m = T + 1 := by omega
      subst em
      rw [if_pos (by omega), sumN_congr (g := fun _ => 1) fun t ht => if_pos (by have := List.mem_range.mp ht; omega)]
      have : ∀ n, sumN (List.range n) (fun _ => 1) = n := fun n => by
        induction n with
        | zero => rfl
        | succ n ih => rw [List.range_succ, sumN_app, ih]; rfl
      rw [this]
    · rw [if_neg e, ih (by omega)]; rfl
/-! ### falling lists, layer by layer -/
def zmin (xs ys : List Nat) : Nat := sumN (xs.zip ys) fun p => min p.1 p.2
def above (xs : List Nat) (t : Nat) : Nat := xs.countP fun x => decide (t + 1 ≤ x)
theorem above_cons (x : Nat) (xs : List Nat) (t : Nat) : above (x :: xs) t = above xs t + if t + 1 ≤ x then 1 else 0 := by
  unfold above
  rw [List.countP_cons]
  simp
theorem above_none {xs : List Nat} {t : Nat} (h : ∀ x ∈ xs, x ≤ t) : above xs t = 0 := List.countP_eq_zero.mpr fun x hx => by have := h x hx; simp; omega
theorem zmin_layers {T : Nat} : ∀ {xs ys : List Nat}, xs.Pairwise (· ≥ ·) → ys.Pairwise (· ≥ ·) → (∀ x ∈ xs, x ≤ T) → zmin xs ys = sumN (List.range T) fun t => min (above xs t) (above ys t)
  | [], ys, _, _, _ => (sumN_zero fun t _ => by show min 0 _ = 0; omega).symm
  | x :: xs, [], _, _, _ => by
    rw [sumN_zero (l := List.range T) fun t _ => by show min _ 0 = 0; omega]
    rfl
  | x :: xs, y :: ys, hx, hy, hT => by
    have r := zmin_layers (List.pairwise_cons.mp hx).2 (List.pairwise_cons.mp hy).2 fun z hz => hT z (List.mem_cons_of_mem _ hz)
    have e : zmin (x :: xs) (y :: ys) = min x y + zmin xs ys := by unfold zmin; rw [List.zip_cons_cons, sumN_cons]
    have hm : min x y ≤ T := by have := hT x List.mem_cons_self; omega
    rw [e, r]
    refine (congrArg (· + _) (sumN_below (min x y) T hm).symm).trans ?_
    rw [← sumN_add]
    refine sumN_congr fun t _ => ?_
    rw [above_cons, above_cons]
    by_cases h1 : t + 1 ≤ x
    · by_cases h2 : t + 1 ≤ y
      · rw [if_pos h1, if_pos h2, if_pos (by omega)]; omega
      · have z : above ys t = 0 := above_none fun v hv => by have := (List.pairwise_cons.mp hy).1 v hv; omega
        rw [if_neg h2, if_neg (by omega), z]; omega
    · have z : above xs t = 0 := above_none fun v hv => by have := (List.pairwise_cons.mp hx).1 v hv; omega
      rw [if_neg h1, if_neg (by omega), z]; omega
/-! ### webs: how many neighbours the places of a kind have -/
def deg (w : Web) (p : Nat) : Nat := (nb w.2 p).length
/-- for each place its kind and how many neighbours it has -/
def kdL (w : Web) : List (Nat × Nat) := (List.range w.1.length).map fun p => (w.1.getD p 0, deg w p)
def dOf (ps : List (Nat × Nat)) (c : Nat) : List Nat := (ps.filter fun x => decide (x.1 = c)).map (·.2)
theorem dOf_snoc (ps : List (Nat × Nat)) (x : Nat × Nat) (c : Nat) : dOf (ps ++ [x]) c = dOf ps c ++ if x.1 = c then [x.2] else [] := by
  unfold dOf
  rw [List.filter_append, List.map_append]
  by_cases h : x.1 = c
  · rw [if_pos h, List.filter_cons_of_pos (by simpa using h)]; rfl
  · rw [if_neg h, List.filter_cons_of_neg (by simpa using h)]; rfl
def cnt (ps : List (Nat × Nat)) (c t : Nat) : Nat := ps.countP fun x => decide (x.1 = c ∧ t + 1 ≤ x.2)
theorem above_dOf (c t : Nat) : ∀ ps : List (Nat × Nat), above (dOf ps c) t = cnt ps c t
  | [] => rfl
  | x :: ps => by
    unfold cnt
    rw [List.countP_cons]
    have r := above_dOf c t ps
    unfold cnt at r
    unfold dOf at r ⊢
    by_cases h : x.1 = c
    · rw [List.filter_cons_of_pos (by simpa using h), List.map_cons, above_cons, r]
      by_cases h2 : t + 1 ≤ x.2 <;> simp [h, h2]
    · rw [List.filter_cons_of_neg (by simpa using h), r]
      simp [h]
theorem above_perm {xs ys : List Nat} (p : xs.Perm ys) (t : Nat) : above xs t = above ys t := p.countP_eq _
@[irreducible] def lets : List Nat := List.range 123
@[irreducible] def lays : List Nat := List.range 1600
theorem lets_mem {c : Nat} : c ∈ lets ↔ c < 123 := by unfold lets; exact List.mem_range
theorem lets_nodup : lets.Nodup := by unfold lets; exact List.nodup_range
theorem lays_below {m : Nat} (h : m ≤ 1600) : sumN lays (fun t => if t + 1 ≤ m then 1 else 0) = m := by unfold lays; exact sumN_below m 1600 h
theorem zmin_lays {xs ys : List Nat} (hx : xs.Pairwise (· ≥ ·)) (hy : ys.Pairwise (· ≥ ·)) (h : ∀ x ∈ xs, x ≤ 1600) : zmin xs ys = sumN lays fun t => min (above xs t) (above ys t) := by
  unfold lays; exact zmin_layers hx hy h
def degS (ps qs : List (Nat × Nat)) : Nat := sumN lets fun c => sumN lays fun t => min (cnt ps c t) (cnt qs c t)
def degB (u v : Web) : Nat := degS (kdL u) (kdL v) / 2
theorem degS_comm (ps qs : List (Nat × Nat)) : degS ps qs = degS qs ps := sumN_congr fun c _ => sumN_congr fun t _ => Nat.min_comm _ _
theorem degS_congr {ps ps' qs : List (Nat × Nat)} (h : ∀ c t, cnt ps c t = cnt ps' c t) : degS ps qs = degS ps' qs := sumN_congr fun c _ => sumN_congr fun t _ => by rw [h]
theorem degS_perm {ps ps' : List (Nat × Nat)} (p : ps.Perm ps') (qs : List (Nat × Nat)) : degS ps qs = degS ps' qs := degS_congr fun c t => p.countP_eq _
theorem degS_bare (ps qs : List (Nat × Nat)) (c : Nat) : degS (ps ++ [(c, 0)]) qs = degS ps qs := degS_congr fun d t => by
  unfold cnt
  rw [List.countP_append]
  simp
/-- all degrees together -/
def tot (ps : List (Nat × Nat)) : Nat := sumN ps (·.2)
theorem cnt_cons (x : Nat × Nat) (ps : List (Nat × Nat)) (c t : Nat) : cnt (x :: ps) c t = cnt ps c t + if x.1 = c ∧ t + 1 ≤ x.2 then 1 else 0 := by
  unfold cnt
  rw [List.countP_cons]
  simp
theorem cnt_tot : ∀ {ps : List (Nat × Nat)}, (∀ x ∈ ps, x.1 < 123 ∧ x.2 ≤ 1600) → sumN lets (fun c => sumN lays fun t => cnt ps c t) = tot ps
  | [], _ => sumN_zero fun c _ => sumN_zero fun t _ => rfl
  | x :: ps, h => by
    obtain ⟨h1, h2⟩ := h x List.mem_cons_self
    have r := cnt_tot (ps := ps) fun y hy => h y (List.mem_cons_of_mem _ hy)
    have e1 : ∀ c, sumN lays (fun t => cnt (x :: ps) c t) = (sumN lays fun t => cnt ps c t) + if c = x.1 then x.2 else 0 := fun c => by
      have e0 : sumN lays (fun t => cnt (x :: ps) c t) = sumN lays fun t => cnt ps c t + if x.1 = c ∧ t + 1 ≤ x.2 then 1 else 0 := sumN_congr fun t _ => cnt_cons x ps c t
      rw [e0, sumN_add (fun t => cnt ps c t) (fun t => if x.1 = c ∧ t + 1 ≤ x.2 then 1 else 0) lays]
      congr 1
      by_cases e : c = x.1
      · have e2 : sumN lays (fun t => if x.1 = c ∧ t + 1 ≤ x.2 then 1 else 0) = sumN lays fun t => if t + 1 ≤ x.2 then 1 else 0 := sumN_congr fun t _ => by simp [e]
        rw [if_pos e, e2]
        exact lays_below h2
      · rw [if_neg e]
        exact sumN_zero fun t _ => if_neg fun z => e z.1.symm
    have e2 : sumN lets (fun c => sumN lays fun t => cnt (x :: ps) c t) = sumN lets fun c => (sumN lays fun t => cnt ps c t) + if c = x.1 then x.2 else 0 := sumN_congr fun c _ => e1 c
    have e3 : sumN lets (fun c => if c = x.1 then x.2 else 0) = x.2 := by
      rw [← sumN_keys (ks := [x.1]) (A := lets) (f := fun c => if c = x.1 then x.2 else 0) (by simp) lets_nodup (fun c hc => by rw [List.mem_singleton.mp hc]; exact lets_mem.mpr h1) fun c hc => if_neg fun z => hc (List.mem_singleton.mpr z)]
      rw [sumN_cons, sumN_nil, if_pos rfl, Nat.add_zero]
    rw [e2, sumN_add (fun c => sumN lays fun t => cnt ps c t) (fun c => if c = x.1 then x.2 else 0) lets, e3, r]
    unfold tot
    rw [sumN_cons]
    omega
theorem degS_self {ps : List (Nat × Nat)} (h : ∀ x ∈ ps, x.1 < 123 ∧ x.2 ≤ 1600) : degS ps ps = tot ps := by
  rw [← cnt_tot h]
  unfold degS
  exact sumN_congr fun c _ => sumN_congr fun t _ => Nat.min_self _
/-- fewer at some places -/
theorem degS_less {ps ps' qs : List (Nat × Nat)} (h : ∀ x ∈ ps, x.1 < 123 ∧ x.2 ≤ 1600) (h' : ∀ x ∈ ps', x.1 < 123 ∧ x.2 ≤ 1600) (l : ∀ c t, cnt ps' c t ≤ cnt ps c t) : degS ps' qs ≤ degS ps qs ∧ degS ps qs + tot ps' ≤ degS ps' qs + tot ps := by
  refine ⟨sumN_le fun c _ => sumN_le fun t _ => by have := l c t; omega, ?_⟩
  have a := cnt_tot h
  have b := cnt_tot h'
  have e : sumN lets (fun c => sumN lays fun t => min (cnt ps c t) (cnt qs c t) + cnt ps' c t) = degS ps qs + tot ps' := by
    rw [← b]
    unfold degS
    rw [← sumN_add (fun c => sumN lays fun t => min (cnt ps c t) (cnt qs c t)) (fun c => sumN lays fun t => cnt ps' c t) lets]
    exact sumN_congr fun c _ => sumN_add _ _ _
  have e' : sumN lets (fun c => sumN lays fun t => min (cnt ps' c t) (cnt qs c t) + cnt ps c t) = degS ps' qs + tot ps := by
    rw [← a]
    unfold degS
    rw [← sumN_add (fun c => sumN lays fun t => min (cnt ps' c t) (cnt qs c t)) (fun c => sumN lays fun t => cnt ps c t) lets]
    exact sumN_congr fun c _ => sumN_add _ _ _
  rw [← e, ← e']
  exact sumN_le fun c _ => sumN_le fun t _ => by have := l c t; omega
/-- of one kind all -/
theorem cnt_alike (k t : Nat) : ∀ {ps : List (Nat × Nat)}, (∀ x ∈ ps, x.1 < 123 ∧ x.2 ≤ 1600) → cnt (ps.map fun x => (k, x.2)) k t = sumN lets fun c => cnt ps c t
  | [], _ => (sumN_zero fun _ _ => rfl).symm
  | x :: ps, h => by
    have r := cnt_alike k t (ps := ps) fun y hy => h y (List.mem_cons_of_mem _ hy)
    have e1 : sumN lets (fun c => cnt (x :: ps) c t) = sumN lets fun c => cnt ps c t + if x.1 = c ∧ t + 1 ≤ x.2 then 1 else 0 := sumN_congr fun c _ => cnt_cons x ps c t
    rw [List.map_cons, cnt_cons, r, e1, sumN_add (fun c => cnt ps c t) (fun c => if x.1 = c ∧ t + 1 ≤ x.2 then 1 else 0) lets]
    congr 1
    by_cases e : t + 1 ≤ x.2
    · have e2 : sumN lets (fun c => if x.1 = c ∧ t + 1 ≤ x.2 then 1 else 0) = sumN lets fun c => if c = x.1 then 1 else 0 := sumN_congr fun c _ => by simp [e, eq_comm]
      rw [if_pos ⟨rfl, e⟩, e2]
      exact (sumN_one lets_nodup (lets_mem.mpr (h x List.mem_cons_self).1)).symm
    · rw [if_neg fun z => e z.2]
      exact (sumN_zero fun c _ => if_neg fun z => e z.2).symm
theorem sum_min (f g : Nat → Nat) (l : List Nat) : sumN l (fun x => min (f x) (g x)) ≤ min (sumN l f) (sumN l g) := by
  have a : sumN l (fun x => min (f x) (g x)) ≤ sumN l f := sumN_le fun x _ => Nat.min_le_left _ _
  have b : sumN l (fun x => min (f x) (g x)) ≤ sumN l g := sumN_le fun x _ => Nat.min_le_right _ _
  omega
theorem degS_alike {ps qs : List (Nat × Nat)} (h : ∀ x ∈ ps, x.1 < 123 ∧ x.2 ≤ 1600) (h' : ∀ x ∈ qs, x.1 < 123 ∧ x.2 ≤ 1600) {k : Nat} (hk : k < 123) : degS ps qs ≤ degS (ps.map fun x => (k, x.2)) (qs.map fun x => (k, x.2)) := by
  have e : degS ps qs = sumN lays fun t => sumN lets fun c => min (cnt ps c t) (cnt qs c t) := sumN_swap (fun c t => min (cnt ps c t) (cnt qs c t)) lays lets
  have m : ∀ (f : Nat → Nat) {l : List Nat}, k ∈ l → f k ≤ sumN l f := fun f l hl => by
      induction l with
      | nil => cases hl
      | cons x l ih =>
        rw [sumN_cons]
        rcases List.mem_cons.mp hl with rfl | hl
        · omega
        · have := ih hl; omega
  have a : degS ps qs ≤ sumN lays fun t => min (cnt (ps.map fun x => (k, x.2)) k t) (cnt (qs.map fun x => (k, x.2)) k t) := by
    rw [e]
    refine sumN_le fun t _ => ?_
    rw [cnt_alike k t h, cnt_alike k t h']
    exact sum_min (fun c => cnt ps c t) (fun c => cnt qs c t) lets
  exact Nat.le_trans a (m (fun c => sumN lays fun t => min (cnt (ps.map fun x => (k, x.2)) c t) (cnt (qs.map fun x => (k, x.2)) c t)) (lets_mem.mpr hk))
end Cw

/-! sorted() of a list of told data -/
namespace Cw
open PySem PySem.Spec PyProof.Rows L2
theorem vals_each : ∀ {bs : List (V × PyData)} {its : List Value}, Vals (bs.map (·.1)) its → PySem.W.EachIs (fun v (b : V × PyData) => RelV b.1 v) its bs
  | [], _, r => by
    cases r
    exact .nil
  | b :: bs, _, r => by
    cases r with
    | cons h t => exact .cons h (vals_each t)
theorem each_vals : ∀ {bs : List (V × PyData)} {its : List Value}, PySem.W.EachIs (fun v (b : V × PyData) => RelV b.1 v) its bs → Vals (bs.map (·.1)) its
  | _, _, .nil => .nil
  | _, _, .cons h t => .cons h (each_vals t)
theorem each_imp {α β : Type} {R S : α → β → Prop} : ∀ {as : List α} {bs : List β}, PySem.W.EachIs R as bs → (∀ b ∈ bs, ∀ a, R a b → S a b) → PySem.W.EachIs S as bs
  | _, _, .nil, _ => .nil
  | _, _, .cons h t, f => .cons (f _ List.mem_cons_self _ h) (each_imp t fun b hb => f b (List.mem_cons_of_mem _ hb))
/-- the list sorted by its items' data -/
def sortD (bs : List (V × PyData)) : List (V × PyData) := bs.mergeSort (PySem.W.dataLe false Prod.snd)
def rSortedDat (K : PySem.W.Frag) : List V → Hp → VK → Prop := fun vs H Q => ∃ (a : Addr) (bs : List (V × PyData)), vs = [V.ref a] ∧ SqL K H a (bs.map (·.1)) ∧ (∀ b ∈ bs, Dp K H b.1 b.2) ∧ PySem.W.AllAlike (bs.map (·.2)) ∧ PySem.W.Sortable (bs.map (·.2)) ∧ (∀ b ∈ bs, b.2.depth ≤ 60) ∧
  ∀ p, H p = none → Q (.ref p) (upd H p (.lst ((sortD bs).map (·.1))))
theorem cr_sortedDat {X : Cx} (hu : X.A.units + 65 < cLine) : CallR X (.builtin "sorted") (rSortedDat X.K) := by
  intro pins s σ H vs us Q I r h
  obtain ⟨a, bs, rfl, hs, hd, hal, hk, hdep, q⟩ := h
  obtain ⟨its, rv, hl, hz⟩ := I.list hs
  obtain ⟨u, rfl, ru⟩ := vals1 r
  obtain rfl : u = Value.ref a := ru
  have e := vals_each rv
  have er : PySem.W.EachIs (fun v (b : V × PyData) => ∃ as, Reads s.heap v (Prod.snd b) as) its bs := each_imp e fun b hb v hv => Dp.reads I b.2 b.1 v (hd b hb) hv
  rw [List.length_map] at hz
  refine PySem.W.sorted_data (enc := Prod.snd) hl.isList e er hal hk hz (fun b hb => by have := hdep b hb; omega) fun out lo eo => ?_
  have hvb := each_vals eo
  have ln : ((sortD bs).map (·.1)).length ≤ sizeLine := by
    rw [List.length_map]
    unfold sortD
    rw [List.length_mergeSort]
    exact hz
  obtain ⟨n, hn⟩ := sortedAll_at s.heap its out.toArray
  exact ⟨.ref _, upd H _ (.lst ((sortD bs).map (·.1))), I.laid (t' := s.toks) (fun b o e => sortedAll_old e) (Nat.le_succ _) (show ObjOk X.prog X.w _ _ _ (.lst ((sortD bs).map (·.1))) from ⟨ln, out, n, hvb, hn⟩), rfl, q _ (I.hok.fresh (Nat.le_succ _))⟩
theorem sortD_perm (bs : List (V × PyData)) : (sortD bs).Perm bs := List.mergeSort_perm _ _
end Cw

/-! a web and the same one with its places called otherwise: neighbours, parts, cuts -/
namespace Cw
open PySem PySem.Spec PyProof.Rows L2
theorem asym_ext {α : Type} {r : α → α → Prop} (as : ∀ x y, r x y → r y x → False) : ∀ {l m : List α}, l.Pairwise r → m.Pairwise r → (∀ x, x ∈ l ↔ x ∈ m) → l = m
  | [], [], _, _, _ => rfl
  | [], y :: t, _, _, h => nomatch (h y).mpr List.mem_cons_self
  | x :: r', [], _, _, h => nomatch (h x).mp List.mem_cons_self
  | x :: r', y :: t, a, b, h => by
    obtain ⟨a1, a2⟩ := List.pairwise_cons.mp a
    obtain ⟨b1, b2⟩ := List.pairwise_cons.mp b
    have e : x = y := by
      rcases List.mem_cons.mp ((h x).mp List.mem_cons_self) with e | hx
      · exact e
      · rcases List.mem_cons.mp ((h y).mpr List.mem_cons_self) with e | hy
        · exact e.symm
        · exact (as _ _ (a1 y hy) (b1 x hx)).elim
    subst e
    have self : ∀ z, ¬ r z z := fun z h1 => as _ _ h1 h1
    rw [asym_ext as a2 b2 fun z => ⟨fun hz => ?_, fun hz => ?_⟩]
    · rcases List.mem_cons.mp ((h z).mp (List.mem_cons_of_mem _ hz)) with e | hz'
      · subst e; exact (self _ (a1 _ hz)).elim
      · exact hz'
    · rcases List.mem_cons.mp ((h z).mpr (List.mem_cons_of_mem _ hz)) with e | hz'
      · subst e; exact (self _ (b1 _ hz)).elim
      · exact hz'
theorem mem_tie {u : Web} (U : WOk u) {x : Tie} : x ∈ u.2 ↔ x.1 < x.2.1 ∧ x.2.1 < u.1.length ∧ tieL u.2 x.1 x.2.1 = some x.2.2 := by
  constructor
  · intro h
    obtain ⟨a, b, _⟩ := U.ends x h
    exact ⟨a, b, (tieL_mem U).mpr (by rw [Nat.min_eq_left (by omega), Nat.max_eq_right (by omega)]; exact h)⟩
  · rintro ⟨a, b, h⟩
    have z := (tieL_mem U).mp h
    rwa [Nat.min_eq_left (by omega), Nat.max_eq_right (by omega)] at z
/-- a web is told by its kinds and the ties of any two places -/
theorem web_ext {u v : Web} (U : WOk u) (V : WOk v) (k : u.1 = v.1) (t : ∀ a b, a < u.1.length → b < u.1.length → tieL u.2 a b = tieL v.2 a b) : u = v := by
  refine Prod.ext k (tlt_ext U.rise V.rise fun x => ?_)
  rw [mem_tie U, mem_tie V, ← k]
  constructor
  · rintro ⟨a, b, c⟩
    exact ⟨a, b, by rw [← t _ _ (by omega) b]; exact c⟩
  · rintro ⟨a, b, c⟩
    exact ⟨a, b, by rw [t _ _ (by omega) b]; exact c⟩
theorem cut_all {u : Web} (U : WOk u) : cutL u (List.range u.1.length) = u := by
  have C := cutL_ok U List.pairwise_lt_range (fun p hp => List.mem_range.mp hp)
  have lc : (cutL u (List.range u.1.length)).1.length = u.1.length := by unfold cutL; rw [List.length_map, List.length_range]
  refine web_ext C U (List.ext_getElem lc fun i h1 h2 => ?_) fun a b ha hb => ?_
  · unfold cutL
    simp [h2]
  · rw [lc] at ha hb
    exact tieL_cut List.nodup_range (by simp [ha]) (by simp [hb])
section
variable {w w' : Web} {qs : List Nat}
theorem mem_nb2 (W : WOk w) {p q : Nat} : q ∈ nb w.2 p ↔ q < w.1.length ∧ (tieL w.2 p q).isSome = true := by
  rw [nb_eq W, List.mem_filter, List.mem_range]
theorem mem_nb_named (W : WOk w) (W' : WOk w') (o : Ord qs w.1.length) (N : Named w qs w') {p x : Nat} (hp : p < w.1.length) : x ∈ nb w'.2 (qa qs p) ↔ ∃ q, q ∈ nb w.2 p ∧ qa qs q = x := by
  rw [mem_nb2 W']
  constructor
  · rintro ⟨h1, h2⟩
    rw [N.len] at h1
    obtain ⟨q, hq, rfl⟩ := o.onto h1
    rw [tieL_named W W' o N hp hq] at h2
    exact ⟨q, (mem_nb2 W).mpr ⟨hq, h2⟩, rfl⟩
  · rintro ⟨q, h1, rfl⟩
    obtain ⟨hq, h2⟩ := (mem_nb2 W).mp h1
    rw [tieL_named W W' o N hp hq, N.len]
    exact ⟨o.lt' hq, h2⟩
theorem nb_strict (W : WOk w) (p : Nat) : (nb w.2 p).Pairwise (· < ·) := nb_rise W.rise (fun t ht => (W.ends t ht).1) p
theorem qa_nodup {l : List Nat} (o : Ord qs w.1.length) (nd : l.Nodup) (b : ∀ x ∈ l, x < w.1.length) : (l.map (qa qs)).Nodup := by
  unfold List.Nodup
  rw [List.pairwise_map]
  exact nd.imp_of_mem fun {x y} hx hy h z => h (o.inj (b x hx) (b y hy) z)
theorem strict_of {l : List Nat} (nd : l.Nodup) (s : l.Pairwise (· ≤ ·)) : l.Pairwise (· < ·) := (List.Pairwise.and s nd).imp fun {x y} ⟨h1, h2⟩ => by omega
theorem nb_named (W : WOk w) (W' : WOk w') (o : Ord qs w.1.length) (N : Named w qs w') {p : Nat} (hp : p < w.1.length) {ns : List Nat} (pm : ns.Perm ((nb w.2 p).map (qa qs))) (s : ns.Pairwise (· < ·)) : nb w'.2 (qa qs p) = ns := by
  refine sorted_ext (nb_strict W' _) s fun x => ?_
  rw [mem_nb_named W W' o N hp, pm.mem_iff, List.mem_map]
/-! ### how many neighbours in all -/
theorem sum_at (a : Nat) : ∀ n : Nat, sumN (List.range n) (fun p => if p = a then 1 else 0) = if a < n then 1 else 0
  | 0 => rfl
  | n + 1 => by
    rw [List.range_succ, sumN_app, sum_at a n, sumN_cons, sumN_nil]
    by_cases h1 : a < n
    · rw [if_pos h1, if_neg (show ¬ n = a by omega), if_pos (show a < n + 1 by omega)]
    · by_cases h2 : n = a
      · rw [if_neg h1, if_pos h2, if_pos (by omega)]
      · rw [if_neg h1, if_neg h2, if_neg (by omega)]
theorem len_filterMap {α β : Type} (f : α → Option β) : ∀ l : List α, (l.filterMap f).length = sumN l fun x => if (f x).isSome = true then 1 else 0
  | [] => rfl
  | x :: l => by
    rw [sumN_cons, ← len_filterMap f l, List.filterMap_cons]
    cases f x with
    | none => simp
    | some y => simp; omega
theorem sumN_const {α : Type} (c : Nat) : ∀ l : List α, sumN l (fun _ => c) = c * l.length
  | [] => rfl
  | x :: l => by rw [sumN_cons, sumN_const c l, List.length_cons, Nat.mul_succ]; omega
theorem deg_sum (W : WOk w) : sumN (List.range w.1.length) (fun p => (nb w.2 p).length) = 2 * w.2.length := by
  have e : (fun p => (nb w.2 p).length) = fun p => sumN w.2 fun t => if (beside p t).isSome = true then 1 else 0 := funext fun p => len_filterMap _ _
  rw [e, sumN_swap]
  rw [← sumN_const 2 w.2]
  refine sumN_congr fun t ht => ?_
  obtain ⟨h1, h2, _⟩ := W.ends t ht
  have e2 : (fun p => if (beside p t).isSome = true then 1 else 0) = fun p => (if p = t.1 then 1 else 0) + (if p = t.2.1 then 1 else 0) := funext fun p => by
    unfold beside
    by_cases a : t.1 = p
    · rw [if_pos a, if_pos a.symm, if_neg (show ¬ p = t.2.1 by omega)]; rfl
    · by_cases b : t.2.1 = p
      · rw [if_neg a, if_pos b, if_neg (show ¬ p = t.1 by omega), if_pos b.symm]; rfl
      · rw [if_neg a, if_neg b, if_neg (show ¬ p = t.1 by omega), if_neg (show ¬ p = t.2.1 by omega)]; rfl
  rw [e2, sumN_add, sum_at, sum_at, if_pos (show t.1 < w.1.length by omega), if_pos h2]
/-! ### parts -/
theorem Rch.named (W : WOk w) (W' : WOk w') (o : Ord qs w.1.length) (N : Named w qs w') {a b : Nat} (ha : a < w.1.length) (h : Rch w.2 a b) : Rch w'.2 (qa qs a) (qa qs b) := by
  induction h with
  | base => exact .base
  | step h m ih => exact ih.step ((mem_nb_named W W' o N (h.lt W ha)).mpr ⟨_, m, rfl⟩)
theorem Rch.named_back (W : WOk w) (W' : WOk w') (o : Ord qs w.1.length) (N : Named w qs w') {a x : Nat} (ha : a < w.1.length) (h : Rch w'.2 (qa qs a) x) : ∃ b, b < w.1.length ∧ qa qs b = x ∧ Rch w.2 a b := by
  induction h with
  | base => exact ⟨a, ha, rfl, .base⟩
  | step _ m ih =>
    obtain ⟨b, hb, rfl, r⟩ := ih
    obtain ⟨c, hc, rfl⟩ := (mem_nb_named W W' o N hb).mp m
    exact ⟨c, (nb_lt W hc).2, rfl, r.step hc⟩
theorem mem_partsL2 {u : Web} {part : List Nat} : part ∈ partsL u ↔ ∃ l, l < u.1.length ∧ Lst u l ∧ part = partL u l := by
  unfold partsL partsN leastsL
  rw [List.mem_map]
  constructor
  · rintro ⟨l, h, rfl⟩
    obtain ⟨h1, h2⟩ := List.mem_filter.mp h
    exact ⟨l, List.mem_range.mp h1, dec_iff.mp h2, rfl⟩
  · rintro ⟨l, h1, h2, rfl⟩
    exact ⟨l, List.mem_filter.mpr ⟨List.mem_range.mpr h1, dec_iff.mpr h2⟩, rfl⟩
/-- each place has a least one to which it comes -/
theorem lst_of (W : WOk w) {p : Nat} (hp : p < w.1.length) : ∃ l, l < w.1.length ∧ Lst w l ∧ Rch w.2 l p := by
  induction p using Nat.strongRecOn with
  | ind p ih =>
    by_cases h : Lst w p
    · exact ⟨p, hp, h, .base⟩
    · unfold Lst at h
      obtain ⟨b, h⟩ := Classical.not_forall.mp h
      obtain ⟨r, lt⟩ := Classical.not_imp.mp h
      obtain ⟨l, h1, h2, h3⟩ := ih b (by omega) (by omega)
      exact ⟨l, h1, h2, h3.trans (r.symm W)⟩
/-- the part of a place, called by any place of it -/
theorem partL_eq (W : WOk w) {a b : Nat} (ha : a < w.1.length) (h : Rch w.2 a b) : partL w a = partL w b := by
  refine sorted_ext (partL_rise _ _) (partL_rise _ _) fun x => ?_
  rw [mem_partL W ha, mem_partL W (h.lt W ha)]
  exact ⟨fun z => (h.symm W).trans z, fun z => h.trans z⟩
theorem part_mem (W : WOk w) {p : Nat} (hp : p < w.1.length) : partL w p ∈ partsL w := by
  obtain ⟨l, h1, h2, h3⟩ := lst_of W hp
  exact mem_partsL2.mpr ⟨l, h1, h2, (partL_eq W h1 h3).symm⟩
/-- the least of a part stands first -/
theorem partL_head (W : WOk w) {l : Nat} (hl : l < w.1.length) (L : Lst w l) : (partL w l).headD 0 = l := by
  have m : l ∈ partL w l := (mem_partL W hl).mpr .base
  have r := partL_rise w l
  cases e : partL w l with
  | nil => rw [e] at m; cases m
  | cons x t =>
    rw [e] at m r
    have hx : Rch w.2 l x := (mem_partL W hl).mp (by rw [e]; exact List.mem_cons_self)
    have h1 := L x hx
    rcases List.mem_cons.mp m with z | z
    · exact z.symm
    · have := (List.pairwise_cons.mp r).1 l z
      show x = l
      omega
theorem partsL_rise (W : WOk w) : (partsL w).Pairwise fun x y => x.headD 0 < y.headD 0 := by
  unfold partsL partsN
  rw [List.pairwise_map]
  refine (leasts_rise w _).imp_of_mem fun {x y} hx hy h => ?_
  obtain ⟨h1, h2⟩ := mem_leasts hx
  obtain ⟨h3, h4⟩ := mem_leasts hy
  rw [partL_head W h1 h2, partL_head W h3 h4]
  exact h
/-- rising lists of the images of parts are parts -/
theorem part_named (W : WOk w) (W' : WOk w') (o : Ord qs w.1.length) (N : Named w qs w') {part os : List Nat} (h : part ∈ partsL w) (pm : os.Perm (part.map (qa qs))) (s : os.Pairwise (· < ·)) : os ∈ partsL w' := by
  obtain ⟨l, h1, h2, rfl⟩ := mem_partsL2.mp h
  have e : os = partL w' (qa qs l) := by
    have hl' : qa qs l < w'.1.length := by rw [N.len]; exact o.lt' h1
    refine sorted_ext s (partL_rise _ _) fun x => ?_
    rw [pm.mem_iff, List.mem_map, mem_partL W' hl']
    constructor
    · rintro ⟨q, hq, rfl⟩
      exact Rch.named W W' o N h1 ((mem_partL W h1).mp hq)
    · intro r
      obtain ⟨b, hb, rfl, rb⟩ := Rch.named_back W W' o N h1 r
      exact ⟨b, (mem_partL W h1).mpr rb, rfl⟩
  rw [e]
  exact part_mem W' (by rw [N.len]; exact o.lt' h1)
/-- all parts of the other one are such images -/
theorem part_named_back (W : WOk w) (W' : WOk w') (o : Ord qs w.1.length) (N : Named w qs w') {os : List Nat} (h : os ∈ partsL w') : ∃ part ∈ partsL w, ∀ ms : List Nat, ms.Perm (part.map (qa qs)) → ms.Pairwise (· < ·) → ms = os := by
  obtain ⟨l, h1, h2, rfl⟩ := mem_partsL2.mp h
  rw [N.len] at h1
  obtain ⟨p, hp, rfl⟩ := o.onto h1
  refine ⟨partL w p, part_mem W hp, fun ms pm s => ?_⟩
  refine sorted_ext s (partL_rise _ _) fun x => ?_
  rw [pm.mem_iff, List.mem_map, mem_partL W' (by rw [N.len]; exact o.lt' hp)]
  constructor
  · rintro ⟨q, hq, rfl⟩
    exact Rch.named W W' o N hp ((mem_partL W hp).mp hq)
  · intro r
    obtain ⟨b, hb, rfl, rb⟩ := Rch.named_back W W' o N hp r
    exact ⟨b, (mem_partL W hp).mpr rb, rfl⟩
/-! ### ties by parts -/
theorem sumN_uniq {α : Type} {f : α → Nat} {a : α} : ∀ {l : List α}, l.Nodup → a ∈ l → f a = 1 → (∀ x ∈ l, x ≠ a → f x = 0) → sumN l f = 1
  | [], _, h, _, _ => nomatch h
  | x :: l, nd, h, h1, h0 => by
    obtain ⟨n1, n2⟩ := List.nodup_cons.mp nd
    rw [sumN_cons]
    rcases List.mem_cons.mp h with rfl | h
    · rw [h1, sumN_zero fun y hy => h0 y (List.mem_cons_of_mem _ hy) fun z => n1 (z ▸ hy)]
    · rw [h0 x List.mem_cons_self (fun z => n1 (z ▸ h)), sumN_uniq n2 h h1 fun y hy => h0 y (List.mem_cons_of_mem _ hy)]
theorem partsL_nodup (W : WOk w) : (partsL w).Nodup := (partsL_rise W).imp fun h z => by rw [z] at h; omega
theorem part_sum (W : WOk w) : sumN (partsL w) (fun part => (cutL w part).2.length) = w.2.length := by
  have e : (fun part => (cutL w part).2.length) = fun part => sumN w.2 fun t => if (cutTie part t).isSome = true then 1 else 0 := funext fun part => len_filterMap _ _
  rw [e, sumN_swap]
  have c := sumN_const 1 w.2
  rw [Nat.one_mul] at c
  rw [← c]
  refine sumN_congr fun t ht => ?_
  obtain ⟨h1, h2, _⟩ := W.ends t ht
  have hp : t.1 < w.1.length := by omega
  have both : ∀ part : List Nat, (cutTie part t).isSome = true ↔ t.1 ∈ part ∧ t.2.1 ∈ part := fun part => by
    unfold cutTie
    cases e1 : posOf part t.1 with
    | none => simp [posOf_none.mp e1]
    | some x =>
      cases e2 : posOf part t.2.1 with
      | none => simp [posOf_none.mp e2]
      | some y =>
        have m1 : t.1 ∈ part := Classical.byContradiction fun z => by rw [posOf_none.mpr z] at e1; cases e1
        have m2 : t.2.1 ∈ part := Classical.byContradiction fun z => by rw [posOf_none.mpr z] at e2; cases e2
        simp [m1, m2]
  have near : t.2.1 ∈ nb w.2 t.1 := (mem_nb W).mpr ⟨t, ht, at2_iff.mpr (.inl ⟨rfl, rfl⟩)⟩
  refine sumN_uniq (partsL_nodup W) (part_mem W hp) ?_ fun part hm ne => ?_
  · rw [if_pos ((both _).mpr ⟨(mem_partL W hp).mpr .base, (mem_partL W hp).mpr (Rch.base.step near)⟩)]
  · rw [if_neg fun z => ne ?_]
    obtain ⟨l, h1, h2, rfl⟩ := mem_partsL2.mp hm
    exact partL_eq W h1 ((mem_partL W h1).mp ((both _).mp z).1)
/-- a part's cut hangs together -/
theorem part_hangs (W : WOk w) {part : List Nat} (h : part ∈ partsL w) : (partsL (cutL w part)).length < 2 := by
  obtain ⟨l, h1, h2, rfl⟩ := mem_partsL2.mp h
  have rs := partL_rise w l
  have nd := rise_nodup rs
  have bd : ∀ p ∈ partL w l, p < w.1.length := fun p hp => ((mem_partL W h1).mp hp).lt W h1
  have C := cutL_ok W rs bd
  have lc : (cutL w (partL w l)).1.length = (partL w l).length := by unfold cutL; rw [List.length_map]
  have lift : ∀ {a b : Nat}, Rch w.2 a b → ∀ i, (partL w l)[i]? = some a → ∃ j, (partL w l)[j]? = some b ∧ Rch (cutL w (partL w l)).2 i j := by
    intro a b r
    induction r with
    | base => exact fun i hi => ⟨i, hi, .base⟩
    | step r m ih =>
      intro i hi
      obtain ⟨j, hj, rj⟩ := ih i hi
      rename_i p q
      have mp : p ∈ partL w l := List.mem_of_getElem? hj
      have mq : q ∈ partL w l := (mem_partL W h1).mpr (((mem_partL W h1).mp mp).step m)
      obtain ⟨k, hk⟩ := List.getElem?_of_mem mq
      refine ⟨k, hk, rj.step ?_⟩
      rw [mem_nb2 C, tieL_cut nd hj hk, lc]
      exact ⟨(List.getElem?_eq_some_iff.mp hk).1, ((mem_nb2 W).mp m).2⟩
  have all0 : ∀ i, i < (partL w l).length → Rch (cutL w (partL w l)).2 i 0 := fun i hi => by
    have hi' := List.getElem?_eq_getElem hi
    have h0 : 0 < (partL w l).length := by omega
    have h0' := List.getElem?_eq_getElem h0
    have ri := (mem_partL W h1).mp (List.mem_of_getElem? hi')
    have r0 := (mem_partL W h1).mp (List.mem_of_getElem? h0')
    obtain ⟨j, hj, r⟩ := lift ((ri.symm W).trans r0) i hi'
    have : j = 0 := by
      have e1 := (posOf_iff nd).mpr hj
      rw [(posOf_iff nd).mpr h0'] at e1
      exact (Option.some.inj e1).symm
    rwa [this] at r
  have sub : ∀ a ∈ leastsL (cutL w (partL w l)) (cutL w (partL w l)).1.length, a < 1 := fun a ha => by
    obtain ⟨h3, h4⟩ := mem_leasts ha
    have := h4 0 (all0 a (by rw [lc] at h3; exact h3))
    omega
  have := nodup_len 1 _ (rise_nodup (leasts_rise _ _)) sub
  unfold partsL partsN
  rw [List.length_map]
  omega
/-! ### cuts called otherwise -/
theorem cut_named (W : WOk w) (W' : WOk w') (o : Ord qs w.1.length) (N : Named w qs w') {S T : List Nat} (hS : S.Pairwise (· < ·)) (bS : ∀ p ∈ S, p < w.1.length) (pT : T.Perm (S.map (qa qs))) (hT : T.Pairwise (· < ·))
    {ix : List Nat} (li : ix.length = S.length) (hi : ∀ i p, S[i]? = some p → T[qa ix i]? = some (qa qs p)) {v : Web} (V : WOk v) (M : Named (cutL w S) ix v) (oi : Ord ix (cutL w S).1.length) : v = cutL w' T := by
  have nS := rise_nodup hS
  have nT := rise_nodup hT
  have bT : ∀ q ∈ T, q < w'.1.length := fun q hq => by
    obtain ⟨p, hp, rfl⟩ := List.mem_map.mp (pT.mem_iff.mp hq)
    rw [N.len]
    exact o.lt' (bS p hp)
  have CS := cutL_ok W hS bS
  have CT := cutL_ok W' hT bT
  have lS : (cutL w S).1.length = S.length := by unfold cutL; rw [List.length_map]
  have lT : (cutL w' T).1.length = T.length := by unfold cutL; rw [List.length_map]
  have lTS : T.length = S.length := by rw [pT.length_eq, List.length_map]
  have lv : v.1.length = S.length := by rw [M.len, lS]
  refine web_ext V CT (List.ext_getElem (by omega) fun j h1 h2 => ?_) fun a b ha hb => ?_
  · obtain ⟨i, hi', rfl⟩ := oi.onto (show j < (cutL w S).1.length by omega)
    have hi'' : i < S.length := by omega
    have k1 := M.kinds i hi'
    have hp := List.getElem?_eq_getElem hi''
    have k2 := hi i _ hp
    have k3 := N.kinds S[i] (bS _ (List.getElem_mem _))
    have e1 : (cutL w S).1[i]? = w.1[S[i]]? := by
      have hb := bS S[i] (List.getElem_mem _)
      unfold cutL
      simp [hi'', hb]
    have e2 : (cutL w' T).1[qa ix i]? = w'.1[qa qs S[i]]? := by
      have hb : qa qs S[i] < w'.1.length := by rw [N.len]; exact o.lt' (bS _ (List.getElem_mem _))
      unfold cutL
      simp [k2, hb]
    refine Option.some.inj ?_
    rw [← List.getElem?_eq_getElem h1, ← List.getElem?_eq_getElem h2, k1, e1, e2, k3]
  · rw [M.len] at ha hb
    obtain ⟨i, hi1, rfl⟩ := oi.onto ha
    obtain ⟨j, hj1, rfl⟩ := oi.onto hb
    rw [tieL_named CS V oi M hi1 hj1]
    rw [lS] at hi1 hj1
    have p1 := List.getElem?_eq_getElem hi1
    have p2 := List.getElem?_eq_getElem hj1
    rw [tieL_cut nS p1 p2, tieL_cut nT (hi _ _ p1) (hi _ _ p2), tieL_named W W' o N (bS _ (List.getElem_mem _)) (bS _ (List.getElem_mem _))]
end
/-! ### sorted lists of lists of numbers -/
def rowD (p : List Nat) : PyData := .list ((zs p).map PyData.int)
theorem row_le (p q : List Nat) : (!PySem.W.dataLt (rowD q) (rowD p)) = decide (zs p ≤ zs q) := congrFun (congrFun (PySem.W.dataLe_rows (β := List Int) id) (zs p)) (zs q)
/-- rising images of the parts -/
abbrev ImgP (qs : List Nat) (ps ls : List (List Nat)) : Prop := Paired (fun (part os : List Nat) => os.Perm (part.map (qa qs)) ∧ os.Pairwise (· < ·)) ps ls
theorem img_nodup {w : Web} {qs : List Nat} (o : Ord qs w.1.length) {ps ls : List (List Nat)} (x : ImgP qs ps ls) (nd : ps.Nodup) (rs : ∀ p ∈ ps, p.Pairwise (· < ·) ∧ ∀ k ∈ p, k < w.1.length) : ls.Nodup := by
  induction x with
  | nil => exact .nil
  | @cons p os ps ls h t ih =>
    obtain ⟨n1, n2⟩ := List.nodup_cons.mp nd
    refine List.nodup_cons.mpr ⟨fun hm => n1 ?_, ih n2 fun p hp => rs p (List.mem_cons_of_mem _ hp)⟩
    have back : ∀ {ps ls : List (List Nat)}, ImgP qs ps ls → os ∈ ls → ∃ p' ∈ ps, os.Perm (p'.map (qa qs)) := by
      intro ps ls x
      induction x with
      | nil => intro z; cases z
      | cons h t ih =>
        intro z
        rcases List.mem_cons.mp z with rfl | z
        · exact ⟨_, List.mem_cons_self, h.1⟩
        · obtain ⟨p', h1, h2⟩ := ih z
          exact ⟨p', List.mem_cons_of_mem _ h1, h2⟩
    obtain ⟨p', hp', e⟩ := back t hm
    have q := (h.1.symm.trans e)
    obtain ⟨r1, b1⟩ := rs p List.mem_cons_self
    obtain ⟨r2, b2⟩ := rs p' (List.mem_cons_of_mem _ hp')
    have : p = p' := by
      refine sorted_ext r1 r2 fun x => ⟨fun hx => ?_, fun hx => ?_⟩
      · obtain ⟨y, hy, e⟩ := List.mem_map.mp (q.mem_iff.mp (List.mem_map.mpr ⟨x, hx, rfl⟩))
        have := o.inj (b2 y hy) (b1 x hx) e
        exact this ▸ hy
      · obtain ⟨y, hy, e⟩ := List.mem_map.mp (q.mem_iff.mpr (List.mem_map.mpr ⟨x, hx, rfl⟩))
        have := o.inj (b1 y hy) (b2 x hx) e
        exact this ▸ hy
    exact this ▸ hp'
theorem imgP_mem {qs : List Nat} {ps ls : List (List Nat)} (x : ImgP qs ps ls) : (∀ os ∈ ls, ∃ p ∈ ps, os.Perm (p.map (qa qs)) ∧ os.Pairwise (· < ·)) ∧ (∀ p ∈ ps, ∃ os ∈ ls, os.Perm (p.map (qa qs)) ∧ os.Pairwise (· < ·)) := by
  induction x with
  | nil => exact ⟨fun _ h => (nomatch h), fun _ h => (nomatch h)⟩
  | cons h t ih =>
    refine ⟨fun os hos => ?_, fun p hp => ?_⟩
    · rcases List.mem_cons.mp hos with rfl | hos
      · exact ⟨_, List.mem_cons_self, h⟩
      · obtain ⟨p, h1, h2⟩ := ih.1 os hos
        exact ⟨p, List.mem_cons_of_mem _ h1, h2⟩
    · rcases List.mem_cons.mp hp with rfl | hp
      · exact ⟨_, List.mem_cons_self, h⟩
      · obtain ⟨os, h1, h2⟩ := ih.2 p hp
        exact ⟨os, List.mem_cons_of_mem _ h1, h2⟩
theorem head_lt {x y : List Nat} (hx : x ≠ []) (hy : y ≠ []) (ne : x.headD 0 ≠ y.headD 0) (le : zs x ≤ zs y) : x.headD 0 < y.headD 0 := by
  cases x with
  | nil => exact absurd rfl hx
  | cons a r =>
    cases y with
    | nil => exact absurd rfl hy
    | cons b t =>
      have ne : a ≠ b := ne
      show a < b
      rcases Nat.lt_or_ge a b with h | h
      · exact h
      · exact absurd (show zs (b :: t) < zs (a :: r) from List.Lex.rel (show (b : Int) < (a : Int) by omega)) le
theorem perm_of' {α β : Type} {f : α → β} {zs ys : List β} (p : zs.Perm ys) : ∀ es : List α, zs = es.map f → ∃ es' : List α, es'.Perm es ∧ ys = es'.map f := by
  induction p with
  | nil =>
    intro es e
    exact ⟨es, List.Perm.refl _, e⟩
  | cons x _ ih =>
    intro es e
    cases es with
    | nil => cases e
    | cons y r =>
      rw [List.map_cons, List.cons.injEq] at e
      obtain ⟨r', p', e'⟩ := ih r e.2
      exact ⟨y :: r', p'.cons y, by rw [List.map_cons, ← e', e.1]⟩
  | swap x y l =>
    intro es e
    match es, e with
    | a :: b :: r, e =>
      rw [List.map_cons, List.map_cons, List.cons.injEq, List.cons.injEq] at e
      obtain ⟨e1, e2, e3⟩ := e
      exact ⟨b :: a :: r, List.Perm.swap a b r, by rw [List.map_cons, List.map_cons, ← e1, ← e2, ← e3]⟩
  | trans _ _ ih1 ih2 =>
    intro es e
    obtain ⟨es1, p1, e1⟩ := ih1 es e
    obtain ⟨es2, p2, e2⟩ := ih2 es1 e1
    exact ⟨es2, p2.trans p1, e2⟩
theorem sortD_le (bs : List (V × PyData)) : (sortD bs).Pairwise fun x y => (!PySem.W.dataLt y.2 x.2) = true := by
  have h := PySem.W.sort_pairwise (PySem.W.sortLe_total (PyProof.Rows.listOrd PyProof.Rows.itemOrd) false fun b : V × PyData => PySem.W.keyToks b.2) bs
  exact h.imp fun h => h
theorem sorted_rows {w w' : Web} {qs : List Nat} (W : WOk w) (W' : WOk w') (o : Ord qs w.1.length) (N : Named w qs w') {ls : List (List Nat)} (x : ImgP qs (partsL w) ls) {bs : List (V × PyData)} (e : bs.map (·.2) = ls.map rowD) : (sortD bs).map (·.2) = (partsL w').map rowD := by
  obtain ⟨ls', pm, el⟩ := perm_of' ((sortD_perm bs).symm.map (·.2)) ls e
  have rs : ∀ p ∈ partsL w, p.Pairwise (· < ·) ∧ ∀ k ∈ p, k < w.1.length := fun p hp => by
    obtain ⟨l, h1, h2, rfl⟩ := mem_partsL2.mp hp
    exact ⟨partL_rise _ _, fun k hk => ((mem_partL W h1).mp hk).lt W h1⟩
  have nd := pm.nodup_iff.mpr (img_nodup o x (partsL_nodup W) rs)
  obtain ⟨m1, m2⟩ := imgP_mem x
  have mem : ∀ y, y ∈ ls' ↔ y ∈ partsL w' := fun y => by
    rw [pm.mem_iff]
    constructor
    · intro hy
      obtain ⟨p, hp, h1, h2⟩ := m1 y hy
      exact part_named W W' o N hp h1 h2
    · intro hy
      obtain ⟨p, hp, h⟩ := part_named_back W W' o N hy
      obtain ⟨os, h1, h2, h3⟩ := m2 p hp
      rw [← h os h2 h3]
      exact h1
  have le := sortD_le bs
  have le2 : ls'.Pairwise fun x y => zs x ≤ zs y := by
    have z : ((sortD bs).map (·.2)).Pairwise fun x y => (!PySem.W.dataLt y x) = true := List.pairwise_map.mpr le
    rw [el, List.pairwise_map] at z
    refine z.imp fun {x y} h => ?_
    rw [row_le] at h
    exact of_decide_eq_true h
  have hd : ls'.Pairwise fun x y => x.headD 0 < y.headD 0 := by
    refine (List.Pairwise.and le2 nd).imp_of_mem fun {x y} hx hy h => ?_
    obtain ⟨l, a1, a2, rfl⟩ := mem_partsL2.mp ((mem x).mp hx)
    obtain ⟨m, b1, b2, rfl⟩ := mem_partsL2.mp ((mem y).mp hy)
    refine head_lt (fun z => ?_) (fun z => ?_) (fun z => h.2 ?_) h.1
    · have := (mem_partL W' a1).mpr (Rch.base (a := l))
      rw [z] at this; cases this
    · have := (mem_partL W' b1).mpr (Rch.base (a := m))
      rw [z] at this; cases this
    · rw [partL_head W' a1 a2, partL_head W' b1 b2] at z
      rw [z]
  rw [el, asym_ext (r := fun x y : List Nat => x.headD 0 < y.headD 0) (fun _ _ h1 h2 => by omega) hd (partsL_rise W') mem]
theorem rows_bs {K : PySem.W.Frag} {H : Hp} {gs : List Addr} {ls : List (List Nat)} (x : PartsAt H gs ls) : ∃ bs : List (V × PyData), bs.map (·.1) = gs.map V.ref ∧ bs.map (·.2) = ls.map rowD ∧ ∀ b ∈ bs, Dp K H b.1 b.2 := by
  unfold PartsAt at x
  induction x with
  | nil => exact ⟨[], rfl, rfl, by simp⟩
  | @cons r p gs ls h t ih =>
    obtain ⟨bs, e1, e2, e3⟩ := ih
    refine ⟨(V.ref r, rowD p) :: bs, by rw [List.map_cons, e1]; rfl, by rw [List.map_cons, e2]; rfl, fun b hb => ?_⟩
    rcases List.mem_cons.mp hb with rfl | hb
    · exact dp_nats h
    · exact e3 b hb
theorem rows_alike (ls : List (List Nat)) : PySem.W.AllAlike (ls.map rowD) := PySem.W.AllAlike.of fun b b' => by
  have go : ∀ xs ys : List Int, PySem.W.alikeAll (xs.map PyData.int) (ys.map PyData.int) = true := fun xs => by
    induction xs with
    | nil => intro ys; simp [PySem.W.alikeAll]
    | cons x xs ih =>
      intro ys
      cases ys with
      | nil => simp [PySem.W.alikeAll]
      | cons y ys => simp [PySem.W.alikeAll, PySem.W.alike, ih]
  show PySem.W.alike (.list _) (.list _) = true
  simp only [PySem.W.alike]
  exact go _ _
theorem rows_sortable (ls : List (List Nat)) : PySem.W.Sortable (ls.map rowD) := PySem.W.Sortable.others fun b => ⟨(fun z => nomatch z), fun xs z => nomatch z⟩
theorem rowD_depth (p : List Nat) : (rowD p).depth ≤ 60 := by
  have go : ∀ l : List Int, PyData.depthAll (l.map PyData.int) = 0 := fun l => by
    induction l with
    | nil => rfl
    | cons x l ih => rw [List.map_cons, PyData.depthAll, ih]; simp [PyData.depth]
  unfold rowD
  rw [PyData.depth, go]
  omega
theorem idx_ord {f : Nat → Nat} {S T : List Nat} (pm : T.Perm (S.map f)) (nd : T.Nodup) : Ord (S.map fun p => (posOf T (f p)).getD 0) S.length := by
  have e1 : T.map (fun x => (posOf T x).getD 0) = List.range T.length := List.ext_getElem (by simp) fun i h1 h2 => by
    rw [List.length_map] at h1
    simp only [List.getElem_map, List.getElem_range]
    rw [(posOf_iff nd).mpr (List.getElem?_eq_getElem h1)]
    rfl
  have p2 := (pm.symm.map fun x => (posOf T x).getD 0)
  rw [e1, List.map_map, pm.length_eq, List.length_map] at p2
  exact Ord.of p2
end Cw

namespace Cw
open PySem PySem.Spec PyProof.Rows L2
local macro_rules | `(tactic| walk_at "rd1") => `(tactic| first
  | (with_reducible refine d_seq ?_) | (with_reducible refine d_asg ?_) | (with_reducible refine d_cons ?_) | (with_reducible refine d_nil ?_)
  | ((with_reducible refine' d_var ?e ?_); (case e => exact rfl))
  | (with_reducible refine d_c ?_) | (with_reducible refine d_op ?_) | (with_reducible refine d_un ?_) | (with_reducible refine d_cb ?_)
  | (with_reducible refine d_rI0 ?_) | (with_reducible refine d_rU ?_) | (with_reducible refine d_eqI ?_) | (with_reducible refine d_neI ?_)
  | ((with_reducible refine d_rI ?hc ?_); (case hc => first | assumption | decide | exact ⟨by decide, by decide⟩ | exact ⟨by omega, by omega⟩ | exact .inl ⟨by omega, by omega⟩ | exact .inr ⟨by omega, by omega⟩))
  | ((with_reducible refine' d_ixLm ?h ?e ?_); (case h => first | assumption | exact upd_same); (case e => rfl)) | ((with_reducible refine' d_ixTm ?h ?e ?_); (case h => first | assumption | exact upd_same); (case e => rfl))
  | (with_reducible refine d_test ?_) | (with_reducible refine d_tB ?_) | (with_reducible refine d_bl ?_) | (with_reducible refine d_not ?_) | (with_reducible refine d_notV ?_) | (with_reducible refine d_and ?_) | (with_reducible refine d_or ?_)
  | (with_reducible refine d_if ?_) | (with_reducible refine d_andV ?_) | (with_reducible refine d_ifS ?_) | (with_reducible refine iteT ?_) | (with_reducible refine iteF ?_) | (with_reducible refine iteNT ?_) | (with_reducible refine iteNF ?_)
  | (with_reducible refine d_ret ?_) | (with_reducible refine d_retN ?_) | (with_reducible refine d_drop ?_) | (with_reducible refine d_next ?_) | (with_reducible refine d_brk ?_) | (with_reducible refine d_ct ?_)
  | (with_reducible refine d_gname ?_) | (with_reducible refine d_gcons ?_) | (with_reducible refine d_gnil ?_) | (with_reducible refine d_gsub ?_)
  | (with_reducible refine d_call ?_) | (with_reducible refine d_tup ?_) | (with_reducible refine d_lst ?_)
  | (with_reducible refine d_sl ?_) | (with_reducible refine d_nop ?_) | (with_reducible refine d_part ?_) | (with_reducible refine d_in ?_)
  | (with_reducible refine d_bm ?_) | (with_reducible refine d_bm0 ?_) | (with_reducible refine d_m1 ?_) | (with_reducible refine d_exs ?_)
  | ((with_reducible refine' d_setL ?h ?e ?_); (case h => first | assumption | exact upd_same); (case e => rfl))
  | ((with_reducible refine' d_gtupm ?h ?e ?_); (case h => first | assumption | exact upd_same); (case e => rfl))
  | ((with_reducible refine' d_aug ?e ?_); (case e => exact rfl))
  | (with_reducible refine d_for ?_) | (with_reducible refine d_lc ?_) | (with_reducible refine d_dc ?_) | (with_reducible refine d_iR1 ?_) | (with_reducible refine d_iR2 ?_) | (with_reducible refine d_iL ?_) | (with_reducible refine d_iT ?_) | (with_reducible refine d_iS ?_) | (with_reducible refine d_iSe ?_) | (with_reducible refine d_yes ?_) | (with_reducible refine d_lsten ?_) | (with_reducible refine d_iEnS ?_) | (with_reducible refine d_iEnSe ?_) | (with_reducible refine d_iEn ?_) | (with_reducible refine d_dget1 ?_) | (with_reducible refine d_dget2 ?_) | (with_reducible refine d_iCmb ?_) | (with_reducible refine d_dget ?_) | (with_reducible refine d_dput ?_) | (with_reducible refine d_daug ?_) | (with_reducible refine d_par ?_) | (with_reducible refine d_par2 ?_) | (with_reducible refine d_din ?_) | (with_reducible refine d_dnewT ?_) | (with_reducible refine d_dnewK ?_) | ((with_reducible refine d_wipe ?e ?_); (case e => rfl)) | (with_reducible refine d_lrg ?_) | (with_reducible refine d_rg1 ?_)
  | ((with_reducible refine d_iR1e ?a ?b ?_); (case a => omega); (case b => omega)) | ((with_reducible refine d_iR2e ?a ?_); (case a => omega))
  | (with_reducible refine d_isN ?_))
local macro_rules | `(tactic| walk_at "rd") => `(tactic| (repeat walk_at "rd1"))

def topS (i : Nat) : Stmt := PySem.Challenge.pw_commonweb_k05_whole_places_named_anew.main.body.getD i (.Pass ⟨0, 0, 0, 0⟩)
abbrev s_is_letter : Stmt := topS 1
abbrev s_is_place : Stmt := topS 2
abbrev s_rises : Stmt := topS 3
abbrev s_is_tie : Stmt := topS 4
abbrev s_is_web : Stmt := topS 5
abbrev s_tie_of : Stmt := topS 6
abbrev s_neighbours : Stmt := topS 7
abbrev s_all_neighbours : Stmt := topS 8
abbrev s_parts : Stmt := topS 9
abbrev s_part_from : Stmt := topS 10
abbrev s_hangs : Stmt := topS 11
abbrev s_cut : Stmt := topS 12
abbrev s_hand : Stmt := topS 14
abbrev s_draw : Stmt := topS 15
abbrev s_cells : Stmt := topS 16
abbrev s_great : Stmt := topS 17
abbrev s_letters : Stmt := topS 18
abbrev s_web : Stmt := topS 19
abbrev s_size : Stmt := topS 20
abbrev s_order : Stmt := topS 21
abbrev s_named : Stmt := topS 22
abbrev s_right : Stmt := topS 23
abbrev s_law : Stmt := topS 24
theorem sc_is_letter : FnScope ["thing"] ["thing"] (defScope s_is_letter) := ⟨rfl, rfl, rfl, by decide +kernel, rfl, by decide +kernel, by decide +kernel⟩
theorem sc_is_place : FnScope ["kinds", "thing"] ["kinds", "thing"] (defScope s_is_place) := ⟨rfl, rfl, rfl, by decide +kernel, rfl, by decide +kernel, by decide +kernel⟩
theorem sc_rises : FnScope ["numbers"] ["numbers"] (defScope s_rises) := ⟨rfl, rfl, rfl, by decide +kernel, rfl, by decide +kernel, by decide +kernel⟩
theorem sc_is_tie : FnScope ["kinds", "thing", "place", "other", "kind"] ["kinds", "thing"] (defScope s_is_tie) := ⟨rfl, rfl, rfl, by decide +kernel, rfl, by decide +kernel, by decide +kernel⟩
theorem sc_is_web : FnScope ["thing", "kinds", "ties", "sign", "tie"] ["thing"] (defScope s_is_web) := ⟨rfl, rfl, rfl, by decide +kernel, rfl, by decide +kernel, by decide +kernel⟩
theorem sc_tie_of : FnScope ["web", "one", "other", "ties", "ends", "low", "high", "middle"] ["web", "one", "other"] (defScope s_tie_of) := ⟨rfl, rfl, rfl, by decide +kernel, rfl, by decide +kernel, by decide +kernel⟩
theorem sc_neighbours : FnScope ["web", "place"] ["web", "place"] (defScope s_neighbours) := ⟨rfl, rfl, rfl, by decide +kernel, rfl, by decide +kernel, by decide +kernel⟩
theorem sc_all_neighbours : FnScope ["web", "beside", "place", "other", "_"] ["web"] (defScope s_all_neighbours) := ⟨rfl, rfl, rfl, by decide +kernel, rfl, by decide +kernel, by decide +kernel⟩
theorem sc_parts : FnScope ["web", "beside", "told", "seen", "place", "part", "reached"] ["web"] (defScope s_parts) := ⟨rfl, rfl, rfl, by decide +kernel, rfl, by decide +kernel, by decide +kernel⟩
theorem sc_part_from : FnScope ["beside", "start", "seen", "waiting", "place", "other"] ["beside", "start"] (defScope s_part_from) := ⟨rfl, rfl, rfl, by decide +kernel, rfl, by decide +kernel, by decide +kernel⟩
theorem sc_hangs : FnScope ["web"] ["web"] (defScope s_hangs) := ⟨rfl, rfl, rfl, by decide +kernel, rfl, by decide +kernel, by decide +kernel⟩
theorem sc_cut : FnScope ["web", "places", "kinds", "ties", "kept", "numbers", "left", "place", "other", "kind", "number"] ["web", "places"] (defScope s_cut) := ⟨rfl, rfl, rfl, by decide +kernel, rfl, by decide +kernel, by decide +kernel⟩
theorem sc_hand : FnScope ["cell", "k", "digits"] ["cell", "k"] (defScope s_hand) := ⟨rfl, rfl, rfl, by decide +kernel, rfl, by decide +kernel, by decide +kernel⟩
theorem sc_draw : FnScope ["hand", "limit", "got"] ["hand", "limit"] (defScope s_draw) := ⟨rfl, rfl, rfl, by decide +kernel, rfl, by decide +kernel, by decide +kernel⟩
theorem sc_cells : FnScope ["script", "many"] ["script", "many"] (defScope s_cells) := ⟨rfl, rfl, rfl, by decide +kernel, rfl, by decide +kernel, by decide +kernel⟩
theorem sc_great : FnScope ["script"] ["script"] (defScope s_great) := ⟨rfl, rfl, rfl, by decide +kernel, rfl, by decide +kernel, by decide +kernel⟩
theorem sc_letters : FnScope ["hand"] ["hand"] (defScope s_letters) := ⟨rfl, rfl, rfl, by decide +kernel, rfl, by decide +kernel, by decide +kernel⟩
theorem sc_web : FnScope ["hand", "many", "some", "tie_kinds", "often", "kinds", "ties", "place", "other", "k"] ["hand", "many"] (defScope s_web) := ⟨rfl, rfl, rfl, by decide +kernel, rfl, by decide +kernel, by decide +kernel⟩
theorem sc_size : FnScope ["hand", "great"] ["hand", "great"] (defScope s_size) := ⟨rfl, rfl, rfl, by decide +kernel, rfl, by decide +kernel, by decide +kernel⟩
theorem sc_order : FnScope ["hand", "many", "left", "k"] ["hand", "many"] (defScope s_order) := ⟨rfl, rfl, rfl, by decide +kernel, rfl, by decide +kernel, by decide +kernel⟩
theorem sc_named : FnScope ["web", "order", "kinds", "place", "letter", "ties", "other", "kind"] ["web", "order"] (defScope s_named) := ⟨rfl, rfl, rfl, by decide +kernel, rfl, by decide +kernel, by decide +kernel⟩
theorem sc_right : FnScope ["hand", "web", "many", "order", "other", "rows", "place", "beside", "kind", "told", "some", "here", "there", "names", "row", "one", "part"] ["hand", "web"] (defScope s_right) := ⟨rfl, rfl, rfl, by decide +kernel, rfl, by decide +kernel, by decide +kernel⟩
theorem sc_law : FnScope ["script", "k", "cell", "hand"] ["script"] (defScope s_law) := ⟨rfl, rfl, rfl, by decide +kernel, rfl, by decide +kernel, by decide +kernel⟩
/-- what the top leaves -/
structure Tx (K : PySem.W.Frag) (mg : Str → Option Value) (base : Heap) where
  is_letter : Df K mg "is_letter" s_is_letter ["thing"]
  is_place : Df K mg "is_place" s_is_place ["kinds", "thing"]
  rises : Df K mg "rises" s_rises ["numbers"]
  is_tie : Df K mg "is_tie" s_is_tie ["kinds", "thing"]
  is_web : Df K mg "is_web" s_is_web ["thing"]
  tie_of : Df K mg "tie_of" s_tie_of ["web", "one", "other"]
  neighbours : Df K mg "neighbours" s_neighbours ["web", "place"]
  all_neighbours : Df K mg "all_neighbours" s_all_neighbours ["web"]
  parts : Df K mg "parts" s_parts ["web"]
  part_from : Df K mg "part_from" s_part_from ["beside", "start"]
  hangs : Df K mg "hangs" s_hangs ["web"]
  cut : Df K mg "cut" s_cut ["web", "places"]
  hand : Df K mg "_law_hand" s_hand ["cell", "k"]
  draw : Df K mg "_law_draw" s_draw ["hand", "limit"]
  cells : Df K mg "_law_cells" s_cells ["script", "many"]
  great : Df K mg "_law_great" s_great ["script"]
  letters : Df K mg "_law_letters" s_letters ["hand"]
  web : Df K mg "_law_web" s_web ["hand", "many"]
  size : Df K mg "_law_size" s_size ["hand", "great"]
  order : Df K mg "_law_order" s_order ["hand", "many"]
  named : Df K mg "_law_named" s_named ["web", "order"]
  right : Df K mg "_law_right" s_right ["hand", "web"]
  law : Df K mg "law" s_law ["script"]
  m_all : mg "all" = none
  m_enumerate : mg "enumerate" = none
  m_int : mg "int" = none
  m_len : mg "len" = none
  m_list : mg "list" = none
  m_max : mg "max" = none
  m_min : mg "min" = none
  m_range : mg "range" = none
  m_set : mg "set" = none
  m_sorted : mg "sorted" = none
  m_str : mg "str" = none
  m_sum : mg "sum" = none
  m_tuple : mg "tuple" = none
  m_type : mg "type" = none
  c_is_web : Addr
  P_is_web : Addr
  hc_is_web : is_web.fd.code = .ref c_is_web
  tb_is_web : GxR.TabB base mg c_is_web P_is_web
def Tx.cs {K : PySem.W.Frag} {mg : Str → Option Value} {base : Heap} (T : Tx K mg base) : List (Addr × Addr) := [(T.c_is_web, T.P_is_web)]
section
variable {P : Program} {w : World} {K : PySem.W.Frag} {mg : Str → Option Value} {base : Heap}
def spHand : Sp := fun vs H Q _ => ∃ c k : Int, vs = [.int c, .int k] ∧ 0 ≤ k ∧ k ≤ 1000 ∧ ∀ H' h, Same H H' → H h = none → Hand H' h → Q (.ref h) H'
theorem ok_hand (T : Tx K mg base) : FnOk P w K mg base CX0 1 T.hand.f T.hand.fd ["cell", "k"] spHand := by
  refine T.hand.F.ok sc_hand (fun vs H Q E h => ?_) (fun cdv A outer s H vs Q E hr h => ?_)
  · obtain ⟨c, k, rfl, _⟩ := h; rfl
  · obtain ⟨c, k, rfl, k0, k1, q⟩ := h
    refine ⟨_, (pss_cons (ps_set (i := 2) sc_hand.nd rfl (.inl rfl) pe_int)
      (pss_cons (ps_if (pt_cmpR op_ge (pv 0) (pe_op op_pow pe_int pe_int) (nomark _))
        (pss_one (ps_set (i := 2) sc_hand.nd rfl (.inl rfl) (pv 0)))
        pss_nil)
      (pss_one (ps_ret (pe_lst (pa_cons (pv 2) (pa_cons (pe_op op_mod (pe_op op_mul (pe_op op_add (pe_op op_add (pe_op op_mod (pv 0) pe_int) (pe_op op_mul pe_int (pv 1))) pe_int) pe_int) pe_int) pa_nil))))))), ?_⟩
    walk_at "rd"
    have fin : ∀ d : Int, 0 ≤ d → ∀ H' h, Same H H' → H h = none → H' h = some (.lst [.int d, .int ((c % 2147483587 + 7919 * k + 1) * 48271 % 2147483587)]) → Q (.ref h) H' := fun d hd H' h s n e => q H' h s n ⟨d, _, e, hd, by omega, by omega⟩
    refine ite2 (fun e => ?_) (fun e => ?_)
    · have e1 := of_decide_eq_true e
      have e2 : (10 : Int) ^ Int.toNat 18 = 1000000000000000000 := by decide
      rw [e2] at e1
      walk_at "rd"
      refine ⟨by show 2 ≤ sizeLine; decide, fun p hp => fin c (by omega) _ _ (same_new hp) hp upd_same⟩
    · walk_at "rd"
      refine ⟨by show 2 ≤ sizeLine; decide, fun p hp => fin 0 (by omega) _ _ (same_new hp) hp upd_same⟩
def spDraw : Sp := fun vs H Q _ => ∃ (h : Addr) (n : Int), vs = [.ref h, .int n] ∧ 0 < n ∧ n < 1000000 ∧ Hand H h ∧ ∀ H' (g : Int), Keep h H H' → Hand H' h → 0 ≤ g → g < n → Q (.int g) H'
theorem ok_draw (T : Tx K mg base) : FnOk P w K mg base CX0 1 T.draw.f T.draw.fd ["hand", "limit"] spDraw := by
  refine T.draw.F.ok sc_draw (fun vs H Q E h => ?_) (fun cdv A outer s H vs Q E hr h => ?_)
  · obtain ⟨c, k, rfl, _⟩ := h; rfl
  · obtain ⟨h, n, rfl, n0, n1, ⟨d, m, hH, d0, m0, m1⟩, q⟩ := h
    refine ⟨_, (pss_cons (ps_if (pt_cmpR op_gt (pe_ix ix_list (pv 0) pe_int (fun _ _ => rfl)) pe_int (nomark _))
        (pss_cons (ps_set (i := 2) sc_draw.nd rfl (.inl rfl) (pe_op op_mod (pe_ix ix_list (pv 0) pe_int (fun _ _ => rfl)) (pv 1)))
        (pss_cons (ps_asg (pe_op op_fdiv (pe_ix ix_list (pv 0) pe_int (fun _ _ => rfl)) (pv 1)) (pg_sub (pv 0) pe_int set_list))
        (pss_one (ps_ret (pv 2)))))
        pss_nil)
      (pss_cons (ps_asg (pe_op op_mod (pe_op op_add (pe_op op_add (pe_op op_mul (pe_ix ix_list (pv 0) pe_int (fun _ _ => rfl)) (pe_ix ix_list (pv 0) pe_int (fun _ _ => rfl))) (pe_op op_mul pe_int (pe_ix ix_list (pv 0) pe_int (fun _ _ => rfl)))) pe_int) pe_int) (pg_sub (pv 0) pe_int set_list))
      (pss_one (ps_ret (pe_op op_mod (pe_op op_fdiv (pe_ix ix_list (pv 0) pe_int (fun _ _ => rfl)) pe_int) (pv 1)))))), ?_⟩
    walk_at "rd"
    refine ite2 (fun e => ?_) (fun e => ?_)
    · walk_at "rd"
      have e1 := of_decide_eq_true e
      refine q _ _ Keep.put ⟨d / n, m, upd_same, Int.ediv_nonneg d0 (by omega), m0, m1⟩ (Int.emod_nonneg _ (by omega)) (Int.emod_lt_of_pos _ n0)
    · walk_at "rd"
      refine q _ _ Keep.put ⟨d, (m * m + 69621 * m + 12345) % 2147483587, upd_same, d0, by omega, by omega⟩ (Int.emod_nonneg _ (by omega)) (Int.emod_lt_of_pos _ n0)
def ltP2 (p q : Int × Int) : Prop := p.1 < q.1 ∨ (p.1 = q.1 ∧ p.2 < q.2)
instance ltP2_dec : DecidableRel ltP2 := fun p q => by unfold ltP2; exact inferInstance
theorem ltP2_ext : ∀ {l m : List (Int × Int)}, l.Pairwise ltP2 → m.Pairwise ltP2 → (∀ x, x ∈ l ↔ x ∈ m) → l = m
  | [], [], _, _, _ => rfl
  | [], y :: m, _, _, h => nomatch (h y).mpr List.mem_cons_self
  | x :: l, [], _, _, h => nomatch (h x).mp List.mem_cons_self
  | x :: l, y :: m, hl, hm, h => by
    obtain ⟨l1, l2⟩ := List.pairwise_cons.mp hl
    obtain ⟨m1, m2⟩ := List.pairwise_cons.mp hm
    have irr : ∀ p : Int × Int, ¬ ltP2 p p := fun p z => by unfold ltP2 at z; omega
    have asy : ∀ p q : Int × Int, ltP2 p q → ltP2 q p → False := fun p q a b => by unfold ltP2 at a b; omega
    have e : x = y := by
      rcases List.mem_cons.mp ((h x).mp List.mem_cons_self) with e | hx
      · exact e
      · rcases List.mem_cons.mp ((h y).mpr List.mem_cons_self) with e | hy
        · exact e.symm
        · exact (asy _ _ (m1 x hx) (l1 y hy)).elim
    subst e
    rw [ltP2_ext l2 m2 fun z => ?_]
    constructor
    · intro hz
      rcases List.mem_cons.mp ((h z).mp (List.mem_cons_of_mem _ hz)) with e | y
      · subst e; exact (irr _ (l1 z hz)).elim
      · exact y
    · intro hz
      rcases List.mem_cons.mp ((h z).mpr (List.mem_cons_of_mem _ hz)) with e | y
      · subst e; exact (irr _ (m1 z hz)).elim
      · exact y
def pD2 (p : Int × Int) : PyData := .tuple [.int p.1, .int p.2]
theorem pD2_eqv : ∀ l m : List (Int × Int), PyData.eqvAll (l.map pD2) (m.map pD2) = decide (l = m)
  | [], [] => by simp [PyData.eqvAll]
  | [], _ :: _ => by simp [PyData.eqvAll]
  | _ :: _, [] => by simp [PyData.eqvAll]
  | a :: l, b :: m => by
    have r := pD2_eqv l m
    simp only [List.map_cons, PyData.eqvAll, r]
    rw [Bool.eq_iff_iff]
    obtain ⟨a1, a2⟩ := a
    obtain ⟨b1, b2⟩ := b
    simp [pD2, PyData.eqv, PyData.eqvAll]
theorem pD2_good (l : List (Int × Int)) : SeqAt.shaped (.list (l.map pD2)) = true := shaped_list (k := 1) (by decide) fun d hd => by
  obtain ⟨p, _, rfl⟩ := List.mem_map.mp hd
  simp [pD2, PyData.canLay0, PyData.canLayAll0, PyData.depth, PyData.depthAll]
/-- a list of pairs: it rises just when sorted and without repeats it is the same -/
def spRisesP (K : PySem.W.Frag) : Sp := fun vs H Q _ => ∃ (L : Addr) (es : List (Addr × (Int × Int))), vs = [.ref L] ∧ SqL K H L (es.map fun e => V.ref e.1) ∧ (∀ e ∈ es, SqT K H e.1 [.int e.2.1, .int e.2.2]) ∧ es.length ≤ 1000 ∧ ∀ H', Same H H' → Q (.bl (decide ((es.map (·.2)).Pairwise ltP2))) H'
theorem pairs_dpa {H : Hp} : ∀ {es : List (Addr × (Int × Int))}, (∀ e ∈ es, SqT K H e.1 [.int e.2.1, .int e.2.2]) → DpAll K H (es.map fun e => V.ref e.1) ((es.map (·.2)).map pD2)
  | [], _ => .nil
  | e :: es, h => .cons (.tup (h e List.mem_cons_self) (.cons (.int _) (.cons (.int _) .nil))) (pairs_dpa fun g hg => h g (List.mem_cons_of_mem _ hg))
theorem ok_rises (T : Tx K mg base) : FnOk P w K mg base CX0 1 T.rises.f T.rises.fd ["numbers"] (spRisesP K) := by
  refine T.rises.F.ok sc_rises (fun vs H Q E h => ?_) (fun cdv A outer s H vs Q E hr h => ?_)
  · obtain ⟨_, _, rfl, _⟩ := h; rfl
  · obtain ⟨L, es, rfl, hL, ht, few, q⟩ := h
    refine ⟨_, (pss_one (ps_ret (pe_cmpR (op_eqD (hr.units)) (pv 0) (pe_callB (cr_sortedWidew (pd := P) (wd := w) rfl rfl rfl) (by rfl) T.m_sorted (by decide +kernel) (pa_cons (pe_callTy (cr_setWidew (pd := P) (wd := w) rfl rfl rfl hr.units) (by rfl) T.m_set (by decide +kernel) (pa_cons (pv 0) pa_nil)) pa_nil)) (nomark _)))), ?_⟩
    walk_at "rd"
    refine ⟨L, es.map fun e => (e.1, [e.2.1, e.2.2]), rfl, by rw [List.map_map]; exact hL, fun e he => ?_, by rw [List.length_map]; exact few, fun S Ls fS sub all once le => ?_⟩
    · obtain ⟨g, hg, rfl⟩ := List.mem_map.mp he
      exact ht g hg
    have s1 := same_new (o := SetWO P w S Ls) fS
    walk_at "rd"
    have from_ : ∀ e ∈ Ls, ∃ g ∈ es, e = (g.1, [g.2.1, g.2.2]) := fun e he => by
      obtain ⟨g, hg, z⟩ := List.mem_map.mp (sub e he)
      exact ⟨g, hg, z.symm⟩
    refine ⟨S, Ls, rfl, upd_same, fun e he => ?_, fun e he => ?_, fun L' R pm so fR => ?_⟩
    · obtain ⟨g, hg, rfl⟩ := from_ e he
      exact Same.sqt s1 (ht g hg)
    · obtain ⟨g, hg, rfl⟩ := from_ e he
      rfl
    have s2 := Same.trans s1 (same_new (o := .lst (L'.map fun e => V.ref e.1)) fR)
    have eR := upd_same (H := upd H S (SetWO P w S Ls)) (a := R) (o := .lst (L'.map fun e => V.ref e.1))
    generalize upd (upd H S (SetWO P w S Ls)) R _ = H2 at s2 eR ⊢
    have frm : ∀ e ∈ L', ∃ g ∈ es, e = (g.1, [g.2.1, g.2.2]) := fun e he => from_ e (pm.mem_iff.mp he)
    have eL' : L' = (L'.map fun e => (e.1, pk2 e)).map fun e : Addr × (Int × Int) => (e.1, [e.2.1, e.2.2]) := by
      rw [List.map_map]
      conv => lhs; rw [← List.map_id L']
      refine List.map_congr_left fun e he => ?_
      obtain ⟨g, _, rfl⟩ := frm e he
      rfl
    have d1 : Dp K H2 (.ref L) (.list ((es.map (·.2)).map pD2)) := .lst (Same.seq s2 hL) (pairs_dpa fun e he => Same.sqt s2 (ht e he))
    have d2 : Dp K H2 (.ref R) (.list (((L'.map fun e => (e.1, pk2 e)).map (·.2)).map pD2)) := by
      refine .lst (SqL.of (by rw [eR]; rw [List.map_map] <;> rfl)) (pairs_dpa fun e he => ?_)
      obtain ⟨e', he', rfl⟩ := List.mem_map.mp he
      obtain ⟨g, hg, rfl⟩ := frm e' he'
      exact Same.sqt s2 (ht g hg)
    refine ⟨_, _, d1, d2, pD2_good _, pD2_good _, ?_⟩
    have nd' : (L'.map (·.2)).Nodup := (pm.map (·.2)).nodup_iff.mpr once
    have rise : ((L'.map fun e => (e.1, pk2 e)).map (·.2)).Pairwise ltP2 := by
      rw [List.pairwise_map, List.pairwise_map]
      have both := List.Pairwise.and so (List.pairwise_map.mp nd')
      refine List.Pairwise.imp_of_mem (fun {e g} he hg z => ?_) both
      obtain ⟨e', _, rfl⟩ := frm e he
      obtain ⟨g', _, rfl⟩ := frm g hg
      obtain ⟨z1, z2⟩ := z
      have z1 := SrtO.lexB_no.mp z1
      have z2 : ¬ ([e'.2.1, e'.2.2] = [g'.2.1, g'.2.2]) := z2
      simp only [List.cons.injEq, and_true, not_and] at z2
      show ltP2 (e'.2.1, e'.2.2) (g'.2.1, g'.2.2)
      have z1 : ¬ (g'.2.1 < e'.2.1 ∨ (g'.2.1 = e'.2.1 ∧ g'.2.2 < e'.2.2)) := z1
      unfold ltP2
      dsimp only
      by_cases c : e'.2.1 = g'.2.1
      · have := z2 c
        omega
      · omega
    have mem : ∀ x, x ∈ es.map (·.2) ↔ x ∈ (L'.map fun e => (e.1, pk2 e)).map (·.2) := fun x => by
      rw [List.map_map, List.mem_map, List.mem_map]
      constructor
      · rintro ⟨e, he, rfl⟩
        have y := all (e.1, [e.2.1, e.2.2]) (List.mem_map.mpr ⟨e, he, rfl⟩)
        obtain ⟨g, hg, z⟩ := List.mem_map.mp y
        refine ⟨g, pm.mem_iff.mpr hg, ?_⟩
        show pk2 g = e.2
        unfold pk2
        rw [z]
        rfl
      · rintro ⟨e, he, rfl⟩
        obtain ⟨g, hg, rfl⟩ := frm e he
        exact ⟨g, hg, rfl⟩
    have e : PyData.eqv (.list ((es.map (·.2)).map pD2)) (.list (((L'.map fun e => (e.1, pk2 e)).map (·.2)).map pD2)) = decide ((es.map (·.2)).Pairwise ltP2) := by
      simp only [PyData.eqv]
      rw [pD2_eqv]
      exact decide_eq_decide.mpr ⟨fun z => z ▸ rise, fun z => ltP2_ext z rise mem⟩
    rw [e]
    walk_at "rd"
    exact q _ s2
theorem d_chain2 {r r' : R2} {ta tb tc : TE} {σ : L2.St} {H : Hp} {Q : VK} (h : ta σ H fun x H1 => tb σ H1 fun y H2 => r x y H2 fun z H3 => ∃ k, z = .bl k ∧ (if k = true then tc σ H3 fun w' H4 => r' y w' H4 Q else Q (.bl false) H3)) : tChain r r' ta tb tc σ H Q := h
/-- one small letter -/
def spIsLetter : Sp := fun vs H Q _ => ∃ c : Nat, vs = [.str (sg c)] ∧ ∀ H', Same H H' → Q (.bl (decide (97 ≤ c ∧ c ≤ 122))) H'
theorem ok_is_letter (T : Tx K mg base) : FnOk P w K mg base CX0 1 T.is_letter.f T.is_letter.fd ["thing"] spIsLetter := by
  refine T.is_letter.F.ok sc_is_letter (fun vs H Q E h => ?_) (fun cdv A outer s H vs Q E hr h => ?_)
  · obtain ⟨_, rfl, _⟩ := h; rfl
  · obtain ⟨c, rfl, q⟩ := h
    have ea : Str.ofString "a" = sg 97 := by decide +kernel
    have ez : Str.ofString "z" = sg 122 := by decide +kernel
    have le : ∀ a b : Nat, (!decide ((sg b).cps.toList < (sg a).cps.toList)) = decide (a ≤ b) := fun a b => by
      rw [sg_lt, Bool.eq_iff_iff]
      simp
    refine ⟨_, (pss_one (ps_ret (pe_and (pe_cmpR op_isTy (pe_callTy cr_type (by rfl) T.m_type (by decide +kernel) (pa_cons (pv 0) pa_nil)) (pe_bltn (by rfl) T.m_str (by decide +kernel) (v := .ty "str") rfl) (nomark _)) (pe_and (pe_cmpR op_eq (pe_callB call_len_str (by rfl) T.m_len (by decide +kernel) (pa_cons (pv 0) pa_nil)) pe_int (nomark _)) (pe_one (pe_chain op_le_str op_le_str pe_str (pv 0) pe_str)))))), ?_⟩
    walk_at "rd"
    refine d_type (.str _) ?_
    walk_at "rd"
    refine ⟨"str", "str", rfl, rfl, ?_⟩
    walk_at "rd"
    rw [if_pos (by decide)]
    walk_at "rd"
    refine ⟨sz (by show 1 ≤ 100000; decide), ?_⟩
    walk_at "rd"
    rw [if_pos (by exact decide_eq_true rfl)]
    refine d_chain2 ?_
    walk_at "rd"
    refine ⟨_, _, rfl, rfl, ?_⟩
    rw [ea, le]
    refine ⟨_, rfl, ?_⟩
    refine ite2 (fun e => ?_) (fun e => ?_)
    · have e := of_decide_eq_true e
      walk_at "rd"
      refine ⟨_, _, rfl, rfl, ?_⟩
      rw [ez, le]
      have z : decide (c ≤ 122) = decide (97 ≤ c ∧ c ≤ 122) := decide_eq_decide.mpr ⟨fun y => ⟨e, y⟩, fun y => y.2⟩
      rw [z]
      exact q _ (Same.refl _)
    · have z : false = decide (97 ≤ c ∧ c ≤ 122) := (decide_eq_false fun y => e (decide_eq_true y.1)).symm
      rw [z]
      exact q _ (Same.refl _)
def spIsPlace : Sp := fun vs H Q _ => ∃ z n, vs = [.str z, .int n] ∧ z.cps.size ≤ 40 ∧ ∀ H', Same H H' → Q (.bl (decide (0 ≤ n ∧ n < (z.cps.size : Int)))) H'
theorem ok_is_place (T : Tx K mg base) : FnOk P w K mg base CX0 1 T.is_place.f T.is_place.fd ["kinds", "thing"] spIsPlace := by
  refine T.is_place.F.ok sc_is_place (fun vs H Q E h => ?_) (fun cdv A outer s H vs Q E hr h => ?_)
  · obtain ⟨_, _, rfl, _⟩ := h; rfl
  · obtain ⟨z, n, rfl, lz, q⟩ := h
    refine ⟨_, (pss_one (ps_ret (pe_and (pe_cmpR op_isTy (pe_callTy cr_type (by rfl) T.m_type (by decide +kernel) (pa_cons (pv 1) pa_nil)) (pe_bltn (by rfl) T.m_int (by decide +kernel) (v := .ty "int") rfl) (nomark _)) (pe_one (pe_chain op_le op_lt pe_int (pv 1) (pe_callB call_len_str (by rfl) T.m_len (by decide +kernel) (pa_cons (pv 0) pa_nil))))))), ?_⟩
    walk_at "rd"
    refine d_type (.int n) ?_
    walk_at "rd"
    refine ⟨"int", "int", rfl, rfl, ?_⟩
    walk_at "rd"
    rw [if_pos (by decide)]
    refine d_chain2 ?_
    walk_at "rd"
    refine ite2 (fun c => ?_) (fun c => ?_)
    · have c := of_decide_eq_true c
      walk_at "rd"
      refine ⟨sz (by show z.cps.size ≤ 100000; omega), ?_⟩
      walk_at "rd"
      have e : decide (n < (z.length : Int)) = decide (0 ≤ n ∧ n < (z.cps.size : Int)) := decide_eq_decide.mpr ⟨fun x => ⟨c, x⟩, fun x => x.2⟩
      rw [e]
      exact q _ (Same.refl _)
    · have e : false = decide (0 ≤ n ∧ n < (z.cps.size : Int)) := (decide_eq_false fun x => c (decide_eq_true x.1)).symm
      walk_at "rd"
      rw [e]
      exact q _ (Same.refl _)
/-- a tie of a web is one -/
def spIsTie (K : PySem.W.Frag) : Sp := fun vs H Q _ => ∃ (u : Web) (v : V) (t : Tie), vs = [.str ⟨u.1.toArray⟩, v] ∧ u.1.length ≤ 40 ∧ TieAt K H v t ∧ t.1 < t.2.1 ∧ t.2.1 < u.1.length ∧ Ltr t.2.2 ∧ ∀ H', Same H H' → Q (.bl true) H'
theorem ok_is_tie (T : Tx K mg base) : FnOk P w K mg base CX0 2 T.is_tie.f T.is_tie.fd ["kinds", "thing"] (spIsTie K) := by
  refine T.is_tie.F.ok sc_is_tie (fun vs H Q E h => ?_) (fun cdv A outer s H vs Q E hr h => ?_)
  · obtain ⟨_, _, _, rfl, _⟩ := h; rfl
  · obtain ⟨u, v, t, rfl, l40, ⟨a, rfl, qt⟩, h1, h2, h3, q⟩ := h
    have sz1 : (⟨u.1.toArray⟩ : Str).cps.size = u.1.length := by show u.1.toArray.size = _; simp
    refine ⟨_, (pss_cons (ps_if (PW.pt (pw_or (pt_cmpR op_isNotTy (pe_callTy cr_type (by rfl) T.m_type (by decide +kernel) (pa_cons (pv 1) pa_nil)) (pe_bltn (by rfl) T.m_tuple (by decide +kernel) (v := .ty "tuple") rfl) (nomark _)) (pw_or1 (pt_cmpR op_ne (pe_callB call_len_seq (by rfl) T.m_len (by decide +kernel) (pa_cons (pv 1) pa_nil)) pe_int (nomark _)))))
        (pss_one (ps_ret pe_bl))
        pss_nil)
      (pss_cons (ps_asg (pv 1) (pg_tup rfl (pgs_cons (pg_name (i := 2) sc_is_tie.nd rfl (.inl rfl)) (pgs_cons (pg_name (i := 3) sc_is_tie.nd rfl (.inl rfl)) (pgs_cons (pg_name (i := 4) sc_is_tie.nd rfl (.inl rfl)) pgs_nil)))))
      (pss_cons (ps_if (PW.pt (pw_or (pt_not (pt_val (pe_call (ok_is_place T) (hr.mono (by decide)) (by rfl) T.is_place.g T.is_place.F.kp T.is_place.b .nil pass0 (pa_cons (pv 0) (pa_cons (pv 2) pa_nil))))) (pw_or1 (pt_not (pt_val (pe_call (ok_is_place T) (hr.mono (by decide)) (by rfl) T.is_place.g T.is_place.F.kp T.is_place.b .nil pass0 (pa_cons (pv 0) (pa_cons (pv 3) pa_nil))))))))
        (pss_one (ps_ret pe_bl))
        pss_nil)
      (pss_one (ps_ret (pe_and (pe_cmpR op_lt (pv 2) (pv 3) (nomark _)) (pe_one (pe_call (ok_is_letter T) (hr.mono (by decide)) (by rfl) T.is_letter.g T.is_letter.F.kp T.is_letter.b .nil pass0 (pa_cons (pv 4) pa_nil))))))))), ?_⟩
    walk_at "rd"
    refine d_type (.tup qt) ?_
    walk_at "rd"
    refine ⟨"tuple", "tuple", rfl, rfl, ?_⟩
    walk_at "rd"
    refine iteNS rfl ?_
    walk_at "rd"
    refine d_lenT qt ?_
    walk_at "rd"
    refine iteNS rfl ?_
    walk_at "rd"
    refine d_gtup qt rfl ?_
    walk_at "rd"
    refine ⟨_, _, rfl, by rw [sz1]; exact l40, fun H1 s1 => ?_⟩
    rw [sz1, decide_eq_true (show (0 : Int) ≤ (t.1 : Nat) ∧ ((t.1 : Nat) : Int) < (u.1.length : Nat) from ⟨by omega, by omega⟩)]
    walk_at "rd"
    refine ⟨_, _, rfl, by rw [sz1]; exact l40, fun H2 s2 => ?_⟩
    rw [sz1, decide_eq_true (show (0 : Int) ≤ (t.2.1 : Nat) ∧ ((t.2.1 : Nat) : Int) < (u.1.length : Nat) from ⟨by omega, by omega⟩)]
    walk_at "rd"
    rw [decide_eq_true (show ((t.1 : Nat) : Int) < ((t.2.1 : Nat) : Int) by omega)]
    walk_at "rd"
    refine ⟨_, rfl, fun H3 s3 => ?_⟩
    rw [decide_eq_true (show 97 ≤ t.2.2 ∧ t.2.2 ≤ 122 from h3)]
    exact q _ (Same.trans s1 (Same.trans s2 s3))
def trg : Nat → Nat
  | 0 => 0
  | b + 1 => trg b + b
theorem trg_le {b c : Nat} (h : b ≤ c) : trg b ≤ trg c := by
  induction c with
  | zero => rw [show b = 0 by omega]; exact Nat.le_refl _
  | succ c ih =>
    rcases Nat.lt_or_ge b (c + 1) with lt | ge
    · exact Nat.le_trans (ih (by omega)) (by show trg c ≤ trg c + c; omega)
    · rw [show b = c + 1 by omega]; exact Nat.le_refl _
/-- a web has at most so many ties -/
theorem ties_780 {u : Web} (W : WOk u) : u.2.length ≤ 780 := by
  have l40 := W.few
  have h := nodup_len 780 (u.2.map fun t => trg t.2.1 + t.1) ?_ ?_
  · rwa [List.length_map] at h
  · unfold List.Nodup
    rw [List.pairwise_map]
    refine W.rise.imp_of_mem fun {x y} hx hy lt z => ?_
    obtain ⟨a1, _, _⟩ := W.ends x hx
    obtain ⟨b1, _, _⟩ := W.ends y hy
    have step : ∀ c, trg (c + 1) = trg c + c := fun c => rfl
    rcases Nat.lt_trichotomy x.2.1 y.2.1 with c | c | c
    · have := trg_le (show x.2.1 + 1 ≤ y.2.1 by omega)
      rw [step] at this
      omega
    · rw [c] at z
      unfold tlt at lt
      omega
    · have := trg_le (show y.2.1 + 1 ≤ x.2.1 by omega)
      rw [step] at this
      omega
  · intro x hx
    obtain ⟨t, ht, rfl⟩ := List.mem_map.mp hx
    obtain ⟨h1, h2, _⟩ := W.ends t ht
    have := trg_le (show t.2.1 + 1 ≤ 40 by omega)
    have e : trg (t.2.1 + 1) = trg t.2.1 + t.2.1 := rfl
    have e40 : trg 40 = 780 := by decide
    omega
/-- a web is one -/
def spIsWeb (K : PySem.W.Frag) (P : Addr) : Sp := fun vs H Q _ => ∃ (v : V) (u : Web), vs = [v] ∧ H P = some (TbX P) ∧ WebAt K H v u ∧ WOk u ∧ ∀ H', Same H H' → Q (.bl true) H'
theorem ok_is_web (T : Tx K mg base) : FnOk P w K mg base CX0 4 T.is_web.f T.is_web.fd ["thing"] (spIsWeb K T.P_is_web) := by
  refine funOkT T.hc_is_web T.is_web.F sc_is_web (fun vs H Q E h => ?_) (fun A outer s H vs Q E hr h => ?_)
  · obtain ⟨_, _, rfl, _⟩ := h; rfl
  · obtain ⟨v, u, rfl, tab, ⟨a, b, tvs, rfl, qa, qb, pt⟩, W, q⟩ := h
    have l40 := W.few
    have l16 := W.most
    have lt : tvs.length = u.2.length := Paired.length pt
    refine ⟨_, (pss_cons (ps_if (PW.pt (pw_or (pt_cmpR op_isNotTy (pe_callTy cr_type (by rfl) T.m_type (by decide +kernel) (pa_cons (pv 0) pa_nil)) (pe_bltn (by rfl) T.m_tuple (by decide +kernel) (v := .ty "tuple") rfl) (nomark _)) (pw_or1 (pt_cmpR op_ne (pe_callB call_len_seq (by rfl) T.m_len (by decide +kernel) (pa_cons (pv 0) pa_nil)) pe_int (nomark _)))))
        (pss_one (ps_ret pe_bl))
        pss_nil)
      (pss_cons (ps_asg (pv 0) (pg_tup rfl (pgs_cons (pg_name (i := 1) sc_is_web.nd rfl (.inr rfl)) (pgs_cons (pg_name (i := 2) sc_is_web.nd rfl (.inl rfl)) pgs_nil))))
      (pss_cons (ps_if (PW.pt (pw_or (pt_cmpR op_isNotTy (pe_callTy cr_type (by rfl) T.m_type (by decide +kernel) (pa_cons (pv 1) pa_nil)) (pe_bltn (by rfl) T.m_str (by decide +kernel) (v := .ty "str") rfl) (nomark _)) (pw_or1 (pt_cmpR op_isNotTy (pe_callTy cr_type (by rfl) T.m_type (by decide +kernel) (pa_cons (pv 2) pa_nil)) (pe_bltn (by rfl) T.m_tuple (by decide +kernel) (v := .ty "tuple") rfl) (nomark _)))))
        (pss_one (ps_ret pe_bl))
        pss_nil)
      (pss_cons (ps_if (pt_not (pt_val (pe_all (g := gName 3) (te := _) (own := [("sign", 3)]) hr rfl sc_is_web.nd (by rfl) T.m_all (by decide +kernel) T.tb_is_web rfl (blkOk_by (N := ["thing", "kinds", "ties", "sign", "tie"]) (sc := defScope s_is_web) (by decide +kernel)) (by decide +kernel) rfl rfl (pi_str (pv 1)) (fun _ _ _ _ _ _ => (pg_name (i := 3) sc_is_web.nd rfl (.inl rfl))) (fun _ _ _ _ _ _ hr => (pe_call (ok_is_letter T) (hr.mono (by decide)) (by rfl) T.is_letter.g T.is_letter.F.kp T.is_letter.b .nil pass0 (pa_cons (pv 3) pa_nil))))))
        (pss_one (ps_ret pe_bl))
        pss_nil)
      (pss_cons (ps_if (pt_not (pt_val (pe_all (g := gName 4) (te := _) (own := [("tie", 4)]) hr rfl sc_is_web.nd (by rfl) T.m_all (by decide +kernel) T.tb_is_web rfl (blkOk_by (N := ["thing", "kinds", "ties", "sign", "tie"]) (sc := defScope s_is_web) (by decide +kernel)) (by decide +kernel) rfl rfl (pi_tup (pv 2)) (fun _ _ _ _ _ _ => (pg_name (i := 4) sc_is_web.nd rfl (.inl rfl))) (fun _ _ _ _ _ _ hr => (pe_call (ok_is_tie T) (hr.mono (by decide)) (by rfl) T.is_tie.g T.is_tie.F.kp T.is_tie.b .nil pass0 (pa_cons (pv 1) (pa_cons (pv 4) pa_nil)))))))
        (pss_one (ps_ret pe_bl))
        pss_nil)
      (pss_one (ps_ret (pe_call (ok_rises T) (hr.mono (by decide)) (by rfl) T.rises.g T.rises.F.kp T.rises.b .nil pass0 (pa_cons (pe_lc (own := [("tie", 4)]) (g := gName 4) (tt := tYes) (te := tTup (tCons (tOp (rIxT K) (tVar 4) (tC (.int 0))) (tCons (tOp (rIxT K) (tVar 4) (tC (.int 1))) tNil))) rfl sc_is_web.nd (pi_tup (pv 2)) (blkOk_by (N := ["thing", "kinds", "ties", "sign", "tie"]) (sc := defScope s_is_web) (by decide +kernel)) (fun _ _ _ _ _ => (pg_name (i := 4) sc_is_web.nd rfl (.inl rfl))) (fun _ _ _ _ _ => pts_nil) (fun _ _ _ _ _ => (pe_tup (pa_cons (pe_ix ix_tup (pv 4) pe_int (fun _ _ => rfl)) (pa_cons (pe_ix ix_tup (pv 4) pe_int (fun _ _ => rfl)) pa_nil))))) pa_nil))))))))), ?_⟩
    walk_at "rd"
    refine d_type (.tup qa) ?_
    walk_at "rd"
    refine ⟨"tuple", "tuple", rfl, rfl, ?_⟩
    walk_at "rd"
    refine iteNS rfl ?_
    walk_at "rd"
    refine d_lenT qa ?_
    walk_at "rd"
    refine iteNS rfl ?_
    walk_at "rd"
    refine d_gtup qa rfl ?_
    walk_at "rd"
    refine d_type (.str _) ?_
    walk_at "rd"
    refine ⟨"str", "str", rfl, rfl, ?_⟩
    walk_at "rd"
    refine iteNS rfl ?_
    walk_at "rd"
    refine d_type (.tup qb) ?_
    walk_at "rd"
    refine ⟨"tuple", "tuple", rfl, rfl, ?_⟩
    walk_at "rd"
    refine iteNS rfl ?_
    walk_at "rd"
    refine d_aa ?_
    walk_at "rd"
    refine ⟨tab, aa_it (walk_str (z := ⟨u.1.toArray⟩)) (fun i H' => Same H H') (Same.refl _) (fun i H' _ s => trivial) (fun i x H1 H2 hi s1 y => ?_) (fun H1 s1 => ?_)⟩
    · obtain ⟨rfl, c, hc, rfl⟩ := y
      have hc' : u.1[i]? = some c := by simpa using hc
      have kc := W.kinds c (List.mem_of_getElem? hc')
      walk_at "rd"
      refine ⟨c, rfl, fun H3 s3 => ?_⟩
      rw [decide_eq_true (show 97 ≤ c ∧ c ≤ 122 from kc)]
      exact ⟨true, rfl, (fun z => nomatch z), fun _ => Same.trans s1 s3⟩
    · walk_at "rd"
      refine iteF ?_
      walk_at "rd"
      refine d_aa ?_
      walk_at "rd"
      refine d_iTe (Same.sqt s1 qb) ?_
      refine ⟨s1 _ _ tab, aa_it (walk_tup (K := K) (a := b) (xs := tvs)) (fun i H' => Same H1 H') (Same.refl _) (fun i H' _ s => Same.sqt (Same.trans s1 s) qb) (fun i x H2 H3 hi s2 y => ?_) (fun H2 s2 => ?_)⟩
      · obtain ⟨rfl, hx⟩ := y
        obtain ⟨t, ht, zt⟩ := Paired.at pt hx
        obtain ⟨h1, h2, h3⟩ := W.ends t (List.mem_of_getElem? ht)
        walk_at "rd"
        refine ⟨u, x, t, rfl, l40, zt.same (Same.trans s1 s2), h1, h2, h3, fun H4 s4 => ?_⟩
        exact ⟨true, rfl, (fun z => nomatch z), fun _ => Same.trans s2 s4⟩
      · have s12 := Same.trans s1 s2
        walk_at "rd"
        refine iteF ?_
        walk_at "rd"
        refine d_iTe (Same.sqt s12 qb) ?_
        intro D fD
        refine lc_it (walk_tup (K := K) (a := b) (xs := tvs)) (fun i H3 => ∃ es : List (Addr × (Int × Int)), H3 D = some (.lst (es.map fun e => V.ref e.1)) ∧ Same H2 H3 ∧ es.map (·.2) = (u.2.take i).map (fun t => ((t.1 : Int), (t.2.1 : Int))) ∧ ∀ e ∈ es, SqT K H3 e.1 [.int e.2.1, .int e.2.2])
          ⟨[], upd_same, same_new fD, rfl, by simp⟩ (fun i H3 hi hP => ?_) (fun i x H3' H3 hi hP hy => ?_) (fun H3 hP => ?_)
        · obtain ⟨_, _, s3, _⟩ := hP
          exact Same.sqt (Same.trans s12 s3) qb
        · obtain ⟨es, eD, s3, ee, ht⟩ := hP
          obtain ⟨rfl, hx⟩ := hy
          obtain ⟨t, htt, c, rfl, qt⟩ := Paired.at pt hx
          have qt3 := Same.sqt (Same.trans s12 s3) qt
          have le : es.length ≤ 1600 := by
            have z := congrArg List.length ee
            rw [List.length_map, List.length_map] at z
            have := List.length_take_le i u.2
            omega
          walk_at "rd"
          refine d_ixT qt3 rfl ?_
          walk_at "rd"
          refine d_ixT qt3 rfl ?_
          walk_at "rd"
          refine ⟨sz (by show 2 ≤ 100000; decide), fun p fp => ?_⟩
          have npD : p ≠ D := (ne_of_none eD fp).symm
          refine ⟨_, at_upd eD fp, szl (by rw [List.length_map]; omega), es ++ [(p, ((t.1 : Int), (t.2.1 : Int)))], by rw [upd_same, List.map_append]; rfl, same_upd (same_upd s3 (Same.free s3 fp)) fD, by rw [List.map_append, ee, take_snoc htt, List.map_append]; rfl, fun e he => ?_⟩
          have s4 := same_new (o := .tup [V.int (t.1 : Nat), V.int (t.2.1 : Nat)]) fp
          rcases List.mem_append.mp he with he | he
          · have y := Same.sqt s4 (ht e he)
            have eD4 := at_upd (u := .tup [V.int (t.1 : Nat), V.int (t.2.1 : Nat)]) eD fp
            exact sqt_upd (.inr ⟨_, eD4⟩) y
          · rw [List.mem_singleton.mp he]
            exact SqT.of (by rw [upd_ne npD, upd_same])
        · obtain ⟨es, eD, s3, ee, ht⟩ := hP
          rw [lt, List.take_length] at ee
          walk_at "rd"
          refine ⟨D, es, rfl, SqL.of eD, ht, ?_, fun H4 s4 => ?_⟩
          · have z := congrArg List.length ee
            rw [List.length_map, List.length_map] at z
            have := ties_780 W
            omega
          · have ri : (es.map (·.2)).Pairwise ltP2 := by
              rw [ee, List.pairwise_map]
              refine W.rise.imp fun {x y} h => ?_
              unfold tlt at h
              unfold ltP2
              dsimp only
              omega
            rw [decide_eq_true ri]
            exact q _ (Same.trans s12 (Same.trans s3 s4))
/-- the cells: a list of pairs (place, cell) -/
def spCells (K : PySem.W.Frag) : Sp := fun vs H Q _ => ∃ (a : Addr) (ns : List Int) (n : Int), vs = [.ref a, .int n] ∧ SqL K H a (ns.map V.int) ∧ ns.length ≤ 63 ∧ 0 ≤ n ∧ n ≤ 1000 ∧
  ∀ H' (p : Addr) (ts : List Addr), Same H H' → H p = none → H' p = some (.lst (ts.map V.ref)) → ts.length ≤ 100 → (∀ (j : Nat) (t : Addr), ts[j]? = some t → ∃ c : Int, H' t = some (.tup [.int (j : Nat), .int c])) → Q (.ref p) H'
theorem ok_cells (T : Tx K mg base) : FnOk P w K mg base CX0 1 T.cells.f T.cells.fd ["script", "many"] (spCells K) := by
  refine T.cells.F.ok sc_cells (fun vs H Q E h => ?_) (fun cdv A outer s H vs Q E hr h => ?_)
  · obtain ⟨a, ns, n, rfl, _⟩ := h; rfl
  · obtain ⟨a, ns, n, rfl, hS, hl, n0, n1, q⟩ := h
    refine ⟨_, (pss_one (ps_ret (pe_listEnum rfl (by rfl) T.m_list (by rfl) T.m_enumerate (pa_cons (pe_op op_cat (pe_slice sl_list (pv 0) po_none (po_some (pv 1))) (pe_op op_rep (pe_lst (pa_cons pe_int pa_nil)) (pe_callTy call_int1 (by rfl) T.m_int (by decide +kernel) (pa_cons (pe_cmpR (op_eqD (hr.units)) (pv 0) (pe_lst pa_nil) (nomark _)) pa_nil)))) pa_nil)))), ?_⟩
    walk_at "rd"
    refine d_slL hS fun p1 f1 => ?_
    walk_at "rd"
    refine ⟨sz (by decide), fun p2 f2 => ?_⟩
    walk_at "rd"
    refine ⟨sz (by decide), fun p3 f3 => ?_⟩
    have s1 := same_new (o := .lst (cutV (ns.map V.int) none (some n))) f1
    have s2 := same_new (o := .lst [V.int 0]) f2
    have s3 := same_new (o := .lst []) f3
    refine ⟨_, _, .lst (Same.seq s3 (Same.seq s2 (Same.seq s1 hS))) (dpa_ints ns), .lst (SqL.of upd_same) .nil, shaped_ints ns, by decide, ?_⟩
    generalize hb : PyData.eqv (.list (ns.map PyData.int)) (.list []) = b
    walk_at "rd"
    refine .inr ⟨b, rfl, ?_⟩
    have e2 := s3 p2 _ upd_same
    refine ⟨p2, _, _, rfl, rfl, e2, by cases b <;> decide, by cases b <;> decide, by cases b <;> exact sz (by decide), fun p4 f4 => ?_⟩
    have s4 := same_new (o := .lst (List.replicate (if b = true then (1 : Int) else 0).toNat [V.int 0]).flatten) f4
    have e1 := s4 _ _ (s3 _ _ (s2 p1 _ upd_same))
    have l1 : (cutV (ns.map V.int) none (some n)).length ≤ 63 := Nat.le_trans (cutV_length _ _ _) (by rw [List.length_map]; exact hl)
    have l2 : (List.replicate (if b = true then (1 : Int) else 0).toNat [V.int 0]).flatten.length ≤ 1 := by cases b <;> decide
    refine ⟨p1, p4, _, _, rfl, rfl, e1, upd_same, sz (by omega), fun p5 f5 => ?_⟩
    walk_at "rd"
    have s5 := same_new (o := .lst (cutV (ns.map V.int) none (some n) ++ (List.replicate (if b = true then (1 : Int) else 0).toNat [V.int 0]).flatten)) f5
    have sA : Same H _ := Same.trans s1 (Same.trans s2 (Same.trans s3 (Same.trans s4 s5)))
    refine ⟨p5, _, rfl, SqL.of upd_same, fun H' p ts sm n1 n2 n3 eL len at_ => ?_⟩
    refine q H' p ts (Same.trans sA sm) (Same.free sA n1) eL (by rw [len, List.length_append]; omega) fun j t ht => ?_
    have hj : j < (cutV (ns.map V.int) none (some n) ++ (List.replicate (if b = true then (1 : Int) else 0).toNat [V.int 0]).flatten).length := by rw [← len]; exact (List.getElem?_eq_some_iff.mp ht).1
    have hx := List.getElem?_eq_getElem hj
    have hm : ∃ c : Int, (cutV (ns.map V.int) none (some n) ++ (List.replicate (if b = true then (1 : Int) else 0).toNat [V.int 0]).flatten)[j] = V.int c := by
      have hin := List.getElem_mem hj
      rcases List.mem_append.mp hin with z | z
      · have z2 : _ ∈ ns.map V.int := List.mem_of_mem_drop (List.mem_of_mem_take z)
        obtain ⟨c, _, e⟩ := List.mem_map.mp z2
        exact ⟨c, e.symm⟩
      · refine ⟨0, ?_⟩
        obtain ⟨l, hl1, hl2⟩ := List.mem_flatten.mp z
        rw [List.eq_of_mem_replicate hl1] at hl2
        exact List.mem_singleton.mp hl2
    obtain ⟨c, hc⟩ := hm
    exact ⟨c, by rw [at_ j t _ ht hx, hc]⟩
def spGreat (K : PySem.W.Frag) : Sp := fun vs H Q _ => ∃ (a : Addr) (ns : List Int), vs = [.ref a] ∧ SqL K H a (ns.map V.int) ∧ ∀ b : Bool, Q (.bl b) H
theorem ok_great (T : Tx K mg base) : FnOk P w K mg base CX0 1 T.great.f T.great.fd ["script"] (spGreat K) := by
  refine T.great.F.ok sc_great (fun vs H Q E h => ?_) (fun cdv A outer s H vs Q E hr h => ?_)
  · obtain ⟨a, ns, rfl, _⟩ := h; rfl
  · obtain ⟨a, ns, rfl, hS, q⟩ := h
    refine ⟨_, (pss_one (ps_ret (pe_cmpR op_eq (pe_op op_mod (pe_op op_fdiv (pe_callB (cr_sum rfl) (by rfl) T.m_sum (by decide +kernel) (pa_cons (pv 0) pa_nil)) pe_int) pe_int) pe_int (nomark _)))), ?_⟩
    walk_at "rd"
    refine ⟨a, ns, rfl, hS, ?_⟩
    walk_at "rd"
    exact q _
def Lts (z : Str) : Prop := (z.cps.toList.all fun c => decide (97 ≤ c) && decide (c ≤ 122)) = true ∧ 0 < z.length ∧ z.length ≤ 26
def spLetters : Sp := fun vs H Q _ => ∃ h : Addr, vs = [.ref h] ∧ Hand H h ∧ ∀ H' z, Keep h H H' → Hand H' h → Lts z → Q (.str z) H'
theorem ok_letters (T : Tx K mg base) : FnOk P w K mg base CX0 2 T.letters.f T.letters.fd ["hand"] spLetters := by
  refine T.letters.F.ok sc_letters (fun vs H Q E h => ?_) (fun cdv A outer s H vs Q E hr h => ?_)
  · obtain ⟨a, rfl, _⟩ := h; rfl
  · obtain ⟨h, rfl, hh, q⟩ := h
    refine ⟨_, (pss_one (ps_ret (pe_ix ix_list (pe_lst (pa_cons pe_str (pa_cons pe_str (pa_cons pe_str (pa_cons pe_str pa_nil))))) (pe_call (ok_draw T) (hr.mono (by decide)) (by rfl) T.draw.g T.draw.F.kp T.draw.b .nil pass0 (pa_cons (pv 0) (pa_cons pe_int pa_nil))) (fun _ _ => rfl)))), ?_⟩
    walk_at "rd"
    refine ⟨sz (by decide), fun p1 f1 => ?_⟩
    walk_at "rd"
    refine ⟨h, 4, rfl, by decide, by decide, hh.put (hh.ne f1), fun H' g k hh' g0 g4 => ?_⟩
    have e1 := k p1 _ (hh.ne f1) upd_same
    have kk : Keep h H H' := Keep.trans (Same.keep (same_new f1)) k
    have e : g = 0 ∨ g = 1 ∨ g = 2 ∨ g = 3 := by omega
    rcases e with rfl | rfl | rfl | rfl
    · exact d_ixLm e1 rfl (q _ _ kk hh' (by unfold Lts; decide +kernel))
    · exact d_ixLm e1 rfl (q _ _ kk hh' (by unfold Lts; decide +kernel))
    · exact d_ixLm e1 rfl (q _ _ kk hh' (by unfold Lts; decide +kernel))
    · exact d_ixLm e1 rfl (q _ _ kk hh' (by unfold Lts; decide +kernel))
def spSize : Sp := fun vs H Q _ => ∃ (h : Addr) (b : Bool), vs = [.ref h, .bl b] ∧ Hand H h ∧ ∀ H' (n : Int), Keep h H H' → Hand H' h → 0 ≤ n → n ≤ 40 → Q (.int n) H'
theorem ok_size (T : Tx K mg base) : FnOk P w K mg base CX0 2 T.size.f T.size.fd ["hand", "great"] spSize := by
  refine T.size.F.ok sc_size (fun vs H Q E h => ?_) (fun cdv A outer s H vs Q E hr h => ?_)
  · obtain ⟨a, b, rfl, _⟩ := h; rfl
  · obtain ⟨h, b, rfl, hh, q⟩ := h
    refine ⟨_, (pss_cons (ps_if (pt_val (pv 1))
        (pss_one (ps_ret (pe_ix ix_list (pe_lst (pa_cons (pe_op op_add pe_int (pe_call (ok_draw T) (hr.mono (by decide)) (by rfl) T.draw.g T.draw.F.kp T.draw.b .nil pass0 (pa_cons (pv 0) (pa_cons pe_int pa_nil)))) (pa_cons (pe_op op_add pe_int (pe_call (ok_draw T) (hr.mono (by decide)) (by rfl) T.draw.g T.draw.F.kp T.draw.b .nil pass0 (pa_cons (pv 0) (pa_cons pe_int pa_nil)))) pa_nil))) (pe_call (ok_draw T) (hr.mono (by decide)) (by rfl) T.draw.g T.draw.F.kp T.draw.b .nil pass0 (pa_cons (pv 0) (pa_cons pe_int pa_nil))) (fun _ _ => rfl))))
        pss_nil)
      (pss_one (ps_ret (pe_ix ix_list (pe_lst (pa_cons (pe_call (ok_draw T) (hr.mono (by decide)) (by rfl) T.draw.g T.draw.F.kp T.draw.b .nil pass0 (pa_cons (pv 0) (pa_cons pe_int pa_nil))) (pa_cons (pe_call (ok_draw T) (hr.mono (by decide)) (by rfl) T.draw.g T.draw.F.kp T.draw.b .nil pass0 (pa_cons (pv 0) (pa_cons pe_int pa_nil))) (pa_cons (pe_call (ok_draw T) (hr.mono (by decide)) (by rfl) T.draw.g T.draw.F.kp T.draw.b .nil pass0 (pa_cons (pv 0) (pa_cons pe_int pa_nil))) pa_nil)))) (pe_call (ok_draw T) (hr.mono (by decide)) (by rfl) T.draw.g T.draw.F.kp T.draw.b .nil pass0 (pa_cons (pv 0) (pa_cons pe_int pa_nil))) (fun _ _ => rfl))))), ?_⟩
    walk_at "rd"
    refine ite2 (fun e => ?_) (fun e => ?_)
    · walk_at "rd"
      refine ⟨h, 5, rfl, by decide, by decide, hh, fun H1 g1 k1 hh1 a1 b1 => ?_⟩
      walk_at "rd"
      refine ⟨h, 23, rfl, by decide, by decide, hh1, fun H2 g2 k2 hh2 a2 b2 => ?_⟩
      walk_at "rd"
      refine ⟨sz (by show 2 ≤ 100000; decide), fun p1 f1 => ?_⟩
      walk_at "rd"
      refine ⟨h, 2, rfl, by decide, by decide, hh2.put (hh2.ne f1), fun H3 g3 k3 hh3 a3 b3 => ?_⟩
      have e1 := k3 p1 _ (hh2.ne f1) upd_same
      have kk : Keep h H H3 := Keep.trans (Keep.same (Keep.trans k1 k2) (same_new f1)) k3
      have e : g3 = 0 ∨ g3 = 1 := by omega
      rcases e with rfl | rfl
      · exact d_ixLm e1 rfl (q _ _ kk hh3 (by omega) (by omega))
      · exact d_ixLm e1 rfl (q _ _ kk hh3 (by omega) (by omega))
    · walk_at "rd"
      refine ⟨h, 5, rfl, by decide, by decide, hh, fun H1 g1 k1 hh1 a1 b1 => ?_⟩
      walk_at "rd"
      refine ⟨h, 9, rfl, by decide, by decide, hh1, fun H2 g2 k2 hh2 a2 b2 => ?_⟩
      walk_at "rd"
      refine ⟨h, 13, rfl, by decide, by decide, hh2, fun H2' g2' k2' hh2' a2' b2' => ?_⟩
      walk_at "rd"
      refine ⟨sz (by show 3 ≤ 100000; decide), fun p1 f1 => ?_⟩
      walk_at "rd"
      refine ⟨h, 3, rfl, by decide, by decide, hh2'.put (hh2'.ne f1), fun H3 g3 k3 hh3 a3 b3 => ?_⟩
      have e1 := k3 p1 _ (hh2'.ne f1) upd_same
      have kk : Keep h H H3 := Keep.trans (Keep.same (Keep.trans (Keep.trans k1 k2) k2') (same_new f1)) k3
      have e : g3 = 0 ∨ g3 = 1 ∨ g3 = 2 := by omega
      rcases e with rfl | rfl | rfl
      · exact d_ixLm e1 rfl (q _ _ kk hh3 (by omega) (by omega))
      · exact d_ixLm e1 rfl (q _ _ kk hh3 (by omega) (by omega))
      · exact d_ixLm e1 rfl (q _ _ kk hh3 (by omega) (by omega))
theorem Lts.at {z : Str} (l : Lts z) {g : Int} (h0 : 0 ≤ g) (h1 : g < z.length) : ∃ c, atI z.cps.toList g = some c ∧ Ltr c := by
  obtain ⟨n, rfl⟩ := Int.eq_ofNat_of_zero_le h0
  have hn : n < z.cps.toList.length := by
    have e : z.cps.toList.length = z.length := rfl
    omega
  refine ⟨z.cps.toList[n], atI_nat (List.getElem?_eq_getElem hn), ?_⟩
  have a := List.all_eq_true.mp l.1 _ (List.getElem_mem hn)
  simp only [Bool.and_eq_true, decide_eq_true_eq] at a
  exact a
def spWeb (K : PySem.W.Frag) : Sp := fun vs H Q _ => ∃ (h : Addr) (n : Int), vs = [.ref h, .int n] ∧ 0 ≤ n ∧ n ≤ 40 ∧ Hand H h ∧ ∀ H' v w, Keep h H H' → Hand H' h → WebAt K H' v w → WOk w → (w.1.length : Int) = n → Q v H'
theorem ok_web (T : Tx K mg base) : FnOk P w K mg base CX0 3 T.web.f T.web.fd ["hand", "many"] (spWeb K) := by
  refine T.web.F.ok sc_web (fun vs H Q E h => ?_) (fun cdv A outer s H vs Q E hr h => ?_)
  · obtain ⟨a, b, rfl, _⟩ := h; rfl
  · obtain ⟨h, n, rfl, n0, n40, hh, q⟩ := h
    refine ⟨_, (pss_cons (ps_set (i := 2) sc_web.nd rfl (.inr rfl) (pe_call (ok_letters T) (hr.mono (by decide)) (by rfl) T.letters.g T.letters.F.kp T.letters.b .nil pass0 (pa_cons (pv 0) pa_nil)))
      (pss_cons (ps_set (i := 3) sc_web.nd rfl (.inl rfl) (pe_call (ok_letters T) (hr.mono (by decide)) (by rfl) T.letters.g T.letters.F.kp T.letters.b .nil pass0 (pa_cons (pv 0) pa_nil)))
      (pss_cons (ps_set (i := 4) sc_web.nd rfl (.inl rfl) (pe_op op_add pe_int (pe_call (ok_draw T) (hr.mono (by decide)) (by rfl) T.draw.g T.draw.F.kp T.draw.b .nil pass0 (pa_cons (pv 0) (pa_cons pe_int pa_nil)))))
      (pss_cons (ps_set (i := 5) sc_web.nd rfl (.inl rfl) (pe_join pe_str (pe_lc (own := [("k", 9)]) (g := gName 9) (tt := tYes) rfl sc_web.nd (pi_range1 (by rfl) T.m_range (pa_cons (pv 1) pa_nil)) (blkOk_by (N := ["hand", "many", "some", "tie_kinds", "often", "kinds", "ties", "place", "other", "k"]) (sc := defScope s_web) (by decide +kernel)) (fun _ _ _ _ _ => (pg_name (i := 9) sc_web.nd rfl (.inl rfl))) (fun _ _ _ _ _ => pts_nil) (fun _ _ _ _ _ => (pe_ix ix_str (pv 2) (pe_call (ok_draw T) (hr.mono (by decide)) (by rfl) T.draw.g T.draw.F.kp T.draw.b .nil pass0 (pa_cons (pv 0) (pa_cons (pe_callB call_len_str (by rfl) T.m_len (by decide +kernel) (pa_cons (pv 2) pa_nil)) pa_nil))) (fun _ _ => rfl))))))
      (pss_cons (ps_set (i := 6) sc_web.nd rfl (.inl rfl) (pe_lst pa_nil))
      (pss_cons (ps_for PassesOwn.never rfl (pi_range1 (by rfl) T.m_range (pa_cons (pv 1) pa_nil)) (pg_name (i := 7) sc_web.nd rfl (.inl rfl))
        (pss_one (ps_for PassesOwn.never rfl (pi_range2 (by rfl) T.m_range (pa_cons (pe_op op_add (pv 7) pe_int) (pa_cons (pv 1) pa_nil))) (pg_name (i := 8) sc_web.nd rfl (.inl rfl))
          (pss_one (ps_if (pt_cmpR op_lt (pe_call (ok_draw T) (hr.mono (by decide)) (by rfl) T.draw.g T.draw.F.kp T.draw.b .nil pass0 (pa_cons (pv 0) (pa_cons pe_int pa_nil))) (pv 4) (nomark _))
            (pss_one (ps_expr (pe_bm PySem.F.plainAttrs_list PySem.F.slot_list_append PySem.F.type_list_append mt_append (pv 6) (pa_cons (pe_tup (pa_cons (pv 7) (pa_cons (pv 8) (pa_cons (pe_ix ix_str (pv 3) (pe_call (ok_draw T) (hr.mono (by decide)) (by rfl) T.draw.g T.draw.F.kp T.draw.b .nil pass0 (pa_cons (pv 0) (pa_cons (pe_callB call_len_str (by rfl) T.m_len (by decide +kernel) (pa_cons (pv 3) pa_nil)) pa_nil))) (fun _ _ => rfl)) pa_nil)))) pa_nil))))
            pss_nil)))))
      (pss_one (ps_ret (pe_tup (pa_cons (pv 5) (pa_cons (pe_callTy call_tuple_of (by rfl) T.m_tuple (by decide +kernel) (pa_cons (pv 6) pa_nil)) pa_nil))))))))))), ?_⟩
    walk_at "rd"
    refine ⟨h, rfl, hh, fun H1 some_ k1 hh1 ls => ?_⟩
    walk_at "rd"
    refine ⟨h, rfl, hh1, fun H2 tk k2 hh2 lt => ?_⟩
    walk_at "rd"
    refine ⟨h, 6, rfl, by decide, by decide, hh2, fun H3 g3 k3 hh3 a3 b3 => ?_⟩
    walk_at "rd"
    intro D fD
    have nD := hh3.ne fD
    refine lc_range (fun i H' => ∃ cs : List Nat, cs.length = i ∧ (∀ c ∈ cs, Ltr c) ∧ H' D = some (.lst (cs.map fun c => V.str (sg c))) ∧ Keep h H3 H' ∧ Hand H' h) ⟨[], rfl, by simp, upd_same, Same.keep (same_new fD), hh3.put nD⟩ (fun i H' hi hP => ?_) (fun H' hP => ?_)
    · obtain ⟨cs, hlen, hl, eD, kk, hh'⟩ := hP
      walk_at "rd"
      first | (refine d_lenS (z := some_) (sz (by have := ls.2.2; omega)) ?_) | (refine ⟨sz (by have := ls.2.2; omega), ?_⟩)
      walk_at "rd"
      refine ⟨h, _, rfl, by have := ls.2.1; omega, by have := ls.2.2; omega, hh', fun H4 g k4 hh4 g0 gl => ?_⟩
      obtain ⟨c, ec, lc⟩ := ls.at g0 gl
      refine ⟨some_, g, c, rfl, rfl, sz (by have := ls.2.2; omega), ec, ?_⟩
      refine ⟨_, k4 D _ nD eD, szl (by rw [List.length_map]; omega), cs ++ [c], by rw [List.length_append, hlen]; rfl, ?_, by rw [upd_same, List.map_append]; rfl, Keep.new (Keep.trans kk k4) fD, hh4.put nD⟩
      intro x hx
      rcases List.mem_append.mp hx with hx | hx
      · exact hl x hx
      · rw [List.mem_singleton.mp hx]; exact lc
    obtain ⟨cs, hlen, hl, eD, kk, hh'⟩ := hP
    refine ⟨_, D, cs.map sg, rfl, rfl, .inl (SqL.of (by rw [List.map_map]; exact eD)), ?_, ?_⟩
    · rw [sum_const _ 1 _ (by intro x hx; obtain ⟨c, _, rfl⟩ := List.mem_map.mp hx; rfl), List.length_map]
      have e0 : (Str.ofString "").length = 0 := by decide +kernel
      rw [e0]; omega
    rw [join_signs]
    walk_at "rd"
    refine ⟨sz (by decide), fun l fl => ?_⟩
    walk_at "rd"
    have nl := hh'.ne fl
    refine for_range (fun i σ H5 => ∃ y7 y8 y9 ts tvs, σ = [some (.ref h), some (.int n), some (.str some_), some (.str tk), some (.int (1 + g3)), some (.str ⟨cs.toArray⟩), some (.ref l), y7, y8, y9] ∧ H5 l = some (.lst tvs) ∧ Paired (TieAt K H5) tvs ts ∧ ts.Pairwise tlt ∧
      (∀ t ∈ ts, t.1 < i ∧ t.1 < t.2.1 ∧ t.2.1 < n.toNat ∧ Ltr t.2.2) ∧ ts.length ≤ 40 * i ∧ Keep h H' H5 ∧ Hand H5 h) ⟨_, _, _, [], [], rfl, upd_same, .nil, .nil, by simp, by simp, Same.keep (same_new fl), hh'.put nl⟩ (fun i σ H5 hi hP => ?_) (fun σ H5 hP => ?_)
    · obtain ⟨y7, y8, y9, ts, tvs, rfl, eL, pT, sT, bT, lT, k5, hh5⟩ := hP
      walk_at "rd"
      refine for_range (fun j σ H6 => ∃ y8 y9 ts tvs, σ = [some (.ref h), some (.int n), some (.str some_), some (.str tk), some (.int (1 + g3)), some (.str ⟨cs.toArray⟩), some (.ref l), some (.int (0 + (i : Nat))), y8, y9] ∧ H6 l = some (.lst tvs) ∧ Paired (TieAt K H6) tvs ts ∧ ts.Pairwise tlt ∧
        (∀ t ∈ ts, (t.1 < i ∨ (t.1 = i ∧ t.2.1 < i + 1 + j)) ∧ t.1 < t.2.1 ∧ t.2.1 < n.toNat ∧ Ltr t.2.2) ∧ ts.length ≤ 40 * i + j ∧ Keep h H' H6 ∧ Hand H6 h) ⟨_, _, ts, tvs, rfl, eL, pT, sT, fun t ht => ⟨.inl (bT t ht).1, (bT t ht).2⟩, lT, k5, hh5⟩ (fun j σ H6 hj hP => ?_) (fun σ H6 hP => ?_)
      · obtain ⟨z8, z9, us, uvs, rfl, eL6, pU, sU, bU, lU, k6, hh6⟩ := hP
        walk_at "rd"
        refine ⟨h, 7, rfl, by decide, by decide, hh6, fun H7 g7 k7 hh7 a7 b7 => ?_⟩
        have eL7 := k7 l _ nl eL6
        obtain ⟨d6, m6, e6, _⟩ := id hh6
        have pU7 : Paired (TieAt K H7) uvs us := Paired.imp pU fun _ _ z => z.keep k7 e6
        walk_at "rd"
        refine ite2 (fun e => ?_) (fun e => ?_)
        · walk_at "rd"
          refine d_app eL7 ?_
          walk_at "rd"
          first | (refine d_lenS (z := tk) (sz (by have := lt.2.2; omega)) ?_) | (refine ⟨sz (by have := lt.2.2; omega), ?_⟩)
          walk_at "rd"
          refine ⟨h, _, rfl, by have := lt.2.1; omega, by have := lt.2.2; omega, hh7, fun H8 g k8 hh8 g0 gl => ?_⟩
          obtain ⟨c, ec, lc⟩ := lt.at g0 gl
          refine ⟨tk, g, c, rfl, rfl, sz (by have := lt.2.2; omega), ec, ?_⟩
          have eL8 := k8 l _ nl eL7
          obtain ⟨d7, m7, e7, _⟩ := id hh7
          have pU8 : Paired (TieAt K H8) uvs us := Paired.imp pU7 fun _ _ z => z.keep k8 e7
          walk_at "rd"
          refine ⟨sz (by show 3 ≤ 100000; decide), fun p fp => ?_⟩
          walk_at "rd"
          have npl : l ≠ p := ne_of_none eL8 fp
          have eL9 : (upd H8 p (.tup [V.int (0 + (i : Nat)), V.int (0 + (i : Nat) + 1 + (j : Nat)), V.str (sg c)])) l = some (.lst uvs) := by rw [upd_ne npl]; exact eL8
          have luv : uvs.length = us.length := Paired.length pU
          refine d_append eL9 (szl (by omega)) ?_
          refine ⟨_, _, us ++ [(i, i + 1 + j, c)], uvs ++ [.ref p], rfl, upd_same, ?_, ?_, ?_, ?_, ?_, ?_⟩
          · have lst9 : ∃ ys, (upd H8 p (.tup [V.int (0 + (i : Nat)), V.int (0 + (i : Nat) + 1 + (j : Nat)), V.str (sg c)])) l = some (.lst ys) := ⟨_, eL9⟩
            refine Paired.snoc (Paired.imp pU8 fun _ _ z => (z.put (.inl fp)).put (.inr lst9)) ⟨p, rfl, ?_⟩
            refine sqt_upd (.inr lst9) (SqT.of ?_)
            rw [upd_same]
            simp only [Int.zero_add]
            rfl
          · refine List.pairwise_append.mpr ⟨sU, List.pairwise_singleton _ _, fun a ha b hb => ?_⟩
            rw [List.mem_singleton.mp hb]
            rcases (bU a ha).1 with z | ⟨z1, z2⟩
            · exact .inl z
            · exact .inr ⟨z1, z2⟩
          · intro t ht
            rcases List.mem_append.mp ht with ht | ht
            · obtain ⟨z1, z2⟩ := bU t ht
              refine ⟨?_, z2⟩
              rcases z1 with z | ⟨z3, z4⟩
              · exact .inl z
              · exact .inr ⟨z3, by omega⟩
            · rw [List.mem_singleton.mp ht]
              exact ⟨.inr ⟨rfl, by show i + 1 + j < i + 1 + (j + 1); omega⟩, by show i < i + 1 + j; omega, by show i + 1 + j < n.toNat; omega, lc⟩
          · rw [List.length_append]
            show us.length + 1 ≤ 40 * i + (j + 1)
            omega
          · exact Keep.new (Keep.new (Keep.trans k6 (Keep.trans k7 k8)) (Keep.free (Keep.trans k6 (Keep.trans k7 k8)) (hh8.ne fp) fp)) fl
          · exact (hh8.put (hh8.ne fp)).put nl
        · walk_at "rd"
          exact ⟨_, _, us, uvs, rfl, eL7, pU7, sU, fun t ht => ⟨(bU t ht).1.imp id fun z => ⟨z.1, by omega⟩, (bU t ht).2⟩, by omega, Keep.trans k6 k7, hh7⟩
      · obtain ⟨z8, z9, us, uvs, rfl, eL6, pU, sU, bU, lU, k6, hh6⟩ := hP
        refine ⟨_, _, _, us, uvs, rfl, eL6, pU, sU, fun t ht => ⟨?_, (bU t ht).2⟩, by omega, k6, hh6⟩
        rcases (bU t ht).1 with z | ⟨z, _⟩ <;> omega
    · obtain ⟨y7, y8, y9, ts, tvs, rfl, eL, pT, sT, bT, lT, k5, hh5⟩ := hP
      walk_at "rd"
      refine ⟨l, tvs, rfl, .inl ⟨SqL.of eL, fun t ft => ?_⟩⟩
      walk_at "rd"
      refine ⟨sz (by show 2 ≤ 100000; decide), fun a fa => ?_⟩
      refine q _ _ (cs, ts) ?_ ?_ ?_ ⟨by show cs.length ≤ 40; omega, by show ts.length ≤ 1600; omega, hl, sT, fun t ht => ⟨(bT t ht).2.1, by show t.2.1 < cs.length; rw [hlen]; exact (bT t ht).2.2.1, (bT t ht).2.2.2⟩⟩ (by show (cs.length : Int) = n; omega)
      · exact Keep.same (Keep.same (Keep.trans (Keep.trans (Keep.trans (Keep.trans k1 k2) k3) kk) k5) (same_new ft)) (same_new fa)
      · exact (hh5.put (hh5.ne ft)).put ((hh5.put (hh5.ne ft)).ne fa)
      · exact ⟨a, t, tvs, rfl, SqT.of upd_same, sqt_upd (.inl fa) (SqT.of upd_same), Paired.imp pT fun _ _ z => (z.put (.inl ft)).put (.inl fa)⟩
/-- the places in a drawn order -/
def spOrder : Sp := fun vs H Q _ => ∃ (h : Addr) (n : Int), vs = [.ref h, .int n] ∧ 0 ≤ n ∧ n ≤ 1000 ∧ Hand H h ∧ ∀ H' (p : Addr) (qs : List Nat), Keep h H H' → Hand H' h → H p = none → H' p = some (.lst (qs.map fun q => V.int (q : Nat))) → qs.Perm (List.range n.toNat) → Q (.ref p) H'
theorem ok_order (T : Tx K mg base) : FnOk P w K mg base CX0 2 T.order.f T.order.fd ["hand", "many"] spOrder := by
  refine T.order.F.ok sc_order (fun vs H Q E h => ?_) (fun cdv A outer s H vs Q E hr h => ?_)
  · obtain ⟨h, n, rfl, _⟩ := h; rfl
  · obtain ⟨h, n, rfl, n0, n1, hh, q⟩ := h
    refine ⟨_, (pss_cons (ps_set (i := 2) sc_order.nd rfl (.inr rfl) (pe_listRg rfl (by rfl) T.m_list (prg_1 (by rfl) T.m_range (pv 1))))
      (pss_one (ps_ret (pe_lc (own := [("k", 3)]) (g := gName 3) (tt := tYes) (te := tBM K "list" rPopAt (tVar 2) (tCons (tCall spDraw [] E0 (tCons (tVar 0) (tCons (tCB (Evl.rLenS K) (tCons (tVar 2) tNil)) tNil))) tNil)) rfl sc_order.nd (pi_range1 (by rfl) T.m_range (pa_cons (pv 1) pa_nil)) (blkOk_by (N := ["hand", "many", "left", "k"]) (sc := defScope s_order) (by decide +kernel)) (fun _ _ _ _ _ => (pg_name (i := 3) sc_order.nd rfl (.inl rfl))) (fun _ _ _ _ _ => pts_nil) (fun _ _ _ _ _ => (pe_bm PySem.F.plainAttrs_list PySem.F.slot_list_pop PySem.F.type_list_pop mt_popAt (pv 2) (pa_cons (pe_call (ok_draw T) (hr.mono (by decide)) (by rfl) T.draw.g T.draw.F.kp T.draw.b .nil pass0 (pa_cons (pv 0) (pa_cons (pe_callB call_len_seq (by rfl) T.m_len (by decide +kernel) (pa_cons (pv 2) pa_nil)) pa_nil))) pa_nil))))))), ?_⟩
    walk_at "rd"
    refine ⟨RgOk.of_le (by omega) (by omega) (by omega) (by omega), fun L fL => ?_⟩
    walk_at "rd"
    have nL := hh.ne fL
    have hh1 := hh.put (o := .lst (rgV 0 n)) nL
    have eL := upd_same (H := H) (a := L) (o := .lst (rgV 0 n))
    rw [rgV_nats] at eL hh1
    have s1 := same_new (o := .lst ((List.range n.toNat).map fun q => V.int (q : Nat))) fL
    intro D fD
    have nD := (show Hand _ h from by rw [rgV_nats]; exact hh1).ne fD
    have nLD : L ≠ D := ne_of_none (upd_same (H := H) (a := L) (o := .lst (rgV 0 n))) fD
    rw [rgV_nats] at fD ⊢
    refine lc_range (fun i H' => ∃ gs ls : List Nat, gs.length = i ∧ (gs ++ ls).Perm (List.range n.toNat) ∧ H' D = some (.lst (gs.map fun q => V.int (q : Nat))) ∧ H' L = some (.lst (ls.map fun q => V.int (q : Nat))) ∧ Keep h H H' ∧ Hand H' h)
      ⟨[], List.range n.toNat, rfl, List.Perm.refl _, upd_same, at_upd eL fD, Keep.new (Same.keep s1) (Same.free s1 fD), hh1.put nD⟩ (fun i H' hi hP => ?_) (fun H' hP => ?_)
    · obtain ⟨gs, ls, lg, pm, eD, eL', kk, hh'⟩ := hP
      have lsum := pm.length_eq
      rw [List.length_append, List.length_range] at lsum
      have hi' : i < n.toNat := by omega
      walk_at "rd"
      refine ⟨.inl ⟨rfl, _, SqL.of eL'⟩, ?_⟩
      walk_at "rd"
      refine d_lenL (SqL.of eL') ?_
      rw [List.length_map]
      walk_at "rd"
      refine ⟨h, (ls.length : Nat), rfl, by omega, by omega, hh', fun H2 g k2 hh2 g0 g1 => ?_⟩
      walk_at "rd"
      obtain ⟨m, rfl⟩ := Int.eq_ofNat_of_zero_le g0
      have hm : m < ls.length := by omega
      have eL2 := k2 L _ nL eL'
      refine ⟨L, _, (m : Nat), m, .int (ls[m] : Nat), rfl, rfl, eL2, by omega, by omega, by rw [List.length_map]; exact seqIndex_of (by omega) (by omega), by rw [List.getElem?_map, List.getElem?_eq_getElem hm]; rfl, ?_⟩
      have eD2 := k2 D _ nD eD
      have nh := nL
      refine ⟨_, by rw [upd_ne nLD.symm]; exact eD2, szl (by rw [List.length_map]; omega), gs ++ [ls[m]], ls.eraseIdx m, by rw [List.length_append, lg]; rfl, ?_, by rw [upd_same, List.map_append]; rfl, ?_, ?_, ?_⟩
      · rw [List.append_assoc]
        exact (List.Perm.append_left gs (erase_perm ls m hm)).trans pm
      · rw [upd_ne nLD, upd_same]
        congr 2
        exact erase_map _ _ _
      · exact Keep.new (Keep.new (Keep.trans kk k2) fL) (Same.free s1 fD)
      · exact (hh2.put nL).put nD
    · obtain ⟨gs, ls, lg, pm, eD, eL', kk, hh'⟩ := hP
      have lsum := pm.length_eq
      rw [List.length_append, List.length_range] at lsum
      have e0 : ls = [] := List.eq_nil_of_length_eq_zero (by omega)
      subst e0
      rw [List.append_nil] at pm
      exact q H' D gs kk hh' (Same.free s1 fD) eD pm
/-- a web by other names -/
def spNamed (K : PySem.W.Frag) : Sp := fun vs H Q _ => ∃ v w, ∃ (o : Addr) (qs : List Nat), vs = [v, .ref o] ∧ WebAt K H v w ∧ WOk w ∧ H o = some (.lst (qs.map fun q => V.int (q : Nat))) ∧ Ord qs w.1.length ∧ ∀ H' v' w', Same H H' → WebAt K H' v' w' → WOk w' → Named w qs w' → Q v' H'
theorem min_int (a b : Nat) : (if (b : Int) < (a : Int) then (b : Int) else (a : Int)) = ((min a b : Nat) : Int) := by split <;> omega
theorem max_int (a b : Nat) : (if (b : Int) > (a : Int) then (b : Int) else (a : Int)) = ((max a b : Nat) : Int) := by split <;> omega
theorem ok_named (T : Tx K mg base) : FnOk P w K mg base CX0 1 T.named.f T.named.fd ["web", "order"] (spNamed K) := by
  refine T.named.F.ok sc_named (fun vs H Q E h => ?_) (fun cdv A outer s H vs Q E hr h => ?_)
  · obtain ⟨_, _, _, _, rfl, _⟩ := h; rfl
  · obtain ⟨v, w, o, qs, rfl, ⟨a, b, tvs, rfl, q1, q2, pT⟩, W, eO, oo, q⟩ := h
    have lt : tvs.length = w.2.length := Paired.length pT
    have l16 := W.most
    have l40 := W.few
    have hl : (⟨w.1.toArray⟩ : Str).length = w.1.length := by show w.1.toArray.size = _; simp
    have lq := oo.len
    refine ⟨_, (pss_cons (ps_set (i := 2) sc_named.nd rfl (.inl rfl) (pe_op op_rep (pe_lst (pa_cons pe_str pa_nil)) (pe_callB call_len_str (by rfl) T.m_len (by decide +kernel) (pa_cons (pe_ix ix_tup (pv 0) pe_int (fun _ _ => rfl)) pa_nil))))
      (pss_cons (ps_for PassesOwn.never rfl (pi_enumS (by rfl) T.m_enumerate (pa_cons (pe_ix ix_tup (pv 0) pe_int (fun _ _ => rfl)) pa_nil)) (pg_tup rfl (pgs_cons (pg_name (i := 3) sc_named.nd rfl (.inl rfl)) (pgs_cons (pg_name (i := 4) sc_named.nd rfl (.inl rfl)) pgs_nil)))
        (pss_one (ps_asg (pv 4) (pg_sub (pv 2) (pe_ix ix_list (pv 1) (pv 3) (fun _ _ => rfl)) set_list))))
      (pss_cons (ps_set (i := 5) sc_named.nd rfl (.inl rfl) (pe_lst pa_nil))
      (pss_cons (ps_for PassesOwn.never rfl (pi_tup (pe_ix ix_tup (pv 0) pe_int (fun _ _ => rfl))) (pg_tup rfl (pgs_cons (pg_name (i := 3) sc_named.nd rfl (.inl rfl)) (pgs_cons (pg_name (i := 6) sc_named.nd rfl (.inl rfl)) (pgs_cons (pg_name (i := 7) sc_named.nd rfl (.inl rfl)) pgs_nil))))
        (pss_one (ps_expr (pe_bm PySem.F.plainAttrs_list PySem.F.slot_list_append PySem.F.type_list_append mt_append (pv 5) (pa_cons (pe_tup (pa_cons (pe_callB (call_min2 rfl) (by rfl) T.m_min (by decide +kernel) (pa_cons (pe_ix ix_list (pv 1) (pv 3) (fun _ _ => rfl)) (pa_cons (pe_ix ix_list (pv 1) (pv 6) (fun _ _ => rfl)) pa_nil))) (pa_cons (pe_callB (call_max2 rfl) (by rfl) T.m_max (by decide +kernel) (pa_cons (pe_ix ix_list (pv 1) (pv 3) (fun _ _ => rfl)) (pa_cons (pe_ix ix_list (pv 1) (pv 6) (fun _ _ => rfl)) pa_nil))) (pa_cons (pv 7) pa_nil)))) pa_nil)))))
      (pss_one (ps_ret (pe_tup (pa_cons (pe_join pe_str (pv 2)) (pa_cons (pe_callTy call_tuple_of (by rfl) T.m_tuple (by decide +kernel) (pa_cons (pe_callB cr_sorted3 (by rfl) T.m_sorted (by decide +kernel) (pa_cons (pv 5) pa_nil)) pa_nil)) pa_nil))))))))), ?_⟩
    walk_at "rd"
    refine ⟨sz (by decide), fun p1 f1 => ?_⟩
    have s1 := same_new (o := .lst [V.str (Str.ofString "")]) f1
    walk_at "rd"
    refine d_ixT (Same.sqt s1 q1) rfl ?_
    refine d_lenS (z := ⟨w.1.toArray⟩) (sz (by omega)) ?_
    rw [hl]
    walk_at "rd"
    refine ⟨p1, (w.1.length : Nat), _, rfl, rfl, upd_same, by omega, by omega, sz (by simp; omega), fun P fP => ?_⟩
    rw [show ((w.1.length : Nat) : Int).toNat = w.1.length from rfl, flat_rep]
    have s2 := Same.trans s1 (same_new (o := .lst (List.replicate w.1.length (V.str (Str.ofString "")))) fP)
    have eP := upd_same (H := upd H p1 (.lst [V.str (Str.ofString "")])) (a := P) (o := .lst (List.replicate w.1.length (V.str (Str.ofString ""))))
    have fP0 := Same.free s1 fP
    generalize upd (upd H p1 (.lst [V.str (Str.ofString "")])) P (.lst (List.replicate w.1.length (V.str (Str.ofString "")))) = H2 at s2 eP ⊢
    walk_at "rd"
    refine d_ixT (Same.sqt s2 q1) rfl ?_
    walk_at "rd"
    refine for_it (walk_enumS (z := ⟨w.1.toArray⟩)) (fun i σ H3 => ∃ y3 y4 y5 y6 y7 ks, σ = [some (.ref a), some (.ref o), some (.ref P), y3, y4, y5, y6, y7] ∧ Same H H3 ∧ H3 P = some (.lst ks) ∧ ks.length = w.1.length ∧ ∀ p, p < i → ∀ c, w.1[p]? = some c → ks[qa qs p]? = some (V.str (sg c)))
      ⟨_, _, _, _, _, _, rfl, s2, eP, List.length_replicate, fun p hp => absurd hp (Nat.not_lt_zero _)⟩ (fun _ _ _ _ _ => trivial) (fun i x σ H3 H3' hi hP hy => ?_) (fun σ H3 hP => ?_)
    · obtain ⟨y3, y4, y5, y6, y7, ks, rfl, s3, eK, lk, hk⟩ := hP
      obtain ⟨T', x', y', rfl, fT, rfl, ex, ey⟩ := hy
      have hi' : i < w.1.length := by simpa using hi
      have ex' : x' = V.int (i : Nat) := (Option.some.inj ex).symm
      subst ex'
      have ey' : y' = V.str (sg w.1[i]) := by
        have z : (w.1.toArray[i]?).map (fun c => V.str (⟨#[c]⟩ : Str)) = some y' := ey
        rw [List.getElem?_toArray, List.getElem?_eq_getElem hi'] at z
        exact (Option.some.inj z).symm
      subst ey'
      refine d_gtupm upd_same rfl ?_
      walk_at "rd"
      have eO3 := at_upd (u := .tup [V.int (i : Nat), V.str (sg w.1[i])]) (s3 _ _ eO) fT
      refine d_ixLm eO3 (atI_nat (by rw [List.getElem?_map, qa_at (by omega)]; rfl)) ?_
      have hq := oo.lt' hi'
      have eK3 := at_upd (u := .tup [V.int (i : Nat), V.str (sg w.1[i])]) eK fT
      refine d_setL eK3 (j := qa qs i) (by unfold ixN; rw [if_pos (by omega), if_pos (by omega)]; simp) ?_
      refine ⟨_, _, _, _, _, _, rfl, same_upd (same_upd s3 (Same.free s3 fT)) fP0, upd_same, by rw [List.length_set]; exact lk, fun p hp c hc => ?_⟩
      by_cases e : p = i
      · subst e
        rw [List.getElem?_set_self (by omega)]
        rw [List.getElem?_eq_getElem hi'] at hc
        cases hc; rfl
      · have hp' : p < i := by omega
        have ne : qa qs i ≠ qa qs p := fun z => e (oo.inj (by omega) hi' z.symm)
        rw [List.getElem?_set_ne ne]
        exact hk p hp' c hc
    obtain ⟨y3, y4, y5, y6, y7, ks, rfl, s3, eK, lk, hk⟩ := hP
    -- the kinds
    let cs : List Nat := ks.map fun v => match v with | .str z => z.cps.toList.headD 0 | _ => 0
    have hsz : (⟨w.1.toArray⟩ : Str).cps.size = w.1.length := hl
    have kat : ∀ p, p < w.1.length → ∃ c, w.1[p]? = some c ∧ ks[qa qs p]? = some (V.str (sg c)) := fun p hp => ⟨_, List.getElem?_eq_getElem hp, hk p (by rw [hsz]; exact hp) _ (List.getElem?_eq_getElem hp)⟩
    have ecs : ks = cs.map fun c => V.str (sg c) := by
      refine List.ext_getElem? fun j => ?_
      show ks[j]? = ((ks.map _).map _)[j]?
      rw [List.getElem?_map, List.getElem?_map]
      by_cases hj : j < w.1.length
      · obtain ⟨p, hp, rfl⟩ := oo.onto hj
        obtain ⟨c, _, e⟩ := kat p hp
        rw [e]; rfl
      · rw [List.getElem?_eq_none (by omega)]; rfl
    have lcs : cs.length = w.1.length := by show (ks.map _).length = _; rw [List.length_map]; exact lk
    have hcs : ∀ p, p < w.1.length → cs[qa qs p]? = w.1[p]? := fun p hp => by
      obtain ⟨c, e1, e2⟩ := kat p hp
      show (ks.map _)[qa qs p]? = _
      rw [List.getElem?_map, e2, e1]; rfl
    walk_at "rd"
    refine ⟨sz (by decide), fun L fL => ?_⟩
    walk_at "rd"
    have s4 := same_upd (o := .lst []) s3 (Same.free s3 fL)
    refine d_ixT (Same.sqt s4 q1) rfl ?_
    refine d_iTe (Same.sqt s4 q2) ?_
    refine for_it (walk_tup (xs := tvs)) (fun i σ H5 => ∃ y3 y6 y7, ∃ es : List (Addr × Tie), σ = [some (.ref a), some (.ref o), some (.ref P), y3, y4, some (.ref L), y6, y7] ∧ Same H H5 ∧ H5 P = some (.lst ks) ∧ H5 L = some (.lst (es.map fun e => V.ref e.1)) ∧ es.map (·.2) = (w.2.take i).map (mapTie qs) ∧ ∀ e ∈ es, H5 e.1 = some (.tup (triV ((e.2.1 : Int), (e.2.2.1 : Int), e.2.2.2))))
      ⟨_, _, _, [], rfl, s4, at_upd eK fL, upd_same, rfl, by simp⟩ (fun i σ H5 hi hP => ?_) (fun i x σ H5' H5 hi hP hy => ?_) (fun σ H5 hP => ?_)
    · obtain ⟨_, _, _, _, _, s5, _⟩ := hP
      exact Same.sqt s5 q2
    · obtain ⟨z3, z6, z7, es, rfl, s5, eP5, eL5, ees, hes⟩ := hP
      obtain ⟨rfl, hx⟩ := hy
      obtain ⟨t, ht, a', rfl, qt⟩ := Paired.at pT hx
      have rt := W.ends t (List.mem_of_getElem? ht)
      refine d_gtup (Same.sqt s5 qt) rfl ?_
      walk_at "rd"
      refine d_app eL5 ?_
      walk_at "rd"
      have eO5 := s5 _ _ eO
      have g1 : atI (qs.map fun q => V.int (q : Nat)) (t.1 : Nat) = some (.int (qa qs t.1 : Nat)) := atI_nat (by rw [List.getElem?_map, qa_at (by omega)]; rfl)
      have g2 : atI (qs.map fun q => V.int (q : Nat)) (t.2.1 : Nat) = some (.int (qa qs t.2.1 : Nat)) := atI_nat (by rw [List.getElem?_map, qa_at (by omega)]; rfl)
      refine d_ixLm eO5 g1 ?_
      walk_at "rd"
      refine d_ixLm eO5 g2 ?_
      refine ⟨_, _, rfl, ?_⟩
      rw [min_int]
      walk_at "rd"
      refine d_ixLm eO5 g1 ?_
      walk_at "rd"
      refine d_ixLm eO5 g2 ?_
      refine ⟨_, _, rfl, ?_⟩
      rw [max_int]
      walk_at "rd"
      refine ⟨sz (by show 3 ≤ 100000; decide), fun p fp => ?_⟩
      have les : es.length ≤ 1600 := by
        have z := congrArg List.length ees
        rw [List.length_map, List.length_map] at z
        have := List.length_take_le i w.2
        omega
      walk_at "rd"
      refine d_append (at_upd eL5 fp) (szl (by rw [List.length_map]; omega)) ?_
      have npL : p ≠ L := fun z => by rw [z, eL5] at fp; cases fp
      refine ⟨_, _, _, es ++ [(p, mapTie qs t)], rfl, ?_, ?_, ?_, ?_, ?_⟩
      · exact same_upd (same_upd s5 (Same.free s5 fp)) (Same.free s3 fL)
      · rw [upd_ne (ne_of_none eK fL), at_upd eP5 fp]
      · rw [upd_same, List.map_append]; rfl
      · rw [take_snoc ht, List.map_append, List.map_append, ees]; rfl
      · intro e he
        rcases List.mem_append.mp he with he | he
        · have h1 := hes e he
          have h2 : e.1 ≠ L := fun z => by rw [z, eL5] at h1; cases h1
          rw [upd_ne h2]
          exact at_upd h1 fp
        · rw [List.mem_singleton.mp he]
          show (upd _ L _) p = _
          rw [upd_ne npL, upd_same]; rfl
    · obtain ⟨z3, z6, z7, es, rfl, s5, eP5, eL5, ees, hes⟩ := hP
      rw [lt, List.take_length] at ees
      walk_at "rd"
      refine ⟨_, P, cs.map sg, rfl, rfl, .inl (SqL.of (by rw [List.map_map]; rw [eP5, ecs]; rfl)), ?_, ?_⟩
      · rw [sum_const _ 1 _ (by intro x hx; obtain ⟨c, _, rfl⟩ := List.mem_map.mp hx; rfl), List.length_map]
        have e0 : (Str.ofString "").length = 0 := by decide +kernel
        rw [e0]; omega
      rw [join_signs]
      walk_at "rd"
      let es3 : List (Addr × Tri) := es.map fun e => (e.1, ((e.2.1 : Int), (e.2.2.1 : Int), e.2.2.2))
      refine ⟨L, es3, rfl, SqL.of (by rw [eL5]; show _ = some (HO.lst ((es.map _).map _)); rw [List.map_map]; rfl), fun e he => ?_, fun es' S pm srt fS => ?_⟩
      · obtain ⟨e0, he0, rfl⟩ := List.mem_map.mp he
        exact hes e0 he0
      walk_at "rd"
      refine ⟨S, _, rfl, .inl ⟨SqL.of upd_same, fun R fR => ?_⟩⟩
      walk_at "rd"
      refine ⟨sz (by show 2 ≤ 100000; decide), fun W' fW => ?_⟩
      let ts' : List Tie := es'.map fun e => (e.2.1.toNat, e.2.2.1.toNat, e.2.2.2)
      have back : ∀ e ∈ es', ∃ e0 ∈ es, e = (e0.1, ((e0.2.1 : Int), (e0.2.2.1 : Int), e0.2.2.2)) := fun e he => by
        obtain ⟨e0, he0, e1⟩ := List.mem_map.mp (pm.mem_iff.mp he)
        exact ⟨e0, he0, e1.symm⟩
      have pts : ts'.Perm (w.2.map (mapTie qs)) := by
        have z := pm.map fun e => ((e.2.1.toNat, e.2.2.1.toNat, e.2.2.2) : Tie)
        rw [← ees]
        have e2 : (es.map (fun e => (e.1, ((e.2.1 : Int), (e.2.2.1 : Int), e.2.2.2)))).map (fun e => ((e.2.1.toNat, e.2.2.1.toNat, e.2.2.2) : Tie)) = es.map (·.2) := by
          rw [List.map_map]; rfl
        rw [← e2]
        exact z
      have N : Named w qs (cs, ts') := ⟨lcs, hcs, pts⟩
      have srt' : ts'.Pairwise (fun x y => lexT ((y.1 : Int), (y.2.1 : Int), y.2.2) ((x.1 : Int), (x.2.1 : Int), x.2.2) = false) := by
        rw [List.pairwise_map] at srt
        show (es'.map _).Pairwise _
        rw [List.pairwise_map]
        refine srt.imp_of_mem fun {x y} hx hy hxy => ?_
        obtain ⟨e0, _, rfl⟩ := back x hx
        obtain ⟨e1, _, rfl⟩ := back y hy
        exact hxy
      have sf : Same H5 (upd (upd (upd H5 S (.lst (es'.map fun e => V.ref e.1))) R (.tup (es'.map fun e => V.ref e.1))) W' (.tup [V.str ⟨cs.toArray⟩, V.ref R])) := Same.trans (same_new fS) (Same.trans (same_new fR) (same_new fW))
      refine q _ _ (cs, ts') (Same.trans s5 sf) ⟨W', R, _, rfl, SqT.of upd_same, SqT.of (at_upd upd_same fW), ?_⟩ (named_ok W oo N srt') N
      have go : ∀ l : List (Addr × Tri), (∀ e ∈ l, ∃ e0 ∈ es, e = (e0.1, ((e0.2.1 : Int), (e0.2.2.1 : Int), e0.2.2.2))) → Paired (TieAt K (upd (upd (upd H5 S (.lst (es'.map fun e => V.ref e.1))) R (.tup (es'.map fun e => V.ref e.1))) W' (.tup [V.str ⟨cs.toArray⟩, V.ref R]))) (l.map fun e => V.ref e.1) (l.map fun e => ((e.2.1.toNat, e.2.2.1.toNat, e.2.2.2) : Tie)) := by
        intro l
        induction l with
        | nil => intro _; exact .nil
        | cons x l ih =>
          intro hl
          obtain ⟨e0, he0, rfl⟩ := hl x List.mem_cons_self
          exact .cons ⟨e0.1, rfl, SqT.of (sf _ _ (hes e0 he0))⟩ (ih fun e he => hl e (List.mem_cons_of_mem _ he))
      exact go es' back
/-- for each place the list of its neighbours -/
def spAllN (K : PySem.W.Frag) : Sp := fun vs H Q _ => ∃ v w, vs = [v] ∧ WebAt K H v w ∧ WOk w ∧ ∀ H' (D : Addr) (as : List Addr), Same H H' → H D = none → H' D = some (.lst (as.map V.ref)) → as.length = w.1.length → as.Nodup → D ∉ as → (∀ a ∈ as, H a = none) →
  (∀ (j : Nat) (a : Addr), as[j]? = some a → H' a = some (.lst ((nb w.2 j).map fun o => V.int (o : Nat)))) → Q (.ref D) H'
theorem ok_all_neighbours (T : Tx K mg base) : FnOk P w K mg base CX0 1 T.all_neighbours.f T.all_neighbours.fd ["web"] (spAllN K) := by
  refine T.all_neighbours.F.ok sc_all_neighbours (fun vs H Q E h => ?_) (fun cdv A outer s H vs Q E hr h => ?_)
  · obtain ⟨v, w, rfl, _⟩ := h; rfl
  · obtain ⟨v, w, rfl, ⟨a, b, tvs, rfl, q1, q2, pT⟩, W, q⟩ := h
    have lt : tvs.length = w.2.length := Paired.length pT
    have l16 := W.most
    have l40 := W.few
    refine ⟨_, (pss_cons (ps_setLc (i := 1) (own := [("_", 4)]) (g := gName 4) (tt := tYes) rfl sc_all_neighbours.nd rfl rfl (sw_true rfl rfl rfl (by decide +kernel)) (pi_str (pe_ix ix_tup (pv 0) pe_int (fun _ _ => rfl))) (blkOk_by (N := ["web", "beside", "place", "other", "_"]) (sc := defScope s_all_neighbours) (by decide +kernel)) (fun _ _ _ _ _ => (pg_name (i := 4) sc_all_neighbours.nd rfl (.inl rfl))) (fun _ _ _ _ _ => pts_nil) (fun _ _ _ _ _ => (pe_lst pa_nil)))
      (pss_cons (ps_for PassesOwn.never rfl (pi_tup (pe_ix ix_tup (pv 0) pe_int (fun _ _ => rfl))) (pg_tup rfl (pgs_cons (pg_name (i := 2) sc_all_neighbours.nd rfl (.inl rfl)) (pgs_cons (pg_name (i := 3) sc_all_neighbours.nd rfl (.inl rfl)) (pgs_cons (pg_name (i := 4) sc_all_neighbours.nd rfl (.inl rfl)) pgs_nil))))
        (pss_cons (ps_expr (pe_bm PySem.F.plainAttrs_list PySem.F.slot_list_append PySem.F.type_list_append mt_append (pe_ix ix_list (pv 1) (pv 2) (fun _ _ => rfl)) (pa_cons (pv 3) pa_nil)))
        (pss_one (ps_expr (pe_bm PySem.F.plainAttrs_list PySem.F.slot_list_append PySem.F.type_list_append mt_append (pe_ix ix_list (pv 1) (pv 3) (fun _ _ => rfl)) (pa_cons (pv 2) pa_nil))))))
      (pss_one (ps_ret (pv 1))))), ?_⟩
    walk_at "rd"
    refine d_ixT q1 rfl ?_
    walk_at "rd"
    intro D fD
    refine lc_it (walk_str (z := ⟨w.1.toArray⟩)) (fun i H1 => ∃ as : List Addr, as.length = i ∧ as.Nodup ∧ D ∉ as ∧ H1 D = some (.lst (as.map V.ref)) ∧ (∀ a ∈ as, H a = none) ∧ (∀ a ∈ as, H1 a = some (.lst [])) ∧ Same H H1)
      ⟨[], rfl, .nil, by simp, upd_same, by simp, by simp, same_new fD⟩ (fun _ _ _ _ => trivial) (fun i x H0 H1 hi hP hy => ?_) (fun H1 hP => ?_)
    · obtain ⟨as, la, nd, nD, eD, fa, ea, sm⟩ := hP
      obtain ⟨rfl, c, hc, rfl⟩ := hy
      have hi' : i < 40 := by
        have : i < w.1.length := by simpa using hi
        omega
      walk_at "rd"
      refine ⟨sz (by decide), fun p fp => ?_⟩
      have pD : p ≠ D := fun z => by rw [z, eD] at fp; cases fp
      have pas : p ∉ as := fun z => by rw [ea p z] at fp; cases fp
      refine ⟨_, at_upd eD fp, szl (by rw [List.length_map]; omega), as ++ [p], by rw [List.length_append, la]; rfl, ?_, ?_, ?_, ?_, ?_, ?_⟩
      · exact List.nodup_append.mpr ⟨nd, by simp, fun x hx y hy => by rw [List.mem_singleton.mp hy]; exact fun z => pas (z ▸ hx)⟩
      · intro z
        rcases List.mem_append.mp z with z | z
        · exact nD z
        · exact pD (List.mem_singleton.mp z).symm
      · rw [upd_same, List.map_append]; rfl
      · intro x hx
        rcases List.mem_append.mp hx with hx | hx
        · exact fa x hx
        · rw [List.mem_singleton.mp hx]; exact Same.free sm fp
      · intro x hx
        have xD : x ≠ D := fun z => by
          rcases List.mem_append.mp hx with hx | hx
          · exact nD (z ▸ hx)
          · exact pD ((List.mem_singleton.mp hx).symm.trans z)
        rw [upd_ne xD]
        rcases List.mem_append.mp hx with hx | hx
        · exact at_upd (ea x hx) fp
        · rw [List.mem_singleton.mp hx, upd_same]
      · exact same_upd (same_upd sm (Same.free sm fp)) fD
    obtain ⟨as, la, nd, nD, eD, fa, ea, sm⟩ := hP
    have la' : as.length = w.1.length := by simpa using la
    walk_at "rd"
    refine d_ixT (Same.sqt sm q1) rfl ?_
    refine d_iTe (Same.sqt sm q2) ?_
    refine for_it (walk_tup (xs := tvs)) (fun i σ H2 => ∃ y2 y3 y4, σ = [some (.ref a), some (.ref D), y2, y3, y4] ∧ H2 D = some (.lst (as.map V.ref)) ∧ Same H H2 ∧ ∀ (j : Nat) (x : Addr), as[j]? = some x → H2 x = some (.lst ((nb (w.2.take i) j).map fun o => V.int (o : Nat))))
      ⟨_, _, _, rfl, eD, sm, fun j x hx => ea x (List.mem_of_getElem? hx)⟩ (fun i σ H2 hi hP => ?_) (fun i x σ H0 H2 hi hP hy => ?_) (fun σ H2 hP => ?_)
    · obtain ⟨_, _, _, _, _, sm2, _⟩ := hP
      exact Same.sqt sm2 q2
    · obtain ⟨y2, y3, y4, rfl, eD2, sm2, hN⟩ := hP
      obtain ⟨rfl, hx⟩ := hy
      obtain ⟨t, ht, a', rfl, qt⟩ := Paired.at pT hx
      have et := W.ends t (List.mem_of_getElem? ht)
      have lti : (w.2.take i).length ≤ 1600 := Nat.le_trans (List.length_take_le _ _) (by omega)
      refine d_gtup (Same.sqt sm2 qt) rfl ?_
      walk_at "rd"
      have h1 : t.1 < as.length := by omega
      have h2 : t.2.1 < as.length := by omega
      have g1 : as[t.1]? = some as[t.1] := List.getElem?_eq_getElem h1
      have g2 : as[t.2.1]? = some as[t.2.1] := List.getElem?_eq_getElem h2
      have n12 : as[t.1] ≠ as[t.2.1] := fun z => by
        have := (List.getElem_inj nd).mp z
        omega
      have nd1 : as[t.1] ≠ D := fun z => nD (z ▸ List.getElem_mem h1)
      have nd2 : as[t.2.1] ≠ D := fun z => nD (z ▸ List.getElem_mem h2)
      refine d_ixLm eD2 (atI_nat (by rw [List.getElem?_map, g1]; rfl)) ?_
      have e1 := hN _ _ g1
      refine d_app e1 ?_
      walk_at "rd"
      have b1 := nb_len (w.2.take i) t.1
      have b2 := nb_len (w.2.take i) t.2.1
      refine d_append e1 (szl (by rw [List.length_map]; omega)) ?_
      walk_at "rd"
      refine d_ixLm (by rw [upd_ne nd1.symm]; exact eD2) (atI_nat (by rw [List.getElem?_map, g2]; rfl)) ?_
      have e2 := hN _ _ g2
      have e2' : (upd H2 as[t.1] (.lst (((nb (w.2.take i) t.1).map fun o => V.int (o : Nat)) ++ [V.int (t.2.1 : Nat)]))) as[t.2.1] = some (.lst ((nb (w.2.take i) t.2.1).map fun o => V.int (o : Nat))) := by rw [upd_ne n12.symm]; exact e2
      refine d_app e2' ?_
      walk_at "rd"
      refine d_append e2' (szl (by rw [List.length_map]; omega)) ?_
      refine ⟨_, _, _, rfl, by rw [upd_ne nd2.symm, upd_ne nd1.symm]; exact eD2, same_upd (same_upd sm2 (fa _ (List.getElem_mem h1))) (fa _ (List.getElem_mem h2)), fun j x hx => ?_⟩
      rw [take_snoc ht, nb_snoc]
      have inj : ∀ {m : Nat} (hm : m < as.length), x = as[m] → j = m := fun {m} hm z => by
        obtain ⟨hj, ej⟩ := List.getElem?_eq_some_iff.mp hx
        exact (List.getElem_inj nd).mp (ej.trans z)
      by_cases c2 : x = as[t.2.1]
      · have := inj h2 c2
        subst this
        rw [c2, upd_same, if_neg (by omega), if_pos rfl, List.map_append]; rfl
      · rw [upd_ne c2]
        by_cases c1 : x = as[t.1]
        · have := inj h1 c1
          subst this
          rw [c1, upd_same, if_pos rfl, List.map_append]; rfl
        · have f1 : ¬ t.1 = j := fun z => c1 (by
            subst z
            exact Option.some.inj (hx.symm.trans g1))
          have f2 : ¬ t.2.1 = j := fun z => c2 (by
            subst z
            exact Option.some.inj (hx.symm.trans g2))
          rw [upd_ne c1, if_neg f1, if_neg f2, List.append_nil]
          exact hN j x hx
    · obtain ⟨y2, y3, y4, rfl, eD2, sm2, hN⟩ := hP
      walk_at "rd"
      rw [lt, List.take_length] at hN
      exact q _ D as sm2 fD eD2 la' nd nD fa hN
def spNb (K : PySem.W.Frag) : Sp := fun vs H Q _ => ∃ v w, ∃ p : Nat, vs = [v, .int (p : Nat)] ∧ WebAt K H v w ∧ WOk w ∧ p < w.1.length ∧ ∀ H' (a : Addr), Same H H' → H a = none → H' a = some (.lst ((nb w.2 p).map fun o => V.int (o : Nat))) → Q (.ref a) H'
theorem ok_neighbours (T : Tx K mg base) : FnOk P w K mg base CX0 2 T.neighbours.f T.neighbours.fd ["web", "place"] (spNb K) := by
  refine T.neighbours.F.ok sc_neighbours (fun vs H Q E h => ?_) (fun cdv A outer s H vs Q E hr h => ?_)
  · obtain ⟨v, w, p, rfl, _⟩ := h; rfl
  · obtain ⟨v, w, p, rfl, hw, W, hp, q⟩ := h
    refine ⟨_, (pss_one (ps_ret (pe_ix ix_list (pe_call (ok_all_neighbours T) (hr.mono (by decide)) (by rfl) T.all_neighbours.g T.all_neighbours.F.kp T.all_neighbours.b .nil pass0 (pa_cons (pv 0) pa_nil)) (pv 1) (fun _ _ => rfl)))), ?_⟩
    walk_at "rd"
    refine ⟨v, w, rfl, hw, W, fun H1 D as sm fD eD la nd nD fa hN => ?_⟩
    walk_at "rd"
    have g : as[p]? = some (as[p]'(by omega)) := List.getElem?_eq_getElem (by omega)
    refine d_ixLm eD (atI_nat (by rw [List.getElem?_map, g]; rfl)) ?_
    exact q H1 _ sm (fa _ (List.getElem_mem _)) (hN p _ g)
/-- tie by tie, by their ends in order -/
theorem find_take {ts : List Tie} {f : Tie → Bool} {i : Nat} {t : Tie} (h : ts[i]? = some t) (n : (ts.take i).find? f = none) (ht : f t = true) : ts.find? f = some t := by
  have e : ts = ts.take i ++ t :: ts.drop (i + 1) := by
    obtain ⟨hi, rfl⟩ := List.getElem?_eq_some_iff.mp h
    exact (List.take_append_drop i ts).symm.trans (by rw [List.drop_eq_getElem_cons hi])
  rw [e, List.find?_append, n, Option.none_or, List.find?_cons_of_pos ht]
/-- ahead of a pair, as tuples are ordered -/
def ahd (m n : Nat) (t : Tie) : Bool := decide (t.1 < m ∨ (t.1 = m ∧ t.2.1 < n))
theorem ahd_lex (m n : Nat) (t : Tie) : HT.lexLt [(t.1 : Int), (t.2.1 : Int)] [(m : Int), (n : Int)] = ahd m n t := by
  unfold ahd
  rw [HT.lexLt_cons]
  by_cases e : (t.1 : Int) = (m : Int)
  · rw [if_pos e, HT.lexLt_cons]
    by_cases f : (t.2.1 : Int) = (n : Int)
    · rw [if_pos f, HT.lexLt_nil_nil]
      exact (decide_eq_false (by omega)).symm
    · rw [if_neg f]
      exact decide_eq_decide.mpr (by omega)
  · rw [if_neg e]
    exact decide_eq_decide.mpr (by omega)
theorem minmax_at2 {w : Web} (W : WOk w) {t : Tie} (ht : t ∈ w.2) (a b : Nat) : at2 a b t = true ↔ t.1 = min a b ∧ t.2.1 = max a b := by
  have r := (W.ends t ht).1
  rw [at2_iff]
  omega
/-- the least tie that is not ahead tells the kind -/
theorem half_found {w : Web} (W : WOk w) {a b lo : Nat} {t : Tie} (h1 : ∀ i u, i < lo → w.2[i]? = some u → ahd (min a b) (max a b) u = true) (ht : w.2[lo]? = some t) (e1 : t.1 = min a b) (e2 : t.2.1 = max a b) : tieL w.2 a b = some t.2.2 := by
  have hm := List.mem_of_getElem? ht
  have e := find_take (f := at2 a b) ht (List.find?_eq_none.mpr fun u hu => ?_) ((minmax_at2 W hm a b).mpr ⟨e1, e2⟩)
  · unfold tieL; rw [e]; rfl
  · obtain ⟨i, hi, hu'⟩ := List.getElem_of_mem hu
    have hi2 : i < lo := by rw [List.length_take] at hi; omega
    have g : w.2[i]? = some u := by
      rw [← hu', List.getElem_take]
      exact List.getElem?_eq_getElem _
    have z := of_decide_eq_true (h1 i u hi2 g)
    intro q
    have := (minmax_at2 W (List.mem_of_getElem? g) a b).mp q
    omega
theorem half_none {w : Web} (W : WOk w) {a b lo : Nat} (h1 : ∀ i u, i < lo → w.2[i]? = some u → ahd (min a b) (max a b) u = true) (h2 : ∀ i u, lo ≤ i → w.2[i]? = some u → ahd (min a b) (max a b) u = false)
    (hn : ∀ t, w.2[lo]? = some t → ¬ (t.1 = min a b ∧ t.2.1 = max a b)) : tieL w.2 a b = none := by
  refine tieL_none fun u hu => ?_
  cases q : at2 a b u with
  | false => rfl
  | true =>
    exfalso
    have z := (minmax_at2 W hu a b).mp q
    obtain ⟨i, hi⟩ := List.getElem?_of_mem hu
    rcases Nat.lt_trichotomy i lo with c | c | c
    · have := of_decide_eq_true (h1 i u c hi)
      omega
    · rw [c] at hi
      exact hn u hi z
    · have hl : lo < w.2.length := Nat.lt_trans c (List.getElem?_eq_some_iff.mp hi).1
      have g := List.getElem?_eq_getElem hl
      have y := of_decide_eq_false (h2 lo _ (Nat.le_refl _) g)
      have s := W.rise
      rw [List.pairwise_iff_getElem] at s
      obtain ⟨hi1, hi2⟩ := List.getElem?_eq_some_iff.mp hi
      have lt := s lo i hl hi1 c
      rw [hi2] at lt
      rcases lt with lt | lt <;> omega
/-- where the ties rise those ahead stand ahead -/
theorem ahd_down {w : Web} (W : WOk w) {m n i j : Nat} {t u : Tie} (hi : w.2[i]? = some t) (hj : w.2[j]? = some u) (l : i ≤ j) (h : ahd m n u = true) : ahd m n t = true := by
  rcases Nat.lt_or_ge i j with c | c
  · have s := W.rise
    rw [List.pairwise_iff_getElem] at s
    obtain ⟨i1, i2⟩ := List.getElem?_eq_some_iff.mp hi
    obtain ⟨j1, j2⟩ := List.getElem?_eq_some_iff.mp hj
    have lt := s i j i1 j1 c
    rw [i2, j2] at lt
    have z := of_decide_eq_true h
    refine decide_eq_true ?_
    rcases lt with lt | lt <;> omega
  · have : i = j := by omega
    subst this
    rw [hi] at hj
    cases hj
    exact h
def spTieOf (K : PySem.W.Frag) : Sp := fun vs H Q _ => ∃ v w, ∃ a b : Nat, vs = [v, .int (a : Nat), .int (b : Nat)] ∧ WebAt K H v w ∧ WOk w ∧ ∀ H', Same H H' → Q (optV (tieL w.2 a b)) H'
theorem min_intT (a b : Nat) : (if (b : Int) < (a : Int) then (b : Int) else (a : Int)) = ((min a b : Nat) : Int) := by split <;> omega
theorem max_intT (a b : Nat) : (if (b : Int) > (a : Int) then (b : Int) else (a : Int)) = ((max a b : Nat) : Int) := by split <;> omega
theorem half_mid {lo hi : Nat} : ((lo : Int) + (hi : Int)) / 2 = (((lo + hi) / 2 : Nat) : Int) := by omega
theorem ok_tie_of (T : Tx K mg base) : FnOk P w K mg base CX0 1 T.tie_of.f T.tie_of.fd ["web", "one", "other"] (spTieOf K) := by
  refine T.tie_of.F.ok sc_tie_of (fun vs H Q E h => ?_) (fun cdv A outer s H vs Q E hr h => ?_)
  · obtain ⟨v, w, a, b, rfl, _⟩ := h; rfl
  · obtain ⟨v, w, a, b, rfl, ⟨a0, tb, tvs, rfl, q1, q2, pT⟩, W, q⟩ := h
    have lt : tvs.length = w.2.length := Paired.length pT
    refine ⟨_, (pss_cons (ps_set (i := 3) sc_tie_of.nd rfl (.inl rfl) (pe_ix ix_tup (pv 0) pe_int (fun _ _ => rfl)))
      (pss_cons (ps_set (i := 4) sc_tie_of.nd rfl (.inl rfl) (pe_tup (pa_cons (pe_callB (call_min2 rfl) (by rfl) T.m_min (by decide +kernel) (pa_cons (pv 1) (pa_cons (pv 2) pa_nil))) (pa_cons (pe_callB (call_max2 rfl) (by rfl) T.m_max (by decide +kernel) (pa_cons (pv 1) (pa_cons (pv 2) pa_nil))) pa_nil))))
      (pss_cons (ps_par (i := 5) (j := 6) rfl sc_tie_of.nd rfl rfl (by decide) rfl rfl (pa_cons pe_int (pa_cons (pe_callB call_len_seq (by rfl) T.m_len (by decide +kernel) (pa_cons (pv 3) pa_nil)) pa_nil)) (by rfl))
      (pss_cons (ps_while PassesOwn.never (pt_cmpR op_lt (pv 5) (pv 6) (nomark _))
        (pss_cons (ps_set (i := 7) sc_tie_of.nd rfl (.inl rfl) (pe_op op_fdiv (pe_op op_add (pv 5) (pv 6)) pe_int))
        (pss_one (ps_if (pt_cmpR (op_ltT (Nat.lt_of_le_of_lt (Nat.le_add_right _ _) hr.units)) (pe_slice sl_tup (pe_ix ix_tup (pv 3) (pv 7) (fun _ _ => rfl)) po_none (po_some pe_int)) (pv 4) (nomark _))
          (pss_one (ps_set (i := 5) sc_tie_of.nd rfl (.inl rfl) (pe_op op_add (pv 7) pe_int)))
          (pss_one (ps_set (i := 6) sc_tie_of.nd rfl (.inl rfl) (pv 7)))))))
      (pss_cons (ps_if (PW.pt (pw_and (pt_cmpR op_lt (pv 5) (pe_callB call_len_seq (by rfl) T.m_len (by decide +kernel) (pa_cons (pv 3) pa_nil)) (nomark _)) (pw_and1 (pt_cmpR (op_eqD (hr.units)) (pe_slice sl_tup (pe_ix ix_tup (pv 3) (pv 5) (fun _ _ => rfl)) po_none (po_some pe_int)) (pv 4) (nomark _)))))
        (pss_one (ps_ret (pe_ix ix_tup (pe_ix ix_tup (pv 3) (pv 5) (fun _ _ => rfl)) pe_int (fun _ _ => rfl))))
        pss_nil)
      (pss_one (ps_ret pe_non))))))), ?_⟩
    walk_at "rd"
    refine d_ixT q1 rfl ?_
    walk_at "rd"
    refine ⟨_, _, rfl, ?_⟩
    rw [min_intT]
    walk_at "rd"
    refine ⟨_, _, rfl, ?_⟩
    rw [max_intT]
    walk_at "rd"
    refine ⟨sz (by show 2 ≤ 100000; decide), fun pe fe => ?_⟩
    have s1 := same_new (o := .tup [V.int (min a b : Nat), V.int (max a b : Nat)]) fe
    have eE := upd_same (H := H) (a := pe) (o := .tup [V.int (min a b : Nat), V.int (max a b : Nat)])
    generalize upd H pe (.tup [V.int (min a b : Nat), V.int (max a b : Nat)]) = H1 at s1 eE ⊢
    walk_at "rd"
    walk_at "rd"
    refine d_lenT (Same.sqt s1 q2) ?_
    walk_at "rd"
    rw [lt]
    refine ⟨fun k σ H' => ∃ lo hi : Nat, ∃ y7, σ = [some (.ref a0), some (.int (a : Nat)), some (.int (b : Nat)), some (.ref tb), some (.ref pe), some (.int (lo : Nat)), some (.int (hi : Nat)), y7] ∧ k = hi - lo ∧ lo ≤ hi ∧ hi ≤ w.2.length ∧ Same H1 H' ∧
      (∀ i u, i < lo → w.2[i]? = some u → ahd (min a b) (max a b) u = true) ∧ (∀ i u, hi ≤ i → w.2[i]? = some u → ahd (min a b) (max a b) u = false),
      ⟨_, 0, w.2.length, _, rfl, rfl, Nat.zero_le _, Nat.le_refl _, Same.refl _, fun i u hi => absurd hi (Nat.not_lt_zero _), fun i u hi e => absurd (List.getElem?_eq_some_iff.mp e).1 (by omega)⟩, ?_⟩
    rintro k σ H2 ⟨lo, hi, y7, rfl, rfl, l1, l2, s2, g1, g2⟩
    have s12 := Same.trans s1 s2
    have eE2 := s2 _ _ eE
    walk_at "rd"
    refine ite2 (fun c => ?_) (fun c => ?_)
    · have c1 : lo < hi := by have := of_decide_eq_true c; omega
      refine ⟨_, fun σ' H' h => h, ?_⟩
      walk_at "rd"
      rw [half_mid]
      have hm : (lo + hi) / 2 < w.2.length := by omega
      have gm := List.getElem?_eq_getElem hm
      have gv : tvs[(lo + hi) / 2]? = some (tvs[(lo + hi) / 2]'(by omega)) := List.getElem?_eq_getElem (by omega)
      obtain ⟨t, ht, a', ea', qt⟩ := Paired.at pT gv
      rw [ea'] at gv
      walk_at "rd"
      refine d_ixT (Same.sqt s12 q2) (atI_nat gv) ?_
      walk_at "rd"
      refine ⟨a', _, rfl, Same.sqt s12 qt, (show ¬ (HT.sIx 3 0 none = 0 ∧ HT.sIx 3 3 (some 2) = 3) by decide), fun p1 f1 => ?_⟩
      rw [show cutV [V.int (t.1 : Nat), V.int (t.2.1 : Nat), V.str (sg t.2.2)] none (some 2) = [V.int (t.1 : Nat), V.int (t.2.1 : Nat)] from rfl]
      have s3 := same_new (o := .tup [V.int (t.1 : Nat), V.int (t.2.1 : Nat)]) f1
      walk_at "rd"
      refine ⟨p1, pe, [(t.1 : Int), (t.2.1 : Int)], [((min a b : Nat) : Int), ((max a b : Nat) : Int)], rfl, rfl, SqT.of upd_same, SqT.of (s3 _ _ eE2), ?_⟩
      rw [ahd_lex]
      walk_at "rd"
      refine ite2 (fun d => ?_) (fun d => ?_)
      · walk_at "rd"
        refine ⟨hi - ((lo + hi) / 2 + 1), by omega, (lo + hi) / 2 + 1, hi, _, rfl, rfl, by omega, l2, Same.trans s2 s3, fun i u hi' e => ahd_down W e ht (by omega) d, g2⟩
      · walk_at "rd"
        refine ⟨(lo + hi) / 2 - lo, by omega, lo, (lo + hi) / 2, _, rfl, rfl, by omega, by omega, Same.trans s2 s3, g1, fun i u hi' e => ?_⟩
        cases z : ahd (min a b) (max a b) u with
        | false => rfl
        | true => exact absurd (ahd_down W ht e hi' z) d
    · have c1 : lo = hi := by
        have := c
        simp only [decide_eq_true_eq] at this
        omega
      subst c1
      walk_at "rd"
      refine d_lenT (Same.sqt s12 q2) ?_
      walk_at "rd"
      rw [lt]
      refine ite2 (fun c => ?_) (fun c => ?_)
      · have hm : lo < w.2.length := by have := of_decide_eq_true c; omega
        have gv : tvs[lo]? = some (tvs[lo]'(by omega)) := List.getElem?_eq_getElem (by omega)
        obtain ⟨t, ht, a', ea', qt⟩ := Paired.at pT gv
        rw [ea'] at gv
        walk_at "rd"
        refine d_ixT (Same.sqt s12 q2) (atI_nat gv) ?_
        walk_at "rd"
        refine ⟨a', _, rfl, Same.sqt s12 qt, (show ¬ (HT.sIx 3 0 none = 0 ∧ HT.sIx 3 3 (some 2) = 3) by decide), fun p1 f1 => ?_⟩
        rw [show cutV [V.int (t.1 : Nat), V.int (t.2.1 : Nat), V.str (sg t.2.2)] none (some 2) = [V.int (t.1 : Nat), V.int (t.2.1 : Nat)] from rfl]
        have s3 := same_new (o := .tup [V.int (t.1 : Nat), V.int (t.2.1 : Nat)]) f1
        walk_at "rd"
        refine ⟨.tuple [.int (t.1 : Nat), .int (t.2.1 : Nat)], .tuple [.int (min a b : Nat), .int (max a b : Nat)], .tup (SqT.of upd_same) (.cons (.int _) (.cons (.int _) .nil)), .tup (SqT.of (s3 _ _ eE2)) (.cons (.int _) (.cons (.int _) .nil)), sh2 _ _, sh2 _ _, ?_⟩
        have eq : PyData.eqv (.tuple [.int (t.1 : Nat), .int (t.2.1 : Nat)]) (.tuple [.int (min a b : Nat), .int (max a b : Nat)]) = decide (t.1 = min a b ∧ t.2.1 = max a b) := by
          rw [Bool.eq_iff_iff]
          simp only [PyData.eqv, PyData.eqvAll, Bool.and_true, Bool.and_eq_true, beq_iff_eq, decide_eq_true_eq]
          omega
        rw [eq]
        walk_at "rd"
        have s13 := Same.trans s12 s3
        refine ite2 (fun d => ?_) (fun d => ?_)
        · have d' := of_decide_eq_true d
          walk_at "rd"
          refine d_ixT (Same.sqt s13 q2) (atI_nat gv) ?_
          walk_at "rd"
          refine d_ixT (Same.sqt s13 qt) rfl ?_
          have z := q _ s13
          rw [half_found W g1 ht d'.1 d'.2] at z
          exact z
        · walk_at "rd"
          have z := q _ s13
          rw [half_none W g1 g2 fun u hu => ?_] at z
          · exact z
          · rw [ht] at hu
            cases hu
            exact fun x => d (decide_eq_true x)
      · walk_at "rd"
        have z := q _ s12
        rw [half_none W g1 g2 fun u hu => absurd (List.getElem?_eq_some_iff.mp hu).1 (by intro x; exact c (decide_eq_true (by omega)))] at z
        exact z
/-- for each place the list of its neighbours, as it lies there -/
def NbAt (H : Hp) (D : Addr) (u : Web) : Prop := ∃ as : List Addr, H D = some (.lst (as.map V.ref)) ∧ as.length = u.1.length ∧ ∀ (j : Nat) (a : Addr), as[j]? = some a → H a = some (.lst (natsV (nb u.2 j)))
theorem NbAt.same {H H' : Hp} {D : Addr} {u : Web} (x : NbAt H D u) (s : Same H H') : NbAt H' D u := by
  obtain ⟨as, e, l, h⟩ := x
  exact ⟨as, s _ _ e, l, fun j a z => s _ _ (h j a z)⟩
def spFrom : Sp := fun vs H Q _ => ∃ (D : Addr) (u : Web) (a : Nat), vs = [.ref D, .int (a : Nat)] ∧ NbAt H D u ∧ WOk u ∧ a < u.1.length ∧ ∀ H' (p : Addr), Same H H' → H p = none → H' p = some (.lst (natsV (partL u a))) → Q (.ref p) H'
/-- what one comes to so far: seen and waiting -/
structure Fr (u : Web) (a : Nat) (ms ws : List Nat) : Prop where
  nd : ms.Nodup
  own : ∀ x ∈ ms, Rch u.2 a x
  start : a ∈ ms
  wait : ∀ x ∈ ws, x ∈ ms
  closed : ∀ x ∈ ms, x ∈ ws ∨ ∀ y ∈ nb u.2 x, y ∈ ms
theorem Fr.len {u : Web} (U : WOk u) {a : Nat} {ms ws : List Nat} (x : Fr u a ms ws) (ha : a < u.1.length) : ms.length ≤ u.1.length := nodup_len _ _ x.nd fun y hy => (x.own y hy).lt U ha
theorem Fr.all {u : Web} {a : Nat} {ms : List Nat} (x : Fr u a ms []) {y : Nat} (h : Rch u.2 a y) : y ∈ ms := by
  induction h with
  | base => exact x.start
  | step _ m ih =>
    rcases x.closed _ ih with z | z
    · cases z
    · exact z _ m
/-- while the neighbours of x are looked at -/
structure Fr2 (u : Web) (a x : Nat) (ms ws : List Nat) (i : Nat) : Prop where
  nd : ms.Nodup
  own : ∀ y ∈ ms, Rch u.2 a y
  start : a ∈ ms
  here : x ∈ ms
  wait : ∀ y ∈ ws, y ∈ ms
  closed : ∀ y ∈ ms, y = x ∨ y ∈ ws ∨ ∀ z ∈ nb u.2 y, z ∈ ms
  done : ∀ z ∈ (nb u.2 x).take i, z ∈ ms
theorem Fr.pop {u : Web} {a x : Nat} {ms ws : List Nat} (F : Fr u a ms (ws ++ [x])) : Fr2 u a x ms ws 0 :=
  ⟨F.nd, F.own, F.start, F.wait x (List.mem_append_right _ (List.mem_singleton.mpr rfl)), fun y hy => F.wait y (List.mem_append_left _ hy), fun y hy => by
    rcases F.closed y hy with z | z
    · rcases List.mem_append.mp z with z | z
      · exact .inr (.inl z)
      · exact .inl (List.mem_singleton.mp z)
    · exact .inr (.inr z), fun z hz => by simp at hz⟩
theorem Fr2.skip {u : Web} {a x z i : Nat} {ms ws : List Nat} (F : Fr2 u a x ms ws i) (hz : (nb u.2 x)[i]? = some z) (h : z ∈ ms) : Fr2 u a x ms ws (i + 1) :=
  ⟨F.nd, F.own, F.start, F.here, F.wait, F.closed, fun y hy => by
    rw [take_snoc hz] at hy
    rcases List.mem_append.mp hy with hy | hy
    · exact F.done y hy
    · rw [List.mem_singleton.mp hy]; exact h⟩
theorem Fr2.add {u : Web} {a x z i : Nat} {ms ws : List Nat} (F : Fr2 u a x ms ws i) (hz : (nb u.2 x)[i]? = some z) (h : z ∉ ms) : Fr2 u a x (ms ++ [z]) (ws ++ [z]) (i + 1) := by
  have l : ∀ {y}, y ∈ ms → y ∈ ms ++ [z] := fun h => List.mem_append_left _ h
  have r : z ∈ ms ++ [z] := List.mem_append_right _ (List.mem_singleton.mpr rfl)
  refine ⟨List.nodup_append.mpr ⟨F.nd, by simp, fun p hp y hy => by rw [List.mem_singleton.mp hy]; exact fun e => h (e ▸ hp)⟩, fun y hy => ?_, l F.start, l F.here, fun y hy => ?_, fun y hy => ?_, fun y hy => ?_⟩
  · rcases List.mem_append.mp hy with hy | hy
    · exact F.own y hy
    · rw [List.mem_singleton.mp hy]; exact (F.own x F.here).step (List.mem_of_getElem? hz)
  · rcases List.mem_append.mp hy with hy | hy
    · exact l (F.wait y hy)
    · rw [List.mem_singleton.mp hy]; exact r
  · rcases List.mem_append.mp hy with hy | hy
    · rcases F.closed y hy with e | e | e
      · exact .inl e
      · exact .inr (.inl (List.mem_append_left _ e))
      · exact .inr (.inr fun q hq => l (e q hq))
    · rw [List.mem_singleton.mp hy]
      exact .inr (.inl (List.mem_append_right _ (List.mem_singleton.mpr rfl)))
  · rw [take_snoc hz] at hy
    rcases List.mem_append.mp hy with hy | hy
    · exact l (F.done y hy)
    · rw [List.mem_singleton.mp hy]; exact r
theorem Fr2.end_ {u : Web} {a x i : Nat} {ms ws : List Nat} (F : Fr2 u a x ms ws i) (h : (nb u.2 x).length ≤ i) : Fr u a ms ws :=
  ⟨F.nd, F.own, F.start, F.wait, fun y hy => by
    rcases F.closed y hy with e | e | e
    · subst e
      exact .inr fun z hz => F.done z (by rw [List.take_of_length_le h]; exact hz)
    · exact .inl e
    · exact .inr e⟩
theorem ok_part_from (T : Tx K mg base) : FnOk P w K mg base CX0 1 T.part_from.f T.part_from.fd ["beside", "start"] spFrom := by
  refine funOkC T.part_from.F sc_part_from (fun vs H Q E h => ?_) (fun cdv hcd A outer s H vs Q E hr h => ?_)
  · obtain ⟨_, _, _, rfl, _⟩ := h; rfl
  · obtain ⟨D, u, a, rfl, ⟨as, eD, la, hA⟩, U, ha, q⟩ := h
    have l40 := U.few
    have l16 := U.most
    refine ⟨_, (pss_cons (ps_set (i := 2) sc_part_from.nd rfl (.inl rfl) (pe_set1 (wd := w) rfl hcd (pv 1)))
      (pss_cons (ps_set (i := 3) sc_part_from.nd rfl (.inl rfl) (pe_lst (pa_cons (pv 1) pa_nil)))
      (pss_cons (ps_while PassesOwn.never (pt_truth (pv 3) (by intro _; rfl))
        (pss_cons (ps_set (i := 4) sc_part_from.nd rfl (.inl rfl) (pe_bm0 PySem.F.plainAttrs_list PySem.F.slot_list_pop PySem.F.type_list_pop mt_pop (pv 3)))
        (pss_one (ps_for PassesOwn.never rfl (pi_list (pe_ix ix_list (pv 0) (pv 4) (fun _ _ => rfl))) (pg_name (i := 5) sc_part_from.nd rfl (.inl rfl))
          (pss_one (ps_if (pt_cmpR or_snotin (pv 5) (pv 2) (by rfl))
            (pss_cons (ps_expr (pe_sadd (pv 2) (pa_cons (pv 5) pa_nil)))
            (pss_one (ps_expr (pe_bm PySem.F.plainAttrs_list PySem.F.slot_list_append PySem.F.type_list_append mt_append (pv 3) (pa_cons (pv 5) pa_nil)))))
            pss_nil))))))
      (pss_one (ps_ret (pe_callB (cr_sortedSet rfl) (by rfl) T.m_sorted (by decide +kernel) (pa_cons (pv 2) pa_nil))))))), ?_⟩
    walk_at "rd"
    intro S fS
    walk_at "rd"
    refine ⟨upd_same, ?_⟩
    have hS : SetN w (upd (upd H S (SetO w S (fun _ => false) 0)) S (SetO w S (fun j => false || decide (j = (a : Int))) 1)) S [a] := by
      refine ⟨_, 1, upd_same, Nat.le_refl _, fun _ => rfl, fun k => ?_⟩
      rw [Bool.false_or, decide_eq_true_eq]
      constructor
      · intro h
        exact ⟨a, h, List.mem_singleton.mpr rfl⟩
      · rintro ⟨y, h1, h2⟩
        rw [h1, List.mem_singleton.mp h2]
    have s1 : Same H (upd (upd H S (SetO w S (fun _ => false) 0)) S (SetO w S (fun j => false || decide (j = (a : Int))) 1)) := same_upd (same_new fS) fS
    generalize (upd (upd H S (SetO w S (fun _ => false) 0)) S (SetO w S (fun j => false || decide (j = (a : Int))) 1)) = H1 at hS s1 ⊢
    walk_at "rd"
    refine ⟨sz (by show 1 ≤ 100000; decide), fun L fL => ?_⟩
    walk_at "rd"
    refine ⟨fun m σ H' => ∃ ms ws y4 y5, m = 2 * (u.1.length - ms.length) + ws.length ∧ σ = [some (.ref D), some (.int (a : Nat)), some (.ref S), some (.ref L), y4, y5] ∧ Same H H' ∧ SetN w H' S ms ∧ H' L = some (.lst (natsV ws)) ∧ Fr u a ms ws ∧ ws.length ≤ ms.length,
      ⟨_, [a], [a], _, _, rfl, rfl, same_upd s1 (Same.free s1 fL), hS.at_ (by
        obtain ⟨_, _, e, _⟩ := id hS
        exact (ne_of_none e fL).symm), upd_same, ⟨by simp, fun x hx => by rw [List.mem_singleton.mp hx]; exact .base, List.mem_singleton.mpr rfl, fun x hx => hx, fun x hx => .inl hx⟩, Nat.le_refl _⟩, ?_⟩
    have nLS : ∀ {H' : Hp} {ys ms : List _}, H' L = some (.lst ys) → SetN w H' S ms → L ≠ S := fun e x => x.ne e
    have fL0 := Same.free s1 fL
    rintro m σ H' ⟨ms, ws, y4, y5, rfl, rfl, sm, hS', eL, F, lws⟩
    have lms := F.len U ha
    walk_at "rd"
    refine ⟨!(natsV ws).isEmpty, .inl ⟨_, SqL.of eL, rfl⟩, ?_⟩
    refine ite2 (fun c => ?_) (fun c => ?_)
    · have ne0 : ws ≠ [] := fun z => by subst z; simp at c
      obtain ⟨ws', x, rfl⟩ : ∃ ws' x, ws = ws' ++ [x] := ⟨ws.dropLast, ws.getLast ne0, (List.dropLast_concat_getLast ne0).symm⟩
      refine ⟨fun σ' H'' => ∃ ms1 ws1 y4 y5, σ' = [some (.ref D), some (.int (a : Nat)), some (.ref S), some (.ref L), y4, y5] ∧ Same H H'' ∧ SetN w H'' S ms1 ∧ H'' L = some (.lst (natsV ws1)) ∧ Fr u a ms1 ws1 ∧ ws1.length ≤ ms1.length ∧ 2 * (u.1.length - ms1.length) + ws1.length < 2 * (u.1.length - ms.length) + (ws' ++ [x]).length,
        fun σ' H'' ⟨ms1, ws1, z4, z5, e, sm1, hS1, eL1, F1, lw1, lt⟩ => ⟨_, lt, ms1, ws1, z4, z5, rfl, e, sm1, hS1, eL1, F1, lw1⟩, ?_⟩
      walk_at "rd"
      refine ⟨.inl ⟨rfl, _, SqL.of eL⟩, ?_⟩
      refine ⟨L, _, .int (x : Nat), rfl, rfl, eL, by simp [natsV], ?_⟩
      have e1 : (natsV (ws' ++ [x])).dropLast = natsV ws' := by simp [natsV]
      rw [e1]
      have lws' : ws'.length + 1 ≤ ms.length := by rw [List.length_append] at lws; exact lws
      have hx : x ∈ ms := F.wait x (List.mem_append_right _ (List.mem_singleton.mpr rfl))
      have hxl : x < u.1.length := (F.own x hx).lt U ha
      have sm1 : Same H (upd H' L (.lst (natsV ws'))) := same_upd sm fL0
      have eL1 := upd_same (H := H') (a := L) (o := .lst (natsV ws'))
      have hS1 : SetN w (upd H' L (.lst (natsV ws'))) S ms := hS'.at_ (hS'.ne eL)
      generalize upd H' L (.lst (natsV ws')) = H1' at sm1 eL1 hS1 ⊢
      walk_at "rd"
      have gx : as[x]? = some as[x] := List.getElem?_eq_getElem (by omega)
      refine d_ixLm (sm1 _ _ eD) (atI_nat (by rw [List.getElem?_map, gx]; rfl)) ?_
      have eA := hA x _ gx
      refine d_iLe (SqL.of (sm1 _ _ eA)) ?_
      have bn := nb_len u.2 x
      refine for_it (walk_list (K := K) (xs := natsV (nb u.2 x))) (fun i σ H2 => ∃ ms1 ws1 y5, σ = [some (.ref D), some (.int (a : Nat)), some (.ref S), some (.ref L), some (.int (x : Nat)), y5] ∧ Same H H2 ∧ SetN w H2 S ms1 ∧ H2 L = some (.lst (natsV ws1)) ∧ Fr2 u a x ms1 ws1 i ∧ ms1.length + ws'.length = ms.length + ws1.length ∧ ms.length ≤ ms1.length)
        ⟨ms, ws', _, rfl, sm1, hS1, eL1, F.pop, rfl, Nat.le_refl _⟩ (fun i σ H2 hi hP => ?_) (fun i y σ H0 H2 hi hP hy => ?_) (fun σ H2 hP => ?_)
      · obtain ⟨_, _, _, _, sm2, _⟩ := hP
        exact SqL.of (sm2 _ _ eA)
      · obtain ⟨ms1, ws1, y5', rfl, sm2, hS2, eL2, F2, lms1, le1⟩ := hP
        obtain ⟨rfl, hx2⟩ := hy
        rw [List.getElem?_map] at hx2
        obtain ⟨z, hz, rfl⟩ := Option.map_eq_some_iff.mp hx2
        have l1 : ms1.length ≤ u.1.length := nodup_len _ _ F2.nd fun y hy => (F2.own y hy).lt U ha
        walk_at "rd"
        refine d_snotin hS2 ?_
        walk_at "rd"
        refine ite2 (fun c => ?_) (fun c => ?_)
        · have nz : z ∉ ms1 := by simpa using c
          walk_at "rd"
          refine d_tsadd ?_
          walk_at "rd"
          refine d_sadd0 hS2 ?_
          walk_at "rd"
          refine d_sadd hS2 (by omega) fun o ms2 hS3 _ _ e2 => ?_
          have e2 := e2 nz
          subst e2
          have eL3 : (upd H2 S o) L = some (.lst (natsV ws1)) := by rw [upd_ne (hS2.ne eL2)]; exact eL2
          have sm3 : Same H (upd H2 S o) := same_upd sm2 fS
          generalize upd H2 S o = H3 at hS3 eL3 sm3 ⊢
          walk_at "rd"
          refine d_app eL3 ?_
          walk_at "rd"
          refine d_append eL3 (szl (by rw [List.length_map]; omega)) ?_
          exact ⟨ms1 ++ [z], ws1 ++ [z], _, rfl, same_upd sm3 fL0, hS3.at_ (hS3.ne eL3), by rw [upd_same, natsV, natsV, List.map_append]; rfl, F2.add hz nz, by rw [List.length_append, List.length_append]; show ms1.length + 1 + _ = _ + (ws1.length + 1); omega, by rw [List.length_append]; omega⟩
        · have nz : z ∈ ms1 := by simpa using c
          walk_at "rd"
          exact ⟨ms1, ws1, _, rfl, sm2, hS2, eL2, F2.skip hz nz, lms1, le1⟩
      · obtain ⟨ms1, ws1, y5', rfl, sm2, hS2, eL2, F2, lms1, le1⟩ := hP
        rw [List.length_map] at F2
        have l1 : ms1.length ≤ u.1.length := nodup_len _ _ F2.nd fun y hy => (F2.own y hy).lt U ha
        walk_at "rd"
        exact ⟨ms1, ws1, _, _, rfl, sm2, hS2, eL2, F2.end_ (Nat.le_refl _), by omega, by rw [List.length_append]; show _ < _ + (_ + 1); omega⟩
    · have e0 : ws = [] := by
        cases ws with
        | nil => rfl
        | cons a b => simp at c
      subst e0
      walk_at "rd"
      refine d_ssort hS' F.nd (by omega) (partL_rise u a) (fun y => ?_) fun p fp => ?_
      · rw [mem_partL U ha]
        exact ⟨F.own y, F.all⟩
      · exact q _ p (same_upd sm (Same.free sm fp)) (Same.free sm fp) upd_same
/-- while the parts are found: the list M of the parts rs, the set S of the places ms -/
structure PI (wd : World) (H H3 : Hp) (M S : Addr) (rs : List Addr) (ps : List (List Nat)) (ms : List Nat) (H' : Hp) : Prop where
  sm : Same H H'
  two : ∀ b o, b ≠ M → b ≠ S → H3 b = some o → H' b = some o
  set : SetN wd H' S ms
  lst : H' M = some (.lst (rs.map V.ref))
  at_ : PartsAt H' rs ps
  free : ∀ r ∈ rs, H r = none
  nM : M ∉ rs
  nS : S ∉ rs
section
variable {wd : World} {H H3 H' H'' : Hp} {M S : Addr} {rs : List Addr} {ps : List (List Nat)} {ms : List Nat}
theorem PI.same (x : PI wd H H3 M S rs ps ms H') (s : Same H' H'') : PI wd H H3 M S rs ps ms H'' :=
  ⟨Same.trans x.sm s, fun b o h1 h2 e => s _ _ (x.two b o h1 h2 e), x.set.same s, s _ _ x.lst, x.at_.same s, x.free, x.nM, x.nS⟩
theorem PI.add (x : PI wd H H3 M S rs ps ms H') (fS : H S = none) {o : HO} {ms' : List Nat} (h : SetN wd (upd H' S o) S ms') : PI wd H H3 M S rs ps ms' (upd H' S o) :=
  ⟨same_upd x.sm fS, fun b u h1 h2 e => by rw [upd_ne h2]; exact x.two b u h1 h2 e, h, by rw [upd_ne (x.set.ne x.lst)]; exact x.lst, x.at_.keep (h := S) Keep.put x.nS, x.free, x.nM, x.nS⟩
theorem PI.app (x : PI wd H H3 M S rs ps ms H') (fM : H M = none) {p : Addr} {pl : List Nat} (e : H' p = some (.lst (natsV pl))) (fp : H p = none) (nM : p ≠ M) (nS : p ≠ S) : PI wd H H3 M S (rs ++ [p]) (ps ++ [pl]) ms (upd H' M (.lst (rs.map V.ref ++ [V.ref p]))) :=
  ⟨same_upd x.sm fM, fun b u h1 h2 e => by rw [upd_ne h1]; exact x.two b u h1 h2 e, x.set.at_ (x.set.ne x.lst), by rw [upd_same, List.map_append]; rfl,
    Paired.snoc (x.at_.keep (h := M) Keep.put x.nM) (by rw [upd_ne nM]; exact e),
    fun r hr => by
      rcases List.mem_append.mp hr with hr | hr
      · exact x.free r hr
      · rw [List.mem_singleton.mp hr]; exact fp,
    fun z => by
      rcases List.mem_append.mp z with z | z
      · exact x.nM z
      · exact nM (List.mem_singleton.mp z).symm,
    fun z => by
      rcases List.mem_append.mp z with z | z
      · exact x.nS z
      · exact nS (List.mem_singleton.mp z).symm⟩
end
/-- the parts, by their least places -/
def spParts (K : PySem.W.Frag) : Sp := fun vs H Q _ => ∃ v u, vs = [v] ∧ WebAt K H v u ∧ WOk u ∧ ∀ H' (T : Addr) (rs : List Addr), Same H H' → H T = none → (∀ r ∈ rs, H r = none) → T ∉ rs → H' T = some (.lst (rs.map V.ref)) → PartsAt H' rs (partsL u) → Q (.ref T) H'
theorem ok_parts (T : Tx K mg base) : FnOk P w K mg base CX0 2 T.parts.f T.parts.fd ["web"] (spParts K) := by
  refine T.parts.F.ok sc_parts (fun vs H Q E h => ?_) (fun cdv A outer s H vs Q E hr h => ?_)
  · obtain ⟨_, _, rfl, _⟩ := h; rfl
  · obtain ⟨v, u, rfl, hw, U, q⟩ := h
    have l40 := U.few
    refine ⟨_, (pss_cons (ps_set (i := 1) sc_parts.nd rfl (.inl rfl) (pe_call (ok_all_neighbours T) (hr.mono (by decide)) (by rfl) T.all_neighbours.g T.all_neighbours.F.kp T.all_neighbours.b .nil pass0 (pa_cons (pv 0) pa_nil)))
      (pss_cons (ps_set (i := 2) sc_parts.nd rfl (.inl rfl) (pe_lst pa_nil))
      (pss_cons (ps_set (i := 3) sc_parts.nd rfl (.inl rfl) (pe_callTy0 (cr_set0w (wd := w) rfl) (by rfl) T.m_set (by decide +kernel)))
      (pss_cons (ps_for PassesOwn.never rfl (pi_range1 (by rfl) T.m_range (pa_cons (pe_callB call_len_seq (by rfl) T.m_len (by decide +kernel) (pa_cons (pv 1) pa_nil)) pa_nil)) (pg_name (i := 4) sc_parts.nd rfl (.inl rfl))
        (pss_one (ps_if (pt_cmpR or_snotin (pv 4) (pv 3) (by rfl))
          (pss_cons (ps_set (i := 5) sc_parts.nd rfl (.inl rfl) (pe_call (ok_part_from T) (hr.mono (by decide)) (by rfl) T.part_from.g T.part_from.F.kp T.part_from.b .nil pass0 (pa_cons (pv 1) (pa_cons (pv 4) pa_nil))))
          (pss_cons (ps_expr (pe_bm PySem.F.plainAttrs_list PySem.F.slot_list_append PySem.F.type_list_append mt_append (pv 2) (pa_cons (pv 5) pa_nil)))
          (pss_one (ps_for PassesOwn.never rfl (pi_list (pv 5)) (pg_name (i := 6) sc_parts.nd rfl (.inl rfl))
            (pss_one (ps_expr (pe_sadd (pv 3) (pa_cons (pv 6) pa_nil))))))))
          pss_nil)))
      (pss_one (ps_ret (pv 2))))))), ?_⟩
    walk_at "rd"
    refine ⟨v, u, rfl, hw, U, fun H1 D as s1 fD eD la nd nD fa hN => ?_⟩
    walk_at "rd"
    refine ⟨sz (by decide), fun M fM => ?_⟩
    walk_at "rd"
    have sM := same_new (o := .lst []) fM
    have sM' := sM
    have eM := upd_same (H := H1) (a := M) (o := .lst [])
    have eD1 := sM _ _ eD
    have nb1 : NbAt (upd H1 M (.lst [])) D u := ⟨as, eD1, la, fun j a h => sM _ _ (hN j a h)⟩
    have fM0 := Same.free s1 fM
    have s2 := Same.trans s1 sM
    generalize upd H1 M (.lst []) = H2 at eM eD1 nb1 s2 sM' ⊢
    refine ⟨rfl, fun S fS => ?_⟩
    walk_at "rd"
    have sS := same_new (o := SetO w S (fun _ => false) 0) fS
    have hS : SetN w (upd H2 S (SetO w S (fun _ => false) 0)) S [] := SetN.new upd_same
    have eM2 := sS _ _ eM
    have nb2 := nb1.same sS
    have eD2 := sS _ _ eD1
    have fS0 := Same.free s2 fS
    have s3 := Same.trans s2 sS
    have nMS : M ≠ S := hS.ne eM2
    have fM1 : H1 M = none := fM
    have fS1 : H1 S = none := Same.free sM' fS
    have nDM : D ≠ M := ne_of_none eD fM1
    have nDS : D ≠ S := ne_of_none eD fS1
    have P0 : PI w H (upd H2 S (SetO w S (fun _ => false) 0)) M S [] (partsN u 0) [] (upd H2 S (SetO w S (fun _ => false) 0)) := ⟨s3, fun _ _ _ _ e => e, hS, eM2, .nil, by simp, by simp, by simp⟩
    have nb3 : ∀ {H' : Hp} {rs ps ms}, PI w H (upd H2 S (SetO w S (fun _ => false) 0)) M S rs ps ms H' → NbAt H' D u := fun x => ⟨as, x.two _ _ nDM nDS eD2, la, fun j a h => x.two _ _ (ne_of_none (hN j a h) fM1) (ne_of_none (hN j a h) fS1) (sS _ _ (sM' _ _ (hN j a h)))⟩
    generalize upd H2 S (SetO w S (fun _ => false) 0) = H3 at hS eM2 nb2 eD2 s3 P0 nb3 ⊢
    refine d_lenL (SqL.of eD2) ?_
    rw [List.length_map, la]
    walk_at "rd"
    refine for_range (fun i σ H' => ∃ y4 y5 y6 rs ms, σ = [some v, some (.ref D), some (.ref M), some (.ref S), y4, y5, y6] ∧ PI w H H3 M S rs (partsN u i) ms H' ∧ (∀ y, y ∈ ms ↔ ∃ a, a < i ∧ Rch u.2 a y) ∧ ms.length ≤ 40 * i)
      ⟨_, _, _, [], [], rfl, P0, fun y => by simp, by simp⟩ (fun i σ H' hi hP => ?_) (fun σ H' hP => ?_)
    · obtain ⟨y4, y5, y6, rs, ms, rfl, X, mem, lms⟩ := hP
      have hi' : i < u.1.length := hi
      walk_at "rd"
      simp only [Int.zero_add]
      refine d_snotin X.set ?_
      walk_at "rd"
      refine ite2 (fun c => ?_) (fun c => ?_)
      · have nz : i ∉ ms := by simpa using c
        have li : Lst u i := Classical.byContradiction fun z => nz ((mem i).mpr ((seen_iff U).mpr z))
        walk_at "rd"
        refine ⟨D, u, i, rfl, nb3 X, U, hi', fun H4 p s4 fp ep => ?_⟩
        have X4 := X.same s4
        have fp0 := Same.free X.sm fp
        have npM : p ≠ M := (ne_of_none X.lst fp).symm
        have npS : p ≠ S := fun z => by
          obtain ⟨_, _, e, _⟩ := id X.set
          rw [z, e] at fp; cases fp
        walk_at "rd"
        refine d_app X4.lst ?_
        walk_at "rd"
        have lrs : rs.length ≤ 40 := by
          have := Paired.length X.at_
          have := partsN_len u i
          omega
        refine d_append X4.lst (szl (by rw [List.length_map]; omega)) ?_
        have X5 := X4.app fM0 ep fp0 npM npS
        have ep5 : (upd H4 M (.lst (rs.map V.ref ++ [V.ref p]))) p = some (.lst (natsV (partL u i))) := by rw [upd_ne npM]; exact ep
        generalize upd H4 M (.lst (rs.map V.ref ++ [V.ref p])) = H5 at X5 ep5 ⊢
        have lp := partL_len u i
        walk_at "rd"
        refine d_iLe (SqL.of ep5) ?_
        refine for_it (walk_list (K := K) (xs := natsV (partL u i))) (fun j σ H6 => ∃ y6 ms1, σ = [some v, some (.ref D), some (.ref M), some (.ref S), some (.int (i : Nat)), some (.ref p), y6] ∧ PI w H H3 M S (rs ++ [p]) (partsN u i ++ [partL u i]) ms1 H6 ∧ H6 p = some (.lst (natsV (partL u i))) ∧ (∀ y, y ∈ ms1 ↔ y ∈ ms ∨ y ∈ (partL u i).take j) ∧ ms1.length ≤ ms.length + j)
          ⟨_, ms, rfl, X5, ep5, fun y => by simp, Nat.le_refl _⟩ (fun j σ H6 hj hP => ?_) (fun j y σ H0 H6 hj hP hy => ?_) (fun σ H6 hP => ?_)
        · obtain ⟨_, _, _, _, e, _⟩ := hP
          exact SqL.of e
        · obtain ⟨z6, ms1, rfl, X6, ep6, mem6, l6⟩ := hP
          obtain ⟨rfl, hy⟩ := hy
          rw [List.getElem?_map] at hy
          obtain ⟨z, hz, rfl⟩ := Option.map_eq_some_iff.mp hy
          rw [List.length_map] at hj
          walk_at "rd"
          refine d_tsadd ?_
          walk_at "rd"
          refine d_sadd0 X6.set ?_
          walk_at "rd"
          refine d_sadd X6.set (by omega) fun o ms2 hS7 mem7 l7 _ => ?_
          walk_at "rd"
          refine ⟨_, ms2, rfl, X6.add fS0 hS7, by rw [upd_ne npS]; exact ep6, fun y => ?_, by omega⟩
          rw [mem7, mem6, take_snoc hz, List.mem_append, List.mem_singleton, or_assoc]
        · obtain ⟨z6, ms1, rfl, X6, ep6, mem6, l6⟩ := hP
          rw [List.length_map] at mem6 l6
          walk_at "rd"
          refine ⟨_, _, _, rs ++ [p], ms1, rfl, ?_, fun y => ?_, by omega⟩
          · rw [partsN_succ, if_pos (dec_true li)]
            exact X6
          · rw [mem6, List.take_length, mem_partL U hi', mem]
            constructor
            · rintro (⟨a, h1, h2⟩ | h)
              · exact ⟨a, by omega, h2⟩
              · exact ⟨i, by omega, h⟩
            · rintro ⟨a, h1, h2⟩
              rcases Nat.lt_or_ge a i with c1 | c1
              · exact .inl ⟨a, c1, h2⟩
              · have : a = i := by omega
                subst this
                exact .inr h2
      · have nz : i ∈ ms := by simpa using c
        have sn := (mem i).mp nz
        have nl := (seen_iff U).mp sn
        walk_at "rd"
        refine ⟨_, _, _, rs, ms, rfl, by rw [partsN_succ, if_neg (by rw [dec_false nl]; decide), List.append_nil]; exact X, fun y => ?_, by omega⟩
        rw [mem]
        constructor
        · rintro ⟨a, h1, h2⟩
          exact ⟨a, by omega, h2⟩
        · rintro ⟨a, h1, h2⟩
          rcases Nat.lt_or_ge a i with c1 | c1
          · exact ⟨a, c1, h2⟩
          · have : a = i := by omega
            subst this
            obtain ⟨b, h3, h4⟩ := sn
            exact ⟨b, h3, h4.trans h2⟩
    · obtain ⟨y4, y5, y6, rs, ms, rfl, X, mem, lms⟩ := hP
      walk_at "rd"
      exact q H' M rs X.sm fM0 X.free X.nM X.lst X.at_
/-- whether it hangs together -/
def spHangs (K : PySem.W.Frag) : Sp := fun vs H Q _ => ∃ v u, vs = [v] ∧ WebAt K H v u ∧ WOk u ∧ ∀ H', Same H H' → Q (.bl (decide ((partsL u).length < 2))) H'
theorem ok_hangs (T : Tx K mg base) : FnOk P w K mg base CX0 3 T.hangs.f T.hangs.fd ["web"] (spHangs K) := by
  refine T.hangs.F.ok sc_hangs (fun vs H Q E h => ?_) (fun cdv A outer s H vs Q E hr h => ?_)
  · obtain ⟨_, _, rfl, _⟩ := h; rfl
  · obtain ⟨v, u, rfl, hw, U, q⟩ := h
    refine ⟨_, (pss_one (ps_ret (pe_cmpR op_lt (pe_callB call_len_seq (by rfl) T.m_len (by decide +kernel) (pa_cons (pe_call (ok_parts T) (hr.mono (by decide)) (by rfl) T.parts.g T.parts.F.kp T.parts.b .nil pass0 (pa_cons (pv 0) pa_nil)) pa_nil)) pe_int (nomark _)))), ?_⟩
    walk_at "rd"
    refine ⟨v, u, rfl, hw, U, fun H1 M rs s1 fM fr nM eM pa => ?_⟩
    walk_at "rd"
    refine d_lenL (SqL.of eM) ?_
    walk_at "rd"
    have e : decide (((rs.map V.ref).length : Int) < 2) = decide ((partsL u).length < 2) := by
      rw [List.length_map, Paired.length pa]
      exact decide_eq_decide.mpr (by omega)
    rw [e]
    exact q H1 s1
/-- the cut of a web -/
def spCut (K : PySem.W.Frag) : Sp := fun vs H Q _ => ∃ (v : V) (w : Web) (o : Addr) (qs : List Nat), vs = [v, .ref o] ∧ WebAt K H v w ∧ WOk w ∧ H o = some (.lst (qs.map fun q => V.int (q : Nat))) ∧ qs.Nodup ∧ (∀ q ∈ qs, q < w.1.length) ∧
  ∀ H' v' os, Same H H' → os.Perm qs → os.Pairwise (· < ·) → WebAt K H' v' (cutL w os) → Q v' H'
theorem ok_cut (T : Tx K mg base) : FnOk P w K mg base CX0 1 T.cut.f T.cut.fd ["web", "places"] (spCut K) := by
  refine T.cut.F.ok sc_cut (fun vs H Q E h => ?_) (fun cdv A outer s H vs Q E hr h => ?_)
  · obtain ⟨_, _, _, _, rfl, _⟩ := h; rfl
  · obtain ⟨v, w, o, qs, rfl, ⟨a, b, tvs, rfl, q1, q2, pT⟩, W, eO, nd, bq, q⟩ := h
    have lt : tvs.length = w.2.length := Paired.length pT
    have l16 := W.most
    have l40 := W.few
    refine ⟨_, (pss_cons (ps_asg (pv 0) (pg_tup rfl (pgs_cons (pg_name (i := 2) sc_cut.nd rfl (.inr rfl)) (pgs_cons (pg_name (i := 3) sc_cut.nd rfl (.inl rfl)) pgs_nil))))
      (pss_cons (ps_set (i := 4) sc_cut.nd rfl (.inl rfl) (pe_callB cr_sortedI (by rfl) T.m_sorted (by decide +kernel) (pa_cons (pv 1) pa_nil)))
      (pss_cons (ps_setDc (i := 5) (own := [("number", 10), ("place", 7)]) (tt := tYes) (g := gTup K 2 (gCons (gName 10) (gCons (gName 7) gNil))) rfl sc_cut.nd rfl rfl (sw_dict rfl rfl rfl (by decide +kernel)) (pi_enum (by rfl) T.m_enumerate (pa_cons (pv 4) pa_nil)) (blkOk_by (N := ["web", "places", "kinds", "ties", "kept", "numbers", "left", "place", "other", "kind", "number"]) (sc := defScope s_cut) (by decide +kernel)) (fun _ _ _ _ _ => (pg_tup rfl (pgs_cons (pg_name (i := 10) sc_cut.nd rfl (.inl rfl)) (pgs_cons (pg_name (i := 7) sc_cut.nd rfl (.inl rfl)) pgs_nil)))) (fun _ _ _ _ _ => pts_nil) (fun _ _ _ _ _ => (pv 7)) (fun _ _ _ _ _ => (pv 10)))
      (pss_cons (ps_set (i := 6) sc_cut.nd rfl (.inl rfl) (pe_lst pa_nil))
      (pss_cons (ps_for PassesOwn.never rfl (pi_tup (pv 3)) (pg_tup rfl (pgs_cons (pg_name (i := 7) sc_cut.nd rfl (.inl rfl)) (pgs_cons (pg_name (i := 8) sc_cut.nd rfl (.inl rfl)) (pgs_cons (pg_name (i := 9) sc_cut.nd rfl (.inl rfl)) pgs_nil))))
        (pss_one (ps_if (PW.pt (pw_and (pt_cmp (pc_din (hu_of hr) (pv 7) (pv 5))) (pw_and1 (pt_cmp (pc_din (hu_of hr) (pv 8) (pv 5))))))
          (pss_one (ps_expr (pe_bm PySem.F.plainAttrs_list PySem.F.slot_list_append PySem.F.type_list_append mt_append (pv 6) (pa_cons (pe_tup (pa_cons (pe_dget (hu_of hr) (pv 5) (pv 7) (fun _ _ => rfl)) (pa_cons (pe_dget (hu_of hr) (pv 5) (pv 8) (fun _ _ => rfl)) (pa_cons (pv 9) pa_nil)))) pa_nil))))
          pss_nil)))
      (pss_one (ps_ret (pe_tup (pa_cons (pe_join pe_str (pe_lc (own := [("place", 7)]) (g := gName 7) (tt := tYes) rfl sc_cut.nd (pi_list (pv 4)) (blkOk_by (N := ["web", "places", "kinds", "ties", "kept", "numbers", "left", "place", "other", "kind", "number"]) (sc := defScope s_cut) (by decide +kernel)) (fun _ _ _ _ _ => (pg_name (i := 7) sc_cut.nd rfl (.inl rfl))) (fun _ _ _ _ _ => pts_nil) (fun _ _ _ _ _ => (pe_ix ix_str (pv 2) (pv 7) (fun _ _ => rfl))))) (pa_cons (pe_callTy call_tuple_of (by rfl) T.m_tuple (by decide +kernel) (pa_cons (pv 6) pa_nil)) pa_nil)))))))))), ?_⟩
    walk_at "rd"
    refine d_gtup q1 rfl ?_
    walk_at "rd"
    refine ⟨o, zs qs, rfl, SqL.of (by rw [← ints_map]; exact eO), fun ns' kp pm srt fk => ?_⟩
    obtain ⟨os, rfl, pos⟩ := nat_list pm
    have ndo := pos.nodup_iff.mpr nd
    have riseo : os.Pairwise (· < ·) := by
      have z : os.Pairwise (· ≤ ·) := by
        unfold zs at srt
        rw [List.pairwise_map] at srt
        exact srt.imp fun h => by omega
      exact (List.Pairwise.and z ndo).imp fun {x y} ⟨h1, h2⟩ => by omega
    have bo : ∀ p ∈ os, p < w.1.length := fun p hp => bq p (pos.mem_iff.mp hp)
    have lo : os.length ≤ 40 := Nat.le_trans (nodup_len _ os ndo bo) l40
    rw [← ints_map]
    have s1 := same_new (o := .lst (os.map fun o => V.int (o : Nat))) fk
    have eK := upd_same (H := H) (a := kp) (o := .lst (os.map fun o => V.int (o : Nat)))
    generalize upd H kp _ = H1 at s1 eK ⊢
    walk_at "rd"
    refine ⟨kp, _, rfl, SqL.of eK, ?_⟩
    intro D fD
    refine dc_it (walk_enum (K := K) (a := kp) (xs := os.map fun o => V.int (o : Nat))) (fun i H' => ∃ kvs, H' D = some (.dK kvs) ∧ Same H1 H' ∧ kvs.length ≤ i ∧ ∀ p : Nat, valV kvs (.inl (p : Int)) = (posOf (os.take i) p).map fun k => V.int (k : Nat))
      ⟨[], upd_same, same_new fD, Nat.le_refl _, fun p => rfl⟩ (fun i H' _ hP => ?_) (fun i x H' H'' hi hP hy => ?_) (fun H2 hP => ?_)
    · obtain ⟨_, _, s2, _⟩ := hP
      exact SqL.of (s2 _ _ eK)
    · obtain ⟨kvs, eD, s2, lk, hk⟩ := hP
      obtain ⟨T', x', y', rfl, fT, rfl, ex, ey⟩ := hy
      have hi' : i < os.length := by simpa using hi
      have ex' : x' = V.int (i : Nat) := (Option.some.inj ex).symm
      subst ex'
      have ey' : y' = V.int (os[i] : Nat) := by
        have z : (os.map fun o => V.int (o : Nat))[i]? = some y' := ey
        rw [List.getElem?_map, List.getElem?_eq_getElem hi'] at z
        exact (Option.some.inj z).symm
      subst ey'
      refine d_gtupm upd_same rfl ?_
      walk_at "rd"
      refine ⟨kvs, .inl (os[i] : Nat), rfl, at_upd eD fT, szl (by omega), _, upd_same, same_upd (same_upd s2 (Same.free s2 fT)) fD, ?_, fun p => ?_⟩
      · have := length_putK kvs (.inl (os[i] : Nat) : Key) (V.int (i : Nat))
        omega
      · have ni : os[i] ∉ os.take i := fun hm => by
          obtain ⟨j, hj, e⟩ := List.getElem_of_mem hm
          rw [List.length_take] at hj
          rw [List.getElem_take] at e
          have := nodup_at ndo (i := j) (j := i) (x := os[i]) (by rw [List.getElem?_eq_getElem (by omega), e]) (List.getElem?_eq_getElem hi')
          omega
        rw [valV_put, take_snoc (List.getElem?_eq_getElem hi'), posOf_snoc _ _ _ ni, List.length_take, Nat.min_eq_left (by omega)]
        by_cases e : p = os[i]
        · rw [if_pos e, if_pos (by rw [e])]; rfl
        · rw [if_neg e, if_neg (by intro z; injection z with z; omega)]
          exact hk p
    obtain ⟨kvs, eD, s2, _, hk⟩ := hP
    rw [List.length_map, List.take_length] at hk
    have s12 := Same.trans s1 s2
    have eK2 := s2 _ _ eK
    walk_at "rd"
    refine ⟨sz (by decide), fun F fF => ?_⟩
    have fF0 := Same.free s12 fF
    have nDF : D ≠ F := ne_of_none eD fF
    have nKF : kp ≠ F := ne_of_none eK2 fF
    have s3 := same_upd (o := .lst []) s12 fF0
    have eD3 := at_upd (u := .lst []) eD fF
    have eK3 := at_upd (u := .lst []) eK2 fF
    have eF3 := upd_same (H := H2) (a := F) (o := .lst [])
    generalize upd H2 F _ = H3 at s3 eD3 eK3 eF3 ⊢
    walk_at "rd"
    refine d_iTe (Same.sqt s3 q2) ?_
    refine for_it (walk_tup (xs := tvs)) (fun i σ H' => ∃ y7 y8 y9 y10 fs, σ = [some (.ref a), some (.ref o), some (.str ⟨w.1.toArray⟩), some (.ref b), some (.ref kp), some (.ref D), some (.ref F), y7, y8, y9, y10] ∧ Same H H' ∧ H' D = some (.dK kvs) ∧ H' kp = some (.lst (os.map fun o => V.int (o : Nat))) ∧ H' F = some (.lst fs) ∧ Ties K H' fs ((w.2.take i).filterMap (cutTie os)))
      ⟨_, _, _, _, [], rfl, s3, eD3, eK3, eF3, .nil⟩ (fun i σ H' hi hP => ?_) (fun i x σ H'' H' hi hP hy => ?_) (fun σ H' hP => ?_)
    · obtain ⟨_, _, _, _, _, _, s4, _⟩ := hP
      exact Same.sqt s4 q2
    · obtain ⟨y7, y8, y9, y10, fs, rfl, s4, eD4, eK4, eF4, tt⟩ := hP
      obtain ⟨rfl, hx⟩ := hy
      obtain ⟨t, ht, ta, rfl, qt⟩ := Paired.at pT hx
      refine d_gtup (Same.sqt s4 qt) rfl ?_
      have g1 := DGet.k (k := .inl (t.1 : Int)) eD4
      have g2 := DGet.k (k := .inl (t.2.1 : Int)) eD4
      rw [hk] at g1 g2
      have no : cutTie os t = none → Ties K H' fs ((w.2.take (i + 1)).filterMap (cutTie os)) := fun z => by
        rw [cutTie_snoc ht, z]
        show Ties K H' fs (_ ++ [])
        rw [List.append_nil]; exact tt
      walk_at "rd"
      refine ⟨D, _, rfl, g1, ?_⟩
      walk_at "rd"
      rw [Option.isSome_map]
      refine ite2 (fun c1 => ?_) (fun c1 => ?_)
      · obtain ⟨x1, e1⟩ := Option.isSome_iff_exists.mp c1
        walk_at "rd"
        refine ⟨D, _, rfl, g2, ?_⟩
        walk_at "rd"
        rw [Option.isSome_map]
        refine ite2 (fun c2 => ?_) (fun c2 => ?_)
        · obtain ⟨x2, e2⟩ := Option.isSome_iff_exists.mp c2
          rw [e1] at g1
          rw [e2] at g2
          walk_at "rd"
          refine d_app eF4 ?_
          walk_at "rd"
          refine ⟨D, _, rfl, g1, ?_⟩
          walk_at "rd"
          refine ⟨D, _, rfl, g2, ?_⟩
          walk_at "rd"
          refine ⟨sz (by show 3 ≤ 100000; decide), fun p fp => ?_⟩
          have lfs := tt.len
          have := List.length_filterMap_le (cutTie os) (w.2.take i)
          have := List.length_take_le i w.2
          walk_at "rd"
          refine d_append (at_upd eF4 fp) (szl (by omega)) ?_
          have ec : cutTie os t = some (x1, x2, t.2.2) := by unfold cutTie; rw [e1, e2]; rfl
          refine ⟨_, _, _, _, _, rfl, same_upd (same_upd s4 (Same.free s4 fp)) fF0, by rw [upd_ne nDF]; exact at_upd eD4 fp, by rw [upd_ne nKF]; exact at_upd eK4 fp, upd_same, ?_⟩
          rw [cutTie_snoc ht, ec]
          exact tt.more (t := (x1, x2, t.2.2)) eF4 fp
        · walk_at "rd"
          have en : posOf os t.2.1 = none := by cases e : posOf os t.2.1 with | none => rfl | some => rw [e] at c2; exact absurd rfl c2
          exact ⟨_, _, _, _, fs, rfl, s4, eD4, eK4, eF4, no (by unfold cutTie; rw [e1, en]; rfl)⟩
      · walk_at "rd"
        have en : posOf os t.1 = none := by cases e : posOf os t.1 with | none => rfl | some => rw [e] at c1; exact absurd rfl c1
        exact ⟨_, _, _, _, fs, rfl, s4, eD4, eK4, eF4, no (by unfold cutTie; rw [en]; rfl)⟩
    obtain ⟨y7, y8, y9, y10, fs, rfl, s4, eD4, eK4, eF4, tt⟩ := hP
    rw [lt, List.take_length] at tt
    walk_at "rd"
    refine d_iLe (SqL.of eK4) ?_
    intro C fC
    refine lc_list (K := K) (a := kp) (xs := os.map fun o => V.int (o : Nat)) (fun k H5 => H5 C = some (.lst (((os.take k).map fun p => w.1.getD p 0).map fun c => V.str (sg c))) ∧ Same H' H5) ⟨upd_same, same_new fC⟩ (fun k H5 _ hP => SqL.of (hP.2 _ _ eK4)) (fun k x H5 hx hP => ?_) (fun H5 hP => ?_)
    · obtain ⟨eC, s5⟩ := hP
      rw [List.getElem?_map] at hx
      obtain ⟨p, hp, rfl⟩ := Option.map_eq_some_iff.mp hx
      have lp := bo p (List.mem_of_getElem? hp)
      have lk := (List.getElem?_eq_some_iff.mp hp).1
      walk_at "rd"
      refine ⟨⟨w.1.toArray⟩, (p : Nat), w.1.getD p 0, rfl, rfl, sz (by show w.1.toArray.size ≤ 100000; simp; omega), atI_nat (by show w.1.toArray.toList[p]? = _; simp [lp]), ?_⟩
      refine ⟨_, eC, szl (by rw [List.length_map, List.length_map, List.length_take]; omega), ?_, same_upd s5 fC⟩
      rw [upd_same, take_snoc hp, List.map_append, List.map_append]; rfl
    obtain ⟨eC, s5⟩ := hP
    rw [List.length_map, List.take_length] at eC
    refine ⟨_, C, (os.map fun p => w.1.getD p 0).map sg, rfl, rfl, .inl (SqL.of (by rw [List.map_map]; exact eC)), ?_, ?_⟩
    · rw [sum_const _ 1 _ (by intro x hx; obtain ⟨c, _, rfl⟩ := List.mem_map.mp hx; rfl), List.length_map, List.length_map]
      have e0 : (Str.ofString "").length = 0 := by decide +kernel
      rw [e0]; omega
    rw [join_signs]
    walk_at "rd"
    have eF5 := s5 _ _ eF4
    have tt5 := tt.same s5
    refine ⟨F, fs, rfl, .inl ⟨SqL.of eF5, fun R fR => ?_⟩⟩
    walk_at "rd"
    refine ⟨sz (by show 2 ≤ 100000; decide), fun W' fW => ?_⟩
    refine q _ _ os (Same.trans s4 (Same.trans s5 (Same.trans (same_new fR) (same_new fW)))) pos riseo ⟨W', R, fs, rfl, SqT.of upd_same, SqT.of (at_upd upd_same fW), (tt5.put (.inl fR)).put (.inl fW)⟩
theorem str_len' (l : List Nat) : (⟨l.toArray⟩ : Str).length = l.length := by show l.toArray.size = _; simp
structure HK (h : Addr) (H H' : Hp) : Prop where
  k : Keep h H H'
  hh : Hand H' h
section
variable {h : Addr} {H H1 H2 : Hp}
theorem HK.draw (x : HK h H H1) (k : Keep h H1 H2) (hh : Hand H2 h) : HK h H H2 := ⟨Keep.trans x.k k, hh⟩
theorem Keep.free' {p : Addr} (k : Keep h H H1) (n : p ≠ h) (f : H1 p = none) : H p = none := Keep.free k n f
theorem HK.same (x : HK h H H1) (s : Same H1 H2) : HK h H H2 := ⟨Keep.same x.k s, x.hh.same s⟩
theorem HK.at_ (x : HK h H H1) {a : Addr} {o : HO} (n : a ≠ h) (e : H a = some o) : H1 a = some o := x.k _ _ n e
theorem HK.web {K : PySem.W.Frag} (x : HK h H H1) (hh : Hand H h) {v : V} {u : Web} (w : WebAt K H v u) : WebAt K H1 v u := by
  obtain ⟨_, _, e, _⟩ := id hh
  exact w.keep x.k e
theorem HK.new (x : HK h H H1) {p : Addr} {o : HO} (f : H1 p = none) (f0 : H p = none) : HK h H (upd H1 p o) := ⟨Keep.new x.k f0, x.hh.put (x.hh.ne f)⟩
end
/-- the rising places that are drawn: some of the first n -/
structure Some_ (n : Nat) (ps : List Nat) : Prop where
  rise : ps.Pairwise (· < ·)
  lt : ∀ p ∈ ps, p < n
theorem Some_.snoc {n : Nat} {ps : List Nat} (s : Some_ n ps) : Some_ (n + 1) (ps ++ [n]) :=
  ⟨List.pairwise_append.mpr ⟨s.rise, by simp, fun x hx y hy => by rw [List.mem_singleton.mp hy]; exact s.lt x hx⟩, fun p hp => by
    rcases List.mem_append.mp hp with hp | hp
    · have := s.lt p hp; omega
    · rw [List.mem_singleton.mp hp]; omega⟩
theorem Some_.more {n : Nat} {ps : List Nat} (s : Some_ n ps) : Some_ (n + 1) ps := ⟨s.rise, fun p hp => by have := s.lt p hp; omega⟩
theorem Some_.len {n : Nat} {ps : List Nat} (s : Some_ n ps) : ps.length ≤ n := nodup_len _ _ (rise_nodup s.rise) s.lt
theorem rNe_eq {x y : Int} {H : Hp} {QB : VK} (h : x = y) (q : QB (.bl false) H) : rNe (.int x) (.int y) H QB := d_neI (by rw [decide_eq_true h]; exact q)
theorem neD_ints {K : PySem.W.Frag} {H : Hp} {QB : VK} {a b : Addr} {l m : List Nat} (ea : H a = some (.lst (natsV l))) (eb : H b = some (.lst (natsV m))) (h : l = m) (q : QB (.bl false) H) : rNeD K (.ref a) (.ref b) H QB := by
  subst h
  refine ⟨_, _, dp_nats ea, dp_nats eb, shaped_ints _, shaped_ints _, ?_⟩
  rw [eqv_ints]
  exact q
theorem PartsAt.more {H : Hp} {rs : List Addr} {ps : List (List Nat)} {r : Addr} {p : List Nat} (x : PartsAt H rs ps) (e : H r = some (.lst (natsV p))) : PartsAt H (rs ++ [r]) (ps ++ [p]) := Paired.snoc x e
theorem PartsAt.put {H : Hp} {rs : List Addr} {ps : List (List Nat)} {D : Addr} {o : HO} (x : PartsAt H rs ps) (n : D ∉ rs) : PartsAt (upd H D o) rs ps := x.keep Keep.put n
theorem int_sum (f : Nat → Nat) : ∀ l : List Nat, (l.map fun p => ((f p : Nat) : Int)).sum = ((sumN l f : Nat) : Int)
  | [] => rfl
  | x :: l => by rw [List.map_cons, List.sum_cons, int_sum f l, sumN_cons]; omega
theorem int_sumL (f : List Nat → Nat) : ∀ l : List (List Nat), (l.map fun p => ((f p : Nat) : Int)).sum = ((sumN l f : Nat) : Int)
  | [] => rfl
  | x :: l => by rw [List.map_cons, List.sum_cons, int_sumL f l, sumN_cons]; omega
theorem dpa_bs {K : PySem.W.Frag} {H : Hp} : ∀ {bs : List (V × PyData)}, (∀ b ∈ bs, Dp K H b.1 b.2) → DpAll K H (bs.map (·.1)) (bs.map (·.2))
  | [], _ => .nil
  | b :: bs, h => .cons (h b List.mem_cons_self) (dpa_bs fun x hx => h x (List.mem_cons_of_mem _ hx))
theorem nat_rise {os : List Nat} (nd : os.Nodup) (srt : (zs os).Pairwise (· ≤ ·)) : os.Pairwise (· < ·) := by
  have z : os.Pairwise (· ≤ ·) := by
    unfold zs at srt
    rw [List.pairwise_map] at srt
    exact srt.imp fun h => by omega
  exact (List.Pairwise.and z nd).imp fun {x y} ⟨h1, h2⟩ => by omega
/-- a web with its places called otherwise -/
def spRen (K : PySem.W.Frag) (P : Addr) : Sp := fun vs H Q _ => ∃ (h : Addr) (v : V) (u : Web), vs = [.ref h, v] ∧ H P = some (TbX P) ∧ Hand H h ∧ WebAt K H v u ∧ WOk u ∧ ∀ H', HK h H H' → Q (.bl true) H'
theorem ok_right (T : Tx K mg base) : FnOk P w K mg base CX0 5 T.right.f T.right.fd ["hand", "web"] (spRen K T.P_is_web) := by
  refine T.right.F.ok sc_right (fun vs H Q E h => ?_) (fun cdv A outer s H vs Q E hr h => ?_)
  · obtain ⟨_, _, _, rfl, _⟩ := h; rfl
  · obtain ⟨h, v, u, rfl, tab, hh, hw, W, q⟩ := h
    have l40 := W.few
    have l16 := W.most
    obtain ⟨_, _, eh0, _⟩ := id hh
    have ph : T.P_is_web ≠ h := ne_of tab eh0 (by intro z; cases z)
    obtain ⟨a, b, tvs, rfl, q1, q2, pT⟩ := id hw
    have lt : tvs.length = u.2.length := Paired.length pT
    refine ⟨_, (pss_cons (ps_set (i := 2) sc_right.nd rfl (.inl rfl) (pe_callB call_len_str (by rfl) T.m_len (by decide +kernel) (pa_cons (pe_ix ix_tup (pv 1) pe_int (fun _ _ => rfl)) pa_nil)))
      (pss_cons (ps_set (i := 3) sc_right.nd rfl (.inr rfl) (pe_call (ok_order T) (hr.mono (by decide)) (by rfl) T.order.g T.order.F.kp T.order.b .nil pass0 (pa_cons (pv 0) (pa_cons (pv 2) pa_nil))))
      (pss_cons (ps_set (i := 4) sc_right.nd rfl (.inl rfl) (pe_call (ok_named T) (hr.mono (by decide)) (by rfl) T.named.g T.named.F.kp T.named.b .nil pass0 (pa_cons (pv 1) (pa_cons (pv 3) pa_nil))))
      (pss_cons (ps_if (PW.pt (pw_or (pt_cmpR op_notBl (pe_call (ok_is_web T) (hr.mono (by decide)) (by rfl) T.is_web.g T.is_web.F.kp T.is_web.b .nil pass0 (pa_cons (pv 4) pa_nil)) pe_bl (nomark _)) (pw_or1 (pt_cmpR (op_neD (hr.units)) (pe_call (ok_cut T) (hr.mono (by decide)) (by rfl) T.cut.g T.cut.F.kp T.cut.b .nil pass0 (pa_cons (pv 1) (pa_cons (pe_listRg rfl (by rfl) T.m_list (prg_1 (by rfl) T.m_range (pv 2))) pa_nil))) (pv 1) (nomark _)))))
        (pss_one (ps_ret pe_bl))
        pss_nil)
      (pss_cons (ps_setLc (i := 5) (own := [("place", 6)]) (g := gName 6) (tt := tYes) (te := tCall (spNb K) [] E0 (tCons (tVar 1) (tCons (tVar 6) tNil))) rfl sc_right.nd rfl rfl (sw_true rfl rfl rfl (by decide +kernel)) (pi_range1 (by rfl) T.m_range (pa_cons (pv 2) pa_nil)) (blkOk_by (N := ["hand", "web", "many", "order", "other", "rows", "place", "beside", "kind", "told", "some", "here", "there", "names", "row", "one", "part"]) (sc := defScope s_right) (by decide +kernel)) (fun _ _ _ _ _ => (pg_name (i := 6) sc_right.nd rfl (.inl rfl))) (fun _ _ _ _ _ => pts_nil) (fun _ _ _ _ _ => (pe_call (ok_neighbours T) (hr.mono (by decide)) (by rfl) T.neighbours.g T.neighbours.F.kp T.neighbours.b .nil pass0 (pa_cons (pv 1) (pa_cons (pv 6) pa_nil)))))
      (pss_cons (ps_if (pt_cmpR op_ne (pe_callB (cr_sum rfl) (by rfl) T.m_sum (by decide +kernel) (pa_cons (pe_lc (own := [("row", 14)]) (g := gName 14) (tt := tYes) (te := tCB (Evl.rLenS K) (tCons (tVar 14) tNil)) rfl sc_right.nd (pi_list (pv 5)) (blkOk_by (N := ["hand", "web", "many", "order", "other", "rows", "place", "beside", "kind", "told", "some", "here", "there", "names", "row", "one", "part"]) (sc := defScope s_right) (by decide +kernel)) (fun _ _ _ _ _ => (pg_name (i := 14) sc_right.nd rfl (.inl rfl))) (fun _ _ _ _ _ => pts_nil) (fun _ _ _ _ _ => (pe_callB call_len_seq (by rfl) T.m_len (by decide +kernel) (pa_cons (pv 14) pa_nil)))) pa_nil)) (pe_op op_mul pe_int (pe_callB call_len_seq (by rfl) T.m_len (by decide +kernel) (pa_cons (pe_ix ix_tup (pv 1) pe_int (fun _ _ => rfl)) pa_nil))) (nomark _))
        (pss_one (ps_ret pe_bl))
        pss_nil)
      (pss_cons (ps_for PassesOwn.never rfl (pi_range1 (by rfl) T.m_range (pa_cons (pv 2) pa_nil)) (pg_name (i := 6) sc_right.nd rfl (.inl rfl))
        (pss_one (ps_if (pt_cmpR (op_neD (hr.units)) (pe_call (ok_neighbours T) (hr.mono (by decide)) (by rfl) T.neighbours.g T.neighbours.F.kp T.neighbours.b .nil pass0 (pa_cons (pv 4) (pa_cons (pe_ix ix_list (pv 3) (pv 6) (fun _ _ => rfl)) pa_nil))) (pe_callB cr_sortedI (by rfl) T.m_sorted (by decide +kernel) (pa_cons (pe_lc (own := [("one", 15)]) (g := gName 15) (tt := tYes) (te := tOp (rIxL K) (tVar 3) (tVar 15)) rfl sc_right.nd (pi_list (pe_ix ix_list (pv 5) (pv 6) (fun _ _ => rfl))) (blkOk_by (N := ["hand", "web", "many", "order", "other", "rows", "place", "beside", "kind", "told", "some", "here", "there", "names", "row", "one", "part"]) (sc := defScope s_right) (by decide +kernel)) (fun _ _ _ _ _ => (pg_name (i := 15) sc_right.nd rfl (.inl rfl))) (fun _ _ _ _ _ => pts_nil) (fun _ _ _ _ _ => (pe_ix ix_list (pv 3) (pv 15) (fun _ _ => rfl)))) pa_nil)) (nomark _))
          (pss_one (ps_ret pe_bl))
          pss_nil)))
      (pss_cons (ps_for PassesOwn.never rfl (pi_tup (pe_ix ix_tup (pv 1) pe_int (fun _ _ => rfl))) (pg_tup rfl (pgs_cons (pg_name (i := 6) sc_right.nd rfl (.inl rfl)) (pgs_cons (pg_name (i := 7) sc_right.nd rfl (.inl rfl)) (pgs_cons (pg_name (i := 8) sc_right.nd rfl (.inl rfl)) pgs_nil))))
        (pss_one (ps_if (PW.pt (pw_or (pt_cmpR op_ne (pe_call (ok_tie_of T) (hr.mono (by decide)) (by rfl) T.tie_of.g T.tie_of.F.kp T.tie_of.b .nil pass0 (pa_cons (pv 4) (pa_cons (pe_ix ix_list (pv 3) (pv 7) (fun _ _ => rfl)) (pa_cons (pe_ix ix_list (pv 3) (pv 6) (fun _ _ => rfl)) pa_nil)))) (pv 8) (nomark _)) (pw_or1 (pt_cmpR (op_notInD (units1 hr)) (pv 7) (pe_ix ix_list (pv 5) (pv 6) (fun _ _ => rfl)) (by rfl)))))
          (pss_one (ps_ret pe_bl))
          pss_nil)))
      (pss_cons (ps_set (i := 9) sc_right.nd rfl (.inl rfl) (pe_call (ok_parts T) (hr.mono (by decide)) (by rfl) T.parts.g T.parts.F.kp T.parts.b .nil pass0 (pa_cons (pv 1) pa_nil)))
      (pss_cons (ps_if (pt_cmpR (op_neD (hr.units)) (pe_callB (cr_sortedDat (units1 hr)) (by rfl) T.m_sorted (by decide +kernel) (pa_cons (pe_lc (own := [("part", 16)]) (g := gName 16) (tt := tYes) (te := tCB (rSortedI K) (tCons (tLc (iList K (tVar 16)) (gName 6) tYes (tOp (rIxL K) (tVar 3) (tVar 6)) [6]) tNil)) rfl sc_right.nd (pi_list (pv 9)) (blkOk_by (N := ["hand", "web", "many", "order", "other", "rows", "place", "beside", "kind", "told", "some", "here", "there", "names", "row", "one", "part"]) (sc := defScope s_right) (by decide +kernel)) (fun _ _ _ _ _ => (pg_name (i := 16) sc_right.nd rfl (.inl rfl))) (fun _ _ _ _ _ => pts_nil) (fun _ _ _ _ _ => (pe_callB cr_sortedI (by rfl) T.m_sorted (by decide +kernel) (pa_cons (pe_lc (own := [("place", 6)]) (g := gName 6) (tt := tYes) (te := tOp (rIxL K) (tVar 3) (tVar 6)) rfl sc_right.nd (pi_list (pv 16)) (blkOk_in (N := ["hand", "web", "many", "order", "other", "rows", "place", "beside", "kind", "told", "some", "here", "there", "names", "row", "one", "part"]) (sc := defScope s_right) rfl (by decide +kernel)) (fun _ _ _ _ _ => (pg_name (i := 6) sc_right.nd rfl (.inl rfl))) (fun _ _ _ _ _ => pts_nil) (fun _ _ _ _ _ => (pe_ix ix_list (pv 3) (pv 6) (fun _ _ => rfl)))) pa_nil)))) pa_nil)) (pe_call (ok_parts T) (hr.mono (by decide)) (by rfl) T.parts.g T.parts.F.kp T.parts.b .nil pass0 (pa_cons (pv 4) pa_nil)) (nomark _))
        (pss_one (ps_ret pe_bl))
        pss_nil)
      (pss_cons (ps_if (PW.pt (pw_or (pt_cmpR op_ne (pe_call (ok_hangs T) (hr.mono (by decide)) (by rfl) T.hangs.g T.hangs.F.kp T.hangs.b .nil pass0 (pa_cons (pv 1) pa_nil)) (pe_cmpR op_lt (pe_callB call_len_seq (by rfl) T.m_len (by decide +kernel) (pa_cons (pv 9) pa_nil)) pe_int (nomark _)) (nomark _)) (pw_or1 (pt_cmpR op_ne (pe_callB (cr_sum rfl) (by rfl) T.m_sum (by decide +kernel) (pa_cons (pe_lc (own := [("part", 16)]) (g := gName 16) (tt := tYes) (te := tCB (Evl.rLenS K) (tCons (tOp (rIxT K) (tCall (spCut K) [] E0 (tCons (tVar 1) (tCons (tVar 16) tNil))) (tC (.int 1))) tNil)) rfl sc_right.nd (pi_list (pv 9)) (blkOk_by (N := ["hand", "web", "many", "order", "other", "rows", "place", "beside", "kind", "told", "some", "here", "there", "names", "row", "one", "part"]) (sc := defScope s_right) (by decide +kernel)) (fun _ _ _ _ _ => (pg_name (i := 16) sc_right.nd rfl (.inl rfl))) (fun _ _ _ _ _ => pts_nil) (fun _ _ _ _ _ => (pe_callB call_len_seq (by rfl) T.m_len (by decide +kernel) (pa_cons (pe_ix ix_tup (pe_call (ok_cut T) (hr.mono (by decide)) (by rfl) T.cut.g T.cut.F.kp T.cut.b .nil pass0 (pa_cons (pv 1) (pa_cons (pv 16) pa_nil))) pe_int (fun _ _ => rfl)) pa_nil)))) pa_nil)) (pe_callB call_len_seq (by rfl) T.m_len (by decide +kernel) (pa_cons (pe_ix ix_tup (pv 1) pe_int (fun _ _ => rfl)) pa_nil)) (nomark _)))))
        (pss_one (ps_ret pe_bl))
        pss_nil)
      (pss_cons (ps_if (pt_cmpR (op_neD (hr.units)) (pe_lc (own := [("part", 16)]) (g := gName 16) (tt := tNot (tB (tCall (spHangs K) [] E0 (tCons (tCall (spCut K) [] E0 (tCons (tVar 1) (tCons (tVar 16) tNil))) tNil)))) rfl sc_right.nd (pi_list (pv 9)) (blkOk_by (N := ["hand", "web", "many", "order", "other", "rows", "place", "beside", "kind", "told", "some", "here", "there", "names", "row", "one", "part"]) (sc := defScope s_right) (by decide +kernel)) (fun _ _ _ _ _ => (pg_name (i := 16) sc_right.nd rfl (.inl rfl))) (fun _ _ _ _ _ => pts_one (pt_not (pt_val (pe_call (ok_hangs T) (hr.mono (by decide)) (by rfl) T.hangs.g T.hangs.F.kp T.hangs.b .nil pass0 (pa_cons (pe_call (ok_cut T) (hr.mono (by decide)) (by rfl) T.cut.g T.cut.F.kp T.cut.b .nil pass0 (pa_cons (pv 1) (pa_cons (pv 16) pa_nil))) pa_nil))))) (fun _ _ _ _ _ => (pv 16))) (pe_lst pa_nil) (nomark _))
        (pss_one (ps_ret pe_bl))
        pss_nil)
      (pss_cons (ps_setLc (i := 10) (own := [("place", 6)]) (g := gName 6) (tt := tTest (tOp rEq (tCall spDraw [] E0 (tCons (tVar 0) (tCons (tC (.int 2)) tNil))) (tC (.int 1)))) rfl sc_right.nd rfl rfl (sw_true rfl rfl rfl (by decide +kernel)) (pi_range1 (by rfl) T.m_range (pa_cons (pv 2) pa_nil)) (blkOk_by (N := ["hand", "web", "many", "order", "other", "rows", "place", "beside", "kind", "told", "some", "here", "there", "names", "row", "one", "part"]) (sc := defScope s_right) (by decide +kernel)) (fun _ _ _ _ _ => (pg_name (i := 6) sc_right.nd rfl (.inl rfl))) (fun _ _ _ _ _ => pts_one (pt_cmpR op_eq (pe_call (ok_draw T) (hr.mono (by decide)) (by rfl) T.draw.g T.draw.F.kp T.draw.b .nil pass0 (pa_cons (pv 0) (pa_cons pe_int pa_nil))) pe_int (nomark _))) (fun _ _ _ _ _ => (pv 6)))
      (pss_cons (ps_set (i := 11) sc_right.nd rfl (.inl rfl) (pe_call (ok_cut T) (hr.mono (by decide)) (by rfl) T.cut.g T.cut.F.kp T.cut.b .nil pass0 (pa_cons (pv 1) (pa_cons (pv 10) pa_nil))))
      (pss_cons (ps_set (i := 12) sc_right.nd rfl (.inl rfl) (pe_call (ok_cut T) (hr.mono (by decide)) (by rfl) T.cut.g T.cut.F.kp T.cut.b .nil pass0 (pa_cons (pv 4) (pa_cons (pe_lc (own := [("place", 6)]) (g := gName 6) (tt := tYes) (te := tOp (rIxL K) (tVar 3) (tVar 6)) rfl sc_right.nd (pi_list (pv 10)) (blkOk_by (N := ["hand", "web", "many", "order", "other", "rows", "place", "beside", "kind", "told", "some", "here", "there", "names", "row", "one", "part"]) (sc := defScope s_right) (by decide +kernel)) (fun _ _ _ _ _ => (pg_name (i := 6) sc_right.nd rfl (.inl rfl))) (fun _ _ _ _ _ => pts_nil) (fun _ _ _ _ _ => (pe_ix ix_list (pv 3) (pv 6) (fun _ _ => rfl)))) pa_nil))))
      (pss_cons (ps_set (i := 13) sc_right.nd rfl (.inr rfl) (pe_callB cr_sortedI (by rfl) T.m_sorted (by decide +kernel) (pa_cons (pe_lc (own := [("place", 6)]) (g := gName 6) (tt := tYes) (te := tOp (rIxL K) (tVar 3) (tVar 6)) rfl sc_right.nd (pi_list (pv 10)) (blkOk_by (N := ["hand", "web", "many", "order", "other", "rows", "place", "beside", "kind", "told", "some", "here", "there", "names", "row", "one", "part"]) (sc := defScope s_right) (by decide +kernel)) (fun _ _ _ _ _ => (pg_name (i := 6) sc_right.nd rfl (.inl rfl))) (fun _ _ _ _ _ => pts_nil) (fun _ _ _ _ _ => (pe_ix ix_list (pv 3) (pv 6) (fun _ _ => rfl)))) pa_nil)))
      (pss_one (ps_ret (pe_cmpR (op_eqD (hr.units)) (pe_call (ok_named T) (hr.mono (by decide)) (by rfl) T.named.g T.named.F.kp T.named.b .nil pass0 (pa_cons (pv 11) (pa_cons (pe_lc (own := [("place", 6)]) (g := gName 6) (tt := tYes) (te := tBM K "list" (rIndex K) (tVar 13) (tCons (tOp (rIxL K) (tVar 3) (tVar 6)) tNil)) rfl sc_right.nd (pi_list (pv 10)) (blkOk_by (N := ["hand", "web", "many", "order", "other", "rows", "place", "beside", "kind", "told", "some", "here", "there", "names", "row", "one", "part"]) (sc := defScope s_right) (by decide +kernel)) (fun _ _ _ _ _ => (pg_name (i := 6) sc_right.nd rfl (.inl rfl))) (fun _ _ _ _ _ => pts_nil) (fun _ _ _ _ _ => (pe_bm PySem.F.plainAttrs_list PySem.F.slot_list_index PySem.F.type_list_index mt_index (pv 13) (pa_cons (pe_ix ix_list (pv 3) (pv 6) (fun _ _ => rfl)) pa_nil)))) pa_nil))) (pv 12) (nomark _)))))))))))))))))))), ?_⟩
    walk_at "rd"
    refine d_ixT q1 rfl ?_
    refine d_lenS (z := ⟨u.1.toArray⟩) (sz (by show u.1.toArray.size ≤ 100000; simp; omega)) ?_
    rw [str_len']
    walk_at "rd"
    refine ⟨h, (u.1.length : Nat), rfl, by omega, by omega, hh, fun H1 O qs k1 hh1 fO eO pm => ?_⟩
    have pm : qs.Perm (List.range u.1.length) := pm
    have o := Ord.of pm
    have nO := hh.ne fO
    have hw1 := hw.keep k1 eh0
    have tab1 := k1 _ _ ph tab
    have q11 := k1.sqt eh0 q1
    have q21 := k1.sqt eh0 q2
    have pT1 : Paired (TieAt K H1) tvs u.2 := Paired.imp pT fun _ _ z => z.keep k1 eh0
    walk_at "rd"
    refine ⟨.ref a, u, O, qs, rfl, hw1, W, eO, o, fun H2 v' u' s2 w2 W' N => ?_⟩
    walk_at "rd"
    refine ⟨v', u', rfl, s2 _ _ tab1, w2, W', fun H3 s3 => ?_⟩
    refine ⟨true, true, rfl, rfl, ?_⟩
    walk_at "rd"
    refine iteNS rfl ?_
    walk_at "rd"
    refine ⟨RgOk.of_le (by omega) (by omega) (by omega) (by omega), fun L fL => ?_⟩
    have sL := same_new (o := .lst (rgV 0 (u.1.length : Nat))) fL
    have eL := upd_same (H := H3) (a := L) (o := .lst (rgV 0 (u.1.length : Nat)))
    rw [rgV_nats] at sL eL ⊢
    generalize upd H3 L _ = H4 at sL eL ⊢
    have s14 := Same.trans s2 (Same.trans s3 sL)
    walk_at "rd"
    refine ⟨.ref a, u, L, List.range u.1.length, rfl, hw1.same s14, W, eL, List.nodup_range, fun q hq => List.mem_range.mp hq, fun H5 v5 os5 s5 pm5 rs5 w5 => ?_⟩
    have eo5 := perm_rise pm5 rs5 List.pairwise_lt_range
    subst eo5
    rw [cut_all W] at w5
    have s15 := Same.trans s14 s5
    walk_at "rd"
    refine ne_webs w5 (hw1.same s15) W W ?_
    simp only [decide_true]
    walk_at "rd"
    have w25 := w2.same (Same.trans s3 (Same.trans sL s5))
    have eO5 := s15 _ _ eO
    clear s14 s5 sL eL s3 s2 w2 w5 pm5 rs5 fL
    -- rows
    intro D fD
    refine lc_range (fun i H' => ∃ rs : List Addr, H' D = some (.lst (rs.map V.ref)) ∧ Same H5 H' ∧ D ∉ rs ∧ PartsAt H' rs ((List.range i).map (nb u.2)))
      ⟨[], upd_same, same_new fD, by simp, .nil⟩ (fun i H6 hi hP => ?_) (fun H6 hP => ?_)
    · obtain ⟨rs, eD, s6, nD, pr⟩ := hP
      have hi' : i < u.1.length := by simpa using hi
      have lrs : rs.length = i := by have := Paired.length pr; rw [List.length_map, List.length_range] at this; exact this
      walk_at "rd"
      refine ⟨.ref a, u, i, by simp only [Int.zero_add]; rfl, hw1.same (Same.trans s15 s6), W, hi', fun H7 r s7 fr er => ?_⟩
      have nr : r ≠ D := (ne_of_none eD fr).symm
      have nD' : D ∉ rs ++ [r] := fun z => by
        rcases List.mem_append.mp z with z | z
        · exact nD z
        · exact nr (List.mem_singleton.mp z).symm
      refine ⟨_, s7 _ _ eD, szl (by rw [List.length_map]; omega), rs ++ [r], by rw [upd_same, List.map_append]; rfl, same_upd (Same.trans s6 s7) fD, nD', ?_⟩
      rw [List.range_succ, List.map_append]
      exact ((pr.same s7).more er).put nD'
    obtain ⟨rs, eD, s6, nD, pr⟩ := hP
    rw [show ((u.1.length : Int)).toNat = u.1.length from rfl] at pr
    have lrs : rs.length = u.1.length := by have := Paired.length pr; rw [List.length_map, List.length_range] at this; exact this
    have row : ∀ i, i < u.1.length → ∃ r, rs[i]? = some r ∧ H6 r = some (.lst (natsV (nb u.2 i))) := fun i hi => by
      obtain ⟨r, hr⟩ : ∃ r, rs[i]? = some r := ⟨_, List.getElem?_eq_getElem (by omega)⟩
      obtain ⟨p, hp, e⟩ := Paired.at pr hr
      rw [List.getElem?_map, List.getElem?_range hi] at hp
      cases hp
      exact ⟨r, hr, e⟩
    have s16 := Same.trans s15 s6
    walk_at "rd"
    -- the sum of their lengths
    refine d_iLe (SqL.of eD) ?_
    intro F fF
    refine lc_list (K := K) (a := D) (xs := rs.map V.ref) (fun m H7 => H7 F = some (.lst (((((List.range u.1.length).take m).map fun p => ((nb u.2 p).length : Int))).map V.int)) ∧ Same H6 H7)
      ⟨upd_same, same_new fF⟩ (fun m H7 _ hP => SqL.of (hP.2 _ _ eD)) (fun m x H7 hx hP => ?_) (fun H7 hP => ?_)
    · obtain ⟨eF, s7⟩ := hP
      rw [List.getElem?_map] at hx
      obtain ⟨r, hr', rfl⟩ := Option.map_eq_some_iff.mp hx
      have hm : m < u.1.length := by rw [← lrs]; exact (List.getElem?_eq_some_iff.mp hr').1
      obtain ⟨r2, hr2, er⟩ := row m hm
      rw [hr'] at hr2
      cases hr2
      walk_at "rd"
      refine d_lenL (SqL.of (s7 _ _ er)) ?_
      rw [List.length_map]
      refine ⟨_, eF, szl (by rw [List.length_map, List.length_map, List.length_take, List.length_range]; omega), ?_, same_upd s7 fF⟩
      rw [upd_same, take_snoc (show (List.range u.1.length)[m]? = some m from List.getElem?_range hm), List.map_append, List.map_append]
      rfl
    obtain ⟨eF, s7⟩ := hP
    rw [show (rs.map V.ref).length = (List.range u.1.length).length by rw [List.length_map, lrs, List.length_range], List.take_length] at eF
    have s17 := Same.trans s16 s7
    walk_at "rd"
    refine ⟨F, _, rfl, SqL.of eF, ?_⟩
    walk_at "rd"
    refine d_ixT (Same.sqt s17 q11) rfl ?_
    refine d_lenT (Same.sqt s17 q21) ?_
    walk_at "rd"
    have es : ((List.range u.1.length).map fun p => ((nb u.2 p).length : Int)).sum = 2 * (tvs.length : Int) := by rw [int_sum, deg_sum W, lt]; omega
    rw [decide_eq_true es]
    walk_at "rd"
    have eD7 := s7 _ _ eD
    have eO7 := s7 _ _ (s6 _ _ eO5)
    have w27 := w25.same (Same.trans s6 s7)
    have hw7 := hw1.same s17
    have tab7 := s17 _ _ tab1
    have row7 : ∀ i, i < u.1.length → ∃ r, rs[i]? = some r ∧ H7 r = some (.lst (natsV (nb u.2 i))) := fun i hi => by
      obtain ⟨r, h1, h2⟩ := row i hi
      exact ⟨r, h1, s7 _ _ h2⟩
    have pT7 : Paired (TieAt K H7) tvs u.2 := Paired.imp pT1 fun _ _ z => z.same s17
    have q27 := Same.sqt s17 q21
    have q17 := Same.sqt s17 q11
    have atO : ∀ {i : Nat}, i < u.1.length → (qs.map fun q => V.int (q : Nat))[i]? = some (V.int (qa qs i : Nat)) := fun {i} hi => by rw [List.getElem?_map, qa_at (by rw [o.len]; exact hi)]; rfl
    clear row pr nD s6 eF s7 eD fF fD w25 eO5 s16 eO
    -- neighbours
    refine for_range (fun i σ H' => ∃ y6 y7 y8 y9 y10 y11 y12 y13 y14 y15 y16, σ = [some (.ref h), some (.ref a), some (.int (u.1.length : Nat)), some (.ref O), some v', some (.ref D), y6, y7, y8, y9, y10, y11, y12, y13, y14, y15, y16] ∧ Same H7 H')
      ⟨_, _, _, _, _, _, _, _, _, _, _, rfl, Same.refl _⟩ (fun i σ H8 hi hP => ?_) (fun σ H8 hP => ?_)
    · obtain ⟨y6, y7, y8, y9, y10, y11, y12, y13, y14, y15, y16, rfl, s8⟩ := hP
      have hi' : i < u.1.length := by simpa using hi
      walk_at "rd"
      simp only [Int.zero_add]
      refine d_ixLm (s8 _ _ eO7) (atI_nat (atO hi')) ?_
      walk_at "rd"
      refine ⟨v', u', qa qs i, rfl, w27.same s8, W', by rw [N.len]; exact o.lt' hi', fun H9 r s9 fr er => ?_⟩
      have s79 := Same.trans s8 s9
      obtain ⟨r2, hr2, er2⟩ := row7 i hi'
      walk_at "rd"
      refine d_ixLm (s79 _ _ eD7) (atI_nat (by rw [List.getElem?_map, hr2]; rfl)) ?_
      refine d_iLe (SqL.of (s79 _ _ er2)) ?_
      intro G fG
      refine lc_list (K := K) (a := r2) (xs := natsV (nb u.2 i)) (fun m H10 => H10 G = some (.lst (natsV (((nb u.2 i).take m).map (qa qs)))) ∧ Same H9 H10)
        ⟨upd_same, same_new fG⟩ (fun m H10 _ hP => SqL.of ((Same.trans s79 hP.2) _ _ er2)) (fun m x H10 hx hP => ?_) (fun H10 hP => ?_)
      · obtain ⟨eG, s10⟩ := hP
        rw [List.getElem?_map] at hx
        obtain ⟨p, hp, rfl⟩ := Option.map_eq_some_iff.mp hx
        have lp := (nb_lt W (List.mem_of_getElem? hp)).2
        have lm := (List.getElem?_eq_some_iff.mp hp).1
        have ln := nb_len u.2 i
        walk_at "rd"
        refine d_ixLm ((Same.trans s79 s10) _ _ eO7) (atI_nat (atO lp)) ?_
        refine ⟨_, eG, szl (by rw [List.length_map, List.length_map, List.length_take]; omega), ?_, same_upd s10 fG⟩
        rw [upd_same, take_snoc hp]
        simp only [natsV, List.map_append]
        rfl
      obtain ⟨eG, s10⟩ := hP
      rw [List.length_map, List.take_length] at eG
      refine ⟨G, zs ((nb u.2 i).map (qa qs)), rfl, SqL.of (by rw [← ints_map]; exact eG), fun ns' S pmn srt fS => ?_⟩
      obtain ⟨os, rfl, pos⟩ := nat_list pmn
      rw [← ints_map]
      have nd := pos.nodup_iff.mpr (qa_nodup o (rise_nodup (nb_strict W i)) fun x hx => (nb_lt W hx).2)
      have rise := nat_rise nd srt
      walk_at "rd"
      refine neD_ints (((Same.trans s10 (same_new fS))) _ _ er) upd_same (nb_named W W' o N hi' pos rise) ?_
      walk_at "rd"
      exact ⟨_, _, _, _, _, _, _, _, _, _, _, rfl, Same.trans s79 (Same.trans s10 (same_new fS))⟩
    obtain ⟨y6, y7, y8, y9, y10, y11, y12, y13, y14, y15, y16, rfl, s8⟩ := hP
    -- ties
    walk_at "rd"
    refine d_ixT (Same.sqt s8 q17) rfl ?_
    refine d_iTe (Same.sqt s8 q27) ?_
    refine for_it (walk_tup (xs := tvs)) (fun i σ H' => ∃ y6 y7 y8 y9 y10 y11 y12 y13 y14 y15 y16, σ = [some (.ref h), some (.ref a), some (.int (u.1.length : Nat)), some (.ref O), some v', some (.ref D), y6, y7, y8, y9, y10, y11, y12, y13, y14, y15, y16] ∧ Same H7 H')
      ⟨_, _, _, _, _, _, _, _, _, _, _, rfl, s8⟩ (fun i σ H8 hi hP => ?_) (fun i x σ H8' H8 hi hP hy => ?_) (fun σ H8 hP => ?_)
    · obtain ⟨_, _, _, _, _, _, _, _, _, _, _, _, s8⟩ := hP
      exact Same.sqt s8 q27
    · obtain ⟨y6, y7, y8, y9, y10, y11, y12, y13, y14, y15, y16, rfl, s8⟩ := hP
      obtain ⟨rfl, hx⟩ := hy
      obtain ⟨t, ht, ta, rfl, qt⟩ := Paired.at pT7 hx
      have htm := List.mem_of_getElem? ht
      obtain ⟨h1, h2, h3⟩ := W.ends t htm
      refine d_gtup (Same.sqt s8 qt) rfl ?_
      walk_at "rd"
      refine d_ixLm (s8 _ _ eO7) (atI_nat (atO h2)) ?_
      walk_at "rd"
      refine d_ixLm (s8 _ _ eO7) (atI_nat (atO (show t.1 < u.1.length by omega))) ?_
      walk_at "rd"
      refine ⟨v', u', qa qs t.2.1, qa qs t.1, rfl, w27.same s8, W', fun H9 s9 => ?_⟩
      have et : tieL u'.2 (qa qs t.2.1) (qa qs t.1) = some t.2.2 := by
        rw [tieL_named W W' o N h2 (by omega), tieL_swap]
        exact ((mem_tie W).mp htm).2.2
      rw [et]
      walk_at "rd"
      refine ⟨rfl, ?_⟩
      rw [show decide (optV (some t.2.2) = V.str (sg t.2.2)) = true from decide_eq_true rfl]
      walk_at "rd"
      have s79 := Same.trans s8 s9
      obtain ⟨r2, hr2, er2⟩ := row7 t.1 (by omega)
      refine d_ixLm (s79 _ _ eD7) (atI_nat (by rw [List.getElem?_map, hr2]; rfl)) ?_
      refine ⟨.int (t.2.1 : Nat), _, .int _, dp_nats (s79 _ _ er2), sh_int _, shaped_ints _, ?_⟩
      rw [any_int, decide_eq_true ((mem_nb W).mpr ⟨t, htm, at2_iff.mpr (.inl ⟨rfl, rfl⟩)⟩)]
      walk_at "rd"
      exact ⟨_, _, _, _, _, _, _, _, _, _, _, rfl, s79⟩
    obtain ⟨y6, y7, y8, y9, y10, y11, y12, y13, y14, y15, y16, rfl, s8'⟩ := hP
    clear s8
    walk_at "rd"
    refine ⟨.ref a, u, rfl, hw7.same s8', W, fun H9 Tt gs0 s9 fT fg nT eT pa => ?_⟩
    have s79 := Same.trans s8' s9
    have lg0 : gs0.length = (partsL u).length := Paired.length pa
    have lps : (partsL u).length ≤ u.1.length := partsN_len _ _
    have inb : ∀ p ∈ partsL u, p.Pairwise (· < ·) ∧ (∀ k ∈ p, k < u.1.length) ∧ p.length ≤ u.1.length := fun p hp => by
      obtain ⟨l, h1, h2, rfl⟩ := mem_partsL2.mp hp
      exact ⟨partL_rise _ _, fun k hk => ((mem_partL W h1).mp hk).lt W h1, partL_len _ _⟩
    have at0 : ∀ {m : Nat} {x : V}, (gs0.map V.ref)[m]? = some x → ∃ r p, x = V.ref r ∧ (partsL u)[m]? = some p ∧ H9 r = some (.lst (natsV p)) := fun {m x} hx => by
      rw [List.getElem?_map] at hx
      obtain ⟨r, hr', rfl⟩ := Option.map_eq_some_iff.mp hx
      obtain ⟨p, hp, e⟩ := Paired.at pa hr'
      exact ⟨r, p, rfl, hp, e⟩
    -- the parts' images, sorted
    walk_at "rd"
    refine d_iLe (SqL.of eT) ?_
    intro F fF
    refine lc_list (K := K) (a := Tt) (xs := gs0.map V.ref) (fun m H10 => ∃ (gs : List Addr) (ls : List (List Nat)), H10 F = some (.lst (gs.map V.ref)) ∧ PartsAt H10 gs ls ∧ F ∉ gs ∧ Same H9 H10 ∧ ImgP qs ((partsL u).take m) ls)
      ⟨[], [], upd_same, .nil, by simp, same_new fF, .nil⟩ (fun m H10 _ hP => by obtain ⟨_, _, _, _, _, s10, _⟩ := hP; exact SqL.of (s10 _ _ eT)) (fun m x H10 hx hP => ?_) (fun H10 hP => ?_)
    · obtain ⟨gs, ls, eF, pg, nF, s10, im⟩ := hP
      obtain ⟨r, p, rfl, hp, er⟩ := at0 hx
      have hpm := List.mem_of_getElem? hp
      obtain ⟨ri, bp, lp⟩ := inb p hpm
      have lgs : gs.length = m := by
        have z1 := Paired.length pg
        have z2 := Paired.length im
        have := (List.getElem?_eq_some_iff.mp hp).1
        rw [List.length_take] at z2
        omega
      have hm := (List.getElem?_eq_some_iff.mp hp).1
      walk_at "rd"
      refine d_iLe (SqL.of (s10 _ _ er)) ?_
      intro G fG
      refine lc_list (K := K) (a := r) (xs := natsV p) (fun k H11 => H11 G = some (.lst (natsV ((p.take k).map (qa qs)))) ∧ Same H10 H11)
        ⟨upd_same, same_new fG⟩ (fun k H11 _ hP => SqL.of ((Same.trans s10 hP.2) _ _ er)) (fun k x H11 hx2 hP => ?_) (fun H11 hP => ?_)
      · obtain ⟨eG, s11⟩ := hP
        rw [List.getElem?_map] at hx2
        obtain ⟨z, hz, rfl⟩ := Option.map_eq_some_iff.mp hx2
        have lz := bp z (List.mem_of_getElem? hz)
        have lk := (List.getElem?_eq_some_iff.mp hz).1
        walk_at "rd"
        refine d_ixLm ((Same.trans s79 (Same.trans s10 s11)) _ _ eO7) (atI_nat (atO lz)) ?_
        refine ⟨_, eG, szl (by rw [List.length_map, List.length_map, List.length_take]; omega), ?_, same_upd s11 fG⟩
        rw [upd_same, take_snoc hz]
        simp only [natsV, List.map_append]
        rfl
      obtain ⟨eG, s11⟩ := hP
      rw [List.length_map, List.take_length] at eG
      refine ⟨G, zs (p.map (qa qs)), rfl, SqL.of (by rw [← ints_map]; exact eG), fun ns' S pmn srt fS => ?_⟩
      obtain ⟨os, rfl, pos⟩ := nat_list pmn
      rw [← ints_map]
      have nd := pos.nodup_iff.mpr (qa_nodup o (rise_nodup ri) bp)
      have rise := nat_rise nd srt
      have eF11 := s11 _ _ eF
      have nS : S ≠ F := (ne_of_none eF11 fS).symm
      have nF' : F ∉ gs ++ [S] := fun z => by
        rcases List.mem_append.mp z with z | z
        · exact nF z
        · exact nS (List.mem_singleton.mp z).symm
      have s12 := same_new (o := .lst (os.map fun o => V.int (o : Nat))) fS
      refine ⟨_, s12 _ _ eF11, szl (by rw [List.length_map]; omega), gs ++ [S], ls ++ [os], by rw [upd_same, List.map_append]; rfl, ?_, nF', same_upd (Same.trans s10 (Same.trans s11 s12)) fF, ?_⟩
      · exact (((pg.same s11).same s12).more (p := os) upd_same).put nF'
      · rw [take_snoc hp]
        exact Paired.snoc im ⟨pos, rise⟩
    obtain ⟨gs, ls, eF, pg, nF, s10, im⟩ := hP
    rw [show (gs0.map V.ref).length = (partsL u).length by rw [List.length_map, lg0], List.take_length] at im
    obtain ⟨bs, b1, b2, b3⟩ := rows_bs (K := K) pg
    refine ⟨F, bs, rfl, SqL.of (by rw [b1]; exact eF), b3, by rw [b2]; exact rows_alike _, by rw [b2]; exact rows_sortable _, fun x hx => ?_, fun S fS => ?_⟩
    · have : x.2 ∈ ls.map rowD := by rw [← b2]; exact List.mem_map.mpr ⟨x, hx, rfl⟩
      obtain ⟨p, _, e⟩ := List.mem_map.mp this
      rw [← e]
      exact rowD_depth p
    have sS := same_new (o := .lst ((sortD bs).map (·.1))) fS
    have eS := upd_same (H := H10) (a := S) (o := .lst ((sortD bs).map (·.1)))
    have dS : DpAll K H10 ((sortD bs).map (·.1)) ((sortD bs).map (·.2)) := dpa_bs fun x hx => b3 x ((sortD_perm bs).mem_iff.mp hx)
    rw [sorted_rows W W' o N im b2] at dS
    generalize upd H10 S _ = H11 at sS eS ⊢
    have dS1 := dpa_same sS _ _ dS
    have s711 := Same.trans s79 (Same.trans s10 sS)
    walk_at "rd"
    refine ⟨v', u', rfl, w27.same s711, W', fun H12 T2 rs2 s12 fT2 fr2 nT2 eT2 pa2 => ?_⟩
    have dp1 : Dp K H12 (.ref S) (partsD (partsL u')) := dp_same s12 _ _ (.lst (SqL.of eS) dS1)
    refine ⟨_, _, dp1, pa2.dp eT2, partsD_good _, partsD_good _, ?_⟩
    rw [good_eqv (partsD_good _)]
    walk_at "rd"
    have s712 := Same.trans s711 s12
    have eT12 := s12 _ _ (sS _ _ (s10 _ _ eT))
    have s912 := Same.trans s10 (Same.trans sS s12)
    clear dp1 dS1 dS eS b3 b2 b1 im pg eF eT2 pa2 fF fS
    refine ⟨.ref a, u, rfl, hw7.same s712, W, fun H13 s13 => ?_⟩
    have s913 := Same.trans s912 s13
    have s713 := Same.trans s712 s13
    walk_at "rd"
    refine d_lenL (SqL.of (s913 _ _ eT)) ?_
    rw [List.length_map, lg0]
    walk_at "rd"
    refine ⟨rfl, ?_⟩
    rw [show decide (((partsL u).length : Int) < 2) = decide ((partsL u).length < 2) from decide_eq_decide.mpr (by omega), decide_eq_true rfl]
    walk_at "rd"
    -- the ties by parts
    refine d_iLe (SqL.of (s913 _ _ eT)) ?_
    intro F fF
    refine lc_list (K := K) (a := Tt) (xs := gs0.map V.ref) (fun m H14 => H14 F = some (.lst ((((partsL u).take m).map fun p => ((cutL u p).2.length : Int)).map V.int)) ∧ Same H13 H14)
      ⟨upd_same, same_new fF⟩ (fun m H14 _ hP => SqL.of ((Same.trans s913 hP.2) _ _ eT)) (fun m x H14 hx hP => ?_) (fun H14 hP => ?_)
    · obtain ⟨eF, s14⟩ := hP
      obtain ⟨r, p, rfl, hp, er⟩ := at0 hx
      obtain ⟨ri, bp, lp⟩ := inb p (List.mem_of_getElem? hp)
      have hm := (List.getElem?_eq_some_iff.mp hp).1
      walk_at "rd"
      refine ⟨.ref a, u, r, p, rfl, hw7.same (Same.trans s713 s14), W, (Same.trans s913 s14) _ _ er, rise_nodup ri, bp, fun H15 vc osc s15 pmc rsc wc => ?_⟩
      have ec := perm_rise pmc rsc ri
      subst ec
      obtain ⟨ac, bc, cvs, rfl, c1, c2, pC⟩ := wc
      walk_at "rd"
      refine d_ixT c1 rfl ?_
      refine d_lenT c2 ?_
      rw [Paired.length pC]
      refine ⟨_, s15 _ _ eF, szl (by rw [List.length_map, List.length_map, List.length_take]; omega), ?_, same_upd (Same.trans s14 s15) fF⟩
      rw [upd_same, take_snoc hp, List.map_append, List.map_append]
      rfl
    obtain ⟨eF, s14⟩ := hP
    rw [show (gs0.map V.ref).length = (partsL u).length by rw [List.length_map, lg0], List.take_length] at eF
    have s714 := Same.trans s713 s14
    have s914 := Same.trans s913 s14
    refine ⟨F, _, rfl, SqL.of eF, ?_⟩
    have es2 : ((partsL u).map fun p => ((cutL u p).2.length : Int)).sum = (tvs.length : Int) := by rw [int_sumL, part_sum W, lt]
    walk_at "rd"
    refine d_ixT (Same.sqt s714 q17) rfl ?_
    refine d_lenT (Same.sqt s714 q27) ?_
    walk_at "rd"
    rw [decide_eq_true es2]
    walk_at "rd"
    clear eF fF s13 s913 s713
    -- each part's cut hangs together
    refine d_iLe (SqL.of (s914 _ _ eT)) ?_
    intro F fF
    refine lc_list (K := K) (a := Tt) (xs := gs0.map V.ref) (fun m H15 => H15 F = some (.lst []) ∧ Same H14 H15)
      ⟨upd_same, same_new fF⟩ (fun m H15 _ hP => SqL.of ((Same.trans s914 hP.2) _ _ eT)) (fun m x H15 hx hP => ?_) (fun H15 hP => ?_)
    · obtain ⟨eF, s15⟩ := hP
      obtain ⟨r, p, rfl, hp, er⟩ := at0 hx
      have hpm := List.mem_of_getElem? hp
      obtain ⟨ri, bp, lp⟩ := inb p hpm
      walk_at "rd"
      refine ⟨.ref a, u, r, p, rfl, hw7.same (Same.trans s714 s15), W, (Same.trans s914 s15) _ _ er, rise_nodup ri, bp, fun H16 vc osc s16 pmc rsc wc => ?_⟩
      have ec := perm_rise pmc rsc ri
      subst ec
      walk_at "rd"
      refine ⟨vc, _, rfl, wc, cutL_ok W ri bp, fun H17 s17' => ?_⟩
      rw [decide_eq_true (part_hangs W hpm)]
      refine ⟨true, rfl, ?_⟩
      refine iteNT ?_
      exact ⟨s17' _ _ (s16 _ _ eF), Same.trans s15 (Same.trans s16 s17')⟩
    obtain ⟨eF, s15⟩ := hP
    have s715 := Same.trans s714 s15
    walk_at "rd"
    refine ⟨sz (by decide), fun p5 f5 => ?_⟩
    have s16 := same_new (o := .lst []) f5
    refine ⟨_, _, .lst (SqL.of (s16 _ _ eF)) .nil, .lst (SqL.of upd_same) .nil, by decide, by decide, ?_⟩
    rw [show PyData.eqv (.list []) (.list []) = true from by decide]
    have s716 := Same.trans s715 s16
    generalize upd H15 p5 _ = H16 at s16 s716 ⊢
    walk_at "rd"
    -- some places
    have s016 := Same.trans s17 s716
    have hh16 : Hand H16 h := hh1.same s016
    have hw16 := hw7.same s716
    have w216 := w27.same s716
    have eO16 := s716 _ _ eO7
    have k016 : Keep h H H16 := Keep.same k1 s016
    clear s16 s715 eF s15 fF s714 s914 s912 eT12 at0 inb
    intro E fE
    have nE := hh16.ne fE
    refine lc_range (fun i H' => ∃ ls, Some_ i ls ∧ H' E = some (.lst (natsV ls)) ∧ HK h H16 H')
      ⟨[], ⟨.nil, by simp⟩, upd_same, ⟨Keep.new (Keep.refl _ _) fE, hh16.put nE⟩⟩ (fun i H17 hi hP => ?_) (fun H17 hP => ?_)
    · obtain ⟨ls, sl, eE, x17⟩ := hP
      have hi' : i < u.1.length := by simpa using hi
      walk_at "rd"
      refine ⟨h, 2, rfl, by decide, by decide, x17.hh, fun H18 g k18 hh18 g0 g1 => ?_⟩
      walk_at "rd"
      have eE18 := k18 E _ nE eE
      have x18 := x17.draw k18 hh18
      have ll := sl.len
      refine ite2 (fun c => ?_) (fun c => ?_)
      · walk_at "rd"
        exact ⟨_, eE18, szl (by rw [List.length_map]; omega), ls ++ [i], sl.snoc, by rw [upd_same, natsV, natsV, List.map_append, Int.zero_add]; rfl, ⟨Keep.new x18.k fE, x18.hh.put nE⟩⟩
      · exact ⟨ls, sl.more, eE18, x18⟩
    obtain ⟨S0, sl, eE, x17⟩ := hP
    have sl : Some_ u.1.length S0 := sl
    have lS := sl.len
    have hw17 := x17.web hh16 hw16
    have w217 := x17.web hh16 w216
    have eO17 := x17.at_ nO eO16
    have k017 := Keep.trans k016 x17.k
    walk_at "rd"
    refine ⟨.ref a, u, E, S0, rfl, hw17, W, eE, rise_nodup sl.rise, sl.lt, fun H18 v1 os1 s18 pm1 rs1 w1 => ?_⟩
    have eo1 := perm_rise pm1 rs1 sl.rise
    subst eo1
    have C1 := cutL_ok W sl.rise sl.lt
    walk_at "rd"
    refine d_iLe (SqL.of (s18 _ _ eE)) ?_
    intro M fM
    refine lc_list (K := K) (a := E) (xs := natsV os1) (fun k H19 => H19 M = some (.lst (natsV ((os1.take k).map (qa qs)))) ∧ Same H18 H19)
      ⟨upd_same, same_new fM⟩ (fun k H19 _ hP => SqL.of ((Same.trans s18 hP.2) _ _ eE)) (fun k x H19 hx hP => ?_) (fun H19 hP => ?_)
    · obtain ⟨eM, s19⟩ := hP
      rw [List.getElem?_map] at hx
      obtain ⟨z, hz, rfl⟩ := Option.map_eq_some_iff.mp hx
      have lz := sl.lt z (List.mem_of_getElem? hz)
      have lk := (List.getElem?_eq_some_iff.mp hz).1
      walk_at "rd"
      refine d_ixLm ((Same.trans s18 s19) _ _ eO17) (atI_nat (atO lz)) ?_
      refine ⟨_, eM, szl (by rw [List.length_map, List.length_map, List.length_take]; omega), ?_, same_upd s19 fM⟩
      rw [upd_same, take_snoc hz]
      simp only [natsV, List.map_append]
      rfl
    obtain ⟨eM, s19⟩ := hP
    rw [List.length_map, List.take_length] at eM
    have s1719 := Same.trans s18 s19
    have ndM := qa_nodup o (rise_nodup sl.rise) sl.lt
    walk_at "rd"
    refine ⟨v', u', M, os1.map (qa qs), rfl, w217.same s1719, W', eM, ndM, fun k hk => by obtain ⟨p, hp, rfl⟩ := List.mem_map.mp hk; rw [N.len]; exact o.lt' (sl.lt p hp), fun H20 v2 Tl s20 pT2 rT w2 => ?_⟩
    have s1720 := Same.trans s1719 s20
    have C2 := cutL_ok W' rT (fun k hk => by obtain ⟨p, hp, rfl⟩ := List.mem_map.mp (pT2.mem_iff.mp hk); rw [N.len]; exact o.lt' (sl.lt p hp))
    have w120 := w1.same (Same.trans s19 s20)
    clear fM eM
    walk_at "rd"
    refine d_iLe (SqL.of (s1720 _ _ eE)) ?_
    intro M fM
    refine lc_list (K := K) (a := E) (xs := natsV os1) (fun k H21 => H21 M = some (.lst (natsV ((os1.take k).map (qa qs)))) ∧ Same H20 H21)
      ⟨upd_same, same_new fM⟩ (fun k H21 _ hP => SqL.of ((Same.trans s1720 hP.2) _ _ eE)) (fun k x H21 hx hP => ?_) (fun H21 hP => ?_)
    · obtain ⟨eM, s21⟩ := hP
      rw [List.getElem?_map] at hx
      obtain ⟨z, hz, rfl⟩ := Option.map_eq_some_iff.mp hx
      have lz := sl.lt z (List.mem_of_getElem? hz)
      have lk := (List.getElem?_eq_some_iff.mp hz).1
      walk_at "rd"
      refine d_ixLm ((Same.trans s1720 s21) _ _ eO17) (atI_nat (atO lz)) ?_
      refine ⟨_, eM, szl (by rw [List.length_map, List.length_map, List.length_take]; omega), ?_, same_upd s21 fM⟩
      rw [upd_same, take_snoc hz]
      simp only [natsV, List.map_append]
      rfl
    obtain ⟨eM, s21⟩ := hP
    rw [List.length_map, List.take_length] at eM
    refine ⟨M, zs (os1.map (qa qs)), rfl, SqL.of (by rw [← ints_map]; exact eM), fun ns' B pmn srt fB => ?_⟩
    obtain ⟨T3, rfl, pos⟩ := nat_list pmn
    rw [← ints_map]
    have e3 : T3 = Tl := perm_rise (pos.trans pT2.symm) (nat_rise (pos.nodup_iff.mpr ndM) srt) rT
    subst e3
    have s22 := same_new (o := .lst (T3.map fun o => V.int (o : Nat))) fB
    have eB := upd_same (H := H21) (a := B) (o := .lst (T3.map fun o => V.int (o : Nat)))
    generalize upd H21 B _ = H22 at s22 eB ⊢
    have s2022 := Same.trans s21 s22
    have s1722 := Same.trans s1720 s2022
    have nT := rise_nodup rT
    have lT : T3.length = os1.length := by rw [pT2.length_eq, List.length_map]
    clear fM eM
    walk_at "rd"
    refine d_iLe (SqL.of (s1722 _ _ eE)) ?_
    intro M fM
    refine lc_list (K := K) (a := E) (xs := natsV os1) (fun k H23 => H23 M = some (.lst (natsV ((os1.take k).map fun p => (posOf T3 (qa qs p)).getD 0))) ∧ Same H22 H23)
      ⟨upd_same, same_new fM⟩ (fun k H23 _ hP => SqL.of ((Same.trans s1722 hP.2) _ _ eE)) (fun k x H23 hx hP => ?_) (fun H23 hP => ?_)
    · obtain ⟨eM, s23⟩ := hP
      rw [List.getElem?_map] at hx
      obtain ⟨z, hz, rfl⟩ := Option.map_eq_some_iff.mp hx
      have lz := sl.lt z (List.mem_of_getElem? hz)
      have lk := (List.getElem?_eq_some_iff.mp hz).1
      obtain ⟨j, hj⟩ := List.getElem?_of_mem (pT2.mem_iff.mpr (List.mem_map.mpr ⟨z, List.mem_of_getElem? hz, rfl⟩))
      have ej := (posOf_iff nT).mpr hj
      walk_at "rd"
      refine ⟨.inl ⟨rfl, _, SqL.of (s23 _ _ eB)⟩, ?_⟩
      walk_at "rd"
      refine d_ixLm ((Same.trans s1722 s23) _ _ eO17) (atI_nat (atO lz)) ?_
      refine ⟨B, T3.map fun o => V.int (o : Nat), .int (qa qs z : Nat), j, .int (qa qs z : Nat), rfl, rfl, SqL.of (s23 _ _ eB), rfl, List.all_eq_true.mpr fun x hx => by obtain ⟨q, _, rfl⟩ := List.mem_map.mp hx; rfl, by rw [List.getElem?_map, hj]; rfl, by simp [eqV], fun m' z' lt hz' => ?_, ?_⟩
      · rw [List.getElem?_map] at hz'
        obtain ⟨y, hy, rfl⟩ := Option.map_eq_some_iff.mp hz'
        show ((y : Int) == (qa qs z : Int)) = false
        rw [beq_eq_false_iff_ne]
        intro e
        have e : y = qa qs z := by omega
        subst e
        have := nodup_at nT hy hj
        omega
      refine ⟨_, eM, szl (by rw [List.length_map, List.length_map, List.length_take]; omega), ?_, same_upd s23 fM⟩
      rw [upd_same, take_snoc hz]
      simp only [natsV, List.map_append]
      simp [ej]
    obtain ⟨eM, s23⟩ := hP
    rw [List.length_map, List.take_length] at eM
    have s2023 := Same.trans s2022 s23
    have oi := idx_ord (f := qa qs) pT2 nT
    have lc1 : (cutL u os1).1.length = os1.length := by unfold cutL; rw [List.length_map]
    walk_at "rd"
    refine ⟨v1, cutL u os1, M, _, rfl, w120.same s2023, C1, eM, by rw [lc1]; exact oi, fun H24 v3 X s24 w3 VX MX => ?_⟩
    have eX : X = cutL u' T3 := cut_named W W' o N sl.rise sl.lt pT2 rT (by rw [List.length_map]) (fun i p hi => by
      have hm : qa qs p ∈ T3 := pT2.mem_iff.mpr (List.mem_map.mpr ⟨p, List.mem_of_getElem? hi, rfl⟩)
      obtain ⟨j, hj⟩ := List.getElem?_of_mem hm
      have e1 : qa (os1.map fun p => (posOf T3 (qa qs p)).getD 0) i = j := by
        unfold qa
        rw [List.getD_eq_getElem?_getD, List.getElem?_map, hi]
        show ((posOf T3 (qa qs p)).getD 0) = j
        rw [(posOf_iff nT).mpr hj]
        rfl
      rw [e1]
      exact hj) VX MX (by rw [lc1]; exact oi)
    subst eX
    walk_at "rd"
    refine eqd_webs w3 (w2.same (Same.trans s2023 s24)) C2 C2 ?_
    simp only [decide_true]
    have s1724 := Same.trans s1722 (Same.trans s23 s24)
    exact q _ ⟨Keep.same k017 s1724, x17.hh.same s1724⟩
theorem ok_law (T : Tx K mg base) : FnOk P w K mg base CX0 6 T.law.f T.law.fd ["script"] (spLawT K T.cs) := by
  refine T.law.F.ok sc_law (fun vs H Q E h => ?_) (fun cdv A outer s H vs Q E hr h => ?_)
  · obtain ⟨_, _, rfl, _⟩ := h; rfl
  · obtain ⟨a, ns, rfl, hS, hl, tabs, q⟩ := h
    refine ⟨_, (pss_cons (ps_for PassesOwn.never rfl (pi_list (pe_call (ok_cells T) (hr.mono (by decide)) (by rfl) T.cells.g T.cells.F.kp T.cells.b .nil pass0 (pa_cons (pv 0) (pa_cons pe_int pa_nil)))) (pg_tup rfl (pgs_cons (pg_name (i := 1) sc_law.nd rfl (.inl rfl)) (pgs_cons (pg_name (i := 2) sc_law.nd rfl (.inl rfl)) pgs_nil)))
        (pss_cons (ps_set (i := 3) sc_law.nd rfl (.inl rfl) (pe_call (ok_hand T) (hr.mono (by decide)) (by rfl) T.hand.g T.hand.F.kp T.hand.b .nil pass0 (pa_cons (pv 2) (pa_cons (pv 1) pa_nil))))
        (pss_one (ps_if (pt_not (pt_val (pe_call (ok_right T) (hr.mono (by decide)) (by rfl) T.right.g T.right.F.kp T.right.b .nil pass0 (pa_cons (pv 3) (pa_cons (pe_call (ok_web T) (hr.mono (by decide)) (by rfl) T.web.g T.web.F.kp T.web.b .nil pass0 (pa_cons (pv 3) (pa_cons (pe_call (ok_size T) (hr.mono (by decide)) (by rfl) T.size.g T.size.F.kp T.size.b .nil pass0 (pa_cons (pv 3) (pa_cons (pe_and (pe_cmpR op_eq (pv 1) pe_int (nomark _)) (pe_one (pe_call (ok_great T) (hr.mono (by decide)) (by rfl) T.great.g T.great.F.kp T.great.b .nil pass0 (pa_cons (pv 0) pa_nil)))) pa_nil))) pa_nil))) pa_nil)))))
          (pss_one (ps_ret pe_bl))
          pss_nil))))
      (pss_one (ps_ret pe_bl))), ?_⟩
    walk_at "rd"
    refine ⟨a, ns, 16, rfl, hS, hl, by decide, by decide, fun H2 p ts s2 f2 e2 l2 at2' => ?_⟩
    walk_at "rd"
    refine d_iLe (SqL.of e2) ?_
    refine for_it (walk_list (K := K) (xs := ts.map V.ref)) (fun i σ H' => ∃ y1 y2 y3, σ = [some (.ref a), y1, y2, y3] ∧ Same H2 H')
      ⟨_, _, _, rfl, Same.refl _⟩ (fun i σ H' hi hP => ?_) (fun i x σ H0' H0 hi hP hy => ?_) (fun σ H' hP => ?_)
    · obtain ⟨_, _, _, _, kk⟩ := hP
      exact SqL.of (kk p _ e2)
    · obtain ⟨y1, y2, y3, rfl, k0⟩ := hP
      obtain ⟨rfl, hx⟩ := hy
      rw [List.getElem?_map] at hx
      obtain ⟨t, ht, rfl⟩ := Option.map_eq_some_iff.mp hx
      rw [List.length_map] at hi
      obtain ⟨c, et⟩ := at2' i t ht
      have eT := k0 t _ et
      walk_at "rd"
      refine ⟨c, (i : Nat), rfl, by omega, by omega, fun H3 h s3 f3 hh3 => ?_⟩
      walk_at "rd"
      have aS3 := Same.seq (Same.trans s2 (Same.trans k0 s3)) hS
      refine if_any (fun Q' q' => ?_) (fun b H4 s4 => ?_)
      · walk_at "rd"
        exact ⟨a, ns, rfl, aS3, fun b => q' b _ (Same.refl _)⟩
      walk_at "rd"
      refine ⟨h, b, rfl, hh3.same s4, fun H5 n k5 hh5 n0 n40 => ?_⟩
      walk_at "rd"
      refine ⟨h, n, rfl, n0, n40, hh5, fun H6 v u k6 hh6 hw U lw => ?_⟩
      have k06 : Same H0 H6 := Keep.out (Same.trans s3 s4) (Keep.trans k5 k6) f3
      walk_at "rd"
      refine ⟨h, v, u, rfl, k06 _ _ (k0 _ _ (s2 _ _ (tabs _ List.mem_cons_self))), hh6, hw, U, fun H7 x7 => ?_⟩
      walk_at "rd"
      exact ⟨_, _, _, rfl, Same.trans k0 (Keep.out (Same.trans s3 s4) (Keep.trans (Keep.trans k5 k6) x7.k) f3)⟩
    · obtain ⟨y1, y2, y3, rfl, k0⟩ := hP
      walk_at "rd"
      exact q _ fun p hp => k0 _ _ (s2 _ _ (tabs p hp))

end
theorem all_mk {l : PySem.W.OpenLaw} {w : World} {K : PySem.W.Frag} {h : Heap} {mg : Str → Option Value} {fa f_1 f_2 f_3 f_4 f_5 f_6 f_7 f_8 f_9 f_10 f_11 f_12 f_14 f_15 f_16 f_17 f_18 f_19 f_20 f_21 f_22 f_23 f_24 cc5 PP5 : Addr} (X : K.In h) (G : h.Ns mainGlobals mg) (hfa : mg "law" = some (.ref fa))
    {tc5 : Value} {td5 : Option Addr} {tv5 : Array Value} {ts5 : Array (Option Value)}
    (facts : ∀ x ∈ [("is_web" : Str)], TabFact mg h x)
    {od1 an1 od2 an2 od3 an3 od4 an4 od5 an5 od6 an6 od7 an7 od8 an8 od9 an9 od10 an10 od11 an11 od12 an12 od14 an14 od15 an15 od16 an16 od17 an17 od18 an18 od19 an19 od20 an20 od21 an21 od22 an22 od23 an23 od24 an24 : Option Addr} {sl1 sl2 sl3 sl4 sl5 sl6 sl7 sl8 sl9 sl10 sl11 sl12 sl14 sl15 sl16 sl17 sl18 sl19 sl20 sl21 sl22 sl23 sl24 : Array (Option Value)} {oc1 kV1 dc1 pm1 ct1 cd1 oc2 kV2 dc2 pm2 ct2 cd2 oc3 kV3 dc3 pm3 ct3 cd3 oc4 kV4 dc4 pm4 ct4 cd4 oc5 kV5 dc5 pm5 ct5 oc6 kV6 dc6 pm6 ct6 cd6 oc7 kV7 dc7 pm7 ct7 cd7 oc8 kV8 dc8 pm8 ct8 cd8 oc9 kV9 dc9 pm9 ct9 cd9 oc10 kV10 dc10 pm10 ct10 cd10 oc11 kV11 dc11 pm11 ct11 cd11 oc12 kV12 dc12 pm12 ct12 cd12 oc14 kV14 dc14 pm14 ct14 cd14 oc15 kV15 dc15 pm15 ct15 cd15 oc16 kV16 dc16 pm16 ct16 cd16 oc17 kV17 dc17 pm17 ct17 cd17 oc18 kV18 dc18 pm18 ct18 cd18 oc19 kV19 dc19 pm19 ct19 cd19 oc20 kV20 dc20 pm20 ct20 cd20 oc21 kV21 dc21 pm21 ct21 cd21 oc22 kV22 dc22 pm22 ct22 cd22 oc23 kV23 dc23 pm23 ct23 cd23 oc24 kV24 dc24 pm24 ct24 cd24 : Value}
    (a1 : PySem.W.nsIn K mainGlobals "is_letter" = some (some (.ref f_1))) (l1 : K.lookup f_1 = some ⟨oc1, od1, .func (PySem.W.fnOf "is_letter" "is_letter" (defArgs s_is_letter) (defBody s_is_letter) (defScope s_is_letter) .none kV1 dc1 pm1 an1 cd1 ct1), sl1⟩) (c1 : PySem.W.codeIn K cd1 "is_letter" = true) (k1 : PySem.W.keepIn K (.ref f_1) = true)
    (a2 : PySem.W.nsIn K mainGlobals "is_place" = some (some (.ref f_2))) (l2 : K.lookup f_2 = some ⟨oc2, od2, .func (PySem.W.fnOf "is_place" "is_place" (defArgs s_is_place) (defBody s_is_place) (defScope s_is_place) .none kV2 dc2 pm2 an2 cd2 ct2), sl2⟩) (c2 : PySem.W.codeIn K cd2 "is_place" = true) (k2 : PySem.W.keepIn K (.ref f_2) = true)
    (a3 : PySem.W.nsIn K mainGlobals "rises" = some (some (.ref f_3))) (l3 : K.lookup f_3 = some ⟨oc3, od3, .func (PySem.W.fnOf "rises" "rises" (defArgs s_rises) (defBody s_rises) (defScope s_rises) .none kV3 dc3 pm3 an3 cd3 ct3), sl3⟩) (c3 : PySem.W.codeIn K cd3 "rises" = true) (k3 : PySem.W.keepIn K (.ref f_3) = true)
    (a4 : PySem.W.nsIn K mainGlobals "is_tie" = some (some (.ref f_4))) (l4 : K.lookup f_4 = some ⟨oc4, od4, .func (PySem.W.fnOf "is_tie" "is_tie" (defArgs s_is_tie) (defBody s_is_tie) (defScope s_is_tie) .none kV4 dc4 pm4 an4 cd4 ct4), sl4⟩) (c4 : PySem.W.codeIn K cd4 "is_tie" = true) (k4 : PySem.W.keepIn K (.ref f_4) = true)
    (a5 : PySem.W.nsIn K mainGlobals "is_web" = some (some (.ref f_5))) (l5 : K.lookup f_5 = some ⟨oc5, od5, .func (PySem.W.fnOf "is_web" "is_web" (defArgs s_is_web) (defBody s_is_web) (defScope s_is_web) .none kV5 dc5 pm5 an5 (.ref cc5) ct5), sl5⟩) (c5 : PySem.W.codeIn K (.ref cc5) "is_web" = true) (k5 : PySem.W.keepIn K (.ref f_5) = true)
    (t5 : K.lookup cc5 = some ⟨tc5, td5, .fields tv5, ts5⟩) (u5 : tv5[11]? = some (.ref PP5)) (n5 : K.lookup PP5 = none)
    (a6 : PySem.W.nsIn K mainGlobals "tie_of" = some (some (.ref f_6))) (l6 : K.lookup f_6 = some ⟨oc6, od6, .func (PySem.W.fnOf "tie_of" "tie_of" (defArgs s_tie_of) (defBody s_tie_of) (defScope s_tie_of) .none kV6 dc6 pm6 an6 cd6 ct6), sl6⟩) (c6 : PySem.W.codeIn K cd6 "tie_of" = true) (k6 : PySem.W.keepIn K (.ref f_6) = true)
    (a7 : PySem.W.nsIn K mainGlobals "neighbours" = some (some (.ref f_7))) (l7 : K.lookup f_7 = some ⟨oc7, od7, .func (PySem.W.fnOf "neighbours" "neighbours" (defArgs s_neighbours) (defBody s_neighbours) (defScope s_neighbours) .none kV7 dc7 pm7 an7 cd7 ct7), sl7⟩) (c7 : PySem.W.codeIn K cd7 "neighbours" = true) (k7 : PySem.W.keepIn K (.ref f_7) = true)
    (a8 : PySem.W.nsIn K mainGlobals "all_neighbours" = some (some (.ref f_8))) (l8 : K.lookup f_8 = some ⟨oc8, od8, .func (PySem.W.fnOf "all_neighbours" "all_neighbours" (defArgs s_all_neighbours) (defBody s_all_neighbours) (defScope s_all_neighbours) .none kV8 dc8 pm8 an8 cd8 ct8), sl8⟩) (c8 : PySem.W.codeIn K cd8 "all_neighbours" = true) (k8 : PySem.W.keepIn K (.ref f_8) = true)
    (a9 : PySem.W.nsIn K mainGlobals "parts" = some (some (.ref f_9))) (l9 : K.lookup f_9 = some ⟨oc9, od9, .func (PySem.W.fnOf "parts" "parts" (defArgs s_parts) (defBody s_parts) (defScope s_parts) .none kV9 dc9 pm9 an9 cd9 ct9), sl9⟩) (c9 : PySem.W.codeIn K cd9 "parts" = true) (k9 : PySem.W.keepIn K (.ref f_9) = true)
    (a10 : PySem.W.nsIn K mainGlobals "part_from" = some (some (.ref f_10))) (l10 : K.lookup f_10 = some ⟨oc10, od10, .func (PySem.W.fnOf "part_from" "part_from" (defArgs s_part_from) (defBody s_part_from) (defScope s_part_from) .none kV10 dc10 pm10 an10 cd10 ct10), sl10⟩) (c10 : PySem.W.codeIn K cd10 "part_from" = true) (k10 : PySem.W.keepIn K (.ref f_10) = true)
    (a11 : PySem.W.nsIn K mainGlobals "hangs" = some (some (.ref f_11))) (l11 : K.lookup f_11 = some ⟨oc11, od11, .func (PySem.W.fnOf "hangs" "hangs" (defArgs s_hangs) (defBody s_hangs) (defScope s_hangs) .none kV11 dc11 pm11 an11 cd11 ct11), sl11⟩) (c11 : PySem.W.codeIn K cd11 "hangs" = true) (k11 : PySem.W.keepIn K (.ref f_11) = true)
    (a12 : PySem.W.nsIn K mainGlobals "cut" = some (some (.ref f_12))) (l12 : K.lookup f_12 = some ⟨oc12, od12, .func (PySem.W.fnOf "cut" "cut" (defArgs s_cut) (defBody s_cut) (defScope s_cut) .none kV12 dc12 pm12 an12 cd12 ct12), sl12⟩) (c12 : PySem.W.codeIn K cd12 "cut" = true) (k12 : PySem.W.keepIn K (.ref f_12) = true)
    (a14 : PySem.W.nsIn K mainGlobals "_law_hand" = some (some (.ref f_14))) (l14 : K.lookup f_14 = some ⟨oc14, od14, .func (PySem.W.fnOf "_law_hand" "_law_hand" (defArgs s_hand) (defBody s_hand) (defScope s_hand) .none kV14 dc14 pm14 an14 cd14 ct14), sl14⟩) (c14 : PySem.W.codeIn K cd14 "_law_hand" = true) (k14 : PySem.W.keepIn K (.ref f_14) = true)
    (a15 : PySem.W.nsIn K mainGlobals "_law_draw" = some (some (.ref f_15))) (l15 : K.lookup f_15 = some ⟨oc15, od15, .func (PySem.W.fnOf "_law_draw" "_law_draw" (defArgs s_draw) (defBody s_draw) (defScope s_draw) .none kV15 dc15 pm15 an15 cd15 ct15), sl15⟩) (c15 : PySem.W.codeIn K cd15 "_law_draw" = true) (k15 : PySem.W.keepIn K (.ref f_15) = true)
    (a16 : PySem.W.nsIn K mainGlobals "_law_cells" = some (some (.ref f_16))) (l16 : K.lookup f_16 = some ⟨oc16, od16, .func (PySem.W.fnOf "_law_cells" "_law_cells" (defArgs s_cells) (defBody s_cells) (defScope s_cells) .none kV16 dc16 pm16 an16 cd16 ct16), sl16⟩) (c16 : PySem.W.codeIn K cd16 "_law_cells" = true) (k16 : PySem.W.keepIn K (.ref f_16) = true)
    (a17 : PySem.W.nsIn K mainGlobals "_law_great" = some (some (.ref f_17))) (l17 : K.lookup f_17 = some ⟨oc17, od17, .func (PySem.W.fnOf "_law_great" "_law_great" (defArgs s_great) (defBody s_great) (defScope s_great) .none kV17 dc17 pm17 an17 cd17 ct17), sl17⟩) (c17 : PySem.W.codeIn K cd17 "_law_great" = true) (k17 : PySem.W.keepIn K (.ref f_17) = true)
    (a18 : PySem.W.nsIn K mainGlobals "_law_letters" = some (some (.ref f_18))) (l18 : K.lookup f_18 = some ⟨oc18, od18, .func (PySem.W.fnOf "_law_letters" "_law_letters" (defArgs s_letters) (defBody s_letters) (defScope s_letters) .none kV18 dc18 pm18 an18 cd18 ct18), sl18⟩) (c18 : PySem.W.codeIn K cd18 "_law_letters" = true) (k18 : PySem.W.keepIn K (.ref f_18) = true)
    (a19 : PySem.W.nsIn K mainGlobals "_law_web" = some (some (.ref f_19))) (l19 : K.lookup f_19 = some ⟨oc19, od19, .func (PySem.W.fnOf "_law_web" "_law_web" (defArgs s_web) (defBody s_web) (defScope s_web) .none kV19 dc19 pm19 an19 cd19 ct19), sl19⟩) (c19 : PySem.W.codeIn K cd19 "_law_web" = true) (k19 : PySem.W.keepIn K (.ref f_19) = true)
    (a20 : PySem.W.nsIn K mainGlobals "_law_size" = some (some (.ref f_20))) (l20 : K.lookup f_20 = some ⟨oc20, od20, .func (PySem.W.fnOf "_law_size" "_law_size" (defArgs s_size) (defBody s_size) (defScope s_size) .none kV20 dc20 pm20 an20 cd20 ct20), sl20⟩) (c20 : PySem.W.codeIn K cd20 "_law_size" = true) (k20 : PySem.W.keepIn K (.ref f_20) = true)
    (a21 : PySem.W.nsIn K mainGlobals "_law_order" = some (some (.ref f_21))) (l21 : K.lookup f_21 = some ⟨oc21, od21, .func (PySem.W.fnOf "_law_order" "_law_order" (defArgs s_order) (defBody s_order) (defScope s_order) .none kV21 dc21 pm21 an21 cd21 ct21), sl21⟩) (c21 : PySem.W.codeIn K cd21 "_law_order" = true) (k21 : PySem.W.keepIn K (.ref f_21) = true)
    (a22 : PySem.W.nsIn K mainGlobals "_law_named" = some (some (.ref f_22))) (l22 : K.lookup f_22 = some ⟨oc22, od22, .func (PySem.W.fnOf "_law_named" "_law_named" (defArgs s_named) (defBody s_named) (defScope s_named) .none kV22 dc22 pm22 an22 cd22 ct22), sl22⟩) (c22 : PySem.W.codeIn K cd22 "_law_named" = true) (k22 : PySem.W.keepIn K (.ref f_22) = true)
    (a23 : PySem.W.nsIn K mainGlobals "_law_right" = some (some (.ref f_23))) (l23 : K.lookup f_23 = some ⟨oc23, od23, .func (PySem.W.fnOf "_law_right" "_law_right" (defArgs s_right) (defBody s_right) (defScope s_right) .none kV23 dc23 pm23 an23 cd23 ct23), sl23⟩) (c23 : PySem.W.codeIn K cd23 "_law_right" = true) (k23 : PySem.W.keepIn K (.ref f_23) = true)
    (a24 : PySem.W.nsIn K mainGlobals "law" = some (some (.ref f_24))) (l24 : K.lookup f_24 = some ⟨oc24, od24, .func (PySem.W.fnOf "law" "law" (defArgs s_law) (defBody s_law) (defScope s_law) .none kV24 dc24 pm24 an24 cd24 ct24), sl24⟩) (c24 : PySem.W.codeIn K cd24 "law" = true) (k24 : PySem.W.keepIn K (.ref f_24) = true)
    (z0 : PySem.W.nsIn K mainGlobals "all" = some none)
    (z1 : PySem.W.nsIn K mainGlobals "enumerate" = some none)
    (z2 : PySem.W.nsIn K mainGlobals "int" = some none)
    (z3 : PySem.W.nsIn K mainGlobals "len" = some none)
    (z4 : PySem.W.nsIn K mainGlobals "list" = some none)
    (z5 : PySem.W.nsIn K mainGlobals "max" = some none)
    (z6 : PySem.W.nsIn K mainGlobals "min" = some none)
    (z7 : PySem.W.nsIn K mainGlobals "range" = some none)
    (z8 : PySem.W.nsIn K mainGlobals "set" = some none)
    (z9 : PySem.W.nsIn K mainGlobals "sorted" = some none)
    (z10 : PySem.W.nsIn K mainGlobals "str" = some none)
    (z11 : PySem.W.nsIn K mainGlobals "sum" = some none)
    (z12 : PySem.W.nsIn K mainGlobals "tuple" = some none)
    (z13 : PySem.W.nsIn K mainGlobals "type" = some none) :
    LawX l w K mg fa h := by
  have e := hfa.symm.trans (PySem.W.mg_of X G a24)
  cases e
  have F1 := fun_mk (st := s_is_letter) l1 c1 k1
  have b1 := F1.binds (ps := ["thing"]) fun _ _ _ _ _ _ us hl => match us, hl with | [_], _ => rfl
  have F2 := fun_mk (st := s_is_place) l2 c2 k2
  have b2 := F2.binds (ps := ["kinds", "thing"]) fun _ _ _ _ _ _ us hl => match us, hl with | [_, _], _ => rfl
  have F3 := fun_mk (st := s_rises) l3 c3 k3
  have b3 := F3.binds (ps := ["numbers"]) fun _ _ _ _ _ _ us hl => match us, hl with | [_], _ => rfl
  have F4 := fun_mk (st := s_is_tie) l4 c4 k4
  have b4 := F4.binds (ps := ["kinds", "thing"]) fun _ _ _ _ _ _ us hl => match us, hl with | [_, _], _ => rfl
  have F5 := fun_mk (st := s_is_web) l5 c5 k5
  have b5 := F5.binds (ps := ["thing"]) fun _ _ _ _ _ _ us hl => match us, hl with | [_], _ => rfl
  have F6 := fun_mk (st := s_tie_of) l6 c6 k6
  have b6 := F6.binds (ps := ["web", "one", "other"]) fun _ _ _ _ _ _ us hl => match us, hl with | [_, _, _], _ => rfl
  have F7 := fun_mk (st := s_neighbours) l7 c7 k7
  have b7 := F7.binds (ps := ["web", "place"]) fun _ _ _ _ _ _ us hl => match us, hl with | [_, _], _ => rfl
  have F8 := fun_mk (st := s_all_neighbours) l8 c8 k8
  have b8 := F8.binds (ps := ["web"]) fun _ _ _ _ _ _ us hl => match us, hl with | [_], _ => rfl
  have F9 := fun_mk (st := s_parts) l9 c9 k9
  have b9 := F9.binds (ps := ["web"]) fun _ _ _ _ _ _ us hl => match us, hl with | [_], _ => rfl
  have F10 := fun_mk (st := s_part_from) l10 c10 k10
  have b10 := F10.binds (ps := ["beside", "start"]) fun _ _ _ _ _ _ us hl => match us, hl with | [_, _], _ => rfl
  have F11 := fun_mk (st := s_hangs) l11 c11 k11
  have b11 := F11.binds (ps := ["web"]) fun _ _ _ _ _ _ us hl => match us, hl with | [_], _ => rfl
  have F12 := fun_mk (st := s_cut) l12 c12 k12
  have b12 := F12.binds (ps := ["web", "places"]) fun _ _ _ _ _ _ us hl => match us, hl with | [_, _], _ => rfl
  have F14 := fun_mk (st := s_hand) l14 c14 k14
  have b14 := F14.binds (ps := ["cell", "k"]) fun _ _ _ _ _ _ us hl => match us, hl with | [_, _], _ => rfl
  have F15 := fun_mk (st := s_draw) l15 c15 k15
  have b15 := F15.binds (ps := ["hand", "limit"]) fun _ _ _ _ _ _ us hl => match us, hl with | [_, _], _ => rfl
  have F16 := fun_mk (st := s_cells) l16 c16 k16
  have b16 := F16.binds (ps := ["script", "many"]) fun _ _ _ _ _ _ us hl => match us, hl with | [_, _], _ => rfl
  have F17 := fun_mk (st := s_great) l17 c17 k17
  have b17 := F17.binds (ps := ["script"]) fun _ _ _ _ _ _ us hl => match us, hl with | [_], _ => rfl
  have F18 := fun_mk (st := s_letters) l18 c18 k18
  have b18 := F18.binds (ps := ["hand"]) fun _ _ _ _ _ _ us hl => match us, hl with | [_], _ => rfl
  have F19 := fun_mk (st := s_web) l19 c19 k19
  have b19 := F19.binds (ps := ["hand", "many"]) fun _ _ _ _ _ _ us hl => match us, hl with | [_, _], _ => rfl
  have F20 := fun_mk (st := s_size) l20 c20 k20
  have b20 := F20.binds (ps := ["hand", "great"]) fun _ _ _ _ _ _ us hl => match us, hl with | [_, _], _ => rfl
  have F21 := fun_mk (st := s_order) l21 c21 k21
  have b21 := F21.binds (ps := ["hand", "many"]) fun _ _ _ _ _ _ us hl => match us, hl with | [_, _], _ => rfl
  have F22 := fun_mk (st := s_named) l22 c22 k22
  have b22 := F22.binds (ps := ["web", "order"]) fun _ _ _ _ _ _ us hl => match us, hl with | [_, _], _ => rfl
  have F23 := fun_mk (st := s_right) l23 c23 k23
  have b23 := F23.binds (ps := ["hand", "web"]) fun _ _ _ _ _ _ us hl => match us, hl with | [_, _], _ => rfl
  have F24 := fun_mk (st := s_law) l24 c24 k24
  have b24 := F24.binds (ps := ["script"]) fun _ _ _ _ _ _ us hl => match us, hl with | [_], _ => rfl
  have q5 := tab_of X (PySem.W.mg_of X G a5) l5 rfl t5 u5 (facts _ (by simp))
  exact ⟨_, [(cc5, PP5)], fun s v => .of_eq rfl, List.forall_mem_cons.mpr ⟨q5.1, List.forall_mem_nil _⟩, List.forall_mem_cons.mpr ⟨n5, List.forall_mem_nil _⟩, List.forall_mem_cons.mpr ⟨q5.2, List.forall_mem_nil _⟩, fun base _ _ TB => let T : Tx K mg base := ⟨⟨_, _, F1, b1, PySem.W.mg_of X G a1⟩, ⟨_, _, F2, b2, PySem.W.mg_of X G a2⟩, ⟨_, _, F3, b3, PySem.W.mg_of X G a3⟩, ⟨_, _, F4, b4, PySem.W.mg_of X G a4⟩, ⟨_, _, F5, b5, PySem.W.mg_of X G a5⟩, ⟨_, _, F6, b6, PySem.W.mg_of X G a6⟩, ⟨_, _, F7, b7, PySem.W.mg_of X G a7⟩, ⟨_, _, F8, b8, PySem.W.mg_of X G a8⟩, ⟨_, _, F9, b9, PySem.W.mg_of X G a9⟩, ⟨_, _, F10, b10, PySem.W.mg_of X G a10⟩, ⟨_, _, F11, b11, PySem.W.mg_of X G a11⟩, ⟨_, _, F12, b12, PySem.W.mg_of X G a12⟩, ⟨_, _, F14, b14, PySem.W.mg_of X G a14⟩, ⟨_, _, F15, b15, PySem.W.mg_of X G a15⟩, ⟨_, _, F16, b16, PySem.W.mg_of X G a16⟩, ⟨_, _, F17, b17, PySem.W.mg_of X G a17⟩, ⟨_, _, F18, b18, PySem.W.mg_of X G a18⟩, ⟨_, _, F19, b19, PySem.W.mg_of X G a19⟩, ⟨_, _, F20, b20, PySem.W.mg_of X G a20⟩, ⟨_, _, F21, b21, PySem.W.mg_of X G a21⟩, ⟨_, _, F22, b22, PySem.W.mg_of X G a22⟩, ⟨_, _, F23, b23, PySem.W.mg_of X G a23⟩, ⟨_, _, F24, b24, PySem.W.mg_of X G a24⟩, PySem.W.mg_none_of X G z0, PySem.W.mg_none_of X G z1, PySem.W.mg_none_of X G z2, PySem.W.mg_none_of X G z3, PySem.W.mg_none_of X G z4, PySem.W.mg_none_of X G z5, PySem.W.mg_none_of X G z6, PySem.W.mg_none_of X G z7, PySem.W.mg_none_of X G z8, PySem.W.mg_none_of X G z9, PySem.W.mg_none_of X G z10, PySem.W.mg_none_of X G z11, PySem.W.mg_none_of X G z12, PySem.W.mg_none_of X G z13, cc5, PP5, rfl, TB (cc5, PP5) List.mem_cons_self⟩; .of (ok_law T) ⟨rfl, by decide, by decide⟩⟩
end Cw
open PySem PySem.W PyProof.Rows
set_option maxHeartbeats 0 in
theorem PySem.Challenge.cw_commonweb_k05_whole_places_named_anew_holds : PySem.Challenge.rw_commonweb_k05_whole_places_named_anew.Holds := by
  w_on; o_law; k_head; (case hw => w_witness2)
  k_fill
  refine Cw.walk_ofX (l := PySem.Challenge.rw_commonweb_k05_whole_places_named_anew) ["is_web"] rfl rfl (by decide +kernel) (fun w h Y => PySem.W.kIn_of Y) ?F
  case F =>
    intro w mg fa h KX G hmg facts
    refine' Cw.all_mk KX G hmg facts ?a1 ?l1 ?c1 ?k1 ?a2 ?l2 ?c2 ?k2 ?a3 ?l3 ?c3 ?k3 ?a4 ?l4 ?c4 ?k4 ?a5 ?l5 ?c5 ?k5 ?t5 ?u5 ?n5 ?a6 ?l6 ?c6 ?k6 ?a7 ?l7 ?c7 ?k7 ?a8 ?l8 ?c8 ?k8 ?a9 ?l9 ?c9 ?k9 ?a10 ?l10 ?c10 ?k10 ?a11 ?l11 ?c11 ?k11 ?a12 ?l12 ?c12 ?k12 ?a14 ?l14 ?c14 ?k14 ?a15 ?l15 ?c15 ?k15 ?a16 ?l16 ?c16 ?k16 ?a17 ?l17 ?c17 ?k17 ?a18 ?l18 ?c18 ?k18 ?a19 ?l19 ?c19 ?k19 ?a20 ?l20 ?c20 ?k20 ?a21 ?l21 ?c21 ?k21 ?a22 ?l22 ?c22 ?k22 ?a23 ?l23 ?c23 ?k23 ?a24 ?l24 ?c24 ?k24 ?z0 ?z1 ?z2 ?z3 ?z4 ?z5 ?z6 ?z7 ?z8 ?z9 ?z10 ?z11 ?z12 ?z13
    (case a1 => k_is); (case l1 => k_is); (case c1 => k_is); (case k1 => k_is); (case a2 => k_is); (case l2 => k_is); (case c2 => k_is); (case k2 => k_is); (case a3 => k_is); (case l3 => k_is); (case c3 => k_is); (case k3 => k_is); (case a4 => k_is); (case l4 => k_is); (case c4 => k_is); (case k4 => k_is); (case a5 => k_is); (case l5 => k_is); (case c5 => k_is); (case k5 => k_is); (case t5 => k_is); (case u5 => rfl); (case n5 => rfl); (case a6 => k_is); (case l6 => k_is); (case c6 => k_is); (case k6 => k_is); (case a7 => k_is); (case l7 => k_is); (case c7 => k_is); (case k7 => k_is); (case a8 => k_is); (case l8 => k_is); (case c8 => k_is); (case k8 => k_is); (case a9 => k_is); (case l9 => k_is); (case c9 => k_is); (case k9 => k_is); (case a10 => k_is); (case l10 => k_is); (case c10 => k_is); (case k10 => k_is); (case a11 => k_is); (case l11 => k_is); (case c11 => k_is); (case k11 => k_is); (case a12 => k_is); (case l12 => k_is); (case c12 => k_is); (case k12 => k_is); (case a14 => k_is); (case l14 => k_is); (case c14 => k_is); (case k14 => k_is); (case a15 => k_is); (case l15 => k_is); (case c15 => k_is); (case k15 => k_is); (case a16 => k_is); (case l16 => k_is); (case c16 => k_is); (case k16 => k_is); (case a17 => k_is); (case l17 => k_is); (case c17 => k_is); (case k17 => k_is); (case a18 => k_is); (case l18 => k_is); (case c18 => k_is); (case k18 => k_is); (case a19 => k_is); (case l19 => k_is); (case c19 => k_is); (case k19 => k_is); (case a20 => k_is); (case l20 => k_is); (case c20 => k_is); (case k20 => k_is); (case a21 => k_is); (case l21 => k_is); (case c21 => k_is); (case k21 => k_is); (case a22 => k_is); (case l22 => k_is); (case c22 => k_is); (case k22 => k_is); (case a23 => k_is); (case l23 => k_is); (case c23 => k_is); (case k23 => k_is); (case a24 => k_is); (case l24 => k_is); (case c24 => k_is); (case k24 => k_is); (case z0 => k_is); (case z1 => k_is); (case z2 => k_is); (case z3 => k_is); (case z4 => k_is); (case z5 => k_is); (case z6 => k_is); (case z7 => k_is); (case z8 => k_is); (case z9 => k_is); (case z10 => k_is); (case z11 => k_is); (case z12 => k_is); (case z13 => k_is)
