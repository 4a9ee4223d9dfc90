import PyProof.Rows.All
import Wide.All
import OpenK.AllK
import Wide.FinOn
import PySem.Challenge.RW_commonweb_k17_whole_leads_and_pairs
import HandS.ForMost
import HandS.Conv
import KE.KItemsList
import KE.KDictZip
import HandS.Deep
import HandS.Evl
import HandS.IsInst
import HandS.Zip
import HandS.Walk
import KE.KEqSeq
import KE.KEqDeep
import PyProof.ZipIter
import PyProof.CallType
import PyProof.Walk
import PyProof.WalkLemmas
import PyProof.RangeIter
import PyProof.RulesTry
import PyProof.TupleOfSeq
import HandS.RepeatKit
import PyProof.CodeObj
import HandS.SortRule
import HandS.DictTup
import KE.KDictSum
import PyProof.Draws
import HandS.SetFor
import PyProof.P3Eq
import HandS.NoneIn
import HandS.Style
import HandS.TupAny
import HandS.Rev
import HandS.RevTup
import HandS.Replace
import HandS.Strs
import KE.KSetDisp
import HandS.AnyAll
import HandS.GenOver
import PyProof.ConsumeWalk
import HandS.EndTab
import HandS.More
import KE.DatumOrd
set_option Elab.async false
set_option linter.all false
set_option maxRecDepth 100000
set_option maxHeartbeats 4000000
/-! list(enumerate(xs)) -/
namespace Cw
open PySem PySem.Spec PySem.Calls PyProof.Rows L2

theorem en_nolen : typeLookup (.type "enumerate") "__len__" = pure none := am_miss_of_fast (by decide +kernel)
theorem en_nohint : typeLookup (.type "enumerate") "__length_hint__" = pure none := am_miss_of_fast (by decide +kernel)

/-- how the iterator stands ahead of turn i -/
def EnSt (h : Heap) (e it l S : Addr) (items : Array Value) (i : Nat) : Prop :=
  h.IsListIter it l i ∧ h.IsList l items ∧ ((∃ old, IsEnum h e it i old) ∨ ∃ old T f oT, IsEnumHeld h e it i old T f ∧ h.get? T = some oT ∧ T ≠ e ∧ T ≠ it ∧ T ≠ S)

theorem EnSt.keep {h h' : Heap} {e it l S : Addr} {items : Array Value} {i : Nat} (x : EnSt h e it l S items i) (hk : ∀ b o, b ≠ S → h.get? b = some o → h'.get? b = some o) (h1 : e ≠ S) (h2 : it ≠ S) (h3 : l ≠ S) : EnSt h' e it l S items i := by
  obtain ⟨a, b, c⟩ := x
  refine ⟨a.at fun o q => hk it o h2 q, b.at fun o q => hk l o h3 q, ?_⟩
  rcases c with ⟨old, c⟩ | ⟨old, T, f, oT, c, hT, r1, r2, r3⟩
  · exact .inl ⟨old, hk _ _ h1 c⟩
  · exact .inr ⟨old, T, f, oT, hk _ _ h1 c, hk _ _ r3 hT, r1, r2, r3⟩

section
variable {prog : Program} {w : World} {A : Around} {E : Value → Shared → Prop} {s : Shared} {e it l S : Addr} {items : Array Value}

theorem en_item {i : Nat} {x : Value} {Q : Option Value → Shared → Prop} (st : EnSt s.heap e it l S items i) (hei : e ≠ it) (hle : l ≠ e) (hli : l ≠ it) (hS : S < s.heap.objs.size) (hx : items[i]? = some x)
    (hQ : ∀ h' t, EnSt h' e it l S items (i + 1) → h'.get? s.heap.objs.size = some { cls := .type "tuple", data := .seq #[.int i t, x] } → h'.objs.size = s.heap.objs.size + 1 →
      (∀ b o, b ≠ e → b ≠ it → s.heap.get? b = some o → h'.get? b = some o) → ∀ tk, Q (some (.ref s.heap.objs.size)) { s with heap := h', toks := tk }) : wpAny (model prog w) A (pyNext (.ref e)) Q E s := by
  obtain ⟨a, b, c⟩ := st
  have ec : ((i + 1 : Nat) : Int) = (i : Int) + 1 := by omega
  have nit : s.heap.objs.size ≠ it := let ⟨_, q, _⟩ := a; Nat.ne_of_gt (Heap.lt_size q)
  rcases c with ⟨old, c⟩ | ⟨old, T, f, oT, c, hT, r1, r2, r3⟩
  · refine wpAny_pyNext_enum_item c a b hx hei fun h' ho hit' hT hsz hk => hQ h' _ ⟨hit', b.at fun o q => hk l o hle hli q, .inr ⟨_, s.heap.objs.size, false, _, (by rw [ec]; exact ho), hT, Nat.ne_of_gt (Heap.lt_size c), nit, Nat.ne_of_gt hS⟩⟩ hT hsz hk _
  · refine wpAny_pyNext_enum_item_held c hT r1 r2 a b hx hei fun h' ho hit' hT' hsz hk => hQ h' _ ⟨hit', b.at fun o q => hk l o hle hli q, .inr ⟨old, T, true, oT, (by rw [ec]; exact ho), hk _ _ r1 r2 hT, r1, r2, r3⟩⟩ hT' hsz hk _

theorem en_done {i : Nat} {Q : Option Value → Shared → Prop} (hh : A.handled = none) (st : EnSt s.heap e it l S items i) (hx : items[i]? = none)
    (hQ : ∀ h', Heap.ExtBut it s.heap h' → Q none { s with heap := h' }) : wpAny (model prog w) A (pyNext (.ref e)) Q E s := by
  obtain ⟨a, b, c⟩ := st
  rcases c with ⟨old, c⟩ | ⟨old, T, f, oT, c, hT, r1, r2, r3⟩
  · exact wpAny_pyNext_enum_end hh c a b hx hQ
  · exact wpAny_pyNext_enum_end_held hh c a b hx hQ

/-- the tuples made so far -/
structure EnG (items : Array Value) (lo : Addr) (h : Heap) (as : List Addr) : Prop where
  rise : as.Pairwise (· < ·)
  above : ∀ a ∈ as, lo < a
  pairs : ∀ (j : Nat) (a : Addr), as[j]? = some a → ∃ t x, items[j]? = some x ∧ h.get? a = some { cls := .type "tuple", data := .seq #[.int j t, x] }
theorem EnG.there {lo : Addr} {h : Heap} {as : List Addr} (g : EnG items lo h as) {a : Addr} (ha : a ∈ as) : a < h.objs.size := by
  obtain ⟨j, hj⟩ := List.mem_iff_getElem?.mp ha
  obtain ⟨_, _, _, z⟩ := g.pairs j a hj
  exact Heap.lt_size z

theorem en_loop {R : Result → Shared → Prop} (hh : A.handled = none) (hei : e ≠ it) (hle : l ≠ e) (hli : l ≠ it) (heS : e < S) (hiS : it < S) (hlS : l < S) (hn : items.size ≤ sizeLine) (res : Value) {h₁ : Heap}
    (hR : ∀ h' tk acc c as, (∀ b o, b ≠ S → b ≠ e → b ≠ it → h₁.get? b = some o → h'.get? b = some o) → h'.get? S = some { cls := .type "list", dict := none, data := .seq acc c, slots := #[] } → as.length = items.size → EnG items S h' as →
      acc.toList = as.map Value.ref → R (.ok (.ret res)) { s with heap := h', toks := tk }) :
    ∀ (k i : Nat) (h : Heap) (tk c : Nat) (acc : Array Value) (as : List Addr), items.size - i = k → i ≤ items.size → EnSt h e it l S items i → (∀ b o, b ≠ S → b ≠ e → b ≠ it → h₁.get? b = some o → h.get? b = some o) →
      h.get? S = some { cls := .type "list", dict := none, data := .seq acc c, slots := #[] } → acc.toList = as.map Value.ref → as.length = i → EnG items S h as →
      codeAny (model prog w) A (.builtin "list.extend.loop" ⟨[.ref S, .ref e, res], []⟩) R { s with heap := h, toks := tk } := by
  have neS : e ≠ S := Nat.ne_of_lt heS
  have niS : it ≠ S := Nat.ne_of_lt hiS
  have nlS : l ≠ S := Nat.ne_of_lt hlS
  intro k
  induction k with
  | zero =>
    intro i h tk c acc as hk hi hst hkeep hS hacc hal hG
    refine codeAny_builtin (prog := prog) (w := w) PySem.F.entry_extend_loop ?_
    rw [Around.under_plainId (A := A) PySem.F.plain_extend_loop _]
    show wpAny _ A.in1 (pyNext (.ref e) >>= _) _ _ _
    refine wpAny_bind (en_done (s := { s with heap := h, toks := tk }) (A := A.in1) hh hst (Array.getElem?_eq_none (by omega)) fun h' he => ?_)
    refine wpAny_pure (hR h' tk acc c as (fun b o h1 h2 h3 q => he b o h3 (hkeep b o h1 h2 h3 q)) (he S _ niS.symm hS) (by omega) ⟨hG.rise, hG.above, fun j a hj => ?_⟩ hacc)
    obtain ⟨t, x, z1, z2⟩ := hG.pairs j a hj
    exact ⟨t, x, z1, he a _ (Nat.ne_of_gt (Nat.lt_trans hiS (hG.above a (List.mem_of_getElem? hj)))) z2⟩
  | succ k ih =>
    intro i h tk c acc as hk hi hst hkeep hS hacc hal hG
    have hlt : i < items.size := by omega
    have hx : items[i]? = some items[i] := Array.getElem?_eq_getElem hlt
    have hsz : acc.size = i := by rw [← Array.length_toList, hacc, List.length_map, hal]
    refine codeAny_builtin (prog := prog) (w := w) PySem.F.entry_extend_loop ?_
    rw [Around.under_plainId (A := A) PySem.F.plain_extend_loop _]
    show wpAny _ A.in1 (pyNext (.ref e) >>= _) _ _ _
    refine wpAny_bind (en_item (s := { s with heap := h, toks := tk }) (S := S) hst hei hle hli (Heap.lt_size hS) hx fun h' t hst' ht hz hkp tk' => ?_)
    dsimp only at ht hz hkp ⊢
    have hS' := hkp S _ neS.symm niS.symm hS
    have up : ∀ b o, b ≠ S → h'.get? b = some o → (h'.update S (Obj.mapSeq (·.push (Value.ref h.objs.size)))).get? b = some o := fun b o hb q => (Heap.get?_update_other _ _ (Ne.symm hb)).trans q
    have hSl : S < h.objs.size := Heap.lt_size hS
    show wpAny _ A.in1 (updateSeq S (·.push (Value.ref h.objs.size)) >>= _) _ _ _
    refine wpAny_bind (wpAny_updateSeq hS' rfl (wpAny_pure ⟨plainId_quiet PySem.F.plain_extend_loop _, ih (i + 1) _ tk' _ (acc.push (Value.ref h.objs.size)) (as ++ [h.objs.size]) (by omega) hlt (hst'.keep up neS niS nlS)
      (fun b o h1 h2 h3 q => up b o h1 (hkp b o h2 h3 (hkeep b o h1 h2 h3 q))) (Heap.get?_update_self _ hS' rfl) (by rw [Array.toList_push, hacc, List.map_append]; rfl) (by rw [List.length_append, hal]; rfl) ⟨?_, ?_, ?_⟩⟩) (by rw [hsz]; omega) (by show (acc.push (Value.ref h.objs.size)).size ≤ sizeLine + 1; rw [Array.size_push, hsz]; omega))
    · refine List.pairwise_append.mpr ⟨hG.rise, List.pairwise_singleton _ _, fun a ha b hb => ?_⟩
      rw [List.mem_singleton.mp hb]; exact hG.there ha
    · intro a ha
      rcases List.mem_append.mp ha with ha | ha
      · exact hG.above a ha
      · rw [List.mem_singleton.mp ha]; exact hSl
    · intro j b hj
      rcases Nat.lt_trichotomy j as.length with h1 | h1 | h1
      · rw [List.getElem?_append_left h1] at hj
        obtain ⟨t', x', z1, z2⟩ := hG.pairs j b hj
        have hb := hG.above b (List.mem_of_getElem? hj)
        exact ⟨t', x', z1, up b _ (Nat.ne_of_gt hb) (hkp b _ (Nat.ne_of_gt (Nat.lt_trans heS hb)) (Nat.ne_of_gt (Nat.lt_trans hiS hb)) z2)⟩
      · subst h1
        have hb : h.objs.size = b := by simpa using hj
        subst hb
        exact ⟨t, _, by rw [hal]; exact hx, by rw [hal]; exact up _ _ (Nat.ne_of_gt hSl) ht⟩
      · have hnone : (as ++ [h.objs.size])[j]? = none := List.getElem?_eq_none (by rw [List.length_append, List.length_singleton]; omega)
        rw [hnone] at hj; cases hj

theorem en_hint (hT : s.TypeIs (.ref e) "enumerate") {Q : Bool → Shared → Prop} (h : Q true s) : wpAny (model prog w) A (Builtin.List.listLengthHint (.ref e)) Q E s := by
  unfold Builtin.List.listLengthHint
  refine wpAny_bind (wpAny_specialOf hT en_nolen ?_)
  show wpAny _ _ (specialOf (Value.ref e) (Str.ofString "__length_hint__") >>= _) _ _ _
  refine wpAny_bind (wpAny_specialOf hT en_nohint ?_)
  exact wpAny_pure h

theorem en_extend {R : Result → Shared → Prop} (hh : A.handled = none) (he : IsEnum s.heap e it 0 .none) (hit : s.heap.IsListIter it l 0) (hl : s.heap.IsList l items) (hei : e ≠ it) (hle : l ≠ e) (hli : l ≠ it) (heS : e < S) (hiS : it < S) (hlS : l < S) (res : Value) (c₀ : Nat) (hS : s.heap.get? S = some { cls := .type "list", data := .seq #[] c₀ })
    (hR : ∀ h' tk acc c as, (∀ b o, b ≠ S → b ≠ e → b ≠ it → s.heap.get? b = some o → h'.get? b = some o) → h'.get? S = some { cls := .type "list", dict := none, data := .seq acc c, slots := #[] } → as.length = items.size → EnG items S h' as →
      acc.toList = as.map Value.ref → R (.ok (.ret res)) { s with heap := h', toks := tk }) (hn : items.size ≤ sizeLine) :
    wpAny (model prog w) A.in1 (Builtin.List.listExtendWith (.ref S) (.ref e) res)
      (fun fin s' => match fin with | .done f => R (.ok f) s' | .again c' => c'.quiet = true ∧ codeAny (model prog w) A c' R s') (fun e s' => R (.error e) s') s := by
  have hSr : S ≠ e := Nat.ne_of_gt heS
  have hTy : s.TypeIs (.ref e) "enumerate" := ⟨_, he, rfl⟩
  have key : ∀ (h : Heap) (c₁ tk : Nat), (∀ b o, b ≠ S → s.heap.get? b = some o → h.get? b = some o) → h.get? S = some { cls := .type "list", data := .seq #[] c₁ } → codeAny (model prog w) A (.builtin "list.extend.loop" ⟨[.ref S, .ref e, res], []⟩) R { s with heap := h, toks := tk } := by
    intro h c₁ tk hk hS₁
    refine en_loop (s := s) (h₁ := s.heap) hh hei hle hli heS hiS hlS hn res hR items.size 0 h tk c₁ #[] [] (Nat.sub_zero _) (Nat.zero_le _) ⟨hit.at fun o q => hk it o (Nat.ne_of_lt hiS) q, hl.at fun o q => hk l o (Nat.ne_of_lt hlS) q, .inl ⟨_, hk _ _ (Nat.ne_of_lt heS) he⟩⟩
      (fun b o h1 _ _ q => hk b o h1 q) hS₁ rfl rfl ⟨List.Pairwise.nil, (fun _ ha => nomatch ha), (fun j a hj => by simp at hj)⟩
  unfold Builtin.List.listExtendWith
  refine wpAny_bind (wpAny_typeOf (T := "enumerate") hTy ?_)
  have h1 : Builtin.List.listSameRef (.ref S) (.ref e) = false := by simp [Builtin.List.listSameRef, hSr]
  have h2 : (Value.type "enumerate" == Value.type "list") = false := by decide
  have h3 : (Value.type "enumerate" == Value.type "tuple") = false := by decide
  simp only [h1, h2, h3, Bool.or_false, Bool.false_eq_true, if_false]
  refine wpAny_bind (wpAny_pyIter_enum he ?_)
  refine wpAny_bind (wpAny_holding (en_hint hTy ?_))
  refine wpAny_ite_split (fun _ => ?_) (fun _ => wpAny_pure ⟨plainId_quiet PySem.F.plain_extend_loop _, key _ c₀ _ (fun b o _ q => q) hS⟩)
  refine wpAny_bind (wpAny_rule (wpAny_bind ?_))
  · show wpAny _ _ (updateSeq S (·.push .none) >>= fun _ => updateSeq S (·.pop)) _ _ _
    refine wpAny_bind (wpAny_updateSeq hS rfl ?_)
    have hS₂ := Heap.get?_update_self (Obj.mapSeq (·.push Value.none)) hS rfl
    refine wpAny_updateSeq (hz := by seq_fits) hS₂ rfl ?_
    have hS₃ := Heap.get?_update_self (Obj.mapSeq (·.pop)) hS₂ rfl
    refine wpAny_pure ⟨plainId_quiet PySem.F.plain_extend_loop _, key _ _ _ (fun b o hb q => ?_) hS₃⟩
    exact (Heap.get?_update_other _ _ (Ne.symm hb)).trans ((Heap.get?_update_other _ _ (Ne.symm hb)).trans q)

theorem EnG.low {lo lo' : Addr} {h : Heap} {as : List Addr} (g : EnG items lo h as) (hl : lo' ≤ lo) : EnG items lo' h as := ⟨g.rise, fun a ha => Nat.lt_of_le_of_lt hl (g.above a ha), g.pairs⟩

/-- list(e), e an enumerate that nobody has asked yet -/
theorem en_call {Q : Value → Shared → Prop} (hh : A.handled = none) (he : IsEnum s.heap e it 0 .none) (hit : s.heap.IsListIter it l 0) (hl : s.heap.IsList l items) (hei : e ≠ it) (hle : l ≠ e) (hli : l ≠ it) (hn : items.size ≤ sizeLine)
    (hQ : ∀ h' tk acc c as, (∀ b o, b ≠ e → b ≠ it → s.heap.get? b = some o → h'.get? b = some o) → h'.get? s.heap.objs.size = some { cls := .type "list", dict := none, data := .seq acc c, slots := #[] } → as.length = items.size → EnG items s.heap.objs.size h' as →
      acc.toList = as.map Value.ref → Q (.ref s.heap.objs.size) { s with heap := h', toks := tk }) : wpAny (model prog w) A (call (.type "list") [.ref e]) Q E s := by
  refine callType_codes (Q₁ := fun obj s₁ => obj = .ref s.heap.objs.size ∧ s₁ = { s with heap := s.heap.push { cls := .type "list", data := .seq #[] } }) PySem.F.called_list (PySem.F.typeCall_list_1 _) PySem.F.entry_list_init (code_list_new _ ⟨rfl, rfl⟩) fun obj s₁ h₁ => ?_
  obtain ⟨rfl, rfl⟩ := h₁
  have hS : (s.heap.push { cls := .type "list", data := .seq #[] }).get? s.heap.objs.size = some { cls := .type "list", data := .seq #[] } := Heap.get?_push_size _ rfl
  have k1 : ∀ b o, s.heap.get? b = some o → (s.heap.push { cls := .type "list", data := .seq #[] }).get? b = some o := fun b o q => Heap.get?_push_of_some _ q
  have heS : e < s.heap.objs.size := Heap.lt_size he
  have hiS : it < s.heap.objs.size := by obtain ⟨_, q, _⟩ := hit; exact Heap.lt_size q
  have hlS : l < s.heap.objs.size := by obtain ⟨_, q, _⟩ := hl; exact Heap.lt_size q
  refine ⟨⟨_, hS, rfl⟩, PySem.F.args_list_init_2 _ _, ?_⟩
  show wpAny _ _ (do let old ← Builtin.List.listItems (.ref s.heap.objs.size); Builtin.List.listUpdate (.ref s.heap.objs.size) (fun _ => #[]); letGo old.toList.reverse; Builtin.List.listExtendWith (.ref s.heap.objs.size) (.ref e) .none) _ _ _
  refine wpAny_bind ?_; unfold Builtin.List.listItems; refine wpAny_bind (wpAny_seqItems hS rfl (wpAny_pure ?_))
  show wpAny _ _ (updateSeq s.heap.objs.size (fun _ => #[]) >>= fun _ => letGo (#[] : Array Value).toList.reverse >>= fun _ => Builtin.List.listExtendWith (.ref s.heap.objs.size) (.ref e) .none) _ _ _
  refine wpAny_bind (wpAny_updateSeq hS rfl (wpAny_bind (wpAny_letGo ?_)))
  have hS₂ := Heap.get?_update_self (Obj.mapSeq (fun _ => (#[] : Array Value))) hS rfl
  have k2 : ∀ b o, b ≠ s.heap.objs.size → s.heap.get? b = some o → ((s.heap.push { cls := .type "list", data := .seq #[] }).update s.heap.objs.size (Obj.mapSeq (fun _ => (#[] : Array Value)))).get? b = some o := fun b o hb q => (Heap.get?_update_other _ _ (Ne.symm hb)).trans (k1 b o q)
  refine en_extend (A := A.in1) (s := { s with heap := (s.heap.push { cls := .type "list", data := .seq #[] }).update s.heap.objs.size (Obj.mapSeq (fun _ => (#[] : Array Value))) }) hh (k2 _ _ (Nat.ne_of_lt heS) he) (hit.at fun o q => k2 it o (Nat.ne_of_lt hiS) q) (hl.at fun o q => k2 l o (Nat.ne_of_lt hlS) q) hei hle hli heS hiS hlS .none _ hS₂ (fun h' tk acc c as hk hS' hl' hG hacc => ?_) hn
  exact ⟨rfl, hQ h' tk acc c as (fun b o h1 h2 q => hk b o (Nat.ne_of_lt (Heap.lt_size q)) h1 h2 (k2 b o (Nat.ne_of_lt (Heap.lt_size q)) q)) hS' hl' hG hacc⟩
end

/-- the tuples tracked at their addresses -/
def putE : Hp → List Addr → List V → Nat → Hp
  | H, a :: as, x :: xs, j => putE (upd H a (.tup [.int j, x])) as xs (j + 1)
  | H, _, _, _ => H
theorem putE_off {b : Addr} : ∀ (as : List Addr) (xs : List V) (j : Nat) (H : Hp), b ∉ as → putE H as xs j b = H b
  | [], _, _, _, _ => rfl
  | _ :: _, [], _, _, _ => rfl
  | a :: as, x :: xs, j, H, h => by
    show putE (upd H a (.tup [.int j, x])) as xs (j + 1) b = H b
    rw [putE_off as xs _ _ (fun z => h (List.mem_cons_of_mem _ z)), upd_ne (fun z => h (by rw [z]; exact List.mem_cons_self))]
theorem putE_at : ∀ (as : List Addr) (xs : List V) (j : Nat) (H : Hp), as.Nodup → ∀ i t x, as[i]? = some t → xs[i]? = some x → putE H as xs j t = some (.tup [.int ((j + i : Nat) : Int), x])
  | [], _, _, _, _, _, _, _, h, _ => by simp at h
  | _ :: _, [], _, _, _, _, _, _, _, h => by simp at h
  | a :: as, y :: xs, j, H, hn, 0, t, x, h1, h2 => by
    have e1 : a = t := Option.some.inj h1
    have e2 : y = x := Option.some.inj h2
    subst e1; subst e2
    show putE (upd H a (.tup [.int j, y])) as xs (j + 1) a = _
    rw [putE_off as xs _ _ (List.nodup_cons.mp hn).1, upd_same]; rfl
  | a :: as, y :: xs, j, H, hn, i + 1, t, x, h1, h2 => by
    have ih := putE_at as xs (j + 1) (upd H a (.tup [.int j, y])) (List.nodup_cons.mp hn).2 i t x h1 h2
    show putE (upd H a (.tup [.int j, y])) as xs (j + 1) t = _
    rw [ih, show j + 1 + i = j + (i + 1) by omega]
theorem refs_vals : ∀ as : List Addr, Vals (as.map V.ref) (as.map Value.ref)
  | [] => .nil
  | _ :: as => .cons rfl (refs_vals as)
def rLstEn (K : PySem.W.Frag) : List V → Hp → VK → Prop := fun vs H Q => ∃ (a : Addr) (xs : List V), vs = [.ref a] ∧ SqL K H a xs ∧
  ∀ (H' : Hp) (p : Addr) (ts : List Addr), Same H H' → H p = none → (∀ t ∈ ts, H t = none) → p ∉ ts → H' p = some (.lst (ts.map V.ref)) → ts.length = xs.length → (∀ j t x, ts[j]? = some t → xs[j]? = some x → H' t = some (.tup [.int (j : Nat), x])) → Q (.ref p) H'
def tLstEn (K : PySem.W.Frag) (ta : TA) : TE := fun σ H Q => ta σ H fun vs H1 => rLstEn K vs H1 Q
section
variable {X : Cx} {e : Expr} {ta : TA} {p1 p2 pos pos2 : Pos}
theorem enum_laid {pins : List (Addr × Obj)} {σ : L2.St} {H : Hp} {s : Shared} {h' : Heap} {tk S : Nat} {xs : List V} {its : List Value} {acc : Array Value} {c : Nat} {as : List Addr} (I : Inv X pins σ H s) (hz : xs.length ≤ sizeLine) (rv : Vals xs its)
    (hk : ∀ b o, s.heap.get? b = some o → h'.get? b = some o) (hS0 : s.heap.objs.size ≤ S) (hS : h'.get? S = some { cls := .type "list", dict := none, data := .seq acc c, slots := #[] }) (hl : as.length = its.toArray.size) (hG : EnG its.toArray S h' as) (hacc : acc.toList = as.map Value.ref) :
    ∃ H' : Hp, Same H H' ∧ H S = none ∧ (∀ t ∈ as, H t = none) ∧ S ∉ as ∧ H' S = some (.lst (as.map V.ref)) ∧ (∀ j t x, as[j]? = some t → xs[j]? = some x → H' t = some (.tup [.int (j : Nat), x])) ∧ Inv X pins σ H' { s with heap := h', toks := tk } := by
  have lk : xs.length = its.length := Vals.length rv
  have hl' : as.length = xs.length := by rw [hl, List.size_toArray, lk]
  have hSn : S ∉ as := fun z => Nat.lt_irrefl _ (hG.above _ z)
  have nd : as.Nodup := List.Pairwise.imp (fun {a b} (h : a < b) => Nat.ne_of_lt h) hG.rise
  have new : ∀ t ∈ as, H t = none := fun t ht => I.hok.fresh (Nat.le_trans hS0 (Nat.le_of_lt (hG.above t ht)))
  have newS : H S = none := I.hok.fresh hS0
  have off : ∀ b, b ∉ as → b ≠ S → putE (upd H S (.lst (as.map V.ref))) as xs 0 b = H b := fun b h1 h2 => by rw [putE_off as xs _ _ h1, upd_ne h2]
  have low : ∀ b o, s.heap.get? b = some o → b ∉ as ∧ b ≠ S := fun b o q => ⟨fun z => absurd (Heap.lt_size q) (Nat.not_lt.mpr (Nat.le_trans hS0 (Nat.le_of_lt (hG.above b z)))), Nat.ne_of_lt (Nat.lt_of_lt_of_le (Heap.lt_size q) hS0)⟩
  have kp : Same H (putE (upd H S (.lst (as.map V.ref))) as xs 0) := fun b u q => by
    rw [off b (fun z => by rw [new b z] at q; cases q) (fun z => by rw [z, newS] at q; cases q)]
    exact q
  have eS : putE (upd H S (.lst (as.map V.ref))) as xs 0 S = some (.lst (as.map V.ref)) := by rw [putE_off as xs _ _ hSn, upd_same]
  have atP : ∀ j t x, as[j]? = some t → xs[j]? = some x → putE (upd H S (.lst (as.map V.ref))) as xs 0 t = some (.tup [.int (j : Nat), x]) := fun j t x h1 h2 => by
    rw [putE_at as xs 0 _ nd j t x h1 h2, Nat.zero_add]
  refine ⟨_, kp, newS, new, hSn, eS, atP, ?_⟩
  refine I.call' (ch := []) rfl ⟨fun b o q _ _ _ => hk b o q, fun b o q _ _ _ => ⟨o.slots, hk b o q⟩, fun b o q n _ => (off b (low b o q).1 (low b o q).2).trans n, fun b o q _ => ⟨o, hk b o q⟩, fun b xs q => kp b _ q, fun b o u q => kp b _ q, fun b ps q => ⟨#[], by rw [kp b _ q]; simp⟩⟩ (fun b u q => ?_) I.bare fun b z => by simp at z
  by_cases hb : b ∈ as
  · obtain ⟨j, e1⟩ := List.mem_iff_getElem?.mp hb
    have hj : j < xs.length := by
      have := (List.getElem?_eq_some_iff.mp e1).1
      omega
    have e2 : xs[j]? = some xs[j] := List.getElem?_eq_getElem hj
    rw [atP j b _ e1 e2] at q
    cases q
    obtain ⟨t, x, f1, f2⟩ := hG.pairs j b e1
    obtain ⟨u, g1, g2⟩ := rv.get e2
    have f1' : its[j]? = some x := by simpa using f1
    rw [g1] at f1'
    cases f1'
    exact ⟨by show 2 ≤ sizeLine; decide, [.int j t, x], .cons ⟨t, rfl⟩ (.cons g2 .nil), ⟨_, f2, rfl, _, rfl⟩⟩
  · by_cases hb2 : b = S
    · rw [hb2] at q ⊢
      rw [eS] at q
      cases q
      refine ⟨by rw [List.length_map]; omega, acc.toList, c, by rw [hacc]; exact refs_vals as, ?_⟩
      rw [Array.toArray_toList]; exact hS
    · rw [off b hb hb2] at q
      exact (I.hok b u q).stay (fun d v _ y => hk d v y) (fun d y => kp d _ y) fun d xs y => kp d _ y
/-- list(enumerate(e)) -/
theorem pe_listEnum (hc : X.calm = true) (hg : Gl X "list") (hm : X.mg "list" = none) (hg2 : Gl X "enumerate") (hm2 : X.mg "enumerate" = none) (ha : PA X [e] ta)
    (hs : starEach [.Call (.Name "enumerate" p2) [e] [] pos2] X.env = [(false, eval (.Call (.Name "enumerate" p2) [e] [] pos2) X.env)] := by rfl) (hs2 : starEach [e] X.env = [(false, eval e X.env)] := by rfl) :
    PE X (.Call (.Name "list" p1) [.Call (.Name "enumerate" p2) [e] [] pos2] [] pos) (tLstEn X.K ta) := by
  refine ⟨fun pins s σ H Q I hq => ?_⟩
  refine Call_ (ld_blt I hg hm boot_list (PyProof.Rows.callWith_type1 ?_ hs rfl))
  rw [hs]
  show wpAny _ _ (spliced ((false, eval (.Call (.Name "enumerate" p2) [e] [] pos2) X.env) :: backTo pos [])) _ _ s
  refine Calls.spliced_cons (Call_ (ld_blt I hg2 hm2 boot_enumerate (PyProof.Rows.callWith_type1 (thn (ha.run pos2 pins s σ H _ I hq) fun us s1 ⟨vs, H1, I1, r1, q1⟩ => ?_) hs2 rfl)))
  obtain ⟨a, xs, ex, hq, q⟩ := q1
  subst ex
  cases r1 with
  | cons r rr =>
    cases rr; cases r
    obtain ⟨its, rv, p', hz⟩ := I1.list hq
    have hl0 : a < s1.heap.objs.size := by obtain ⟨_, z, _⟩ := p'.isList; exact Heap.lt_size z
    refine call_enumerate_list p'.isList fun h' he hit hsz hk => ?_
    have I2 : Inv X pins σ H1 { s1 with heap := h' } := I1.kept (t' := s1.toks) hk
    refine Calls.spliced_nil ?_
    refine en_call (s := { s1 with heap := h' }) (I1.ok.hd hc) he hit (p'.isList.at fun o z => hk a o z) (Nat.succ_ne_self _) (Nat.ne_of_lt (Nat.lt_succ_of_lt hl0)) (Nat.ne_of_lt hl0) (by rw [List.size_toArray, ← rv.length]; exact hz) fun h'' tk acc c as hk2 hS hl hG hacc => ?_
    have hk3 : ∀ b o, s1.heap.get? b = some o → h''.get? b = some o := fun b o z => hk2 b o (Nat.ne_of_lt (Nat.lt_succ_of_lt (Heap.lt_size z))) (Nat.ne_of_lt (Heap.lt_size z)) (hk b o z)
    obtain ⟨H', k1, k2, k3, k4, k5, k6, J⟩ := enum_laid (tk := tk) I1 hz rv hk3 (by show s1.heap.objs.size ≤ h'.objs.size; omega) hS hl hG hacc
    exact ⟨.ref _, H', J, rfl, q H' _ as k1 k2 k3 k4 k5 (by rw [hl, List.size_toArray, rv.length]) k6⟩
end
end Cw

namespace Cw
open PySem PySem.Spec PyProof.Rows L2

/-! ### a def of the text, called by its name -/
structure Df (K : PySem.W.Frag) (mg : Str → Option Value) (x : Str) (st : Stmt) (ps : List Str) where
  f : Addr
  fd : FuncData
  F : Fun K x x st f fd
  b : Binds K fd ps []
  g : mg x = some (.ref f)

theorem units1 {k : Nat} {A : Around} (r : Room k A) : A.units + 65 < cLine := by have := r.un; omega
theorem blkOk_in {N : List Str} {sc scO scope : Scope} {own : List (Str × Nat)} {cl : List (Str × Addr)} {C : Addr} {env : Env} (he : env.scope = sc) (h : blkC N (relS scO sc) scope own = true) : BlkOk N (compEnvC scO cl C env).scope scope own := by
  subst he
  exact blkOk_by h
/-! ### heaps -/
/-- all but h is as it was -/
def Keep (h : Addr) (H H' : Hp) : Prop := ∀ b o, b ≠ h → H b = some o → H' b = some o
theorem Keep.refl (h : Addr) (H : Hp) : Keep h H H := fun _ _ _ e => e
theorem Keep.trans {h : Addr} {H H1 H2 : Hp} (a : Keep h H H1) (b : Keep h H1 H2) : Keep h H H2 := fun c o n e => b c o n (a c o n e)
theorem Keep.same {h : Addr} {H H1 H2 : Hp} (a : Keep h H H1) (b : Same H1 H2) : Keep h H H2 := fun c o n e => b c o (a c o n e)
theorem Same.keep {h : Addr} {H H1 : Hp} (a : Same H H1) : Keep h H H1 := fun c o _ e => a c o e
theorem Keep.put {h : Addr} {H : Hp} {o : HO} : Keep h H (upd H h o) := fun c u n e => by rw [upd_ne n]; exact e
/-- what was new ahead of it is not told -/
theorem Keep.out {h : Addr} {H0 H H1 : Hp} (s : Same H0 H) (k : Keep h H H1) (n : H0 h = none) : Same H0 H1 := fun c o e => k c o (ne_of_none e n) (s c o e)
theorem same_new {H : Hp} {p : Addr} {o : HO} (h : H p = none) : Same H (upd H p o) := fun b x e => by rw [upd_ne (ne_of_none e h)]; exact e
theorem same_upd {H H' : Hp} {p : Addr} {o : HO} (s : Same H H') (h : H p = none) : Same H (upd H' p o) := fun b x e => by rw [upd_ne (ne_of_none e h)]; exact s b x e
theorem Same.sqt {K : PySem.W.Frag} {H H' : Hp} {a : Addr} {xs : List V} (e : Same H H') (h : SqT K H a xs) : SqT K H' a xs := by
  rcases h with (h | ⟨o, h⟩) | h
  · exact .inl (.inl (e _ _ h))
  · exact .inl (.inr ⟨o, e _ _ h⟩)
  · exact .inr h
theorem at_upd {H : Hp} {a b : Addr} {o u : HO} (h : H a = some o) (n : H b = none) : upd H b u a = some o := by rw [upd_ne (ne_of_none h n)]; exact h

theorem Keep.new {h p : Addr} {H H' : Hp} {o : HO} (k : Keep h H H') (n : H p = none) : Keep h H (upd H' p o) := fun b u nb e => by rw [upd_ne (ne_of_none e n)]; exact k b u nb e
theorem Keep.free {h p : Addr} {H H' : Hp} (k : Keep h H H') (ne : p ≠ h) (n : H' p = none) : H p = none := by
  cases q : H p with
  | none => rfl
  | some o => rw [k p o ne q] at n; cases n
theorem Keep.self {h : Addr} {H H' : Hp} {o : HO} (k : Keep h H H') : Keep h H (upd H' h o) := fun b u nb e => by rw [upd_ne nb]; exact k b u nb e
theorem Keep.seqN {K : PySem.W.Frag} {H H' : Hp} {a h : Addr} {xs : List V} (k : Keep h H H') (n : H h = none) (q : SqL K H a xs) : SqL K H' a xs := by
  rcases q with (q | ⟨o, q⟩) | q
  · exact .inl (.inl (k _ _ (ne_of_none q n) q))
  · exact .inl (.inr ⟨o, k _ _ (ne_of_none q n) q⟩)
  · exact .inr q
/-- a tuple stands behind a store at a new place, at a list -/
theorem sqt_upd {K : PySem.W.Frag} {H : Hp} {a b : Addr} {xs : List V} {o : HO} (n : H b = none ∨ ∃ ys, H b = some (.lst ys)) (q : SqT K H a xs) : SqT K (upd H b o) a xs := by
  have ne : ∀ u, H a = some u → (∀ ys, u ≠ .lst ys) → a ≠ b := fun u e hu z => by
    subst z
    rcases n with n | ⟨ys, n⟩
    · rw [n] at e; cases e
    · rw [n] at e; exact hu ys (Option.some.inj e).symm
  rcases q with (q | ⟨o', q⟩) | q
  · exact .inl (.inl (by rw [upd_ne (ne _ q (by intro ys z; cases z))]; exact q))
  · exact .inl (.inr ⟨o', by rw [upd_ne (ne _ q (by intro ys z; cases z))]; exact q⟩)
  · exact .inr q
/-- x in (a, b, ..), data at any depth -/
def rInT (K : PySem.W.Frag) (neg : Bool) : R2 := fun x y H Q => ∃ d ds, Dp K H x d ∧ Dp K H y (.tuple ds) ∧ SeqAt.shaped d = true ∧ SeqAt.shaped (.tuple ds) = true ∧ Q (.bl (if neg then !(ds.any fun z => PyData.eqv z d) else ds.any fun z => PyData.eqv z d)) H
theorem op_inT {X : Cx} (hu : X.A.units + 65 < cLine) : OpR X (compareOp .In) (rInT X.K false) := by
  intro pins s σ H x y v u Q I rx ry h
  obtain ⟨d, ds, hd, he, sd, se, q⟩ := h
  obtain ⟨as, r1⟩ := Dp.reads I d x v hd rx
  obtain ⟨bs, r2⟩ := Dp.reads I (.tuple ds) y u he ry
  exact SeqAt.in_tuple_reads r2 r1 (SeqAt.canLay_of_shaped se) (SeqAt.canLay_of_shaped sd) (room_in_shaped sd hu) ⟨.bl _, H, I, rfl, q⟩
/-! ### readings, step by step -/
section
variable {K : PySem.W.Frag} {σ : L2.St} {H : Hp} {Q : VK} {QA : List V → Hp → Prop} {QT : Bool → Hp → Prop} {D : Ends} {ta tb tc te : TE} {tr t1 : TA} {tt tu : TT} {t u : TS} {r r' : R2} {v x y : V} {i j : Int} {n : Nat} {p : Addr} {xs : List V}
theorem d_var {i : Nat} (e : σ[i]? = some (some v)) (h : Q v H) : tVar i σ H Q := ⟨v, e, h⟩
theorem d_c (h : Q v H) : tC v σ H Q := h
theorem d_op (h : ta σ H fun x H1 => tb σ H1 fun y H2 => r x y H2 Q) : tOp r ta tb σ H Q := h
theorem d_un {r : V → Hp → VK → Prop} (h : ta σ H fun x H1 => r x H1 Q) : tUn r ta σ H Q := h
theorem d_cons (h : ta σ H fun x H1 => tr σ H1 fun xs H2 => QA (x :: xs) H2) : tCons ta tr σ H QA := h
theorem d_nil (h : QA [] H) : tNil σ H QA := h
theorem d_cb {r : List V → Hp → VK → Prop} (h : tr σ H fun vs H1 => r vs H1 Q) : tCB r tr σ H Q := h
theorem d_call {sp : Sp} {dvs : List V} {E : XK} (h : tr σ H fun vs H1 => sp (vs ++ dvs) H1 Q E) : tCall sp dvs E tr σ H Q := h
theorem d_tup (h : tr σ H fun xs H1 => xs.length ≤ sizeLine ∧ ∀ p, H1 p = none → Q (.ref p) (upd H1 p (.tup xs))) : tTup tr σ H Q := h
theorem d_lst (h : tr σ H fun xs H1 => xs.length ≤ sizeLine ∧ ∀ p, H1 p = none → Q (.ref p) (upd H1 p (.lst xs))) : tLst tr σ H Q := h
theorem d_rI {C : Int → Int → Prop} {g : Int → Int → V} (hc : C i j) (h : Q (g i j) H) : rI C g (.int i) (.int j) H Q := ⟨i, j, rfl, rfl, hc, h⟩
theorem d_rI0 {g : Int → Int → V} (h : Q (g i j) H) : rI0 g (.int i) (.int j) H Q := ⟨i, j, rfl, rfl, h⟩
theorem d_rU {g : Int → V} (h : Q (g i) H) : rU g (.int i) H Q := ⟨i, rfl, h⟩
theorem d_eqI (h : Q (.bl (decide (i = j))) H) : rEq (.int i) (.int j) H Q := ⟨rfl, by
  rw [show decide (V.int i = V.int j) = decide (i = j) by rw [Bool.eq_iff_iff]; simp]; exact h⟩
theorem d_neI (h : Q (.bl (!decide (i = j))) H) : rNe (.int i) (.int j) H Q := ⟨rfl, by
  rw [show decide (V.int i = V.int j) = decide (i = j) by rw [Bool.eq_iff_iff]; simp]; exact h⟩
theorem d_ixL (h : SqL K H p xs) (e : atI xs i = some v) (q : Q v H) : rIxL K (.ref p) (.int i) H Q := ⟨p, xs, i, v, rfl, rfl, h, e, q⟩
theorem d_ixLm (h : H p = some (.lst xs)) (e : atI xs i = some v) (q : Q v H) : rIxL K (.ref p) (.int i) H Q := ⟨p, xs, i, v, rfl, rfl, SqL.of h, e, q⟩
theorem d_ixT (h : SqT K H p xs) (e : atI xs i = some v) (q : Q v H) : rIxT K (.ref p) (.int i) H Q := ⟨p, xs, i, v, rfl, rfl, h, e, q⟩
theorem d_ixTm (h : H p = some (.tup xs)) (e : atI xs i = some v) (q : Q v H) : rIxT K (.ref p) (.int i) H Q := ⟨p, xs, i, v, rfl, rfl, SqT.of h, e, q⟩
theorem d_test (h : te σ H fun x H' => ∃ k, x = .bl k ∧ QT k H') : tTest te σ H QT := h
theorem d_tB (h : te σ H fun x H' => ∃ k, x = .bl k ∧ QT k H') : tB te σ H QT := h
theorem d_bl {b : Bool} {C : Bool → Prop} (h : C b) : ∃ k, V.bl b = .bl k ∧ C k := ⟨b, rfl, h⟩
theorem d_not (h : tt σ H fun c H1 => QT (!c) H1) : tNot tt σ H QT := h
theorem d_and (h : tt σ H fun c H1 => if c = true then tu σ H1 QT else QT false H1) : tAnd tt tu σ H QT := h
theorem d_or (h : tt σ H fun c H1 => if c = true then QT true H1 else tu σ H1 QT) : tOr tt tu σ H QT := h
theorem d_if (h : tt σ H fun c H1 => if c = true then ta σ H1 Q else tb σ H1 Q) : tIf tt ta tb σ H Q := h
theorem d_andV (h : ta σ H fun x H1 => ∃ c, x = .bl c ∧ if c = true then tb σ H1 Q else Q (.bl false) H1) : tAndV ta tb σ H Q := h
theorem d_sl {r : V → Option Int → Option Int → Hp → VK → Prop} {tl th : TO} (h : te σ H fun x H1 => tl σ H1 fun l H2 => th σ H2 fun u H3 => r x l u H3 Q) : tSl r te tl th σ H Q := h
theorem d_nop {QO : Option Int → Hp → Prop} (h : QO none H) : tNoPart σ H QO := h
theorem d_part {QO : Option Int → Hp → Prop} (h : te σ H fun x H1 => ∃ i, x = .int i ∧ QO (some i) H1) : tPart te σ H QO := h
theorem d_in {C : Int → Prop} (h : C i) : ∃ k, V.int i = .int k ∧ C k := ⟨i, rfl, h⟩
theorem d_bm {T : String} {r : V → List V → Hp → VK → Prop} (h : te σ H fun x H1 => tyV K T x H1 ∧ tr σ H1 fun xs H2 => r x xs H2 Q) : tBM K T r te tr σ H Q := h
theorem d_bm0 {T : String} {r : V → List V → Hp → VK → Prop} (h : te σ H fun x H1 => tyV K T x H1 ∧ r x [] H1 Q) : tBM0 K T r te σ H Q := h
theorem d_m1 {r : V → List V → Hp → VK → Prop} (h : ta σ H fun x H1 => (∃ a, x = .str a) ∧ te σ H1 fun y H2 => r x [y] H2 Q) : tM1 r ta te σ H Q := h
theorem d_exs {A : Str} {C : Prop} (h : C) : (∃ a, V.str A = .str a) ∧ C := ⟨⟨_, rfl⟩, h⟩
theorem d_app {l : Addr} {ys : List V} (h : H l = some (.lst ys)) (q : tr σ H fun zs H2 => rAppend (.ref l) zs H2 Q) : tyV K "list" (.ref l) H ∧ tr σ H fun zs H2 => rAppend (.ref l) zs H2 Q := ⟨.inl ⟨rfl, _, SqL.of h⟩, q⟩
theorem d_append {l : Addr} {ys : List V} (h : H l = some (.lst ys)) (hl : ys.length < sizeLine) (q : Q .non (upd H l (.lst (ys ++ [y])))) : rAppend (.ref l) [y] H Q := ⟨l, ys, y, rfl, rfl, h, hl, q⟩
theorem d_setL {QU : Hp → Prop} {l : Addr} {ys : List V} {j : Nat} (h : H l = some (.lst ys)) (e : ixN ys.length i = some j) (q : QU (upd H l (.lst (ys.set j v)))) : rSetL (.ref l) (.int i) v H QU := ⟨l, ys, i, j, rfl, rfl, h, e, q⟩
theorem d_lenL {C : List V → Prop} (h : SqL K H p xs) (q : C xs) : ∃ p' ys, [V.ref p] = [.ref p'] ∧ (SqL K H p' ys ∨ SqT K H p' ys) ∧ C ys := ⟨p, xs, rfl, .inl h, q⟩
theorem d_lenT {C : List V → Prop} (h : SqT K H p xs) (q : C xs) : ∃ p' ys, [V.ref p] = [.ref p'] ∧ (SqL K H p' ys ∨ SqT K H p' ys) ∧ C ys := ⟨p, xs, rfl, .inr h, q⟩
theorem d_lenS {C : Str → Prop} {z : Str} (h : z.length ≤ sizeLine) (q : C z) : ∃ z', [V.str z] = [.str z'] ∧ z'.length ≤ sizeLine ∧ C z' := ⟨z, rfl, h, q⟩
theorem d_isN {C : Prop} (q : C) : V.non = .non ∧ C := ⟨rfl, q⟩
-- statements
theorem d_next (h : D.nx σ H) : tNext D σ H := h
theorem d_seq (h : t { D with nx := u D } σ H) : tSeq t u D σ H := h
theorem d_asg {g : TG} (h : te σ H fun x H1 => g x σ H1 D.nx) : tAsg te g D σ H := h
theorem d_drop (h : te σ H fun _ H1 => D.nx σ H1) : tDrop te D σ H := h
theorem d_ret (h : te σ H D.rt) : tRet te D σ H := h
theorem d_retN (h : D.rt .non H) : tRetN D σ H := h
theorem d_ifS (h : tt σ H fun b H1 => if b = true then t D σ H1 else u D σ H1) : tIfS tt t u D σ H := h
theorem d_brk (h : D.bk σ H) : tBreak D σ H := h
theorem d_ct (h : D.ct σ H) : tCont D σ H := h
theorem d_aug {i : Nat} {ti : TIp} (e : σ[i]? = some (some x)) (h : te σ H fun y H1 => ti x y H1 fun z H2 => D.nx (σ.set i (some z)) H2) : tAug i te ti D σ H := ⟨x, e, h⟩
theorem d_gname {i : Nat} {QS : L2.St → Hp → Prop} (h : QS (σ.set i (some v)) H) : gName i v σ H QS := h
theorem d_gnil {QS : L2.St → Hp → Prop} (h : QS σ H) : gNil [] σ H QS := ⟨rfl, h⟩
theorem d_gcons {t : TG} {u : TGs} {vs : List V} {QS : L2.St → Hp → Prop} (h : t v σ H fun σ' H' => u vs σ' H' QS) : gCons t u (v :: vs) σ H QS := ⟨v, vs, rfl, h⟩
theorem d_gtup {t : TGs} {QS : L2.St → Hp → Prop} (h : SqT K H p xs) (hl : xs.length = n) (q : t xs σ H QS) : gTup K n t (.ref p) σ H QS := ⟨p, xs, rfl, h, hl, q⟩
theorem d_gtupm {t : TGs} {QS : L2.St → Hp → Prop} (h : H p = some (.tup xs)) (hl : xs.length = n) (q : t xs σ H QS) : gTup K n t (.ref p) σ H QS := ⟨p, xs, rfl, SqT.of h, hl, q⟩
theorem d_gsub {ti : TE} {s : TSet} {QS : L2.St → Hp → Prop} (h : ta σ H fun o H1 => ti σ H1 fun i H2 => s o i v H2 fun H3 => QS σ H3) : gSub ta ti s v σ H QS := h
-- what is walked
theorem d_for {wi : TI} {g : TG} (h : wi σ H fun J H1 => ∃ W : Nat → Nat → L2.St → Hp → Prop, (∃ m, W 0 m σ H1) ∧ ∀ i m σ H, W i m σ H →
  (J.stop i H ∧ D.nx σ H) ∨ (J.go i H ∧ ∃ N : L2.St → Hp → Prop, (∀ σ' H', N σ' H' → ∃ m', m' < m ∧ W (i + 1) m' σ' H') ∧ ∀ x H', J.yld i H x H' → g x σ H' fun σ2 H2 => t { D with nx := N, ct := N, bk := D.nx } σ2 H2)) : tFor wi g t D σ H := h
theorem d_lc {wi : TI} {g : TG} {vs : List Nat} (h : wi σ H fun J H1 => ∀ D, H1 D = none → ∃ W : Nat → Nat → Hp → Prop, (∃ m, W 0 m (upd H1 D (.lst []))) ∧ ∀ i m H, W i m H →
  (J.stop i H ∧ Q (.ref D) H) ∨ (J.go i H ∧ ∃ Nx : Hp → Prop, (∀ H', Nx H' → ∃ m', m' < m ∧ W (i + 1) m' H') ∧ ∀ x H', J.yld i H x H' → g x (wipe σ vs) H' fun σ2 H2 => wipe σ2 vs = wipe σ vs ∧ tt σ2 H2 fun b H3 =>
    if b = true then te σ2 H3 fun y H4 => ∃ acc, H4 D = some (.lst acc) ∧ acc.length < sizeLine ∧ Nx (upd H4 D (.lst (acc ++ [y]))) else Nx H3)) : tLc wi g tt te vs σ H Q := h
theorem d_iR1 {R : It → Hp → Prop} (h : tr σ H fun vs H1 => ∃ j : Int, vs = [.int j] ∧ -(2 ^ 62) ≤ j ∧ j < 2 ^ 62 ∧ R (Itr 0 j.toNat) H1) : iRng1 tr σ H R := h
theorem d_iR2 {R : It → Hp → Prop} (h : tr σ H fun vs H1 => ∃ i j : Int, vs = [.int i, .int j] ∧ (-(2 ^ 62) ≤ i ∧ i < 2 ^ 62 ∧ -(2 ^ 62) ≤ j ∧ j < 2 ^ 62) ∧ R (Itr i (j - i).toNat) H1) : iRng2 tr σ H R := h
theorem d_iR1e {C : Int → Prop} (h1 : -(2 ^ 62) ≤ j) (h2 : j < 2 ^ 62) (h : C j) : ∃ k : Int, [V.int j] = [.int k] ∧ -(2 ^ 62) ≤ k ∧ k < 2 ^ 62 ∧ C k := ⟨j, rfl, h1, h2, h⟩
theorem d_iR2e {C : Int → Int → Prop} (h1 : -(2 ^ 62) ≤ i ∧ i < 2 ^ 62 ∧ -(2 ^ 62) ≤ j ∧ j < 2 ^ 62) (h : C i j) : ∃ k l : Int, [V.int i, V.int j] = [.int k, .int l] ∧ (-(2 ^ 62) ≤ k ∧ k < 2 ^ 62 ∧ -(2 ^ 62) ≤ l ∧ l < 2 ^ 62) ∧ C k l := ⟨i, j, rfl, h1, h⟩
theorem d_iL {R : It → Hp → Prop} (h : te σ H fun x H1 => ∃ a, x = .ref a ∧ (∃ xs, SqL K H1 a xs) ∧ R (Itl K a) H1) : iList K te σ H R := h
theorem d_iT {R : It → Hp → Prop} (h : te σ H fun x H1 => ∃ a, x = .ref a ∧ (∃ xs, SqT K H1 a xs) ∧ R (Itt K a) H1) : iTup K te σ H R := h
theorem d_iTe {C : Addr → Prop} {a : Addr} (h : SqT K H a xs) (q : C a) : ∃ a', V.ref a = .ref a' ∧ (∃ xs, SqT K H a' xs) ∧ C a' := ⟨a, rfl, ⟨xs, h⟩, q⟩
theorem d_iLe {C : Addr → Prop} {a : Addr} (h : SqL K H a xs) (q : C a) : ∃ a', V.ref a = .ref a' ∧ (∃ xs, SqL K H a' xs) ∧ C a' := ⟨a, rfl, ⟨xs, h⟩, q⟩
theorem d_iS {R : It → Hp → Prop} (h : te σ H fun v H1 => ∃ x, v = .str x ∧ R (Its x) H1) : iStr te σ H R := h
theorem d_iSe {C : Str → Prop} {z : Str} (q : C z) : ∃ x, V.str z = .str x ∧ C x := ⟨z, rfl, q⟩
theorem d_yes (h : QT true H) : tYes σ H QT := h
theorem d_dget1 {td ty : TE} (h : td σ H fun x H1 => ∃ a, x = .ref a ∧ IsD H1 a ∧ ty σ H1 fun y H2 => ∃ o, DGet H2 a y o ∧ Q (o.getD .non) H2) : tDGet1 td ty σ H Q := h
theorem d_dget2 {td ty tx : TE} (h : td σ H fun x H1 => ∃ a, x = .ref a ∧ IsD H1 a ∧ ty σ H1 fun y H2 => tx σ H2 fun z H3 => ∃ o, DGet H3 a y o ∧ Q (o.getD z) H3) : tDGet2 td ty tx σ H Q := h
theorem d_daug {td ty tv : TE} {rd : V → V → Hp → VK → Prop} (h : td σ H fun x H1 => ty σ H1 fun y H2 => ∃ a v, x = .ref a ∧ DGet H2 a y (some v) ∧ tv σ H2 fun y2 H3 => rd v y2 H3 fun z H4 => ∃ H5, DPut H4 a y z H5 ∧ D.nx σ H5) : sDAug td ty tv rd D σ H := h
theorem d_notV (h : ta σ H fun x H1 => ∃ c, x = .bl c ∧ Q (.bl (!c)) H1) : tNotV ta σ H Q := h
theorem d_par {i j : Nat} (h : tr σ H fun vs H1 => ∃ v w, vs = [v, w] ∧ D.nx ((σ.set i (some v)).set j (some w)) H1) : tPar i j tr D σ H := h
theorem d_par2 {C : V → V → Prop} (h : C x y) : ∃ v w, [x, y] = [v, w] ∧ C v w := ⟨x, y, rfl, h⟩
theorem d_dget {td ty : TE} (h : td σ H fun x H1 => ty σ H1 fun y H2 => ∃ a v, x = .ref a ∧ DGet H2 a y (some v) ∧ Q v H2) : tDGet td ty σ H Q := h
theorem d_dput {td ty tv : TE} (h : tv σ H fun v H1 => td σ H1 fun x H2 => ty σ H2 fun y H3 => ∃ a H4, x = .ref a ∧ DPut H3 a y v H4 ∧ D.nx σ H4) : sDPut td ty tv D σ H := h
theorem d_din {td ty : TE} (h : ty σ H fun y H1 => td σ H1 fun x H2 => ∃ a o, x = .ref a ∧ DGet H2 a y o ∧ Q (.bl o.isSome) H2) : tDIn ty td σ H Q := h
theorem d_dnewT (h : ∀ p, H p = none → Q (.ref p) (upd H p (.dT []))) : tDNewT σ H Q := h
theorem d_dnewK (h : ∀ p, H p = none → Q (.ref p) (upd H p (.dK []))) : tDNewK σ H Q := h
theorem iteNT {A B : Prop} (h : B) : if (!true) = true then A else B := h
theorem iteNF {A B : Prop} (h : A) : if (!false) = true then A else B := h
theorem d_cut (M : L2.St → Hp → Prop) (h : t { D with nx := M } σ H) (k : ∀ σ' H', M σ' H' → u D σ' H') : Evl.tCut t u D σ H := ⟨M, h, k⟩
/-- a and b where b only looks -/
theorem if_any {c : Bool} {tb : TE} (hb : ∀ Q' : VK, (∀ b H', Same H H' → Q' (.bl b) H') → tb σ H Q') (q : ∀ b H', Same H H' → Q (.bl b) H') : if c = true then tb σ H Q else Q (.bl false) H := by
  cases c with
  | true => exact iteT (hb Q q)
  | false => exact iteF (q _ _ (Same.refl _))
theorem d_wipe {σ2 σ3 : L2.St} {vs : List Nat} {C : Prop} (e : wipe σ2 vs = wipe σ3 vs) (h : C) : wipe σ2 vs = wipe σ3 vs ∧ C := ⟨e, h⟩
theorem d_lsten (h : tr σ H fun vs H1 => rLstEn K vs H1 Q) : tLstEn K tr σ H Q := h
theorem d_slL {a : Addr} {lo hi : Option Int} (h : SqL K H a xs) (q : ∀ p, H p = none → Q (.ref p) (upd H p (.lst (cutV xs lo hi)))) : rSlL K (.ref a) lo hi H Q := ⟨a, xs, rfl, h, q⟩
theorem d_lrg {tg : L2.St → Hp → (Int → Int → Hp → Prop) → Prop} (h : tg σ H fun a b H1 => RgOk a b ∧ ∀ q, H1 q = none → Q (.ref q) (upd H1 q (.lst (rgV a b)))) : tLstRg tg σ H Q := h
theorem d_rg1 {R : Int → Int → Hp → Prop} (h : te σ H fun x H1 => ∃ n, x = .int n ∧ R 0 n H1) : tRg1 te σ H R := h
end
/-- the law's hand: two whole numbers -/
def Hand (H : Hp) (h : Addr) : Prop := ∃ d m : Int, H h = some (.lst [.int d, .int m]) ∧ 0 ≤ d ∧ 0 ≤ m ∧ m < 2147483587
theorem Hand.same {H H' : Hp} {h : Addr} (x : Hand H h) (s : Same H H') : Hand H' h := by
  obtain ⟨d, m, e, r⟩ := x
  exact ⟨d, m, s _ _ e, r⟩
theorem Hand.ne {H : Hp} {h p : Addr} (x : Hand H h) (n : H p = none) : p ≠ h := by
  obtain ⟨d, m, e, r⟩ := x
  exact (ne_of_none e n).symm
theorem Hand.put {H : Hp} {h p : Addr} {o : HO} (x : Hand H h) (n : p ≠ h) : Hand (upd H p o) h := by
  obtain ⟨d, m, e, r⟩ := x
  exact ⟨d, m, by rw [upd_ne n.symm]; exact e, r⟩
/-- a tuple stays where a list changes -/
theorem Keep.sqt {K : PySem.W.Frag} {h : Addr} {H H' : Hp} {a : Addr} {xs ys : List V} (k : Keep h H H') (e : H h = some (.lst ys)) (q : SqT K H a xs) : SqT K H' a xs := by
  rcases q with (q | ⟨o, q⟩) | q
  · exact .inl (.inl (k _ _ (ne_of q e (by intro z; cases z)) q))
  · exact .inl (.inr ⟨o, k _ _ (ne_of q e (by intro z; cases z)) q⟩)
  · exact .inr q
mutual
theorem dp_same {K : PySem.W.Frag} {H H' : Hp} (s : Same H H') : ∀ (d : PyData) (v : V), Dp K H v d → Dp K H' v d
  | .none, _, h => by cases h; exact .non
  | .bool b, _, h => by cases h; exact .bl b
  | .int i, _, h => by cases h; exact .int i
  | .str x, _, h => by cases h; exact .str x
  | .list ds, _, h => by
    cases h with
    | lst hs ha => exact .lst (Same.seq s hs) (dpa_same s ds _ ha)
  | .tuple ds, _, h => by
    cases h with
    | tup hs ha => exact .tup (Same.sqt s hs) (dpa_same s ds _ ha)
  | .dict _, _, h => by cases h
theorem dpa_same {K : PySem.W.Frag} {H H' : Hp} (s : Same H H') : ∀ (ds : List PyData) (vs : List V), DpAll K H vs ds → DpAll K H' vs ds
  | [], _, h => by cases h; exact .nil
  | d :: ds, _, h => by
    cases h with
    | cons a b => exact .cons (dp_same s d _ a) (dpa_same s ds _ b)
end
theorem dpa_ints {K : PySem.W.Frag} {H : Hp} : ∀ ns : List Int, DpAll K H (ns.map V.int) (ns.map PyData.int)
  | [] => .nil
  | n :: r => .cons (.int n) (dpa_ints r)
theorem shaped_ints (ns : List Int) : SeqAt.shaped (.list (ns.map PyData.int)) = true := PySem.W.ke_shaped_ints ns
/-- one sign -/
abbrev sg (c : Nat) : Str := ⟨#[c]⟩
def Ltr (c : Nat) : Prop := 97 ≤ c ∧ c ≤ 122
abbrev Tie := Nat × Nat × Nat
/-- places' kinds, ties -/
abbrev Web := List Nat × List Tie
def TieAt (K : PySem.W.Frag) (H : Hp) (v : V) (t : Tie) : Prop := ∃ a, v = .ref a ∧ SqT K H a [.int (t.1 : Nat), .int (t.2.1 : Nat), .str (sg t.2.2)]
def WebAt (K : PySem.W.Frag) (H : Hp) (v : V) (w : Web) : Prop := ∃ a b tvs, v = .ref a ∧ SqT K H a [.str ⟨w.1.toArray⟩, .ref b] ∧ SqT K H b tvs ∧ Paired (TieAt K H) tvs w.2
def tlt (s t : Tie) : Prop := s.1 < t.1 ∨ (s.1 = t.1 ∧ s.2.1 < t.2.1)
structure WOk (w : Web) : Prop where
  few : w.1.length ≤ 40
  most : w.2.length ≤ 1600
  kinds : ∀ c ∈ w.1, Ltr c
  rise : w.2.Pairwise tlt
  ends : ∀ t ∈ w.2, t.1 < t.2.1 ∧ t.2.1 < w.1.length ∧ Ltr t.2.2
theorem Paired.imp {α β : Type} {F G : α → β → Prop} {xs : List α} {ys : List β} (p : Paired F xs ys) (h : ∀ a b, F a b → G a b) : Paired G xs ys := by
  induction p with
  | nil => exact .nil
  | cons a _ ih => exact .cons (h _ _ a) ih
theorem TieAt.same {K : PySem.W.Frag} {H H' : Hp} {v : V} {t : Tie} (x : TieAt K H v t) (s : Same H H') : TieAt K H' v t := by
  obtain ⟨a, e, q⟩ := x
  exact ⟨a, e, Same.sqt s q⟩
theorem TieAt.keep {K : PySem.W.Frag} {H H' : Hp} {v : V} {t : Tie} {h : Addr} {ys : List V} (x : TieAt K H v t) (k : Keep h H H') (e : H h = some (.lst ys)) : TieAt K H' v t := by
  obtain ⟨a, e', q⟩ := x
  exact ⟨a, e', k.sqt e q⟩
theorem WebAt.same {K : PySem.W.Frag} {H H' : Hp} {v : V} {w : Web} (x : WebAt K H v w) (s : Same H H') : WebAt K H' v w := by
  obtain ⟨a, b, tvs, e, q1, q2, q3⟩ := x
  exact ⟨a, b, tvs, e, Same.sqt s q1, Same.sqt s q2, Paired.imp q3 fun _ _ z => z.same s⟩
theorem WebAt.keep {K : PySem.W.Frag} {H H' : Hp} {v : V} {w : Web} {h : Addr} {ys : List V} (x : WebAt K H v w) (k : Keep h H H') (e : H h = some (.lst ys)) : WebAt K H' v w := by
  obtain ⟨a, b, tvs, e', q1, q2, q3⟩ := x
  exact ⟨a, b, tvs, e', k.sqt e q1, k.sqt e q2, Paired.imp q3 fun _ _ z => z.keep k e⟩
theorem TieAt.put {K : PySem.W.Frag} {H : Hp} {v : V} {t : Tie} {b : Addr} {o : HO} (x : TieAt K H v t) (n : H b = none ∨ ∃ ys, H b = some (.lst ys)) : TieAt K (upd H b o) v t := by
  obtain ⟨a, e, q⟩ := x
  exact ⟨a, e, sqt_upd n q⟩
theorem WebAt.put {K : PySem.W.Frag} {H : Hp} {v : V} {w : Web} {b : Addr} {o : HO} (x : WebAt K H v w) (n : H b = none ∨ ∃ ys, H b = some (.lst ys)) : WebAt K (upd H b o) v w := by
  obtain ⟨a, b, tvs, e', q1, q2, q3⟩ := x
  exact ⟨a, b, tvs, e', sqt_upd n q1, sqt_upd n q2, Paired.imp q3 fun _ _ z => z.put n⟩
theorem Paired.at {α β : Type} {F : α → β → Prop} : ∀ {xs : List α} {ys : List β}, Paired F xs ys → ∀ {i : Nat} {x : α}, xs[i]? = some x → ∃ y, ys[i]? = some y ∧ F x y
  | _, _, .nil, i, x, h => by cases h
  | _, _, .cons r t, 0, x, h => by
    cases h
    exact ⟨_, rfl, r⟩
  | _, _, .cons r t, i + 1, x, h => Paired.at t h
open TL in
theorem joinL_nil : ∀ ps : List (List Nat), joinL [] ps = ps.flatten
  | [] => rfl
  | [p] => by show p = [p].flatten; simp
  | p :: q :: r => by
    show p ++ ([] ++ joinL [] (q :: r)) = (p :: q :: r).flatten
    rw [joinL_nil (q :: r)]; simp
theorem str_ext {x y : Str} (h : x.cps.toList = y.cps.toList) : x = y := by
  cases x; cases y
  simpa using h
open TL in
theorem join_signs (cs : List Nat) : Txt.join (Str.ofString "") (cs.map sg) = ⟨cs.toArray⟩ := by
  rw [join_eq]
  apply str_ext
  show tl (Str.join (Str.ofString "") (cs.map sg)) = cs
  rw [tl_join, show tl (Str.ofString "") = [] from by decide +kernel, joinL_nil, List.map_map]
  induction cs with
  | nil => rfl
  | cons c r ih =>
    rw [List.map_cons, List.flatten_cons, ih]
    rfl
theorem sum_const {α : Type} (f : α → Nat) (n : Nat) : ∀ l : List α, (∀ x ∈ l, f x = n) → (l.map f).sum = l.length * n
  | [], _ => by simp
  | a :: r, h => by
    rw [List.map_cons, List.sum_cons, sum_const f n r fun x hx => h x (List.mem_cons_of_mem _ hx), h a List.mem_cons_self, List.length_cons, Nat.succ_mul]
    omega
theorem sz {n : Nat} (h : n ≤ 100000) : n ≤ sizeLine := Nat.le_trans h (by decide)
theorem szl {n : Nat} (h : n ≤ 100000) : n < sizeLine := Nat.lt_of_le_of_lt h (by decide)
end Cw

/-! itertools.combinations(xs, 2), at the library's level -/
namespace CwCmb
open PySem PySem.Spec
abbrev cwT : String := "itertools.combinations"
theorem mro_cmb : mroOf (.type cwT) = pure [.type cwT, .type "object"] := by (rw [mroOf_type]); kernel_rfl
theorem lookup_cmb_new : typeLookup (.type cwT) "__new__" = pure (some (.builtin "itertools.combinations.__new__")) := (by (rw [typeLookup_type]; rw [builtinLookup_eq_fast]); kernel_rfl)
theorem sub_cmb : isSubtype (.type cwT) (.type cwT) = pure true := by (rw [isSubtype_type]); kernel_rfl
theorem noDict_cmb : typeHasDict (.type cwT) = false := (by decide +kernel)
theorem slot_cmb_init : Slot cwT "__init__" "object.__init__" :=
  Slot.of (n := "__init__") (owner := "object") (by (rw [typeLookup_type]; rw [builtinLookup_eq_fast]); kernel_rfl) (by decide +kernel) (by decide +kernel) (by decide +kernel) (by first | exact Or.inl (by decide +kernel) | exact Or.inr (by decide +kernel)) (by (rw [isSubtype_type]); kernel_rfl)
theorem called_cmb : TypeCalled cwT "itertools.combinations.__new__" "object.__init__" :=
  have made := madeBy_type mro_cmb lookup_cmb_new (by decide +kernel)
  ⟨(by decide +kernel), (by decide +kernel), ⟨_, _, mro_cmb⟩, made, (by decide +kernel), sub_cmb, slot_cmb_init⟩
theorem typeCall_cmb_2 (a b : Value) : checkTypeCall cwT ⟨[a, b], []⟩ = pure () := by kernel_rfl
theorem newCall_cmb_2 (a b : Value) : checkBuiltinCall "itertools.combinations.__new__" ⟨[.type cwT, a, b], []⟩ = pure () := by kernel_rfl
theorem entry_cmb_new : entryFor table "itertools.combinations.__new__" = some Builtin.«itertools.combinations.__new__» := entryFor_of_tree (by kernel_rfl)
theorem slot_cmb_iter : Slot cwT "__iter__" "itertools.combinations.__iter__" := Slot.of (n := "__iter__") (owner := cwT) (by (rw [typeLookup_type]; rw [builtinLookup_eq_fast]); kernel_rfl) (by decide +kernel) (by decide +kernel) (by decide +kernel) (by first | exact Or.inl (by decide +kernel) | exact Or.inr (by decide +kernel)) sub_cmb
theorem slot_cmb_next : Slot cwT "__next__" "itertools.combinations.__next__" := Slot.of (n := "__next__") (owner := cwT) (by (rw [typeLookup_type]; rw [builtinLookup_eq_fast]); kernel_rfl) (by decide +kernel) (by decide +kernel) (by decide +kernel) (by first | exact Or.inl (by decide +kernel) | exact Or.inr (by decide +kernel)) sub_cmb
theorem entry_cmb_iter : entryFor table "itertools.combinations.__iter__" = some Builtin.«dict_keyiterator.__iter__» :=
  entryFor_alias (by kernel_rfl) (by first | decide +kernel | rfl) (by decide +kernel) (id' := "dict_keyiterator.__iter__") (by kernel_rfl)
theorem entry_cmb_next : entryFor table "itertools.combinations.__next__" = some Builtin.«itertools.combinations.__next__» := entryFor_of_tree (by kernel_rfl)
theorem owner_cmb : Manifest.owners.lookup (String.ofList ['s', 'n', 'o', 'i', 't', 'a', 'n', 'i', 'b', 'm', 'o', 'c', '.', 's', 'l', 'o', 'o', 't', 'r', 'e', 't', 'i'].reverse) = some Manifest.sig_itertools_combinations := by kernel_rfl
theorem args_cmb_iter (a : Value) : argsOk "itertools.combinations.__iter__" ⟨[a], []⟩ := by
  unfold argsOk
  rw [signature?_of (id := "itertools.combinations.__iter__") (o := ['s', 'n', 'o', 'i', 't', 'a', 'n', 'i', 'b', 'm', 'o', 'c', '.', 's', 'l', 'o', 'o', 't', 'r', 'e', 't', 'i']) (n := ['_', '_', 'r', 'e', 't', 'i', '_', '_']) (by kernel_rfl) owner_cmb]
  kernel_rfl
theorem args_cmb_next (a : Value) : argsOk "itertools.combinations.__next__" ⟨[a], []⟩ := by
  unfold argsOk
  rw [signature?_of (id := "itertools.combinations.__next__") (o := ['s', 'n', 'o', 'i', 't', 'a', 'n', 'i', 'b', 'm', 'o', 'c', '.', 's', 'l', 'o', 'o', 't', 'r', 'e', 't', 'i']) (n := ['_', '_', 't', 'x', 'e', 'n', '_', '_']) (by kernel_rfl) owner_cmb]
  kernel_rfl

/-- a tuple's object -/
abbrev IsPool (h : Heap) (p : Addr) (xs : Array Value) : Prop := ∃ n, h.get? p = some { cls := .type "tuple", dict := none, data := .seq xs n, slots := #[] }
/-- a combinations object, of two: its pool, where it is, its last, its places -/
abbrev IsCmb (h : Heap) (it p : Addr) (st : Int) (last : Value) (i j : Nat) : Prop := h.get? it = some { cls := .type "itertools.combinations", dict := none, data := .fields #[.ref p, .int st 0, last, .int i 0, .int j 0], slots := #[] }

section
variable {prog : Program} {w : World} {A : Around} {E : Value → Shared → Prop} {s : Shared}
theorem iter_cmb {it p : Addr} {st : Int} {last : Value} {i j : Nat} {Q : Value → Shared → Prop} (hit : IsCmb s.heap it p st last i j) (h : Q (.ref it) s) : wpAny (model prog w) A (pyIter (.ref it)) Q E s := by
  have hT : s.TypeIs (.ref it) "itertools.combinations" := ⟨_, hit, rfl⟩
  have said := args_cmb_iter (.ref it)
  refine wpAny_pyIter_slot hT slot_cmb_iter (wpAny_call_entry slot_cmb_iter hT entry_cmb_iter ?_ said)
  have nx := slot_cmb_next.lookup
  exact wpAny_pure ⟨_, rfl, cwT, _, hT, nx, h⟩
end
end CwCmb

namespace CwCmb
open PySem PySem.Spec
open Sem (wp)
def poolO (items : List Value) : Obj := { cls := .type "tuple", data := .seq items.toArray }
def cmbO (p : Addr) (n : Nat) : Obj := { cls := .type "itertools.combinations", data := .fields #[.ref p, .int (if 2 > n then 2 else 0) 0, .none, .int (0 : Nat) 0, .int (1 : Nat) 0] }
theorem meets_cmb_new (l : Addr) (t : Tok) :
    Meets (Builtin.«itertools.combinations.__new__» ⟨[.type "itertools.combinations", .ref l, .int 2 t], []⟩)
      (fun A R s => ∃ (o : Obj) (items : Array Value) (n : Nat), s.heap.get? l = some o ∧ o.cls = .type "list" ∧ o.data = .seq items n ∧ items.size ≤ 100000 ∧ ∀ h' : Heap, (∀ b o', s.heap.get? b = some o' → h'.get? b = some o') →
        R (.ok (.ret (.ref (h'.objs.size + 1)))) { s with heap := (h'.push (poolO items.toList)).push (cmbO h'.objs.size items.size) }) :=
  .of_wp fun prog w A R s h => by
    obtain ⟨o, items, n, ho, hc, hd, hz, h⟩ := h
    obtain ⟨hp, g, dd, tk, os⟩ := s
    have hsub := sub_cmb
    have hd' := noDict_cmb
    repeat (first
      | wp_step
      | simp only [List.head?_cons, Option.some_or, List.getElem?_cons_succ, List.getElem?_cons_zero, List.length_cons, List.length_nil, List.forIn_nil])
    refine wpAny_of_eq (a := true) (by rw [show ("itertools." ++ "combinations" : String) = "itertools.combinations" by decide +kernel]; exact hsub) ?_
    repeat (first
      | (refine wpAny_bind (wpAny_collect_seq l (.inl rfl) ho hc hd (fun h' k => ?_) (Nat.le_trans hz (by decide))))
      | (refine wpAny_bind (wpAny_newTuple (items := items.toList) ?_ (by rw [Array.length_toList]; exact Nat.le_trans hz (by decide))))
      | wp_step
      | simp only [List.head?_cons, Option.some_or, List.getElem?_cons_succ, List.getElem?_cons_zero, List.length_cons, List.length_nil, List.forIn_nil])
    refine ⟨_, rfl, ?_⟩
    have z := h h' k
    rw [← Array.length_toList] at z
    rw [Heap.size_push]
    exact z
end CwCmb

namespace CwCmb
open PySem PySem.Spec
open Sem (wp)
/-- the first of two places that is not at its end -/
theorem pick_two (p : Nat → Bool) (g : Nat → List Nat) : (match ([1, 0] : List Nat).find? p with
    | none => none
    | some k => some (g k)) = if p 1 = true then some (g 1) else if p 0 = true then some (g 0) else none := by
  by_cases h1 : p 1 = true
  · rw [if_pos h1, List.find?_cons_of_pos h1]
  · rw [if_neg h1, List.find?_cons_of_neg h1]
    by_cases h0 : p 0 = true
    · rw [if_pos h0, List.find?_cons_of_pos h0]
    · rw [if_neg h0, List.find?_cons_of_neg h0]; rfl
/-- the pair behind (i, j), of n things -/
def nextC (n i j : Nat) : Option (Nat × Nat) := if j ≠ n - 1 then some (i, j + 1) else if i ≠ n - 2 then some (i + 1, i + 2) else none
theorem two_next {n i j : Nat} (hn : 2 ≤ n) : (if (j != 1 + n - 2) = true then some [i, j + 1 + 0] else if (i != 0 + n - 2) = true then some [i + 1 + 0, i + 1 + 1] else none) = (nextC n i j).map fun q => [q.1, q.2] := by
  have e1 : 1 + n - 2 = n - 1 := by omega
  have e0 : 0 + n - 2 = n - 2 := by omega
  rw [e1, e0]
  unfold nextC
  by_cases hj : j = n - 1
  · rw [if_neg (c := (j != n - 1) = true) (by simp [hj]), if_neg (c := j ≠ n - 1) (fun z => z hj)]
    by_cases hi : i = n - 2
    · rw [if_neg (c := (i != n - 2) = true) (by simp [hi]), if_neg (c := i ≠ n - 2) (fun z => z hi)]; rfl
    · rw [if_pos (c := (i != n - 2) = true) (by simp [hi]), if_pos (c := i ≠ n - 2) hi]; rfl
  · rw [if_pos (c := (j != n - 1) = true) (by simp [hj]), if_pos (c := j ≠ n - 1) hj]; rfl
section
variable {prog : Program} {w : World} {A : Around} {E : Value → Shared → Prop} {s : Shared}
theorem pool_ok {p : Addr} {xs : Array Value} {Q : Array Value → Shared → Prop} (hp : IsPool s.heap p xs) (h : Q xs s) : wpAny (model prog w) A (Builtin.Itertools.itPoolItems (.ref p)) Q E s := by
  obtain ⟨n, hp⟩ := hp
  simp only [Builtin.Itertools.itPoolItems]
  exact wpAny_bind (wpAny_seqItems hp rfl (wpAny_pure h))
theorem numbers_ok {it p : Addr} {st : Int} {last : Value} {i j : Nat} {Q : List Nat → Shared → Prop} (hit : IsCmb s.heap it p st last i j) (h : Q [i, j] s) : wpAny (model prog w) A (Builtin.Itertools.itNumbersFrom (.ref it) 3) Q E s := by
  simp only [Builtin.Itertools.itNumbersFrom]
  refine wpAny_bind (wpAny_load hit ?_)
  exact wpAny_pure h
theorem int_ok {it p : Addr} {st : Int} {last : Value} {i j : Nat} {Q : Int → Shared → Prop} (hit : IsCmb s.heap it p st last i j) (h : Q st s) : wpAny (model prog w) A (Builtin.Itertools.itIntField (.ref it) 1) Q E s := by
  simp only [Builtin.Itertools.itIntField]
  exact wpAny_bind (wpAny_field hit rfl (x := .int st 0) rfl (wpAny_pure h))
theorem hand_ok {it p : Addr} {st : Int} {last : Value} {i j a b : Nat} {xs : Array Value} {Q : PySem.Fin → Shared → Prop} (hit : IsCmb s.heap it p st last i j) (hp : IsPool s.heap p xs)
    (hQ : ∀ h' : Heap, IsCmb h' it p st (.ref s.heap.objs.size) i j → h'.get? s.heap.objs.size = some { cls := .type "tuple", data := .seq #[xs.getD a .none, xs.getD b .none] } → (∀ c o, c ≠ it → s.heap.get? c = some o → h'.get? c = some o) → Q (.done (.ret (.ref s.heap.objs.size))) { s with heap := h' }) :
    wpAny (model prog w) A ((Builtin.Itertools.itPoolItems (.ref p) >>= fun us => newTuple [us.getD a .none, us.getD b .none]) >>= fun T => field (.ref it) 2 >>= fun v => setField (.ref it) 2 T >>= fun _ => letGo [v] [T] >>= fun _ => ret T) Q E s := by
  refine wpAny_bind (wpAny_bind (pool_ok hp (wpAny_newTuple ?_ (by show 2 ≤ sizeLine; decide))))
  have hit1 : IsCmb (s.heap.push { cls := .type "tuple", data := .seq #[xs.getD a .none, xs.getD b .none] }) it p st last i j := Heap.get?_push_of_some _ hit
  have hT1 : (s.heap.push { cls := .type "tuple", data := .seq #[xs.getD a .none, xs.getD b .none] }).get? s.heap.objs.size = some { cls := .type "tuple", data := .seq #[xs.getD a .none, xs.getD b .none] } := Heap.get?_push_size _ rfl
  have ne : s.heap.objs.size ≠ it := Nat.ne_of_gt (Heap.lt_size hit)
  refine wpAny_bind (wpAny_field hit1 rfl (x := last) rfl ?_)
  refine wpAny_bind (wpAny_setField hit1 rfl (by show 2 < 5; decide) ?_)
  refine wpAny_bind (wpAny_letGo ?_)
  have sb := Heap.SameBut.update (a := it) (h := s.heap.push { cls := .type "tuple", data := .seq #[xs.getD a .none, xs.getD b .none] }) (f := Obj.mapFields fun x => x.setIfInBounds 2 (.ref s.heap.objs.size))
  refine wpAny_pure (hQ _ (Heap.get?_update_self _ hit1 rfl) ((sb.2 _ ne).trans hT1) fun c o hc e => (sb.2 c hc).trans (Heap.get?_push_of_some _ e))
/-- the first pair -/
theorem cmb_first {it p : Addr} {xs : Array Value} {last : Value} {i j : Nat} {Q : Option Value → Shared → Prop} (hit : IsCmb s.heap it p 0 last i j) (hp : IsPool s.heap p xs) (hpi : p ≠ it)
    (hQ : ∀ h' : Heap, IsCmb h' it p 1 (.ref s.heap.objs.size) i j → h'.get? s.heap.objs.size = some { cls := .type "tuple", data := .seq #[xs.getD i .none, xs.getD j .none] } → (∀ b o, b ≠ it → s.heap.get? b = some o → h'.get? b = some o) → Q (some (.ref s.heap.objs.size)) { s with heap := h' }) : wpAny (model prog w) A (pyNext (.ref it)) Q E s := by
  have hT : s.TypeIs (.ref it) "itertools.combinations" := ⟨_, hit, rfl⟩
  unfold pyNext
  refine wpAny_bind (wpAny_attempt (wpAny_callSpecial?_slot (name := Str.ofString "__next__") hT slot_cmb_next (wpAny_call_entry slot_cmb_next hT entry_cmb_next ?_ (args_cmb_next _))))
  show wpAny _ _ ((field (.ref it) 0 >>= _)) _ _ s
  refine wpAny_bind (wpAny_field hit rfl (x := .ref p) rfl ?_)
  show wpAny _ _ (Builtin.Itertools.itNumbersFrom (.ref it) 3 >>= _) _ _ s
  refine wpAny_bind (numbers_ok hit ?_)
  show wpAny _ _ (Builtin.Itertools.itIntField (.ref it) 1 >>= _) _ _ s
  refine wpAny_bind (int_ok hit ?_)
  show wpAny _ _ (setField (.ref it) 1 (rawInt 1) >>= _) _ _ s
  refine wpAny_bind (wpAny_setField hit rfl (by show 1 < 5; decide) ?_)
  have hit1 : IsCmb (s.heap.update it (Obj.mapFields fun x => x.setIfInBounds 1 (rawInt 1))) it p 1 last i j := Heap.get?_update_self _ hit rfl
  have sb := Heap.SameBut.update (a := it) (h := s.heap) (f := Obj.mapFields fun x => x.setIfInBounds 1 (rawInt 1))
  have hp1 : IsPool (s.heap.update it (Obj.mapFields fun x => x.setIfInBounds 1 (rawInt 1))) p xs := by
    obtain ⟨n, hp⟩ := hp
    exact ⟨n, (sb.2 p hpi).trans hp⟩
  refine hand_ok hit1 hp1 fun h' z1 z2 z3 => ?_
  rw [show ({ s with heap := s.heap.update it (Obj.mapFields fun x => x.setIfInBounds 1 (rawInt 1)) } : Shared).heap.objs.size = s.heap.objs.size from sb.1] at z1 z2 ⊢
  exact ⟨_, rfl, wpAny_pure (hQ h' z1 z2 fun b o nb e => z3 b o nb ((sb.2 b nb).trans e))⟩
/-- the next pair -/
theorem cmb_next {it p : Addr} {xs : Array Value} {last : Value} {i j i' j' : Nat} {Q : Option Value → Shared → Prop} (hit : IsCmb s.heap it p 1 last i j) (hp : IsPool s.heap p xs) (hpi : p ≠ it) (h2 : 2 ≤ xs.size) (hn : nextC xs.size i j = some (i', j'))
    (hQ : ∀ h' : Heap, IsCmb h' it p 1 (.ref s.heap.objs.size) i' j' → h'.get? s.heap.objs.size = some { cls := .type "tuple", data := .seq #[xs.getD i' .none, xs.getD j' .none] } → (∀ b o, b ≠ it → s.heap.get? b = some o → h'.get? b = some o) → Q (some (.ref s.heap.objs.size)) { s with heap := h' }) : wpAny (model prog w) A (pyNext (.ref it)) Q E s := by
  have hT : s.TypeIs (.ref it) "itertools.combinations" := ⟨_, hit, rfl⟩
  unfold pyNext
  refine wpAny_bind (wpAny_attempt (wpAny_callSpecial?_slot (name := Str.ofString "__next__") hT slot_cmb_next (wpAny_call_entry slot_cmb_next hT entry_cmb_next ?_ (args_cmb_next _))))
  show wpAny _ _ ((field (.ref it) 0 >>= _)) _ _ s
  refine wpAny_bind (wpAny_field hit rfl (x := .ref p) rfl ?_)
  show wpAny _ _ (Builtin.Itertools.itNumbersFrom (.ref it) 3 >>= _) _ _ s
  refine wpAny_bind (numbers_ok hit ?_)
  show wpAny _ _ (Builtin.Itertools.itIntField (.ref it) 1 >>= _) _ _ s
  refine wpAny_bind (int_ok hit ?_)
  show wpAny _ _ (Builtin.Itertools.itPoolItems (.ref p) >>= _) _ _ s
  refine wpAny_bind (pool_ok hp ?_)
  have key := (two_next (i := i) (j := j) h2).trans (congrArg (Option.map fun q : Nat × Nat => [q.1, q.2]) hn)
  split
  rotate_left
  · rename_i heq
    have e2 : none = some [i', j'] := heq.symm.trans ((pick_two _ _).trans key)
    cases e2
  rename_i nx heq
  have e2 : some nx = some [i', j'] := heq.symm.trans ((pick_two _ _).trans key)
  cases e2
  show wpAny _ _ (updateFields it _ >>= _) _ _ s
  refine wpAny_bind (wpAny_updateFields hit rfl ?_ (by show 5 ≤ sizeLine + 3; decide))
  have sb := Heap.SameBut.update (a := it) (h := s.heap) (f := Obj.mapFields fun fs => fs.extract 0 3 ++ ([i', j'].map fun (n : Nat) => rawInt n).toArray)
  have hit1 : IsCmb (s.heap.update it (Obj.mapFields fun fs => fs.extract 0 3 ++ ([i', j'].map fun (n : Nat) => rawInt n).toArray)) it p 1 last i' j' := Heap.get?_update_self _ hit rfl
  have hp1 : IsPool (s.heap.update it (Obj.mapFields fun fs => fs.extract 0 3 ++ ([i', j'].map fun (n : Nat) => rawInt n).toArray)) p xs := by
    obtain ⟨n, hp⟩ := hp
    exact ⟨n, (sb.2 p hpi).trans hp⟩
  refine hand_ok hit1 hp1 fun h' z1 z2 z3 => ?_
  rw [show ({ s with heap := s.heap.update it (Obj.mapFields fun fs => fs.extract 0 3 ++ ([i', j'].map fun (n : Nat) => rawInt n).toArray) } : Shared).heap.objs.size = s.heap.objs.size from sb.1] at z1 z2 ⊢
  exact ⟨_, rfl, wpAny_pure (hQ h' z1 z2 fun b o nb e => z3 b o nb ((sb.2 b nb).trans e))⟩
/-- the stop's exception is raised -/
theorem stopped {α : Type} {Q : α → Shared → Prop} (hh : A.handled = none)
    (hQ : ∀ (e : Value) (h' : Heap), ({ s with heap := h' } : Shared).TypeIs e "StopIteration" → (∀ b o, s.heap.get? b = some o → h'.get? b = some o) → E e { s with heap := h' }) :
    wpAny (model prog w) A.in1 (Builtin.Itertools.itStop (α := α)) Q E s := by
  unfold Builtin.Itertools.itStop
  apply wpAny_bind
  simp only [newExc, newTuple]
  apply wpAny_bind
  refine wpAny_newObj_type ?_ (by size_fits)
  apply wpAny_bind (m := firstArgMember _ _)
  refine wpAny_of_eq (by first | rfl | (simp only [firstArgMember]; rfl)) (a := Value.none) ?_
  refine wpAny_newObj_type ?_ (by size_fits)
  simp only [raiseNew]
  apply wpAny_bind
  apply wpAny_handled
  rw [show A.in1.handled = none from hh]
  refine wpAny_throw (hQ _ _ ⟨_, Heap.get?_push_size _ rfl, rfl⟩ fun b o e => ?_)
  exact Heap.get?_push_of_some _ (Heap.get?_push_of_some _ e)
theorem cmb_end1 {it p : Addr} {xs : Array Value} {last : Value} {i j : Nat} {Q : Option Value → Shared → Prop} (hh : A.handled = none) (hit : IsCmb s.heap it p 1 last i j) (hp : IsPool s.heap p xs) (hpi : p ≠ it) (h2 : 2 ≤ xs.size) (hn : nextC xs.size i j = none)
    (hQ : ∀ h' : Heap, Heap.ExtBut it s.heap h' → Q none { s with heap := h' }) : wpAny (model prog w) A (pyNext (.ref it)) Q E s := by
  have hT : s.TypeIs (.ref it) "itertools.combinations" := ⟨_, hit, rfl⟩
  unfold pyNext
  refine wpAny_bind (wpAny_attempt (wpAny_callSpecial?_slot (name := Str.ofString "__next__") hT slot_cmb_next (wpAny_call_entry slot_cmb_next hT entry_cmb_next ?_ (args_cmb_next _))))
  show wpAny _ _ ((field (.ref it) 0 >>= _)) _ _ s
  refine wpAny_bind (wpAny_field hit rfl (x := .ref p) rfl ?_)
  show wpAny _ _ (Builtin.Itertools.itNumbersFrom (.ref it) 3 >>= _) _ _ s
  refine wpAny_bind (numbers_ok hit ?_)
  show wpAny _ _ (Builtin.Itertools.itIntField (.ref it) 1 >>= _) _ _ s
  refine wpAny_bind (int_ok hit ?_)
  show wpAny _ _ (Builtin.Itertools.itPoolItems (.ref p) >>= _) _ _ s
  refine wpAny_bind (pool_ok hp ?_)
  have key := (two_next (i := i) (j := j) h2).trans (congrArg (Option.map fun q : Nat × Nat => [q.1, q.2]) hn)
  split
  · rename_i nx heq
    have e2 : some nx = none := heq.symm.trans ((pick_two _ _).trans key)
    cases e2
  show wpAny _ _ (setField (.ref it) 1 (rawInt 2) >>= _) _ _ s
  refine wpAny_bind (wpAny_setField hit rfl (by show 1 < 5; decide) ?_)
  refine stopped (A := A) hh fun e h' ht hk => ?_
  refine wpAny_bind (wpAny_isInstance (b := true) (T := "StopIteration") ht isSubtype_stop ?_)
  exact wpAny_pure (hQ _ fun b o nb e => hk b o ((Heap.SameBut.extBut (Heap.SameBut.update ..)) b o nb e))
theorem cmb_end2 {it p : Addr} {last : Value} {i j : Nat} {Q : Option Value → Shared → Prop} (hh : A.handled = none) (hit : IsCmb s.heap it p 2 last i j)
    (hQ : ∀ h' : Heap, Heap.ExtBut it s.heap h' → Q none { s with heap := h' }) : wpAny (model prog w) A (pyNext (.ref it)) Q E s := by
  have hT : s.TypeIs (.ref it) "itertools.combinations" := ⟨_, hit, rfl⟩
  unfold pyNext
  refine wpAny_bind (wpAny_attempt (wpAny_callSpecial?_slot (name := Str.ofString "__next__") hT slot_cmb_next (wpAny_call_entry slot_cmb_next hT entry_cmb_next ?_ (args_cmb_next _))))
  show wpAny _ _ ((field (.ref it) 0 >>= _)) _ _ s
  refine wpAny_bind (wpAny_field hit rfl (x := .ref p) rfl ?_)
  show wpAny _ _ (Builtin.Itertools.itNumbersFrom (.ref it) 3 >>= _) _ _ s
  refine wpAny_bind (numbers_ok hit ?_)
  show wpAny _ _ (Builtin.Itertools.itIntField (.ref it) 1 >>= _) _ _ s
  refine wpAny_bind (int_ok hit ?_)
  show wpAny _ _ (rule "itertools.combinations.ended" >>= fun _ => Builtin.Itertools.itStop) _ _ s
  refine wpAny_bind (wpAny_rule ?_)
  refine stopped (A := A) hh fun e h' ht hk => ?_
  refine wpAny_bind (wpAny_isInstance (b := true) (T := "StopIteration") ht isSubtype_stop ?_)
  exact wpAny_pure (hQ _ fun b o _ e => hk b o e)
end
end CwCmb

namespace CwCmb
open PySem PySem.Spec
section
variable {prog : Program} {w : World} {A : Around} {E : Value → Shared → Prop} {s : Shared}
theorem call_cmb {l : Addr} {t : Tok} {items : Array Value} {Q : Value → Shared → Prop} (hl : s.heap.IsList l items) (hz : items.size ≤ 100000)
    (h : ∀ h0 h' : Heap, (∀ b o, s.heap.get? b = some o → h0.get? b = some o) → (∀ b o, h0.get? b = some o → h'.get? b = some o) → IsCmb h' (h0.objs.size + 1) h0.objs.size (if 2 > items.size then 2 else 0) .none 0 1 → IsPool h' h0.objs.size items → Q (.ref (h0.objs.size + 1)) { s with heap := h' }) :
    wpAny (model prog w) A (call (.type "itertools.combinations") [.ref l, .int 2 t]) Q E s := by
  obtain ⟨o, ho, hc, n, hd⟩ := hl
  refine callType_new called_cmb (by decide +kernel) (typeCall_cmb_2 _ _) (newCall_cmb_2 _ _) (fun obj => F.args_object_init_3 obj _ _) entry_cmb_new (meets_cmb_new l t) ?_
  refine ⟨o, items, n, ho, hc, hd, hz, fun h' k => ?_⟩
  have sz1 : (h'.push (poolO items.toList)).objs.size = h'.objs.size + 1 := Heap.size_push ..
  have e1 : ((h'.push (poolO items.toList)).push (cmbO h'.objs.size items.size)).get? (h'.objs.size + 1) = some (cmbO h'.objs.size items.size) := by
    have := Heap.get?_push_size (h'.push (poolO items.toList)) (o := cmbO h'.objs.size items.size) rfl
    rwa [sz1] at this
  have e2 : ((h'.push (poolO items.toList)).push (cmbO h'.objs.size items.size)).get? h'.objs.size = some (poolO items.toList) := Heap.get?_push_of_some _ (Heap.get?_push_size _ rfl)
  show _ ∧ _
  exact ⟨⟨_, e1, rfl⟩, h h' _ k (fun b o' e => Heap.get?_push_of_some _ (Heap.get?_push_of_some _ e)) e1 ⟨_, e2⟩⟩
end
/-! ### the pairs in their order -/
def stepC (n : Nat) (p : Nat × Nat) : Option (Nat × Nat) := if p.2 ≠ n - 1 then some (p.1, p.2 + 1) else if p.1 ≠ n - 2 then some (p.1 + 1, p.1 + 2) else none
def cmb (n : Nat) : Nat → Option (Nat × Nat)
  | 0 => if 2 ≤ n then some (0, 1) else none
  | k + 1 => (cmb n k).bind (stepC n)
theorem cmb_lt {n : Nat} : ∀ {k i j : Nat}, cmb n k = some (i, j) → i < j ∧ j < n ∧ 2 ≤ n
  | 0, i, j, h => by
    unfold cmb at h
    by_cases c : 2 ≤ n
    · rw [if_pos c] at h; cases h; omega
    · rw [if_neg c] at h; cases h
  | k + 1, i, j, h => by
    unfold cmb at h
    obtain ⟨q, hq, h⟩ := Option.bind_eq_some_iff.mp h
    obtain ⟨h1, h2, h3⟩ := cmb_lt (i := q.1) (j := q.2) hq
    unfold stepC at h
    by_cases c : q.2 ≠ n - 1
    · rw [if_pos c] at h; cases h; omega
    · rw [if_neg c] at h
      by_cases c2 : q.1 ≠ n - 2
      · rw [if_pos c2] at h; cases h; omega
      · rw [if_neg c2] at h; cases h
/-- all pairs come -/
theorem cmb_row {n i k : Nat} (h : cmb n k = some (i, i + 1)) : ∀ d, i + 1 + d < n → cmb n (k + d) = some (i, i + 1 + d)
  | 0, _ => h
  | d + 1, hd => by
    show (cmb n (k + d)).bind (stepC n) = _
    rw [cmb_row h d (by omega)]
    show stepC n (i, i + 1 + d) = _
    unfold stepC
    rw [if_pos (by show i + 1 + d ≠ n - 1; omega)]; rfl
theorem cmb_head {n : Nat} : ∀ i, i + 1 < n → ∃ k, cmb n k = some (i, i + 1)
  | 0, h => ⟨0, by unfold cmb; rw [if_pos (by omega)]⟩
  | i + 1, h => by
    obtain ⟨k, hk⟩ := cmb_head (n := n) i (by omega)
    have z := cmb_row hk (n - 2 - i) (by omega)
    refine ⟨k + (n - 2 - i) + 1, ?_⟩
    show (cmb n (k + (n - 2 - i))).bind (stepC n) = _
    rw [z]
    show stepC n (i, i + 1 + (n - 2 - i)) = _
    unfold stepC
    rw [if_neg (by show ¬ (i + 1 + (n - 2 - i) ≠ n - 1); omega), if_pos (by show i ≠ n - 2; omega)]
theorem cmb_all {n i j : Nat} (h1 : i < j) (h2 : j < n) : ∃ k, cmb n k = some (i, j) := by
  obtain ⟨k, hk⟩ := cmb_head (n := n) i (by omega)
  refine ⟨k + (j - i - 1), ?_⟩
  rw [cmb_row hk (j - i - 1) (by omega)]
  congr 2; omega
theorem cmb_none {n k : Nat} (h : cmb n k = none) : ∀ d, cmb n (k + d) = none
  | 0 => h
  | d + 1 => by
    show (cmb n (k + d)).bind (stepC n) = none
    rw [cmb_none h d]; rfl
/-- how much is left -/
def leftC (n : Nat) : Option (Nat × Nat) → Nat
  | none => 0
  | some p => (n - p.1) * (n + 1) + (n - p.2) + 1
theorem leftC_lt {n k : Nat} {p : Nat × Nat} (h : cmb n k = some p) : leftC n (cmb n (k + 1)) < leftC n (cmb n k) := by
  obtain ⟨h1, h2, h3⟩ := cmb_lt (i := p.1) (j := p.2) h
  show leftC n ((cmb n k).bind (stepC n)) < _
  rw [h]
  show leftC n (stepC n p) < (n - p.1) * (n + 1) + (n - p.2) + 1
  unfold stepC
  split
  · show (n - p.1) * (n + 1) + (n - (p.2 + 1)) + 1 < _
    omega
  · split
    · show (n - (p.1 + 1)) * (n + 1) + (n - (p.1 + 2)) + 1 < _
      have e : n - p.1 = (n - (p.1 + 1)) + 1 := by omega
      rw [e, Nat.succ_mul]
      omega
    · exact Nat.succ_pos _
end CwCmb
namespace Cw
open PySem PySem.Spec PyProof.Rows L2 CwCmb
def Itcb (xs : List V) : It := ⟨fun k _ => ∃ p, cmb xs.length k = some p, fun k H v H' => ∃ T i j x y, v = .ref T ∧ H T = none ∧ H' = upd H T (.tup [x, y]) ∧ cmb xs.length k = some (i, j) ∧ xs[i]? = some x ∧ xs[j]? = some y, fun k _ => cmb xs.length k = none⟩
theorem vals_at {xs : List V} {us : List Value} (r : Vals xs us) {i : Nat} {x : V} (h : xs[i]? = some x) : ∃ u, us[i]? = some u ∧ RelV x u := by
  obtain ⟨u, h1, h2⟩ := Paired.at r h
  exact ⟨u, h1, h2⟩
theorem turn_cmb {P : Program} {w : World} {K : PySem.W.Frag} {tg : Expr} (it p : Addr) (xs : List V) (us : List Value) (r : Vals xs us) :
    Turn P w K tg (Itcb xs) [it, p] it (fun k h => IsPool h p us.toArray ∧ p ≠ it ∧ ((k = 0 ∧ IsCmb h it p (if 2 > us.toArray.size then 2 else 0) .none 0 1) ∨ ∃ k' i j last, k = k' + 1 ∧ cmb xs.length k' = some (i, j) ∧ IsCmb h it p 1 last i j)) where
  mem := by simp
  obj := fun k h st b hb => by
    obtain ⟨⟨n, hp⟩, _, st⟩ := st
    have e' : b = it ∨ b = p := by simpa using hb
    rcases e' with z | z
    · rcases st with ⟨_, st⟩ | ⟨_, _, _, _, _, _, st⟩
      · rw [z]; exact ⟨_, st, fun v q => nomatch q⟩
      · rw [z]; exact ⟨_, st, fun v q => nomatch q⟩
    · rw [z]; exact ⟨_, hp, fun v q => nomatch q⟩
  keep := fun k h h' st kp => by
    obtain ⟨⟨n, hp⟩, ne, st⟩ := st
    refine ⟨⟨n, kp p (by simp) _ hp⟩, ne, ?_⟩
    rcases st with ⟨e, st⟩ | ⟨k', i, j, l, e, e2, st⟩
    · exact .inl ⟨e, kp it (by simp) _ st⟩
    · exact .inr ⟨k', i, j, l, e, e2, kp it (by simp) _ st⟩
  item := by
    intro X hP hw hK hc k pins s σ H E I hf st hg
    subst hP hw hK
    obtain ⟨hp, ne, st⟩ := st
    obtain ⟨⟨i, j⟩, hg⟩ := hg
    obtain ⟨lij, ljn, l2⟩ := cmb_lt hg
    have lu : us.length = xs.length := (Paired.length r).symm
    obtain ⟨x, hx⟩ : ∃ x, xs[i]? = some x := ⟨_, List.getElem?_eq_getElem (by omega)⟩
    obtain ⟨y, hy⟩ : ∃ y, xs[j]? = some y := ⟨_, List.getElem?_eq_getElem (by omega)⟩
    obtain ⟨u, hu, ru⟩ := vals_at r hx
    obtain ⟨v, hv, rv⟩ := vals_at r hy
    have gu : us.toArray.getD i .none = u := by simp [hu]
    have gv : us.toArray.getD j .none = v := by simp [hv]
    have fin : ∀ h' : Heap, IsCmb h' it p 1 (.ref s.heap.objs.size) i j → h'.get? s.heap.objs.size = some { cls := .type "tuple", data := .seq #[us.toArray.getD i .none, us.toArray.getD j .none] } → (∀ b o, b ≠ it → s.heap.get? b = some o → h'.get? b = some o) →
        (fun r s1 => ∃ u, r = some u ∧ wpAny (model X.prog X.w) X.A (letOwnedTupleGo tg (.ref it) u) (fun _ s2 => ∃ x H', Inv X pins σ H' s2 ∧ RelV x u ∧ (Itcb xs).yld k H x H' ∧ (IsPool s2.heap p us.toArray ∧ p ≠ it ∧ ((k + 1 = 0 ∧ IsCmb s2.heap it p (if 2 > us.toArray.size then 2 else 0) .none 0 1) ∨ ∃ k' i j last, k + 1 = k' + 1 ∧ cmb xs.length k' = some (i, j) ∧ IsCmb s2.heap it p 1 last i j)) ∧ ∀ b ∈ [it, p], H' b = none) E s1) (some (Value.ref s.heap.objs.size)) { s with heap := h' } := fun h' hit' hT kp => by
      rw [gu, gv] at hT
      refine ⟨_, rfl, go_of (n := "itertools.combinations") hit' rfl rfl (by decide) ?_⟩
      have new : ObjOk X.prog X.w (upd H s.heap.objs.size (.tup [x, y])) h' s.heap.objs.size (.tup [x, y]) :=
        ⟨(by show 2 ≤ sizeLine; decide), [u, v], .cons ru (.cons rv .nil), ⟨_, hT, rfl, _, rfl⟩⟩
      have I1 : Inv X pins σ (upd H s.heap.objs.size (.tup [x, y])) { s with heap := h' } :=
        I.turnedNew (t' := s.toks) (ch := [it, p]) (fun b ob hb q => kp b ob (fun z => hb (by simp [z])) q) hf (Nat.le_refl _) new
      obtain ⟨n, hp⟩ := hp
      refine ⟨.ref s.heap.objs.size, _, I1, rfl, ⟨_, i, j, x, y, rfl, I.hok.fresh (Nat.le_refl _), rfl, hg, hx, hy⟩, ⟨⟨n, kp p _ ne hp⟩, ne, .inr ⟨k, i, j, _, rfl, hg, hit'⟩⟩, fun b hb => ?_⟩
      have hb' : b < s.heap.objs.size := by
        have z : b = it ∨ b = p := by simpa using hb
        rcases z with z | z
        · subst z
          rcases st with ⟨_, st⟩ | ⟨_, _, _, _, _, _, st⟩
          · exact Heap.lt_size st
          · exact Heap.lt_size st
        · subst z; exact Heap.lt_size hp
      rw [upd_ne (Nat.ne_of_lt hb')]; exact (hf b hb).1
    rcases st with ⟨rfl, st⟩ | ⟨k', i0, j0, last, rfl, e0, st⟩
    · have e : i = 0 ∧ j = 1 := by
        unfold cmb at hg
        rw [if_pos l2] at hg
        cases hg; exact ⟨rfl, rfl⟩
      obtain ⟨rfl, rfl⟩ := e
      rw [if_neg (by rw [List.size_toArray]; omega)] at st
      exact cmb_first st hp ne fin
    · have hs : stepC xs.length (i0, j0) = some (i, j) := by
        have z : (cmb xs.length k').bind (stepC xs.length) = some (i, j) := hg
        rw [e0] at z; exact z
      exact cmb_next st hp ne (by rw [List.size_toArray, lu]; exact l2) (by rw [List.size_toArray, lu]; exact hs) fin
  done := by
    intro X hP hw hK hc k pins s σ H E I hf st hg
    subst hP hw hK
    obtain ⟨hp, ne, st⟩ := st
    have hg : cmb xs.length k = none := hg
    have lu : us.length = xs.length := (Paired.length r).symm
    obtain ⟨f0, f1, f2, f3, f4, f5⟩ := hf it (by simp)
    have fin : ∀ h' : Heap, Heap.ExtBut it s.heap h' → (fun r s1 => r = none ∧ Inv X pins σ H s1) (none : Option Value) { s with heap := h' } := fun h' eb => ⟨rfl, I.turned (t' := s.toks) (fun b o hb q => eb b o hb q) f0 f1 f3 f4 f5⟩
    rcases st with ⟨rfl, st⟩ | ⟨k', i0, j0, last, rfl, e0, st⟩
    · have l2 : ¬ 2 ≤ xs.length := fun z => by
        unfold cmb at hg
        rw [if_pos z] at hg; cases hg
      rw [if_pos (by rw [List.size_toArray]; omega)] at st
      exact cmb_end2 (I.ok.hd hc) st fin
    · obtain ⟨_, _, l2⟩ := cmb_lt e0
      have hs : stepC xs.length (i0, j0) = none := by
        have z : (cmb xs.length k').bind (stepC xs.length) = none := hg
        rw [e0] at z; exact z
      exact cmb_end1 (I.ok.hd hc) st hp ne (by rw [List.size_toArray, lu]; exact l2) (by rw [List.size_toArray, lu]; exact hs) fin
  self := fun A k s Q E st h => by
    obtain ⟨_, _, st⟩ := st
    rcases st with ⟨_, st⟩ | ⟨_, _, _, _, _, _, st⟩
    · exact iter_cmb st h
    · exact iter_cmb st h
def iCmb (K : PySem.W.Frag) (ta : TA) : TI := fun σ H R => ta σ H fun vs H1 => ∃ a xs, vs = [.ref a, .int 2] ∧ SqL K H1 a xs ∧ xs.length ≤ 100000 ∧ R (Itcb xs) H1
theorem pi_cmb {X : Cx} {e : Expr} {ta : TA} {p pos tp : Pos} {c : Nat} {tg : Expr} (hg : Gl X "combinations") (hm : X.mg "combinations" = some (.type "itertools.combinations")) (ha : PA X [e, .Constant (.int 2) c tp] ta)
    (hs : starEach [e, .Constant (.int 2) c tp] X.env = (false, eval e X.env) :: starEach [.Constant (.int 2) c tp] X.env := by rfl) :
    PI X tg (.Call (.Name "combinations" p) [e, .Constant (.int 2) c tp] [] pos) (iCmb X.K ta) := by
  refine ⟨fun pins s σ H R I h => Call_ (ld_glob I hg hm (PyProof.Rows.callWith_type1 (thn (ha.run pos pins s σ H _ I h) fun us s1 ⟨vs, H1, I1, r1, q1⟩ => ?_) hs rfl))⟩
  obtain ⟨a, xs, ex, hq, hl, q⟩ := q1
  subst ex
  obtain ⟨u1, u2, rfl, ra, ⟨t, rfl⟩⟩ := vals2 r1
  cases ra
  obtain ⟨its, rv, pl, hz⟩ := I1.list hq
  refine call_cmb pl.isList (by rw [List.size_toArray, ← Paired.length rv]; exact hl) fun h0 h' k0 k1 hit hp => ?_
  refine iter_cmb (s := { s1 with heap := h' }) hit ?_
  have I0 : Inv X pins σ H1 { s1 with heap := h0 } := I1.kept (t' := s1.toks) k0
  have I2 : Inv X pins σ H1 { s1 with heap := h' } := I0.kept (t' := s1.toks) k1
  refine ⟨h0.objs.size + 1, [h0.objs.size + 1, h0.objs.size], _, _, H1, rfl, I2, turn_cmb (h0.objs.size + 1) h0.objs.size xs its rv, ⟨hp, Nat.ne_of_lt (Nat.lt_succ_self _), .inl ⟨rfl, hit⟩⟩, fun b hb => ?_, q⟩
  have hle : h0.objs.size ≤ b := by
    have z : b = h0.objs.size + 1 ∨ b = h0.objs.size := by simpa using hb
    rcases z with z | z
    · rw [z]; exact Nat.le_add_right _ _
    · rw [z]; exact Nat.le_refl _
  exact I0.fpOk hle (I0.hok.fresh hle)
/-- a loop over all pairs -/
theorem for_cmb {xs : List V} {g : TG} {tb : TS} {D : Ends} {σ : L2.St} {H : Hp} (Pv : Nat → L2.St → Hp → Prop) (h0 : Pv 0 σ H)
    (hs : ∀ k i j x y T σ H, cmb xs.length k = some (i, j) → xs[i]? = some x → xs[j]? = some y → Pv k σ H → H T = none → g (.ref T) σ (upd H T (.tup [x, y])) fun σ2 H2 => tb { D with nx := Pv (k + 1), ct := Pv (k + 1), bk := D.nx } σ2 H2)
    (hd : ∀ k σ H, cmb xs.length k = none → Pv k σ H → D.nx σ H) :
    ∃ W : Nat → Nat → L2.St → Hp → Prop, (∃ m, W 0 m σ H) ∧ ∀ i m σ H, W i m σ H →
      ((Itcb xs).stop i H ∧ D.nx σ H) ∨ ((Itcb xs).go i H ∧ ∃ N : L2.St → Hp → Prop, (∀ σ' H', N σ' H' → ∃ m', m' < m ∧ W (i + 1) m' σ' H') ∧ ∀ x H', (Itcb xs).yld i H x H' → g x σ H' fun σ2 H2 => tb { D with nx := N, ct := N, bk := D.nx } σ2 H2) := by
  refine ⟨fun k m σ H => m = leftC xs.length (cmb xs.length k) ∧ Pv k σ H, ⟨_, rfl, h0⟩, ?_⟩
  rintro k m σ H ⟨rfl, p⟩
  cases e : cmb xs.length k with
  | none => exact .inl ⟨e, hd k σ H e p⟩
  | some q =>
    refine .inr ⟨⟨q, e⟩, Pv (k + 1), fun σ' H' h' => ⟨_, by rw [← e]; exact leftC_lt e, rfl, h'⟩, ?_⟩
    rintro v H' ⟨T, i, j, x, y, rfl, fT, rfl, e2, hx, hy⟩
    exact hs k i j x y T σ H e2 hx hy p fT
end Cw

namespace Cw
open PySem PySem.Spec PyProof.Rows L2
/-! ### ties -/
def at2 (a b : Nat) (t : Tie) : Bool := (t.1 == a && t.2.1 == b) || (t.1 == b && t.2.1 == a)
def tieL (ts : List Tie) (a b : Nat) : Option Nat := (ts.find? (at2 a b)).map (·.2.2)
def beside (p : Nat) (t : Tie) : Option Nat := if t.1 = p then some t.2.1 else if t.2.1 = p then some t.1 else none
def nb (ts : List Tie) (p : Nat) : List Nat := ts.filterMap (beside p)
theorem at2_iff {a b : Nat} {t : Tie} : at2 a b t = true ↔ (t.1 = a ∧ t.2.1 = b) ∨ (t.1 = b ∧ t.2.1 = a) := by
  simp [at2]
theorem at2_swap (a b : Nat) (t : Tie) : at2 a b t = at2 b a t := by
  unfold at2; rw [Bool.or_comm]
theorem tieL_swap (ts : List Tie) (a b : Nat) : tieL ts a b = tieL ts b a := by
  unfold tieL
  rw [show at2 a b = at2 b a from funext (at2_swap a b)]
theorem tieL_isSome {ts : List Tie} {a b : Nat} : (tieL ts a b).isSome = true ↔ ∃ t ∈ ts, at2 a b t = true := by
  unfold tieL
  rw [Option.isSome_map, List.find?_isSome]
theorem tieL_none {ts : List Tie} {a b : Nat} (h : ∀ t ∈ ts, at2 a b t = false) : tieL ts a b = none := by
  unfold tieL
  rw [List.find?_eq_none.mpr (fun t ht => by rw [h t ht]; simp)]; rfl
theorem tieL_snoc (l : List Tie) (t : Tie) (a b : Nat) : tieL (l ++ [t]) a b = (tieL l a b).or (if at2 a b t = true then some t.2.2 else none) := by
  unfold tieL
  rw [List.find?_append]
  cases l.find? (at2 a b) with
  | some x => rfl
  | none =>
    show ((none : Option Tie).or ([t].find? (at2 a b))).map (·.2.2) = (none : Option Nat).or _
    rw [Option.none_or, Option.none_or]
    by_cases h : at2 a b t = true
    · rw [if_pos h, List.find?_cons_of_pos h]; rfl
    · rw [if_neg h, List.find?_cons_of_neg h]; rfl
theorem nb_snoc (l : List Tie) (t : Tie) (p : Nat) : nb (l ++ [t]) p = nb l p ++ (if t.1 = p then [t.2.1] else if t.2.1 = p then [t.1] else []) := by
  unfold nb
  rw [List.filterMap_append]
  congr 1
  by_cases h1 : t.1 = p
  · rw [if_pos h1]; simp [beside, h1]
  · by_cases h2 : t.2.1 = p
    · rw [if_neg h1, if_pos h2]; simp [beside, h1, h2]
    · rw [if_neg h1, if_neg h2]; simp [beside, h1, h2]
theorem nb_len (l : List Tie) (p : Nat) : (nb l p).length ≤ l.length := List.length_filterMap_le _ _
theorem take_snoc {α : Type} {l : List α} {i : Nat} {x : α} (h : l[i]? = some x) : l.take (i + 1) = l.take i ++ [x] := by
  rw [List.take_add_one, h]; rfl
/-- no tie stands twice -/
theorem tieL_new {ts : List Tie} (s : ts.Pairwise tlt) (e : ∀ t ∈ ts, t.1 < t.2.1) {i : Nat} {t : Tie} (h : ts[i]? = some t) : tieL (ts.take i) t.1 t.2.1 = none := by
  refine tieL_none fun u hu => ?_
  have hl : (ts.take i ++ [t]).Pairwise tlt := by rw [← take_snoc h]; exact s.sublist (List.take_sublist _ _)
  have lt := (List.pairwise_append.mp hl).2.2 u hu t List.mem_cons_self
  have e1 := e u (List.mem_of_mem_take hu)
  have e2 := e t (List.mem_of_getElem? h)
  cases q : at2 t.1 t.2.1 u with
  | false => rfl
  | true =>
    rcases at2_iff.mp q with ⟨a, b⟩ | ⟨a, b⟩
    · rcases lt with z | ⟨_, z⟩ <;> omega
    · omega
theorem sorted_ext : ∀ {l m : List Nat}, l.Pairwise (· < ·) → m.Pairwise (· < ·) → (∀ x, x ∈ l ↔ x ∈ m) → l = m
  | [], [], _, _, _ => rfl
  | [], y :: m, _, _, h => absurd ((h y).mpr List.mem_cons_self) (by simp)
  | x :: l, [], _, _, h => absurd ((h x).mp List.mem_cons_self) (by simp)
  | x :: l, y :: m, hl, hm, h => by
    obtain ⟨l1, l2⟩ := List.pairwise_cons.mp hl
    obtain ⟨m1, m2⟩ := List.pairwise_cons.mp hm
    have hx : x = y := by
      rcases List.mem_cons.mp ((h x).mp List.mem_cons_self) with z | z
      · exact z
      · rcases List.mem_cons.mp ((h y).mpr List.mem_cons_self) with z' | z'
        · exact z'.symm
        · have a := m1 x z
          have b := l1 y z'
          omega
    subst hx
    congr 1
    refine sorted_ext l2 m2 fun z => ⟨fun hz => ?_, fun hz => ?_⟩
    · rcases List.mem_cons.mp ((h z).mp (List.mem_cons_of_mem _ hz)) with q | q
      · have := l1 z hz; omega
      · exact q
    · rcases List.mem_cons.mp ((h z).mpr (List.mem_cons_of_mem _ hz)) with q | q
      · have := m1 z hz; omega
      · exact q
theorem beside_iff {p o : Nat} {t : Tie} (e : t.1 < t.2.1) : beside p t = some o ↔ at2 p o t = true := by
  rw [at2_iff]
  unfold beside
  by_cases h1 : t.1 = p
  · rw [if_pos h1]
    constructor
    · intro z; exact .inl ⟨h1, Option.some.inj z⟩
    · rintro (⟨_, z⟩ | ⟨z1, z2⟩)
      · rw [z]
      · omega
  · rw [if_neg h1]
    by_cases h2 : t.2.1 = p
    · rw [if_pos h2]
      constructor
      · intro z; exact .inr ⟨Option.some.inj z, h2⟩
      · rintro (⟨z, _⟩ | ⟨z1, z2⟩)
        · exact absurd z h1
        · rw [z1]
    · rw [if_neg h2]
      constructor
      · intro z; cases z
      · rintro (⟨z, _⟩ | ⟨_, z⟩)
        · exact absurd z h1
        · exact absurd z h2
theorem nb_rise {ts : List Tie} (s : ts.Pairwise tlt) (e : ∀ t ∈ ts, t.1 < t.2.1) (p : Nat) : (nb ts p).Pairwise (· < ·) := by
  unfold nb
  rw [List.pairwise_filterMap]
  refine List.Pairwise.imp_of_mem (fun {t u} ht hu lt a ha b hb => ?_) s
  have e1 := e t ht
  have e2 := e u hu
  rcases at2_iff.mp ((beside_iff e1).mp ha) with ⟨a1, a2⟩ | ⟨a1, a2⟩ <;> rcases at2_iff.mp ((beside_iff e2).mp hb) with ⟨b1, b2⟩ | ⟨b1, b2⟩ <;> rcases lt with z | ⟨z1, z2⟩ <;> omega
theorem nb_eq {w : Web} (W : WOk w) (p : Nat) : nb w.2 p = (List.range w.1.length).filter fun o => (tieL w.2 p o).isSome := by
  refine sorted_ext (nb_rise W.rise (fun t ht => (W.ends t ht).1) p) (List.Pairwise.filter _ List.pairwise_lt_range) fun o => ?_
  rw [List.mem_filter, tieL_isSome, List.mem_range]
  unfold nb
  rw [List.mem_filterMap]
  constructor
  · rintro ⟨t, ht, hb⟩
    have q := (beside_iff (W.ends t ht).1).mp hb
    refine ⟨?_, t, ht, q⟩
    have r := W.ends t ht
    rcases at2_iff.mp q with ⟨_, a⟩ | ⟨a, _⟩ <;> omega
  · rintro ⟨_, t, ht, q⟩
    exact ⟨t, ht, (beside_iff (W.ends t ht).1).mpr q⟩
theorem tieL_self {w : Web} (W : WOk w) (p : Nat) : tieL w.2 p p = none := by
  refine tieL_none fun t ht => ?_
  have r := W.ends t ht
  cases q : at2 p p t with
  | false => rfl
  | true => rcases at2_iff.mp q with ⟨a, b⟩ | ⟨a, b⟩ <;> omega
/-- a tie's kind, or None -/
def optV : Option Nat → V
  | some c => .str (sg c)
  | none => .non
theorem optV_non (o : Option Nat) : (!decide (optV o = .non)) = o.isSome := by cases o <;> rfl
theorem optV_scal (o : Option Nat) : scal (optV o) (optV o) = true := by cases o <;> rfl
def zs (l : List Nat) : List Int := l.map fun (o : Nat) => (o : Int)
theorem ints_map (l : List Nat) : (l.map fun o => V.int (o : Nat)) = (zs l).map V.int := by
  unfold zs; rw [List.map_map]; rfl
theorem eqv_ints (l : List Int) : PyData.eqv (.list (l.map PyData.int)) (.list (l.map PyData.int)) = true := by
  show PyData.eqvAll _ _ = true
  rw [PySem.W.ked_eqvAll, decide_eq_true rfl]
theorem dp_nats {K : PySem.W.Frag} {H : Hp} {a : Addr} {l : List Nat} (h : H a = some (.lst (l.map fun o => V.int (o : Nat)))) : Dp K H (.ref a) (.list ((zs l).map PyData.int)) := by
  rw [ints_map] at h
  exact .lst (SqL.of h) (dpa_ints _)
/-- the heap without one object -/
def del (H : Hp) (a : Addr) : Hp := fun b => if b = a then none else H b
theorem del_ne {H : Hp} {a b : Addr} (n : b ≠ a) : del H a b = H b := by unfold del; rw [if_neg n]
theorem del_at {H : Hp} {a b : Addr} {o : HO} (n : b ≠ a) (h : H b = some o) : del H a b = some o := by rw [del_ne n]; exact h
theorem del_same (H : Hp) (a : Addr) : Same (del H a) H := fun b o e => by
  by_cases n : b = a
  · unfold del at e; rw [if_pos n] at e; cases e
  · rw [del_ne n] at e; exact e
theorem Keep.del {h : Addr} {H H' : Hp} (k : Keep h H H') : Same (del H h) (del H' h) := fun b o e => by
  by_cases n : b = h
  · unfold Cw.del at e; rw [if_pos n] at e; cases e
  · rw [del_ne n] at e ⊢; exact k b o n e
theorem dpa_snoc {K : PySem.W.Frag} {H : Hp} : ∀ {vs : List V} {ds : List PyData} {v : V} {d : PyData}, DpAll K H vs ds → Dp K H v d → DpAll K H (vs ++ [v]) (ds ++ [d])
  | [], [], _, _, _, h => .cons h .nil
  | _ :: _, _ :: _, _, _, .cons a b, h => .cons a (dpa_snoc b h)
/-- what is held: pairs of equal lists of whole numbers -/
def hD (x : List Int) : PyData := .list [.list (x.map PyData.int), .list (x.map PyData.int)]
def Held (K : PySem.W.Frag) (H : Hp) (hd : Addr) (m : Nat) : Prop := ∃ (hs : List V) (xs : List (List Int)), H hd = some (.lst hs) ∧ hs.length ≤ m ∧ DpAll K (del H hd) hs (xs.map hD)
theorem Held.same {K : PySem.W.Frag} {H H' : Hp} {hd : Addr} {m : Nat} (x : Held K H hd m) (s : Same H H') : Held K H' hd m := by
  obtain ⟨hs, xs, e, l, a⟩ := x
  exact ⟨hs, xs, s _ _ e, l, dpa_same (Keep.del (Same.keep s)) _ _ a⟩
theorem Held.mono {K : PySem.W.Frag} {H : Hp} {hd : Addr} {m n : Nat} (x : Held K H hd m) (h : m ≤ n) : Held K H hd n := by
  obtain ⟨hs, xs, e, l, a⟩ := x
  exact ⟨hs, xs, e, Nat.le_trans l h, a⟩
theorem dpa_at {K : PySem.W.Frag} {H : Hp} : ∀ {vs : List V} {ds : List PyData} (i : Nat) {v : V}, DpAll K H vs ds → vs[i]? = some v → ∃ d, ds[i]? = some d ∧ Dp K H v d
  | [], _, _, _, _, h => by simp at h
  | _ :: _, _ :: _, 0, _, .cons a b, h => by
    cases h
    exact ⟨_, rfl, a⟩
  | _ :: _, _ :: _, i + 1, _, .cons a b, h => dpa_at i b (by simpa using h)
theorem rgV_nats (n : Int) : rgV 0 n = (List.range n.toNat).map fun q => V.int (q : Nat) := by
  unfold rgV
  rw [Int.sub_zero]
  congr 1
  funext i
  rw [Int.zero_add]
end Cw

namespace Cw
open PySem PySem.Spec PyProof.Rows L2 Srt

/-! ### triples (whole number, whole number, one sign), by all three -/
abbrev Tri := Int × Int × Nat
def lexT (p q : Tri) : Bool := if p.1 = q.1 then (if p.2.1 = q.2.1 then decide (p.2.2 < q.2.2) else decide (p.2.1 < q.2.1)) else decide (p.1 < q.1)
theorem lexT_iff {p q : Tri} : lexT p q = true ↔ p.1 < q.1 ∨ (p.1 = q.1 ∧ (p.2.1 < q.2.1 ∨ (p.2.1 = q.2.1 ∧ p.2.2 < q.2.2))) := by
  unfold lexT
  by_cases e : p.1 = q.1
  · rw [if_pos e]
    by_cases e2 : p.2.1 = q.2.1
    · rw [if_pos e2, decide_eq_true_eq]; omega
    · rw [if_neg e2, decide_eq_true_eq]; omega
  · rw [if_neg e, decide_eq_true_eq]; omega
theorem lexT_no {p q : Tri} : lexT p q = false ↔ ¬ (p.1 < q.1 ∨ (p.1 = q.1 ∧ (p.2.1 < q.2.1 ∨ (p.2.1 = q.2.1 ∧ p.2.2 < q.2.2)))) := by
  rw [← lexT_iff]
  cases lexT p q <;> simp
theorem swo_T {α : Type} (k : α → Tri) : SrtO.Swo fun v u => lexT (k v) (k u) := by
  refine ⟨fun x y h => ?_, fun x y z h1 h2 => ?_⟩
  · have a := lexT_iff.mp h
    exact lexT_no.mpr (by omega)
  · have a := lexT_no.mp h1
    have b := lexT_no.mp h2
    exact lexT_no.mpr (by omega)
def IsTri (h : Heap) (v : Value) (p : Tri) : Prop := ∃ a o t u t3 n, v = .ref a ∧ h.get? a = some o ∧ o.cls = .type "tuple" ∧ o.data = .seq #[.int p.1 t, .int p.2.1 u, .str (sg p.2.2) t3] n
theorem IsTri.keeps {h h' : Heap} {v : Value} {p : Tri} (x : IsTri h v p) (k : ∀ b o, h.get? b = some o → o.cls = .type "tuple" → h'.get? b = some o) : IsTri h' v p := by
  obtain ⟨a, o, t, u, t3, n, e, ho, hc, hd⟩ := x
  exact ⟨a, o, t, u, t3, n, e, k _ _ ho hc, hc, hd⟩
theorem sg_lt (c d : Nat) : decide ((sg c).cps.toList < (sg d).cps.toList) = decide (c < d) := by
  rw [Bool.eq_iff_iff, decide_eq_true_eq, decide_eq_true_eq]
  show ([c] : List Nat) < [d] ↔ c < d
  rw [List.cons_lt_cons_iff]
  constructor
  · rintro (h | ⟨_, h⟩)
    · exact h
    · exact absurd h (List.not_lt_nil _)
  · intro h; exact .inl h
theorem sg_inj {c d : Nat} : sg c = sg d ↔ c = d := by
  constructor
  · intro h
    have e : (sg c).cps.toList = (sg d).cps.toList := by rw [h]
    simpa using e
  · rintro rfl; rfl
section
variable {prog : Program} {w : World} {A : Around} {E : Value → Shared → Prop} {s : Shared}
theorem tri_cmp {vs : List Value} {k : Value → Tri} (hp : ∀ v ∈ vs, IsTri s.heap v (k v)) : SrtO.Cmp prog w A s (tuples' true) (fun p => p.1 ∈ vs) (SrtO.lt2 fun v u => lexT (k v) (k u)) := by
  intro p q hm hm'
  have h1 := hp _ hm
  have h2 := hp _ hm'
  show wpAny (model prog w) A (keyLt' (tuples' true) p.1 q.1) (fun r s' => s' = s ∧ r = lexT (k p.1) (k q.1)) (fun _ _ => False) s
  generalize k p.1 = P at h1 ⊢
  generalize k q.1 = R at h2 ⊢
  obtain ⟨x, y, c⟩ := P
  obtain ⟨x', y', c'⟩ := R
  obtain ⟨a, o, t, u, t3, n, e, ho, hc, hd⟩ := h1
  obtain ⟨a', o', t', u', t3', n', e', ho', hc', hd'⟩ := h2
  dsimp only at hd hd'
  rw [e, e']
  refine PySem.W.kat_lt ho hd ho' hd' ?_
  show PySem.W.KatLex prog w A true (decide (3 < 3)) _ [(.int x t, .int x' t'), (.int y u, .int y' u'), (.str (sg c) t3, .str (sg c') t3')] 0 s
  refine PySem.W.kat_cons (SeqAt.EqAt.int_int x t x' t' prog w _ _ (PySem.W.kat_go (fun e1 => ?_) (fun e1 => ?_)))
  · have ex : x = x' := by simpa using e1
    subst ex
    refine PySem.W.kat_yes (PySem.W.kat_cons (SeqAt.EqAt.int_int y u y' u' prog w _ _ (PySem.W.kat_go (fun e2 => ?_) (fun e2 => ?_))))
    · have ey : y = y' := by simpa using e2
      subst ey
      refine PySem.W.kat_yes (PySem.W.kat_cons (wpAny_eqBool_str (PySem.W.kat_go (fun e3 => ?_) (fun e3 => ?_))))
      · have ec : c = c' := sg_inj.mp (by simpa using e3)
        subst ec
        exact PySem.W.kat_yes (PySem.W.kat_nil ⟨rfl, (lexT_no.mpr (by show ¬ (x < x ∨ (x = x ∧ (y < y ∨ (y = y ∧ c < c)))); omega)).symm⟩)
      · refine PySem.W.kat_no (PySem.W.kat_one _ _ (PyProof.Rows.lt_str ?_))
        refine (show s = s ∧ decide ((sg c).cps.toList < (sg c').cps.toList) = lexT (x, y, c) (x, y, c') from ⟨rfl, ?_⟩)
        rw [sg_lt]
        unfold lexT
        rw [if_pos rfl, if_pos rfl]
    · have ey : ¬ y = y' := by simpa using e2
      refine PySem.W.kat_no (PySem.W.kat_one _ _ (PyProof.Rows.lt_int ?_))
      refine (show s = s ∧ decide (y < y') = lexT (x, y, c) (x, y', c') from ⟨rfl, ?_⟩)
      unfold lexT
      rw [if_pos rfl, if_neg ey]
  · have ex : ¬ x = x' := by simpa using e1
    refine PySem.W.kat_no (oneLt_int ⟨rfl, ?_⟩)
    unfold lexT
    rw [if_neg ex]
theorem tri_firsts {h : Heap} : ∀ {vs : List Value}, (∀ v ∈ vs, ∃ p, IsTri h v p) → ∃ fs : List Value, PySem.W.KatTups h vs fs ∧ fs.length = vs.length ∧ ∀ f ∈ fs, ∃ x t, f = Value.int x t
  | [], _ => ⟨[], PySem.W.KatTups.nil, rfl, fun _ hm => by simp at hm⟩
  | v :: vs, hp => by
    obtain ⟨fs, h1, h2, h3⟩ := tri_firsts (vs := vs) fun v' hm => hp v' (List.mem_cons_of_mem _ hm)
    obtain ⟨p, a, o, t, u, t3, n, e, ho, hc, hd⟩ := hp v List.mem_cons_self
    subst e
    refine ⟨.int p.1 t :: fs, PySem.W.KatTups.cons ho hc hd rfl h1, by rw [List.length_cons, List.length_cons, h2], fun f hm => ?_⟩
    rcases List.mem_cons.mp hm with rfl | hm
    · exact ⟨_, t, rfl⟩
    · exact h3 f hm
theorem tri_sortable {a : Addr} {vs : List Value} {k : Value → Tri} (h0 : 0 < vs.length) (hp : ∀ v ∈ vs, IsTri s.heap v (k v)) (ha : ∀ o, s.heap.get? a = some o → o.cls ≠ .type "tuple") : SrtO.SortableO prog w A s a vs fun v u => lexT (k v) (k u) := by
  intro h' keep
  have hp' : ∀ v ∈ vs, IsTri h' v (k v) := fun v hm => (hp v hm).keeps fun b o e c => keep b o (fun z => by subst z; exact ha o e c) e
  obtain ⟨fs, h1, h2, h3⟩ := tri_firsts fun v hm => ⟨_, hp' v hm⟩
  refine ⟨tuples' true, fun Q E hq => PySem.W.kat_kind (T := .type "int") h1 (by omega) (fun f hm => ?_) (by rfl) ?_, tri_cmp hp'⟩
  · obtain ⟨x, t, rfl⟩ := h3 f hm
    exact PySem.W.Looks.now
  · rw [show (Value.type "int" != Value.type "tuple") = true by decide +kernel]; exact hq
theorem sorted_tris {l : Addr} {vs : List Value} {k : Value → Tri} {Q : Value → Shared → Prop} (hl : s.heap.IsList l vs.toArray) (hz : vs.length ≤ sizeLine) (hp : ∀ v ∈ vs, IsTri s.heap v (k v))
    (h : ∀ (h' : Heap) (d : Addr) (out : List Value), SrtO.Srtd (fun v u => lexT (k v) (k u)) out → out.Perm vs → (∀ b o, s.heap.get? b = some o → h'.get? b = some o) → s.heap.objs.size ≤ d → (∃ n, h'.get? d = some (seqObj "list" out.toArray n)) → Q (.ref d) { s with heap := h' }) :
    wpAny (model prog w) A (call (.builtin "sorted") [.ref l]) Q E s := by
  refine SrtO.sorted_ord (swo_T k) hl hz (fun h2 h₁ a ha kk => tri_sortable (s := { s with heap := h₁ }) (by omega) (fun v hm => (hp v hm).keeps fun b o e _ => (kk b o e).2) fun o e c => ?_) fun out hs hb => ?_
  · have e' : some o = some (seqObj "list" vs.toArray 0) := e.symm.trans ha
    cases e'
    exact absurd (Value.type.inj c) (by decide)
  · exact h _ _ out hs hb.perm (fun b o e => sortedAll_old e) (Nat.le_succ _) (sortedAll_at s.heap vs out.toArray)
end
def triV (p : Tri) : List V := [.int p.1, .int p.2.1, .str (sg p.2.2)]
/-- sorted(ties): the same tuples, by their three -/
def rSorted3 (K : PySem.W.Frag) : List V → Hp → VK → Prop := fun vs H Q => ∃ (a : Addr) (es : List (Addr × Tri)), vs = [V.ref a] ∧ SqL K H a (es.map fun e => V.ref e.1) ∧ (∀ e ∈ es, H e.1 = some (.tup (triV e.2))) ∧
  ∀ (es' : List (Addr × Tri)) p, es'.Perm es → (es'.map (·.2)).Pairwise (fun x y => lexT y x = false) → H p = none → Q (.ref p) (upd H p (.lst (es'.map fun e => V.ref e.1)))
section
variable {X : Cx}
theorem cr_sorted3 : CallR X (.builtin "sorted") (rSorted3 X.K) := by
  intro pins s σ H vs us Q I r h
  obtain ⟨a, es, rfl, hs, hx, q⟩ := h
  obtain ⟨its, rv, hl, hz⟩ := I.list hs
  obtain ⟨u, rfl, ru⟩ := vals1 r
  obtain rfl : u = Value.ref a := ru
  -- the items, by their addresses
  have eits : its = es.map fun e => Value.ref e.1 := by
    have : ∀ {xs : List (Addr × Tri)} {us : List Value}, Vals (xs.map fun e => V.ref e.1) us → us = xs.map fun e => Value.ref e.1 := by
      intro xs
      induction xs with
      | nil => intro us r; cases r; rfl
      | cons x xs ih =>
        intro us r
        cases r with
        | cons r1 r2 => rw [ih r2, (show _ = Value.ref x.1 from r1)]; rfl
    exact this rv
  -- the key, read off the heap
  let kA : Addr → Tri := fun b => match H b with
    | some (.tup [.int x, .int y, .str z]) => (x, y, (z.cps.toList.headD 0))
    | _ => (0, 0, 0)
  have kA_eq : ∀ e ∈ es, kA e.1 = e.2 := fun e he => by
    show (match H e.1 with
      | some (.tup [.int x, .int y, .str z]) => (x, y, (z.cps.toList.headD 0))
      | _ => (0, 0, 0)) = e.2
    rw [hx e he]; rfl
  let kV' : Value → Tri := fun v => match v with
    | .ref b => kA b
    | _ => (0, 0, 0)
  refine sorted_tris (k := kV') hl.isList (by rw [← rv.length]; exact hz) (fun v hv => ?_) fun h' d out h1 h2 kp hd hn => ?_
  · rw [eits] at hv
    obtain ⟨e, he, rfl⟩ := List.mem_map.mp hv
    obtain ⟨_, its2, r2, o, ho, hc, n, hd⟩ := I.hok _ _ (hx e he)
    have ek : kV' (Value.ref e.1) = e.2 := kA_eq e he
    rw [ek]
    cases r2 with
    | cons ra rr =>
      cases rr with
      | cons rb rr =>
        cases rr with
        | cons rc rr =>
          cases rr
          obtain ⟨t1, rfl⟩ := ra
          obtain ⟨t2, rfl⟩ := rb
          obtain ⟨t3, rfl⟩ := rc
          exact ⟨e.1, o, t1, t2, t3, n, rfl, ho, hc, hd⟩
  · obtain ⟨n, hn⟩ := hn
    rw [eits] at h2
    have hmem : ∀ v ∈ out, ∃ e ∈ es, v = Value.ref e.1 := fun v hv => by
      obtain ⟨e, he, e'⟩ := List.mem_map.mp (h2.mem_iff.mp hv)
      exact ⟨e, he, e'.symm⟩
    -- back to pairs
    let back : Value → Addr × Tri := fun v => match v with
      | .ref b => (b, kA b)
      | _ => (0, (0, 0, 0))
    have p1 : (out.map back).Perm es := by
      have z := h2.map back
      rw [List.map_map] at z
      have e2 : es.map (back ∘ fun e => Value.ref e.1) = es := by
        conv => rhs; rw [← List.map_id es]
        refine List.map_congr_left fun e he => ?_
        show (e.1, kA e.1) = e
        rw [kA_eq e he]
      rw [e2] at z
      exact z
    have e3 : (out.map back).map (fun e => V.ref e.1) = out.map backV := by
      rw [List.map_map]
      refine List.map_congr_left fun v hv => ?_
      obtain ⟨e, he, rfl⟩ := hmem v hv
      rfl
    have srt : ((out.map back).map (·.2)).Pairwise (fun x y => lexT y x = false) := by
      rw [List.map_map, List.pairwise_map]
      refine h1.imp_of_mem fun {x y} hx' hy' hxy => ?_
      obtain ⟨e, he, rfl⟩ := hmem x hx'
      obtain ⟨e', he', rfl⟩ := hmem y hy'
      exact hxy
    have g := q (out.map back) d p1 srt (I.hok.fresh hd)
    rw [e3] at g
    have hzo : (out.map backV).length ≤ sizeLine := by
      rw [List.length_map, h2.length_eq, List.length_map]
      rw [List.length_map] at hz
      exact hz
    have hvb : Vals (out.map backV) out := vals_back fun u hu => by
      obtain ⟨e, he, rfl⟩ := hmem u hu
      exact ⟨_, rfl⟩
    exact ⟨.ref d, upd H d (.lst (out.map backV)), I.laid (t' := s.toks) kp hd (show ObjOk X.prog X.w _ _ _ (.lst (out.map backV)) from ⟨hzo, out, n, hvb, hn⟩), rfl, g⟩

/-- sorted(d), the keys pairs of whole numbers -/
def rSortedD : List V → Hp → VK → Prop := fun vs H Q => ∃ (d : Addr) (kvs : List (List Key × V)), vs = [V.ref d] ∧ H d = some (.dT kvs) ∧ (∀ p ∈ kvs, ∃ i j : Int, p.1 = [.inl i, .inl j]) ∧
  ∀ (es : List (Addr × Int × Int)) p, (es.map fun e => ([.inl e.2.1, .inl e.2.2] : List Key)).Perm (kvs.map (·.1)) → (∀ e ∈ es, H e.1 = some (.tup [.int e.2.1, .int e.2.2])) → (es.map (·.2)).Pairwise (fun x y => SrtO.lexB y x = false) → H p = none → Q (.ref p) (upd H p (.lst (es.map fun e => V.ref e.1)))
theorem cr_sortedD (hc : X.calm = true) : CallR X (.builtin "sorted") rSortedD := by
  intro pins s σ H vs us Q I r h
  obtain ⟨d, kvs, rfl, hd, hk, q⟩ := h
  obtain ⟨u, rfl, ru⟩ := vals1 r
  obtain rfl : u = Value.ref d := ru
  obtain ⟨z, lo, ks, pr, o, es0, ep, ho, hx, hdt, he, hn⟩ := (show ObjOk X.prog X.w H s.heap d (.dT kvs) from I.hok d _ hd)
  have l1 : es0.size = ks.length := size_of_entries he
  have l2 : kvs.length = ks.length := Paired.length pr
  refine Calls.call_function_entry PyProof.Rows.kind_sorted PyProof.Rows.plain_sorted PyProof.Rows.entry_sorted (PyProof.Rows.args_sorted1 _) ?_; unfold Builtin.«sorted»
  refine wpAny_bind (m := checkCount "sorted" 1 1 _) (wpAny_pure (wpAny_bind (PySem.W.kdu_collect (A := X.A.in1) (kdl_raw lo hx hdt) (I.ok.hd hc) ho (by omega) fun h' tk acc hk' hacc => ?_)))
  -- the collected keys
  have ea : acc.toList = ks.map fun x => Value.ref x.2.1 := by
    have hl : acc.toList.length = ks.length := by rw [Array.length_toList, hacc.1]; exact l1
    refine List.ext_getElem? fun j => ?_
    rw [List.getElem?_map]
    cases hj : acc.toList[j]? with
    | none => rw [List.getElem?_eq_none (by have := List.getElem?_eq_none_iff.mp hj; omega)]; rfl
    | some v =>
      obtain ⟨en, hen, hv⟩ := hacc.2 j v (by rw [← Array.getElem?_toList]; exact hj)
      have qe := entry_at he j
      rw [hen] at qe
      cases hb : ks[j]? with
      | none => rw [hb] at qe; cases qe
      | some b =>
        rw [hb] at qe
        have e2 : en = entryOfKey (tupleKind (mixKind X.prog X.w)) b := Option.some.inj qe
        rw [hv, e2]; rfl
  have pk : ∀ x ∈ ks, ∃ i j : Int, x.1 = [.inl i, .inl j] ∧ H x.2.1 = some (.tup [.int i, .int j]) := by
    have go : ∀ {kvs : List (List Key × V)} {ks : List (List Key × Addr × Value)}, Paired (fun (p : List Key × V) (q : List Key × Addr × Value) => p.1 = q.1 ∧ H q.2.1 = some (.tup (p.1.map kV)) ∧ RelV p.2 q.2.2) kvs ks → (∀ p ∈ kvs, ∃ i j : Int, p.1 = [.inl i, .inl j]) → ∀ x ∈ ks, ∃ i j : Int, x.1 = [.inl i, .inl j] ∧ H x.2.1 = some (.tup [.int i, .int j]) := by
      intro kvs ks pr
      induction pr with
      | nil => intro _ x hx; simp at hx
      | cons a _ ih =>
        intro hk x hx
        rcases List.mem_cons.mp hx with rfl | hx
        · obtain ⟨i, j, e⟩ := hk _ List.mem_cons_self
          refine ⟨i, j, a.1.symm.trans e, ?_⟩
          have := a.2.1
          rw [e] at this
          exact this
        · exact ih (fun p hp => hk p (List.mem_cons_of_mem _ hp)) x hx
    exact go pr hk
  have ek : ks.map (·.1) = kvs.map (·.1) := by
    have go : ∀ {kvs : List (List Key × V)} {ks : List (List Key × Addr × Value)}, Paired (fun (p : List Key × V) (q : List Key × Addr × Value) => p.1 = q.1 ∧ H q.2.1 = some (.tup (p.1.map kV)) ∧ RelV p.2 q.2.2) kvs ks → ks.map (·.1) = kvs.map (·.1) := by
      intro kvs ks pr
      induction pr with
      | nil => rfl
      | cons a _ ih => rw [List.map_cons, List.map_cons, ih, a.1]
    exact go pr
  let kA : Addr → Int × Int := fun b => match H b with
    | some (.tup [.int x, .int y]) => (x, y)
    | _ => (0, 0)
  have kA_eq : ∀ {b : Addr} {i j : Int}, H b = some (.tup [.int i, .int j]) → kA b = (i, j) := fun {b i j} e => by
    show (match H b with
      | some (.tup [.int x, .int y]) => (x, y)
      | _ => (0, 0)) = (i, j)
    rw [e]
  let kW : Value → Int × Int := fun v => match v with
    | .ref b => kA b
    | _ => (0, 0)
  have I1 : Inv X pins σ H { s with heap := h', toks := tk } := I.kept hk'
  have hal : acc.toList.length ≤ sizeLine := by rw [ea, List.length_map]; omega
  refine wpAny_bind (wpAny_newList ?_ hal)
  have hoL : (h'.push (seqObj "list" acc.toList.toArray 0)).get? h'.objs.size = some (seqObj "list" acc.toList.toArray 0) := Heap.get?_push_size _ rfl
  have hpair : ∀ v ∈ acc.toList, Srt.IsPair (h'.push (seqObj "list" acc.toList.toArray 0)) v (kW v).1 (kW v).2 := fun v hv => by
    rw [ea] at hv
    obtain ⟨x, hx', rfl⟩ := List.mem_map.mp hv
    obtain ⟨i, j, _, e⟩ := pk x hx'
    obtain ⟨_, its2, r2, o', ho', hc', n', hd'⟩ := I1.hok _ _ e
    have e2 : kW (Value.ref x.2.1) = (i, j) := kA_eq e
    rw [e2]
    obtain ⟨u1, u2, rfl, ⟨t1, rfl⟩, ⟨t2, rfl⟩⟩ := vals2 r2
    exact ⟨x.2.1, o', t1, t2, n', rfl, Heap.get?_push_of_some _ ho', hc', hd'⟩
  show wpAny _ _ _ _ _ { s with heap := h'.push (seqObj "list" acc.toList.toArray 0), toks := tk }
  refine wpAny_bind (wpAny_holding (wpAny_call_entry PyProof.Rows.slot_list_sort ⟨_, hoL, rfl⟩ PyProof.Rows.entry_list_sort
    (SrtO.list_sort_ord (s := { s with heap := h'.push (seqObj "list" acc.toList.toArray 0), toks := tk }) (SrtO.swo_lex kW) hoL hal (fun h2 => SrtO.pairs_sortableO (by omega) hpair fun o e c => ?_) fun out hs hb => ⟨_, rfl, ?_⟩) (PyProof.Rows.args_list_sort _)))
  · have e' : some o = some (seqObj "list" acc.toList.toArray 0) := e.symm.trans hoL
    cases e'
    exact absurd (Value.type.inj c) (by decide)
  obtain ⟨n, hn2⟩ := PyProof.Rows.sortedHeap_at (vs := acc.toList) (out := out.toArray) hoL
  have h2 := hb.perm
  rw [ea] at h2
  have hmem : ∀ v ∈ out, ∃ x ∈ ks, v = Value.ref x.2.1 := fun v hv => by
    obtain ⟨x, hx', e'⟩ := List.mem_map.mp (h2.mem_iff.mp hv)
    exact ⟨x, hx', e'.symm⟩
  let back : Value → Addr × Int × Int := fun v => match v with
    | .ref b => (b, kA b)
    | _ => (0, (0, 0))
  have g := q (out.map back) h'.objs.size (by
      have z := h2.map fun v => ([.inl (back v).2.1, .inl (back v).2.2] : List Key)
      rw [List.map_map] at z
      have e2 : ks.map ((fun v => ([.inl (back v).2.1, .inl (back v).2.2] : List Key)) ∘ fun x => Value.ref x.2.1) = ks.map (·.1) := by
        refine List.map_congr_left fun x hx' => ?_
        obtain ⟨i, j, e3, e4⟩ := pk x hx'
        show ([.inl (kA x.2.1).1, .inl (kA x.2.1).2] : List Key) = x.1
        rw [kA_eq e4, e3]
      rw [e2, ek] at z
      rw [List.map_map]
      exact z) (fun e he' => by
      obtain ⟨v, hv, rfl⟩ := List.mem_map.mp he'
      obtain ⟨x, hx', rfl⟩ := hmem v hv
      obtain ⟨i, j, e3, e4⟩ := pk x hx'
      show H x.2.1 = some (.tup [.int (kA x.2.1).1, .int (kA x.2.1).2])
      rw [kA_eq e4, e4]) (by
      rw [List.map_map, List.pairwise_map]
      refine hs.imp_of_mem fun {x y} hx' hy' hxy => ?_
      obtain ⟨e1, _, rfl⟩ := hmem x hx'
      obtain ⟨e2, _, rfl⟩ := hmem y hy'
      exact hxy) (I1.hok.fresh (Nat.le_refl _))
  have e3 : (out.map back).map (fun e => V.ref e.1) = out.map backV := by
    rw [List.map_map]
    refine List.map_congr_left fun v hv => ?_
    obtain ⟨e, he', rfl⟩ := hmem v hv
    rfl
  rw [e3] at g
  have hzo : (out.map backV).length ≤ sizeLine := by
    rw [List.length_map, h2.length_eq, List.length_map]; omega
  have hvb : Vals (out.map backV) out := vals_back fun u hu => by
    obtain ⟨e, _, rfl⟩ := hmem u hu
    exact ⟨_, rfl⟩
  refine wpAny_pure ⟨_, rfl, .ref h'.objs.size, upd H h'.objs.size (.lst (out.map backV)), I1.laid (t' := tk) (fun b u e => ?_) (Nat.le_refl _) (show ObjOk X.prog X.w _ _ _ (.lst (out.map backV)) from ⟨hzo, out, n, hvb, hn2⟩), rfl, g⟩
  have hb' : b < h'.objs.size := Heap.lt_size e
  rw [PyProof.Rows.sortedHeap_old (Nat.ne_of_lt hb') (by rw [size_push']; exact Nat.lt_succ_of_lt hb')]; exact Heap.get?_push_of_some _ e

/-- d.pop(k), k a tuple that is there -/
def rPop1 : V → List V → Hp → VK → Prop := fun x xs H Q => ∃ (a : Addr) (kvs : List (List Key × V)) (k : List Key) (b : Addr) (v : V), x = .ref a ∧ xs = [.ref b] ∧ H a = some (.dT kvs) ∧ H b = some (.tup (k.map kV)) ∧ valV kvs k = some v ∧ Q v (upd H a (.dT (dropK kvs k)))
end
section
variable {prog : Program} {w : World} {K : Type} [DecidableEq K] {knd : HeapKind prog w K}
theorem meets_pop1 {d b : Addr} {k : K} (hd : (d == sysModules) = false) :
    MeetsIn prog w (Builtin.«dict.pop» ⟨[.ref d, .ref b], []⟩) (fun A R s => ∃ xs p0, knd.room A.in1 ∧ knd.is s.heap k b ∧ s.heap.DictOfH knd d xs ∧ xs.length ≤ sizeLine ∧ atKey xs k = some p0 ∧
      ∀ p, atKey xs k = some p → ∀ h' tk, h'.DictOfH knd d (DT.dropH xs k) → Heap.SameBut d s.heap h' → R (.ok (.ret p.2)) { s with heap := h', toks := tk }) :=
  .of_wp fun A R s ⟨xs, p0, hu, hkey, hm, hsz, hp0, hsome⟩ => by
    obtain ⟨o, es, ep, ho, hc, hdat, he, his, hn⟩ := id hm
    have hes : es.size = xs.length := size_of_entries he
    have hne : xs ≠ [] := fun z => by rw [z] at hp0; cases hp0
    have hem : es.isEmpty = false := by
      cases q : es.isEmpty with
      | false => rfl
      | true =>
        have z : es.size = 0 := by simpa using q
        exact absurd (List.length_eq_zero_iff.mp (by omega)) hne
    unfold Builtin.«dict.pop»
    refine wpAny_bind ?_; unfold Builtin.Dict.keyAndDefault
    refine wpAny_bind (wpAny_notOrdered_dict hm.typeIs ?_)
    show wpAny _ _ (pure (d, Value.ref b, (none : Option Value))) _ _ s
    refine wpAny_pure ?_
    simp only [show (keyPart (Value.ref b)).isSome = false from rfl, Bool.false_eq_true, if_false]
    refine wpAny_bind (wpAny_dictEntries ho hdat (wpAny_bind (wpAny_pure ?_)))
    simp only [hem, Bool.false_eq_true, if_false]
    refine wpAny_bind (DT.takeH hu hkey hm hsz (fun hno => ?_) fun p e hp hev h' hm' hs' => ?_)
    · rw [hno] at hp0; cases hp0
    · simp only [Option.isNone_some, Bool.false_eq_true, if_false]
      exact wpAny_bind (wpAny_letGo (wpAny_pure ⟨e.val, rfl, by rw [hev]; exact hsome p hp h' _ hm' hs'⟩))
end
section
variable {X : Cx}
theorem mt_pop1T (hu : X.A.units + 1 < cLine) : MtR X "dict.pop" rPop1 := by
  intro pins s σ H x xs v us Q I rx rxs h
  obtain ⟨a, kvs, k, b, v0, rfl, rfl, ha, hb, hv0, q⟩ := h
  cases rx
  obtain ⟨u1, rfl, r1⟩ := vals1 rxs
  cases r1
  obtain ⟨z, hd, xs', rel, dd⟩ := dt_of I.hok ha
  have hz : xs'.length ≤ sizeLine := by rw [← Paired.length rel]; exact z
  have r := rel.val k
  rw [hv0] at r
  obtain ⟨p0, hp0, rv⟩ : ∃ p0, atKey xs' k = some p0 ∧ RelV v0 p0.2 := by
    cases ev : atKey xs' k with
    | none => rw [ev] at r; exact (show False from r).elim
    | some p0 => rw [ev] at r; exact ⟨p0, rfl, r⟩
  refine call_meetsIn PySem.F.slot_dict_pop dd.typeIs PySem.F.entry_dict_pop (PySem.F.args_dict_pop_2 _ _) (meets_pop1 (knd := tupleKind (mixKind X.prog X.w)) (k := k) hd) ⟨xs', p0, tupleKind_room_in1 hu, key_of I.hok hb, dd, hz, hp0, fun p hp h' tk dd' hs => ?_⟩
  rw [hp0] at hp
  cases hp
  obtain ⟨o, es, ep, hq, h2, h3, h4, _, h5⟩ := dd'
  have I2 : Inv X pins σ (upd H a (.dT (dropK kvs k))) { s with heap := h', toks := tk } :=
    d_write I (by rw [ha]; exact True.intro) hs ⟨o, hq⟩ ⟨Nat.le_trans (dropK_le kvs k) z, hd, _, (L2.DX.KT_drop k rel).keeps (fun c ys ec => (by rw [upd_ne (ne_of ec ha (fun z => nomatch z))]; exact ec)), o, es, ep, hq, h2, h3, h4, h5⟩
  show EP X pins σ Q p0.2 _
  exact ⟨v0, _, I2, rv, q⟩
end
/-- a text's signs with their places -/
def Itse (x : Str) : It := ⟨fun i _ => i < x.cps.size, fun i H v H' => ∃ T c, v = .ref T ∧ H T = none ∧ H' = upd H T (.tup [.int (i : Nat), .str ⟨#[c]⟩]) ∧ x.cps[i]? = some c, fun i _ => x.cps.size ≤ i⟩
theorem turn_enumS {P : Program} {w : World} {K : PySem.W.Frag} {elts : List Expr} {kk : Nat} {tpos : Pos} (e it : Addr) (x : Str) (t : Tok) (ty : String) (hty : ty = "str_ascii_iterator" ∨ ty = "str_iterator") :
    Turn P w K (.Tuple elts kk tpos) (Itse x) [e, it] e (fun i h => (∃ old, IsEnum h e it i old) ∧ h.IsStrIter it ty x t i ∧ e ≠ it ∧ i ≤ x.cps.size) where
  mem := by simp
  obj := fun i h st b hb => by
    obtain ⟨⟨old, he⟩, ⟨o, ho, hc, hd⟩, _⟩ := st
    have e' : b = e ∨ b = it := by simpa using hb
    rcases e' with z | z
    · rw [z]; exact ⟨_, he, fun v q => nomatch q⟩
    · rw [z]; exact ⟨o, ho, fun v q => by rw [hd] at q; cases q⟩
  keep := fun i h h' st k => by
    obtain ⟨⟨old, he⟩, ⟨o, ho, r⟩, hne⟩ := st
    exact ⟨⟨old, k e (by simp) _ he⟩, ⟨o, k it (by simp) o ho, r⟩, hne⟩
  item := by
    intro X hP hw hK hc i pins s σ H E I hf st hg
    subst hP hw hK
    obtain ⟨⟨old, he⟩, hit, hne, hi⟩ := st
    have hg' : i < x.cps.size := hg
    have hel : e < s.heap.objs.size := Heap.lt_size he
    have hil : it < s.heap.objs.size := by obtain ⟨_, q, _⟩ := hit; exact Heap.lt_size q
    have D : Draws X.prog X.w X.A.in1 it [it] x.cps.size (fun i v => ∃ c u, x.cps[i]? = some c ∧ v = .str ⟨#[c]⟩ u) (fun i h => h.IsStrIter it ty x t i) := by
      rcases hty with z | z
      · rw [z]; exact Draws.strAscii (A := X.A.in1) (I.ok.hd hc) it x t
      · rw [z]; exact Draws.strWide (A := X.A.in1) (I.ok.hd hc) it x t
    refine wpAny_pyNext_enum_itemD D he hit hg hne (by simpa using hne) fun v h' tk hv ho hit' hT hsz hk => ?_
    obtain ⟨c, u, hcx, rfl⟩ := hv
    refine ⟨_, rfl, wpAny_letOwnedTupleGo_enum (s := { s with heap := h', toks := tk + 1 }) ho fun h'' he' sb => ?_⟩
    have hT2 : h''.get? s.heap.objs.size = some { cls := .type "tuple", data := .seq #[.int i tk, .str ⟨#[c]⟩ u] } := (sb.2 _ (Nat.ne_of_gt hel)).trans hT
    have new : ObjOk X.prog X.w (upd H s.heap.objs.size (.tup [.int (i : Nat), .str ⟨#[c]⟩])) h'' s.heap.objs.size (.tup [.int (i : Nat), .str ⟨#[c]⟩]) :=
      ⟨(by show 2 ≤ sizeLine; decide), [.int i tk, .str ⟨#[c]⟩ u], .cons ⟨_, rfl⟩ (.cons ⟨u, rfl⟩ .nil), ⟨_, hT2, rfl, _, rfl⟩⟩
    have I1 : Inv X pins σ (upd H s.heap.objs.size (.tup [.int (i : Nat), .str ⟨#[c]⟩])) { s with heap := h'', toks := tk + 1 } :=
      I.turnedNew (ch := [e, it]) (fun b ob hb q => (sb.2 b (fun z => hb (by simp [z]))).trans (hk b ob (fun z => hb (by simp [z])) (fun z => hb (by simp [z])) q)) hf (Nat.le_refl _) new
    refine ⟨.ref s.heap.objs.size, _, I1, rfl, ⟨_, c, rfl, I.hok.fresh (Nat.le_refl _), rfl, hcx⟩, ⟨⟨.str ⟨#[c]⟩ u, ?_⟩, (by obtain ⟨o, a, b⟩ := hit'; exact ⟨o, (sb.2 it (Ne.symm hne)).trans a, b⟩), hne, hg'⟩, fun b hb => ?_⟩
    · rw [show ((i + 1 : Nat) : Int) = (i : Int) + 1 by omega]; exact he'
    · have hb' : b < s.heap.objs.size := by
        have z : b = e ∨ b = it := by simpa using hb
        rcases z with z | z
        · rw [z]; exact hel
        · rw [z]; exact hil
      rw [upd_ne (Nat.ne_of_lt hb')]; exact (hf b hb).1
  done := by
    intro X hP hw hK hc i pins s σ H E I hf st hg
    subst hP hw hK
    obtain ⟨⟨old, he⟩, hit, hne, hi⟩ := st
    have hg' : x.cps.size ≤ i := hg
    obtain rfl : i = x.cps.size := by omega
    have D : Draws X.prog X.w X.A.in1 it [it] x.cps.size (fun i v => ∃ c u, x.cps[i]? = some c ∧ v = .str ⟨#[c]⟩ u) (fun i h => h.IsStrIter it ty x t i) := by
      rcases hty with z | z
      · rw [z]; exact Draws.strAscii (A := X.A.in1) (I.ok.hd hc) it x t
      · rw [z]; exact Draws.strWide (A := X.A.in1) (I.ok.hd hc) it x t
    obtain ⟨f0, f1, f2, f3, f4, f5⟩ := hf it (by simp)
    exact wpAny_pyNext_enum_endD D he hit fun h' eb => ⟨rfl, I.turned (t' := s.toks) (fun b o hb q => eb b o hb q) f0 f1 f3 f4 f5⟩
  self := fun A i s Q E st h => by
    obtain ⟨⟨old, he⟩, _, _⟩ := st
    exact wpAny_pyIter_enum he h
def iEnumS (ta : TA) : TI := fun σ H R => ta σ H fun vs H1 => ∃ x, vs = [.str x] ∧ R (Itse x) H1
theorem strIter_ty (x : Str) : strIterType x = "str_ascii_iterator" ∨ strIterType x = "str_iterator" := by
  unfold strIterType
  cases x.cps.all (· < 128)
  · exact .inr rfl
  · exact .inl rfl
theorem pi_enumS {X : Cx} {e : Expr} {ta : TA} {p pos tpos : Pos} {elts : List Expr} {kk : Nat} (hg : Gl X "enumerate") (hm : X.mg "enumerate" = none) (ha : PA X [e] ta) (hs : starEach [e] X.env = [(false, eval e X.env)] := by rfl) :
    PI X (.Tuple elts kk tpos) (.Call (.Name "enumerate" p) [e] [] pos) (iEnumS ta) := by
  refine ⟨fun pins s σ H R I h => Call_ (ld_blt I hg hm boot_enumerate (PyProof.Rows.callWith_type1 (thn (ha.run pos pins s σ H _ I h) fun us s1 ⟨vs, H1, I1, r1, q1⟩ => ?_) hs rfl))⟩
  obtain ⟨x, ex, q⟩ := q1
  subst ex
  cases r1 with
  | cons r rr =>
    cases rr
    obtain ⟨t, rfl⟩ := r
    refine call_enumerate_str fun h' he hit hsz hk => wpAny_pyIter_enum he ?_
    have I2 : Inv X pins σ H1 { s1 with heap := h' } := I1.kept (t' := s1.toks) hk
    refine ⟨s1.heap.objs.size + 1, [s1.heap.objs.size + 1, s1.heap.objs.size], _, _, H1, rfl, I2, turn_enumS (s1.heap.objs.size + 1) s1.heap.objs.size x t (strIterType x) (strIter_ty x), ⟨⟨.none, he⟩, hit, Nat.succ_ne_self _, Nat.zero_le _⟩, fun b hb => ?_, q⟩
    have hle : s1.heap.objs.size ≤ b := by
      have z : b = s1.heap.objs.size + 1 ∨ b = s1.heap.objs.size := by simpa using hb
      rcases z with z | z
      · rw [z]; exact Nat.le_add_right _ _
      · rw [z]; exact Nat.le_refl _
    exact I1.fpOk hle (I1.hok.fresh hle)
theorem walk_enumS {z : Str} : Walk (Itse z) z.cps.size (fun _ => True) (YPair (fun i => some (.int (i : Nat))) (fun i => z.cps[i]?.map fun c => V.str ⟨#[c]⟩)) := by
  refine ⟨fun _ _ hi _ => hi, fun _ _ => Nat.le_refl _, fun i H v H' _ _ y => ?_⟩
  obtain ⟨T, c, h1, h2, h3, h4⟩ := y
  exact ⟨T, .int (i : Nat), .str ⟨#[c]⟩, h1, h2, h3, rfl, by show (z.cps[i]?).map _ = _; rw [h4]; rfl⟩
theorem d_iEnS {ta : TA} {σ : L2.St} {H : Hp} {R : It → Hp → Prop} (h : ta σ H fun vs H1 => ∃ x, vs = [.str x] ∧ R (Itse x) H1) : iEnumS ta σ H R := h
theorem d_iEnSe {C : Str → Prop} {z : Str} (q : C z) : ∃ x, [V.str z] = [.str x] ∧ C x := ⟨z, rfl, q⟩
theorem d_iEn {K : PySem.W.Frag} {ta : TA} {σ : L2.St} {H : Hp} {R : It → Hp → Prop} (h : ta σ H fun vs H1 => ∃ a xs, vs = [.ref a] ∧ SqL K H1 a xs ∧ R (Ite K a) H1) : iEnum K ta σ H R := h
end Cw

namespace Cw
open PySem PySem.Spec PyProof.Rows L2
theorem erase_map {α β : Type} (f : α → β) : ∀ (l : List α) (m : Nat), (l.map f).eraseIdx m = (l.eraseIdx m).map f
  | [], m => by simp
  | _ :: _, 0 => rfl
  | x :: l, m + 1 => by
    show f x :: (l.map f).eraseIdx m = f x :: (l.eraseIdx m).map f
    rw [erase_map f l m]
theorem erase_perm {α : Type} : ∀ (l : List α) (m : Nat) (h : m < l.length), (l[m] :: l.eraseIdx m).Perm l
  | [], m, h => absurd h (Nat.not_lt_zero _)
  | x :: l, 0, _ => List.Perm.refl _
  | x :: l, m + 1, h => by
    have hm : m < l.length := Nat.lt_of_succ_lt_succ h
    have ih := erase_perm l m hm
    exact (List.Perm.swap x l[m] _).trans (ih.cons x)
/-- as many different numbers below n as there are, at most -/
theorem nodup_len : ∀ (n : Nat) (l : List Nat), l.Nodup → (∀ x ∈ l, x < n) → l.length ≤ n
  | 0, l, _, h => by
    cases l with
    | nil => exact Nat.le_refl _
    | cons x r => exact absurd (h x List.mem_cons_self) (Nat.not_lt_zero _)
  | n + 1, l, hn, h => by
    by_cases hm : n ∈ l
    · have ih := nodup_len n (l.erase n) (hn.erase n) fun x hx => by
        have h1 := h x (List.mem_of_mem_erase hx)
        have h2 : x ≠ n := fun z => by
          subst z
          exact absurd hx (List.Nodup.not_mem_erase hn)
        omega
      rw [List.length_erase_of_mem hm] at ih
      omega
    · have ih := nodup_len n l hn fun x hx => by
        have h1 := h x hx
        have h2 : x ≠ n := fun z => hm (z ▸ hx)
        omega
      omega
/-! ### places called otherwise -/
def qa (qs : List Nat) (p : Nat) : Nat := qs.getD p 0
def mapTie (qs : List Nat) (t : Tie) : Tie := (min (qa qs t.1) (qa qs t.2.1), max (qa qs t.1) (qa qs t.2.1), t.2.2)
theorem qa_at {qs : List Nat} {p : Nat} (h : p < qs.length) : qs[p]? = some (qa qs p) := by
  unfold qa
  rw [List.getD_eq_getElem?_getD, List.getElem?_eq_getElem h]; rfl
structure Ord (qs : List Nat) (n : Nat) : Prop where
  len : qs.length = n
  nd : qs.Nodup
  lt : ∀ q ∈ qs, q < n
  all : ∀ j, j < n → j ∈ qs
theorem Ord.of {qs : List Nat} {n : Nat} (p : qs.Perm (List.range n)) : Ord qs n :=
  ⟨by rw [p.length_eq, List.length_range], p.nodup_iff.mpr List.nodup_range, fun q hq => List.mem_range.mp (p.mem_iff.mp hq), fun j hj => p.mem_iff.mpr (List.mem_range.mpr hj)⟩
theorem Ord.inj {qs : List Nat} {n p r : Nat} (o : Ord qs n) (hp : p < n) (hr : r < n) (h : qa qs p = qa qs r) : p = r := by
  have h1 : p < qs.length := by rw [o.len]; exact hp
  have h2 : r < qs.length := by rw [o.len]; exact hr
  have e1 := qa_at h1
  have e2 := qa_at h2
  rw [List.getElem?_eq_getElem h1] at e1
  rw [List.getElem?_eq_getElem h2] at e2
  exact (List.getElem_inj o.nd).mp ((Option.some.inj e1).trans (h.trans (Option.some.inj e2).symm))
theorem Ord.lt' {qs : List Nat} {n p : Nat} (o : Ord qs n) (hp : p < n) : qa qs p < n := o.lt _ (List.mem_of_getElem? (qa_at (by rw [o.len]; exact hp)))
theorem Ord.onto {qs : List Nat} {n j : Nat} (o : Ord qs n) (hj : j < n) : ∃ p, p < n ∧ qa qs p = j := by
  obtain ⟨p, hp⟩ := List.mem_iff_getElem?.mp (o.all j hj)
  have h1 : p < qs.length := (List.getElem?_eq_some_iff.mp hp).1
  rw [qa_at h1] at hp
  exact ⟨p, by rw [← o.len]; exact h1, Option.some.inj hp⟩
def ends (t : Tie) : Nat × Nat := (t.1, t.2.1)
structure Named (w : Web) (qs : List Nat) (w' : Web) : Prop where
  len : w'.1.length = w.1.length
  kinds : ∀ p, p < w.1.length → w'.1[qa qs p]? = w.1[p]?
  ties : w'.2.Perm (w.2.map (mapTie qs))
theorem mapTie_ends {w : Web} {qs : List Nat} (W : WOk w) (o : Ord qs w.1.length) : (w.2.map (mapTie qs)).Pairwise (fun x y => ends x ≠ ends y) := by
  rw [List.pairwise_map]
  refine List.Pairwise.imp_of_mem (fun {t u} ht hu lt e => ?_) W.rise
  have r1 := W.ends t ht
  have r2 := W.ends u hu
  unfold ends mapTie at e
  simp only [Prod.mk.injEq] at e
  obtain ⟨e1, e2⟩ := e
  by_cases c : qa qs t.1 = qa qs u.1
  · have a := o.inj (by omega) (by omega) c
    have c2 : qa qs t.2.1 = qa qs u.2.1 := by omega
    have b := o.inj (by omega) (by omega) c2
    rcases lt with z | ⟨_, z⟩ <;> omega
  · have c1 : qa qs t.1 = qa qs u.2.1 := by omega
    have c2 : qa qs t.2.1 = qa qs u.1 := by omega
    have a := o.inj (by omega) (by omega) c1
    have b := o.inj (by omega) (by omega) c2
    omega
/-- sorted ties of different ends rise -/
theorem rise_of {ts : List Tie} (s : ts.Pairwise (fun x y => lexT ((y.1 : Int), (y.2.1 : Int), y.2.2) ((x.1 : Int), (x.2.1 : Int), x.2.2) = false)) (d : ts.Pairwise (fun x y => ends x ≠ ends y)) : ts.Pairwise tlt := by
  refine (s.and d).imp fun {x y} h => ?_
  obtain ⟨h1, h2⟩ := h
  have a := lexT_no.mp h1
  unfold ends at h2
  simp only [ne_eq, Prod.mk.injEq, not_and] at h2
  dsimp only at a
  unfold tlt
  by_cases c : x.1 = y.1
  · have := h2 c
    right
    omega
  · left
    omega
theorem named_ok {w w' : Web} {qs : List Nat} (W : WOk w) (o : Ord qs w.1.length) (N : Named w qs w') (s : w'.2.Pairwise (fun x y => lexT ((y.1 : Int), (y.2.1 : Int), y.2.2) ((x.1 : Int), (x.2.1 : Int), x.2.2) = false)) : WOk w' := by
  refine ⟨by rw [N.len]; exact W.few, by rw [N.ties.length_eq, List.length_map]; exact W.most, fun c hc => ?_, rise_of s ?_, fun t ht => ?_⟩
  · obtain ⟨j, hj⟩ := List.mem_iff_getElem?.mp hc
    have hj' : j < w.1.length := by rw [← N.len]; exact (List.getElem?_eq_some_iff.mp hj).1
    obtain ⟨p, hp, rfl⟩ := o.onto hj'
    rw [N.kinds p hp] at hj
    exact W.kinds c (List.mem_of_getElem? hj)
  · exact (List.Perm.pairwise_iff (fun {x y} h => h.symm) N.ties).mpr (mapTie_ends W o)
  · obtain ⟨u, hu, rfl⟩ := List.mem_map.mp (N.ties.mem_iff.mp ht)
    have r := W.ends u hu
    have a := o.lt' (p := u.1) (by omega)
    have b := o.lt' (p := u.2.1) (by omega)
    have n : qa qs u.1 ≠ qa qs u.2.1 := fun z => by
      have := o.inj (by omega) (by omega) z
      omega
    refine ⟨?_, ?_, r.2.2⟩
    · show min _ _ < max _ _; omega
    · show max _ _ < w'.1.length; rw [N.len]; omega
theorem flat_rep (n : Nat) (x : V) : (List.replicate n [x]).flatten = List.replicate n x := by
  induction n with
  | zero => rfl
  | succ n ih => rw [List.replicate_succ, List.flatten_cons, ih, List.replicate_succ]; rfl
end Cw

namespace Cw
open PySem PySem.Spec PyProof.Rows L2
/-! ### a dict of ties by their ends -/
def kE (a b : Int) : List Key := [.inl a, .inl b]
structure DictOk (n : Nat) (kvs : List (List Key × V)) : Prop where
  nd : (kvs.map (·.1)).Nodup
  ok : ∀ p ∈ kvs, ∃ a b c : Nat, p = (kE a b, V.str (sg c)) ∧ a < b ∧ b < n ∧ Ltr c
theorem DictOk.nil (n : Nat) : DictOk n [] := ⟨List.nodup_nil, fun p hp => by simp at hp⟩
theorem valV_mem {kvs : List (List Key × V)} {k : List Key} {v : V} (h : valV kvs k = some v) : (k, v) ∈ kvs := by
  unfold valV at h
  obtain ⟨p, hp, rfl⟩ := Option.map_eq_some_iff.mp h
  have h1 := List.find?_some hp
  have h2 := List.mem_of_find?_eq_some hp
  have e : p.1 = k := of_decide_eq_true h1
  subst e
  exact h2
theorem DictOk.at {n : Nat} {kvs : List (List Key × V)} (d : DictOk n kvs) {k : List Key} {v : V} (h : valV kvs k = some v) : ∃ a b c : Nat, k = kE a b ∧ v = V.str (sg c) ∧ a < b ∧ b < n ∧ Ltr c := by
  obtain ⟨a, b, c, e, r⟩ := d.ok _ (valV_mem h)
  cases e
  exact ⟨a, b, c, rfl, rfl, r⟩
theorem DictOk.put {n : Nat} {kvs : List (List Key × V)} (d : DictOk n kvs) {a b c : Nat} (h1 : a < b) (h2 : b < n) (h3 : Ltr c) : DictOk n (putK kvs (kE a b) (.str (sg c))) := by
  unfold putK
  by_cases h : (kvs.any fun kv => decide (kv.1 = kE a b)) = true
  · rw [if_pos h]
    refine ⟨?_, fun p hp => ?_⟩
    · rw [List.map_map]
      have e : kvs.map ((·.1) ∘ fun kv => if kv.1 = kE a b then (kv.1, V.str (sg c)) else kv) = kvs.map (·.1) := by
        refine List.map_congr_left fun x _ => ?_
        show (if x.1 = kE a b then (x.1, V.str (sg c)) else x).1 = x.1
        split <;> rfl
      rw [e]
      exact d.nd
    · obtain ⟨x, hx, rfl⟩ := List.mem_map.mp hp
      by_cases e : x.1 = kE a b
      · rw [if_pos e, e]
        exact ⟨a, b, c, rfl, h1, h2, h3⟩
      · rw [if_neg e]
        exact d.ok x hx
  · rw [if_neg h]
    have hno : kE a b ∉ kvs.map (·.1) := fun hm => by
      obtain ⟨x, hx, e⟩ := List.mem_map.mp hm
      exact h (List.any_eq_true.mpr ⟨x, hx, decide_eq_true e⟩)
    refine ⟨?_, fun p hp => ?_⟩
    · rw [List.map_append]
      exact List.nodup_append.mpr ⟨d.nd, by simp, fun x hx y hy => by rw [List.mem_singleton.mp hy]; intro z; exact hno (by rw [← (show x = kE a b from z)]; exact hx)⟩
    · rcases List.mem_append.mp hp with hp | hp
      · exact d.ok p hp
      · rw [List.mem_singleton.mp hp]
        exact ⟨a, b, c, rfl, h1, h2, h3⟩
theorem DictOk.drop {n : Nat} {kvs : List (List Key × V)} (d : DictOk n kvs) (k : List Key) : DictOk n (dropK kvs k) :=
  ⟨d.nd.sublist ((List.filter_sublist).map _), fun p hp => d.ok p (List.mem_filter.mp hp).1⟩
theorem valV_drop {kvs : List (List Key × V)} {k j : List Key} (h : j ≠ k) : valV (dropK kvs k) j = valV kvs j := by
  unfold valV dropK
  congr 1
  induction kvs with
  | nil => rfl
  | cons x kvs ih =>
    by_cases e : x.1 = k
    · have e2 : ¬ x.1 = j := fun z => h (z.symm.trans e)
      rw [List.filter_cons_of_neg (by simp [e]), List.find?_cons_of_neg (by simp [e2])]
      exact ih
    · rw [List.filter_cons_of_pos (by simp [e])]
      by_cases e2 : x.1 = j
      · rw [List.find?_cons_of_pos (by simp [e2]), List.find?_cons_of_pos (by simp [e2])]
      · rw [List.find?_cons_of_neg (by simp [e2]), List.find?_cons_of_neg (by simp [e2])]
        exact ih
theorem DictOk.has {n : Nat} {kvs : List (List Key × V)} {k : List Key} (d : DictOk n kvs) (h : k ∈ kvs.map (·.1)) : ∃ v, valV kvs k = some v := by
  obtain ⟨x, hx, rfl⟩ := List.mem_map.mp h
  cases e : valV kvs x.1 with
  | some v => exact ⟨v, rfl⟩
  | none => exact absurd (List.mem_map.mpr ⟨x, hx, rfl⟩) (valV_not e)
theorem DictOk.len {n : Nat} {kvs : List (List Key × V)} (d : DictOk n kvs) (hn : n ≤ 40) : kvs.length ≤ 1600 := by
  let code : List Key × V → Nat := fun p => match p.1 with
    | [.inl a, .inl b] => a.toNat * 40 + b.toNat
    | _ => 0
  have hc : ∀ p ∈ kvs, ∃ a b : Nat, p.1 = kE a b ∧ code p = a * 40 + b ∧ a < 40 ∧ b < 40 := fun p hp => by
    obtain ⟨a, b, c, rfl, h1, h2, _⟩ := d.ok p hp
    exact ⟨a, b, rfl, rfl, by omega, by omega⟩
  have l := nodup_len 1600 (kvs.map code) (by
    have z := d.nd
    unfold List.Nodup at z ⊢
    rw [List.pairwise_map] at z ⊢
    refine List.Pairwise.imp_of_mem (fun {x y} hx hy hne e => ?_) z
    obtain ⟨a, b, e1, e2, b1, b2⟩ := hc x hx
    obtain ⟨a', b', e1', e2', b1', b2'⟩ := hc y hy
    rw [e2, e2'] at e
    have : a = a' ∧ b = b' := by omega
    rw [e1, e1', this.1, this.2] at hne
    exact hne rfl) (fun x hx => by
    obtain ⟨p, hp, rfl⟩ := List.mem_map.mp hx
    obtain ⟨a, b, _, e2, b1, b2⟩ := hc p hp
    rw [e2]; omega)
  rw [List.length_map] at l
  exact l
theorem DictOk.pairs {n : Nat} {kvs : List (List Key × V)} (d : DictOk n kvs) : ∀ p ∈ kvs, ∃ i j : Int, p.1 = [.inl i, .inl j] := fun p hp => by
  obtain ⟨a, b, c, rfl, _⟩ := d.ok p hp
  exact ⟨a, b, rfl⟩
/-- the web's other, in the making -/
def OI (h d : Addr) (H3 : Hp) (N : Nat) (kvs : List (List Key × V)) (H' : Hp) : Prop := H' d = some (.dT kvs) ∧ Keep h H3 H' ∧ Hand H' h ∧ DictOk N kvs
section
variable {h d p : Addr} {H3 H' H'' : Hp} {N : Nat} {kvs : List (List Key × V)} {o : HO}
theorem OI.new (x : OI h d H3 N kvs H') (f : H' p = none) : OI h d H3 N kvs (upd H' p o) := by
  obtain ⟨e, k, hh, dk⟩ := x
  exact ⟨at_upd e f, Keep.new k (Keep.free k (hh.ne f) f), hh.put (hh.ne f), dk⟩
theorem OI.draw (x : OI h d H3 N kvs H') (k' : Keep h H' H'') (hh' : Hand H'' h) : OI h d H3 N kvs H'' := by
  obtain ⟨e, k, hh, dk⟩ := x
  obtain ⟨_, _, eh, _⟩ := hh
  exact ⟨k' d _ (ne_of e eh (by intro z; cases z)) e, Keep.trans k k', hh', dk⟩
theorem OI.same (x : OI h d H3 N kvs H') (s : Same H' H'') : OI h d H3 N kvs H'' := x.draw (Same.keep s) (x.2.2.1.same s)
theorem OI.set (x : OI h d H3 N kvs H') (f : H3 d = none) {kvs' : List (List Key × V)} (dk' : DictOk N kvs') : OI h d H3 N kvs' (upd H' d (.dT kvs')) := by
  obtain ⟨e, k, hh, dk⟩ := x
  obtain ⟨_, _, eh, _⟩ := id hh
  exact ⟨upd_same, Keep.new k f, hh.put (ne_of e eh (by intro z; cases z)), dk'⟩
end
theorem putK_keys {kvs : List (List Key × V)} {k j : List Key} {v : V} (h : j ∈ kvs.map (·.1)) : j ∈ (putK kvs k v).map (·.1) := by
  obtain ⟨x, hx, rfl⟩ := List.mem_map.mp h
  unfold putK
  split
  · refine List.mem_map.mpr ⟨_, List.mem_map.mpr ⟨x, hx, rfl⟩, ?_⟩
    split <;> rfl
  · exact List.mem_map.mpr ⟨x, List.mem_append_left _ hx, rfl⟩
theorem dropK_keys {kvs : List (List Key × V)} {k j : List Key} (h : j ∈ kvs.map (·.1)) (n : j ≠ k) : j ∈ (dropK kvs k).map (·.1) := by
  obtain ⟨x, hx, rfl⟩ := List.mem_map.mp h
  exact List.mem_map.mpr ⟨x, List.mem_filter.mpr ⟨hx, decide_eq_true n⟩, rfl⟩
/-- the web's other, its keys being gone through -/
def OL (h d : Addr) (H3 : Hp) (N : Nat) (p : Addr) (es : List (Addr × Int × Int)) (i : Nat) (kvs : List (List Key × V)) (H' : Hp) : Prop :=
  OI h d H3 N kvs H' ∧ H' p = some (.lst (es.map fun e => V.ref e.1)) ∧ p ≠ h ∧ (∀ e ∈ es, H' e.1 = some (.tup [.int e.2.1, .int e.2.2])) ∧ (∀ j e, i ≤ j → es[j]? = some e → kE e.2.1 e.2.2 ∈ kvs.map (·.1)) ∧ (es.map fun e => kE e.2.1 e.2.2).Nodup
section
variable {h d p b : Addr} {H3 H' H'' : Hp} {N i : Nat} {kvs : List (List Key × V)} {o : HO} {es : List (Addr × Int × Int)}
theorem OL.start (x : OI h d H3 N kvs H') (f : H' p = none) (pm : (es.map fun e => kE e.2.1 e.2.2).Perm (kvs.map (·.1))) (he : ∀ e ∈ es, H' e.1 = some (.tup [.int e.2.1, .int e.2.2])) : OL h d H3 N p es 0 kvs (upd H' p (.lst (es.map fun e => V.ref e.1))) :=
  ⟨x.new f, upd_same, x.2.2.1.ne f, fun e h => at_upd (he e h) f, fun j e _ h => pm.mem_iff.mp (List.mem_map.mpr ⟨e, List.mem_of_getElem? h, rfl⟩), pm.nodup_iff.mpr x.2.2.2.nd⟩
theorem OL.next (x : OL h d H3 N p es i kvs H') : OL h d H3 N p es (i + 1) kvs H' := ⟨x.1, x.2.1, x.2.2.1, x.2.2.2.1, fun j e hj => x.2.2.2.2.1 j e (by omega), x.2.2.2.2.2⟩
theorem OL.new (x : OL h d H3 N p es i kvs H') (f : H' b = none) : OL h d H3 N p es i kvs (upd H' b o) := ⟨x.1.new f, at_upd x.2.1 f, x.2.2.1, fun e h => at_upd (x.2.2.2.1 e h) f, x.2.2.2.2⟩
theorem OL.list (x : OL h d H3 N p es i kvs H') {ys ys' : List V} (e : H' b = some (.lst ys)) (np : b ≠ p) (nh : b ≠ h) (f : H3 b = none) : OL h d H3 N p es i kvs (upd H' b (.lst ys')) := by
  obtain ⟨⟨ed, k, hh, dk⟩, ep, n, he, r⟩ := x
  exact ⟨⟨by rw [upd_ne (ne_of ed e (by intro z; cases z))]; exact ed, Keep.new k f, hh.put nh, dk⟩, by rw [upd_ne np.symm]; exact ep, n, fun t h => by rw [upd_ne (ne_of (he t h) e (by intro z; cases z))]; exact he t h, r⟩
theorem OL.draw (x : OL h d H3 N p es i kvs H') (k' : Keep h H' H'') (hh' : Hand H'' h) : OL h d H3 N p es i kvs H'' := by
  obtain ⟨O, ep, np, he, r⟩ := x
  obtain ⟨_, _, eh, _⟩ := id O.2.2.1
  exact ⟨O.draw k' hh', k' p _ np ep, np, fun e h => k' _ _ (ne_of (he e h) eh (by intro z; cases z)) (he e h), r⟩
theorem OL.set (x : OL h d H3 N p es i kvs H') (f : H3 d = none) {c c2 t : Nat} (h1 : c < c2) (h2 : c2 < N) (h3 : Ltr t) : OL h d H3 N p es i (putK kvs (kE c c2) (.str (sg t))) (upd H' d (.dT (putK kvs (kE c c2) (.str (sg t))))) := by
  obtain ⟨O, ep, np, he, hk, nd⟩ := x
  exact ⟨O.set f (O.2.2.2.put h1 h2 h3), by rw [upd_ne (ne_of ep O.1 (by intro z; cases z))]; exact ep, np, fun e h => by rw [upd_ne (ne_of (he e h) O.1 (by intro z; cases z))]; exact he e h, fun j e hj h => putK_keys (hk j e hj h), nd⟩
theorem OL.pop (x : OL h d H3 N p es i kvs H') (f : H3 d = none) {e : Addr × Int × Int} (h0 : es[i]? = some e) : OL h d H3 N p es (i + 1) (dropK kvs (kE e.2.1 e.2.2)) (upd H' d (.dT (dropK kvs (kE e.2.1 e.2.2)))) := by
  obtain ⟨O, ep, np, he, hk, nd⟩ := x
  refine ⟨O.set f (O.2.2.2.drop _), by rw [upd_ne (ne_of ep O.1 (by intro z; cases z))]; exact ep, np, fun e h => by rw [upd_ne (ne_of (he e h) O.1 (by intro z; cases z))]; exact he e h, fun j e' hj h => dropK_keys (hk j e' (by omega) h) fun z => ?_, nd⟩
  have li : i < es.length := (List.getElem?_eq_some_iff.mp h0).1
  have lj : j < es.length := (List.getElem?_eq_some_iff.mp h).1
  have e1 := (List.getElem?_eq_some_iff.mp h0).2
  have e2 := (List.getElem?_eq_some_iff.mp h).2
  have ne := List.pairwise_iff_getElem.mp nd i j (by rw [List.length_map]; exact li) (by rw [List.length_map]; exact lj) (by omega)
  simp only [List.getElem_map, e1, e2] at ne
  exact ne z.symm
end
theorem valV_mem' {kvs : List (List Key × V)} {n : Nat} (d : DictOk n kvs) {k : List Key} (h : k ∈ kvs.map (·.1)) : ∃ a b c : Nat, k = kE a b ∧ valV kvs k = some (V.str (sg c)) ∧ a < b ∧ b < n ∧ Ltr c := by
  obtain ⟨v, e⟩ := d.has h
  obtain ⟨a, b, c, e1, rfl, r⟩ := d.at e
  exact ⟨a, b, c, e1, e, r⟩
theorem kE_inj {a b c d : Int} (h : kE a b = kE c d) : a = c ∧ b = d := by
  unfold kE at h
  injection h with h1 h2
  injection h1 with h1
  injection h2 with h2
  injection h2 with h2
  exact ⟨h1, h2⟩
theorem rise_keys {es : List (Addr × Int × Int)} {ts : List Tie} (e : ts.map (fun t => ((t.1 : Int), (t.2.1 : Int))) = es.map (·.2)) (nd : (es.map fun e => kE e.2.1 e.2.2).Nodup)
    (s : (es.map (·.2)).Pairwise (fun x y => SrtO.lexB y x = false)) : ts.Pairwise tlt := by
  rw [← e, List.pairwise_map] at s
  have e2 : (es.map fun e => kE e.2.1 e.2.2) = ts.map fun t => kE t.1 t.2.1 := by
    have z := congrArg (List.map fun q : Int × Int => kE q.1 q.2) e
    rw [List.map_map, List.map_map] at z
    exact z.symm
  rw [e2] at nd
  have nd' := List.pairwise_map.mp nd
  refine (List.Pairwise.and s nd').imp fun {x y} ⟨h1, h2⟩ => ?_
  have h3 : ¬ ((y.1 : Int) < x.1 ∨ ((y.1 : Int) = x.1 ∧ (y.2.1 : Int) < x.2.1)) := fun z => by
    rw [← SrtO.lexB_iff (p := ((y.1 : Int), (y.2.1 : Int))) (q := ((x.1 : Int), (x.2.1 : Int)))] at z
    rw [z] at h1; cases h1
  have h4 : ¬ (x.1 = y.1 ∧ x.2.1 = y.2.1) := fun z => h2 (by rw [z.1, z.2])
  unfold tlt
  omega
/-- names that lead each place of the one to a like place of the other -/
structure NamesOk (w w' : Web) (ns : List Nat) : Prop where
  len : ns.length = w.1.length
  nd : ns.Nodup
  like : ∀ p q : Nat, ns[p]? = some q → q < w'.1.length ∧ w'.1[q]? = w.1[p]?
theorem cut_take (xs : List V) (n : Nat) (h : n ≤ xs.length) : cutV xs none (some (n : Nat)) = xs.take n := by
  unfold cutV
  have e : HT.sIx xs.length xs.length (some ((n : Nat) : Int)) = min n xs.length := HT.sIx_nat xs.length xs.length n
  rw [HT.sIx_none, e, List.drop_zero, Nat.sub_zero, Nat.min_eq_left h]
end Cw

namespace Cw
open PySem PySem.Spec PyProof.Rows L2
/-! ### leads -/
abbrev Lead := List (Nat × Nat)
structure LOk (w w' : Web) (ld : Lead) : Prop where
  rise : ld.Pairwise (fun x y => x.1 < y.1)
  ends : (ld.map (·.2)).Nodup
  like : ∀ p ∈ ld, p.1 < w.1.length ∧ p.2 < w'.1.length ∧ w'.1[p.2]? = w.1[p.1]?
def PairAt (K : PySem.W.Frag) (H : Hp) (v : V) (p : Nat × Nat) : Prop := ∃ a, v = .ref a ∧ SqT K H a [.int (p.1 : Nat), .int (p.2 : Nat)]
theorem PairAt.same {K : PySem.W.Frag} {H H' : Hp} {v : V} {p : Nat × Nat} (x : PairAt K H v p) (s : Same H H') : PairAt K H' v p := by
  obtain ⟨a, e, q⟩ := x
  exact ⟨a, e, Same.sqt s q⟩
theorem PairAt.keep {K : PySem.W.Frag} {H H' : Hp} {v : V} {p : Nat × Nat} {h : Addr} {ys : List V} (x : PairAt K H v p) (k : Keep h H H') (e : H h = some (.lst ys)) : PairAt K H' v p := by
  obtain ⟨a, e', q⟩ := x
  exact ⟨a, e', k.sqt e q⟩
theorem PairAt.put {K : PySem.W.Frag} {H : Hp} {v : V} {p : Nat × Nat} {b : Addr} {o : HO} (x : PairAt K H v p) (n : H b = none ∨ ∃ ys, H b = some (.lst ys)) : PairAt K (upd H b o) v p := by
  obtain ⟨a, e, q⟩ := x
  exact ⟨a, e, sqt_upd n q⟩
def Pairs (K : PySem.W.Frag) (H : Hp) (pvs : List V) (ld : Lead) : Prop := Paired (PairAt K H) pvs ld
section
variable {K : PySem.W.Frag} {H H' : Hp} {pvs : List V} {ld : Lead} {h b : Addr} {ys : List V} {o : HO}
theorem Pairs.same (x : Pairs K H pvs ld) (s : Same H H') : Pairs K H' pvs ld := Paired.imp x fun _ _ z => z.same s
theorem Pairs.keep (x : Pairs K H pvs ld) (k : Keep h H H') (e : H h = some (.lst ys)) : Pairs K H' pvs ld := Paired.imp x fun _ _ z => z.keep k e
theorem Pairs.put (x : Pairs K H pvs ld) (n : H b = none ∨ ∃ ys, H b = some (.lst ys)) : Pairs K (upd H b o) pvs ld := Paired.imp x fun _ _ z => z.put n
/-- one more pair, at a new place, and the list itself -/
theorem Pairs.more {p q : Nat} {l : Addr} {zs : List V} (x : Pairs K H pvs ld) (e : H l = some (.lst ys)) (f : H b = none) : Pairs K (upd (upd H b (.tup [.int (p : Nat), .int (q : Nat)])) l (.lst zs)) (pvs ++ [.ref b]) (ld ++ [(p, q)]) := by
  have el : (upd H b (.tup [.int (p : Nat), .int (q : Nat)])) l = some (.lst ys) := at_upd e f
  exact Paired.snoc ((x.put (.inl f)).put (.inr ⟨_, el⟩)) ⟨b, rfl, sqt_upd (.inr ⟨_, el⟩) (SqT.of upd_same)⟩
theorem Pairs.len (x : Pairs K H pvs ld) : pvs.length = ld.length := Paired.length x
end
theorem LOk.few {w w' : Web} {ld : Lead} (l : LOk w w' ld) : ld.length ≤ w'.1.length := by
  have := nodup_len w'.1.length (ld.map (·.2)) l.ends fun x hx => by
    obtain ⟨p, hp, rfl⟩ := List.mem_map.mp hx
    exact (l.like p hp).2.1
  rwa [List.length_map] at this
theorem eqv_nil (ds : List PyData) : PyData.eqv (.list ds) (.list []) = ds.isEmpty := by
  cases ds <;> simp [PyData.eqv, PyData.eqvAll]
theorem erase_zs (ls : List Nat) (j : Nat) : (zs ls).eraseIdx j = zs (ls.eraseIdx j) := erase_map _ _ _
theorem zs_at {ls : List Nat} {j x : Nat} : (zs ls)[j]? = some (x : Int) ↔ ls[j]? = some x := by
  unfold zs
  rw [List.getElem?_map, Option.map_eq_some_iff]
  constructor
  · rintro ⟨a, ha, e⟩
    rw [ha]; congr 1; omega
  · intro h
    exact ⟨x, h, rfl⟩
theorem nodup_at {ls : List Nat} (nd : ls.Nodup) {i j x : Nat} (h1 : ls[i]? = some x) (h2 : ls[j]? = some x) : i = j := by
  obtain ⟨l1, e1⟩ := List.getElem?_eq_some_iff.mp h1
  obtain ⟨l2, e2⟩ := List.getElem?_eq_some_iff.mp h2
  rcases Nat.lt_trichotomy i j with z | z | z
  · exact absurd (e1.trans e2.symm) (List.pairwise_iff_getElem.mp nd i j l1 l2 z)
  · exact z
  · exact absurd (e2.trans e1.symm) (List.pairwise_iff_getElem.mp nd j i l2 l1 z)
theorem nodup_erase {ls : List Nat} (nd : ls.Nodup) {j x : Nat} (h : ls[j]? = some x) : ∀ y, y ∈ ls.eraseIdx j ↔ y ∈ ls ∧ y ≠ x := by
  intro y
  obtain ⟨l1, e1⟩ := List.getElem?_eq_some_iff.mp h
  have p := erase_perm ls j l1
  rw [e1] at p
  have nd2 := p.nodup_iff.mpr nd
  rw [List.nodup_cons] at nd2
  have m := p.mem_iff (a := y)
  rw [List.mem_cons] at m
  constructor
  · intro hy
    exact ⟨m.mp (.inr hy), fun z => nd2.1 (z ▸ hy)⟩
  · rintro ⟨hy, ne⟩
    rcases m.mpr hy with z | z
    · exact absurd z ne
    · exact z
/-! ### led ties -/
def ldAt (ld : Lead) (p : Nat) : Option Nat := (ld.find? fun q => q.1 == p).map (·.2)
def isLed (w' : Web) (ld : Lead) (t : Tie) : Bool := match ldAt ld t.1, ldAt ld t.2.1 with
  | some a, some b => decide (tieL w'.2 a b = some t.2.2)
  | _, _ => false
def dueL (w w' : Web) (ld : Lead) : List Tie := w.2.filter (isLed w' ld)
theorem ldAt_nil (p : Nat) : ldAt [] p = none := rfl
theorem ldAt_pos {x : Nat × Nat} {r : Lead} {p : Nat} (e : x.1 = p) : ldAt (x :: r) p = some x.2 := by
  unfold ldAt; rw [List.find?_cons_of_pos (by simp [e])]; rfl
theorem ldAt_neg {x : Nat × Nat} {r : Lead} {p : Nat} (e : x.1 ≠ p) : ldAt (x :: r) p = ldAt r p := by
  unfold ldAt; rw [List.find?_cons_of_neg (by simp [e])]
theorem ldAt_none {ld : Lead} {p : Nat} (h : ∀ q ∈ ld, q.1 ≠ p) : ldAt ld p = none := by
  unfold ldAt
  rw [List.find?_eq_none.mpr fun q hq => by simp [h q hq]]; rfl
theorem filt_at (p : Nat) : ∀ ld : Lead, ld.Pairwise (fun x y => x.1 < y.1) → (ld.filter fun q => q.1 == p).map (·.2) = (ldAt ld p).toList
  | [], _ => rfl
  | x :: r, s => by
    obtain ⟨h, t⟩ := List.pairwise_cons.mp s
    by_cases e : x.1 = p
    · rw [ldAt_pos e, List.filter_cons_of_pos (by simp [e]), List.map_cons, filt_at p r t, ldAt_none fun q hq => by have := h q hq; omega]; rfl
    · rw [ldAt_neg e, List.filter_cons_of_neg (by simp [e])]; exact filt_at p r t
theorem ldAt_mem {ld : Lead} {p q : Nat} (h : ldAt ld p = some q) : (p, q) ∈ ld := by
  unfold ldAt at h
  obtain ⟨x, hx, rfl⟩ := Option.map_eq_some_iff.mp h
  have e : x.1 = p := by simpa using List.find?_some hx
  subst e
  exact List.mem_of_find?_eq_some hx
theorem led_merge (k : Nat) : ∀ (ld : Lead) (acc : List (Key × V)), ld.Pairwise (fun x y => x.1 < y.1) → valV (mergeK acc (ld.map fun p => ((.inl (p.1 : Int) : Key), V.int (p.2 : Nat)))) (.inl (k : Int)) = ((ldAt ld k).map fun q => V.int (q : Nat)).or (valV acc (.inl (k : Int)))
  | [], acc, _ => rfl
  | x :: r, acc, s => by
    obtain ⟨h, t⟩ := List.pairwise_cons.mp s
    show valV (mergeK (putK acc (.inl (x.1 : Int)) (V.int (x.2 : Nat))) (r.map _)) _ = _
    rw [led_merge k r _ t, valV_put]
    by_cases e : x.1 = k
    · rw [ldAt_pos e, ldAt_none fun q hq => by have := h q hq; omega, e, if_pos rfl]; rfl
    · rw [ldAt_neg e, if_neg (by intro z; injection z with z; omega)]
theorem led_dict (ld : Lead) (s : ld.Pairwise (fun x y => x.1 < y.1)) (k : Nat) : valV (mergeK [] (ld.map fun p => ((.inl (p.1 : Int) : Key), V.int (p.2 : Nat)))) (.inl (k : Int)) = (ldAt ld k).map fun q => V.int (q : Nat) := by
  rw [led_merge k ld [] s]
  show Option.or _ none = _
  rw [Option.or_none]
theorem optV_get (o : Option Nat) : (o.map fun c => V.str (sg c)).getD .non = optV o := by cases o <;> rfl
theorem optV_str (o : Option Nat) (c : Nat) : scal (optV o) (.str (sg c)) = true := by cases o <;> rfl
theorem optV_eq (o : Option Nat) (c : Nat) : decide (optV o = .str (sg c)) = decide (o = some c) := by
  cases o with
  | none => rfl
  | some d =>
    rw [Bool.eq_iff_iff, decide_eq_true_eq, decide_eq_true_eq]
    constructor
    · intro z
      injection z with z
      rw [sg_inj.mp z]
    · intro z
      cases z; rfl
theorem due_snoc {w' : Web} {ld : Lead} {ts : List Tie} {i : Nat} {t : Tie} (h : ts[i]? = some t) : (ts.take (i + 1)).filter (isLed w' ld) = (ts.take i).filter (isLed w' ld) ++ if isLed w' ld t = true then [t] else [] := by
  rw [take_snoc h, List.filter_append]
  congr 1
  by_cases c : isLed w' ld t = true
  · rw [if_pos c, List.filter_cons_of_pos c]; rfl
  · rw [if_neg c, List.filter_cons_of_neg c]; rfl
def Ties (K : PySem.W.Frag) (H : Hp) (xs : List V) (ts : List Tie) : Prop := Paired (TieAt K H) xs ts
section
variable {K : PySem.W.Frag} {H H' : Hp} {xs : List V} {ts : List Tie} {h b : Addr} {ys : List V} {o : HO}
theorem Ties.same (x : Ties K H xs ts) (s : Same H H') : Ties K H' xs ts := Paired.imp x fun _ _ z => z.same s
theorem Ties.keep (x : Ties K H xs ts) (k : Keep h H H') (e : H h = some (.lst ys)) : Ties K H' xs ts := Paired.imp x fun _ _ z => z.keep k e
theorem Ties.put (x : Ties K H xs ts) (n : H b = none ∨ ∃ ys, H b = some (.lst ys)) : Ties K (upd H b o) xs ts := Paired.imp x fun _ _ z => z.put n
theorem Ties.more {t : Tie} {l : Addr} {zs : List V} (x : Ties K H xs ts) (e : H l = some (.lst ys)) (f : H b = none) : Ties K (upd (upd H b (.tup [.int (t.1 : Nat), .int (t.2.1 : Nat), .str (sg t.2.2)])) l (.lst zs)) (xs ++ [.ref b]) (ts ++ [t]) := by
  have el : (upd H b (.tup [.int (t.1 : Nat), .int (t.2.1 : Nat), .str (sg t.2.2)])) l = some (.lst ys) := at_upd e f
  exact Paired.snoc ((x.put (.inl f)).put (.inr ⟨_, el⟩)) ⟨b, rfl, sqt_upd (.inr ⟨_, el⟩) (SqT.of upd_same)⟩
theorem Ties.len (x : Ties K H xs ts) : xs.length = ts.length := Paired.length x
end
theorem two_led {ld : Lead} {t : Tie} (h : ((ldAt ld t.1).toList ++ (ldAt ld t.2.1).toList).length = 2) : ∃ x y, ldAt ld t.1 = some x ∧ ldAt ld t.2.1 = some y := by
  cases e1 : ldAt ld t.1 <;> cases e2 : ldAt ld t.2.1 <;> rw [e1, e2] at h <;> simp at h
  exact ⟨_, _, rfl, rfl⟩
theorem not_two {w' : Web} {ld : Lead} {t : Tie} (h : ¬ ((ldAt ld t.1).toList ++ (ldAt ld t.2.1).toList).length = 2) : isLed w' ld t = false := by
  unfold isLed
  cases e1 : ldAt ld t.1 <;> cases e2 : ldAt ld t.2.1 <;> rw [e1, e2] at h <;> simp at h <;> rfl
theorem isLed_at {w' : Web} {ld : Lead} {t : Tie} {x y : Nat} (h1 : ldAt ld t.1 = some x) (h2 : ldAt ld t.2.1 = some y) : isLed w' ld t = decide (tieL w'.2 x y = some t.2.2) := by
  unfold isLed; rw [h1, h2]
theorem isLed_no {w' : Web} {ld : Lead} {t : Tie} (h : ldAt ld t.1 = none ∨ ldAt ld t.2.1 = none) : isLed w' ld t = false := by
  unfold isLed
  rcases h with h | h
  · rw [h]
  · rw [h]; cases ldAt ld t.1 <;> rfl
theorem Pairs.refs {K : PySem.W.Frag} {H : Hp} : ∀ {pvs : List V} {ld : Lead}, Pairs K H pvs ld → ∃ ps : List Addr, pvs = ps.map V.ref ∧ Paired (fun p (kv : Key × V) => SqT K H p [kV kv.1, kv.2]) ps (ld.map fun p => ((.inl (p.1 : Int) : Key), V.int (p.2 : Nat)))
  | _, _, .nil => ⟨[], rfl, .nil⟩
  | _, _, .cons h t => by
    obtain ⟨a, rfl, q⟩ := h
    obtain ⟨ps, rfl, r⟩ := Pairs.refs t
    exact ⟨a :: ps, rfl, .cons q r⟩
end Cw

namespace Cw
open PySem PySem.Spec PyProof.Rows L2
/-! ### data told -/
def tieD (t : Tie) : PyData := .tuple [.int (t.1 : Nat), .int (t.2.1 : Nat), .str (sg t.2.2)]
def pairD (p : Nat × Nat) : PyData := .tuple [.int (p.1 : Nat), .int (p.2 : Nat)]
def tiesD (ts : List Tie) : PyData := .list (ts.map tieD)
def pairsD (ld : Lead) : PyData := .list (ld.map pairD)
theorem Ties.dpa {K : PySem.W.Frag} {H : Hp} : ∀ {xs : List V} {ts : List Tie}, Ties K H xs ts → DpAll K H xs (ts.map tieD)
  | _, _, .nil => .nil
  | _, _, .cons h t => by
    obtain ⟨a, rfl, q⟩ := h
    exact .cons (.tup q (.cons (.int _) (.cons (.int _) (.cons (.str _) .nil)))) (Ties.dpa t)
theorem Pairs.dpa {K : PySem.W.Frag} {H : Hp} : ∀ {xs : List V} {ts : Lead}, Pairs K H xs ts → DpAll K H xs (ts.map pairD)
  | _, _, .nil => .nil
  | _, _, .cons h t => by
    obtain ⟨a, rfl, q⟩ := h
    exact .cons (.tup q (.cons (.int _) (.cons (.int _) .nil))) (Pairs.dpa t)
theorem Ties.dp {K : PySem.W.Frag} {H : Hp} {xs : List V} {ts : List Tie} {l : Addr} (x : Ties K H xs ts) (e : H l = some (.lst xs)) : Dp K H (.ref l) (tiesD ts) := .lst (SqL.of e) x.dpa
theorem Pairs.dp {K : PySem.W.Frag} {H : Hp} {xs : List V} {ts : Lead} {l : Addr} (x : Pairs K H xs ts) (e : H l = some (.lst xs)) : Dp K H (.ref l) (pairsD ts) := .lst (SqL.of e) x.dpa
theorem lay_all : ∀ {ds : List PyData} {k : Nat}, (∀ d ∈ ds, d.canLay0 = true ∧ d.depth ≤ k) → PyData.canLayAll0 ds = true ∧ PyData.depthAll ds ≤ k
  | [], k, _ => ⟨by simp [PyData.canLayAll0], by simp [PyData.depthAll]⟩
  | d :: ds, k, h => by
    obtain ⟨h1, h2⟩ := lay_all (ds := ds) (k := k) fun x hx => h x (List.mem_cons_of_mem _ hx)
    obtain ⟨h3, h4⟩ := h d List.mem_cons_self
    exact ⟨by simp [PyData.canLayAll0, h1, h3], by simp only [PyData.depthAll]; omega⟩
theorem shaped_list {ds : List PyData} {k : Nat} (hk : k ≤ 63) (h : ∀ d ∈ ds, d.canLay0 = true ∧ d.depth ≤ k) : SeqAt.shaped (.list ds) = true := by
  obtain ⟨h1, h2⟩ := lay_all h
  have : PyData.depth (.list ds) ≤ 64 := by simp only [PyData.depth]; omega
  simp [SeqAt.shaped, PyData.canLay0, h1, this]
theorem good_eqv {d : PyData} (h : SeqAt.shaped d = true) : PyData.eqv d d = true := SeqAt.eqv_refl d (SeqAt.canLay_of_shaped h)
theorem str_ok : ∀ c : Nat, c < 123 → PyData.strOk (sg c) = true := fun c h => by
  unfold PyData.strOk sg
  simp; omega
theorem tieD_lay {t : Tie} (h : Ltr t.2.2) : (tieD t).canLay0 = true ∧ (tieD t).depth ≤ 1 := by
  have := str_ok t.2.2 (by unfold Ltr at h; omega)
  unfold tieD
  simp [PyData.canLay0, PyData.canLayAll0, PyData.depth, PyData.depthAll, this]
theorem pairD_lay (p : Nat × Nat) : (pairD p).canLay0 = true ∧ (pairD p).depth ≤ 1 := by
  unfold pairD
  simp [PyData.canLay0, PyData.canLayAll0, PyData.depth, PyData.depthAll]
theorem tiesD_good {ts : List Tie} (h : ∀ t ∈ ts, Ltr t.2.2) : SeqAt.shaped (tiesD ts) = true := shaped_list (k := 1) (by decide) fun d hd => by
  obtain ⟨t, ht, rfl⟩ := List.mem_map.mp hd
  exact tieD_lay (h t ht)
theorem pairsD_good (ld : Lead) : SeqAt.shaped (pairsD ld) = true := shaped_list (k := 1) (by decide) fun d hd => by
  obtain ⟨t, ht, rfl⟩ := List.mem_map.mp hd
  exact pairD_lay t
theorem due_good {w w' : Web} (W : WOk w) (ld : Lead) : SeqAt.shaped (tiesD (dueL w w' ld)) = true := tiesD_good fun t ht => (W.ends t (List.mem_filter.mp ht).1).2.2
/-! ### what is held -/
def HeldG (K : PySem.W.Frag) (H : Hp) (hd : Addr) (m : Nat) : Prop := ∃ (hs : List V) (xs : List PyData), H hd = some (.lst hs) ∧ hs.length ≤ m ∧ DpAll K (del H hd) hs (xs.map fun x => PyData.list [x, x]) ∧ ∀ x ∈ xs, SeqAt.shaped x = true
/-- and nothing of it at h -/
def HeldH (K : PySem.W.Frag) (H : Hp) (hd h : Addr) (m : Nat) : Prop := ∃ (hs : List V) (xs : List PyData), H hd = some (.lst hs) ∧ hs.length ≤ m ∧ DpAll K (del (del H hd) h) hs (xs.map fun x => PyData.list [x, x]) ∧ ∀ x ∈ xs, SeqAt.shaped x = true
section
variable {K : PySem.W.Frag} {H H' : Hp} {hd h : Addr} {m n : Nat}
theorem HeldG.same (x : HeldG K H hd m) (s : Same H H') : HeldG K H' hd m := by
  obtain ⟨hs, xs, e, l, a, g⟩ := x
  exact ⟨hs, xs, s _ _ e, l, dpa_same (Keep.del (Same.keep s)) _ _ a, g⟩
theorem HeldG.mono (x : HeldG K H hd m) (h : m ≤ n) : HeldG K H hd n := by
  obtain ⟨hs, xs, e, l, a, g⟩ := x
  exact ⟨hs, xs, e, Nat.le_trans l h, a, g⟩
theorem HeldG.hand (x : HeldG K H hd m) (s : Same H H') (f : H h = none) : HeldH K H' hd h m := by
  obtain ⟨hs, xs, e, l, a, g⟩ := x
  refine ⟨hs, xs, s _ _ e, l, dpa_same (fun b o hb => ?_) _ _ a, g⟩
  have h1 := del_same _ _ b o hb
  rw [del_ne (ne_of_none h1 f)]
  exact Keep.del (Same.keep s) b o hb
theorem HeldH.out (x : HeldH K H hd h m) : HeldG K H hd m := by
  obtain ⟨hs, xs, e, l, a, g⟩ := x
  exact ⟨hs, xs, e, l, dpa_same (del_same _ _) _ _ a, g⟩
theorem keep_dd (k : Keep h H H') : Same (del (del H hd) h) (del (del H' hd) h) := Keep.del fun b o nb e => by
  have := del_same _ _ b o e
  by_cases n : b = hd
  · unfold del at e; rw [if_pos n] at e; cases e
  · rw [del_ne n]; exact k b o nb this
theorem HeldH.keep (x : HeldH K H hd h m) (k : Keep h H H') (n : hd ≠ h) : HeldH K H' hd h m := by
  obtain ⟨hs, xs, e, l, a, g⟩ := x
  exact ⟨hs, xs, k _ _ n e, l, dpa_same (keep_dd k) _ _ a, g⟩
theorem HeldH.same (x : HeldH K H hd h m) (s : Same H H') (n : hd ≠ h) : HeldH K H' hd h m := x.keep (Same.keep s) n
end
theorem sqt_del {K : PySem.W.Frag} {H : Hp} {a b : Addr} {xs ys : List V} (e : H b = some (.lst ys)) (q : SqT K H a xs) : SqT K (del H b) a xs := by
  rcases q with (q | ⟨o, q⟩) | q
  · exact .inl (.inl (del_at (ne_of q e (by intro z; cases z)) q))
  · exact .inl (.inr ⟨o, del_at (ne_of q e (by intro z; cases z)) q⟩)
  · exact .inr q
theorem Ties.del {K : PySem.W.Frag} {H : Hp} {b : Addr} {xs ys : List V} {ts : List Tie} (x : Ties K H xs ts) (e : H b = some (.lst ys)) : Ties K (Cw.del H b) xs ts := Paired.imp x fun _ _ ⟨a, r, q⟩ => ⟨a, r, sqt_del e q⟩
/-- a pair of lists of ties, held -/
theorem dp_two {K : PySem.W.Frag} {H : Hp} {hd h r t f : Addr} {hs hv tv fv : List V} {ts : List Tie} (ehd : H hd = some (.lst hs)) (eh : H h = some (.lst hv)) (er : H r = some (.lst [.ref t, .ref f])) (et : H t = some (.lst tv)) (ef : H f = some (.lst fv)) (x : Ties K H tv ts) (y : Ties K H fv ts)
    (n0 : h ≠ hd) (n1 : r ≠ hd) (n2 : t ≠ hd) (n3 : f ≠ hd) (m1 : r ≠ h) (m2 : t ≠ h) (m3 : f ≠ h) : Dp K (del (del H hd) h) (.ref r) (.list [tiesD ts, tiesD ts]) := by
  have eh' := del_at n0 eh
  refine .lst (SqL.of (del_at m1 (del_at n1 er))) (.cons ?_ (.cons ?_ .nil))
  · exact ((x.del ehd).del eh').dp (del_at m2 (del_at n2 et))
  · exact ((y.del ehd).del eh').dp (del_at m3 (del_at n3 ef))
end Cw

namespace Cw
open PySem PySem.Spec PyProof.Rows L2
theorem LOk.sub {w w' : Web} {ld kd : Lead} (L : LOk w w' ld) (s : kd.Sublist ld) : LOk w w' kd := ⟨L.rise.sublist s, L.ends.sublist (s.map _), fun p hp => L.like p (s.subset hp)⟩
theorem ldAt_iff {ld : Lead} (s : ld.Pairwise (fun x y => x.1 < y.1)) {p q : Nat} : ldAt ld p = some q ↔ (p, q) ∈ ld := by
  refine ⟨ldAt_mem, fun h => ?_⟩
  cases e : ldAt ld p with
  | none =>
    have : ld.find? (fun q => q.1 == p) = none := by
      unfold ldAt at e
      exact Option.map_eq_none_iff.mp e
    have := List.find?_eq_none.mp this _ h
    simp at this
  | some r =>
    have h2 := ldAt_mem e
    obtain ⟨i, hi, e1⟩ := List.getElem_of_mem h
    obtain ⟨j, hj, e2⟩ := List.getElem_of_mem h2
    have pw := List.pairwise_iff_getElem.mp s
    rcases Nat.lt_trichotomy i j with z | z | z
    · have := pw i j hi hj z
      rw [e1, e2] at this
      exact absurd this (Nat.lt_irrefl _)
    · subst z
      rw [e1] at e2
      injection e2 with _ e2
      rw [e2]
    · have := pw j i hj hi z
      rw [e1, e2] at this
      exact absurd this (Nat.lt_irrefl _)
theorem isLed_iff {w' : Web} {ld : Lead} (s : ld.Pairwise (fun x y => x.1 < y.1)) {t : Tie} : isLed w' ld t = true ↔ ∃ a b, (t.1, a) ∈ ld ∧ (t.2.1, b) ∈ ld ∧ tieL w'.2 a b = some t.2.2 := by
  constructor
  · intro h
    cases e1 : ldAt ld t.1 with
    | none => rw [isLed_no (.inl e1)] at h; cases h
    | some a =>
      cases e2 : ldAt ld t.2.1 with
      | none => rw [isLed_no (.inr e2)] at h; cases h
      | some b =>
        rw [isLed_at e1 e2] at h
        exact ⟨a, b, ldAt_mem e1, ldAt_mem e2, of_decide_eq_true h⟩
  · rintro ⟨a, b, h1, h2, h3⟩
    rw [isLed_at ((ldAt_iff s).mpr h1) ((ldAt_iff s).mpr h2)]
    exact decide_eq_true h3
def onT (p : Nat) (t : Tie) : Bool := t.1 == p || t.2.1 == p
/-- the pairs on some ties -/
def tiedL (ts : List Tie) (ld : Lead) : Lead := ld.filter fun p => ts.any (onT p.1)
theorem due_tied {w w' : Web} {ld : Lead} (L : LOk w w' ld) : dueL w w' (tiedL (dueL w w' ld) ld) = dueL w w' ld := by
  have sub : (tiedL (dueL w w' ld) ld).Sublist ld := List.filter_sublist
  refine List.filter_congr fun t ht => ?_
  rw [Bool.eq_iff_iff, isLed_iff (L.rise.sublist sub), isLed_iff L.rise]
  constructor
  · rintro ⟨a, b, h1, h2, h3⟩
    exact ⟨a, b, sub.subset h1, sub.subset h2, h3⟩
  · rintro ⟨a, b, h1, h2, h3⟩
    have hd : t ∈ dueL w w' ld := List.mem_filter.mpr ⟨ht, (isLed_iff L.rise).mpr ⟨a, b, h1, h2, h3⟩⟩
    exact ⟨a, b, List.mem_filter.mpr ⟨h1, List.any_eq_true.mpr ⟨t, hd, by simp [onT]⟩⟩, List.mem_filter.mpr ⟨h2, List.any_eq_true.mpr ⟨t, hd, by simp [onT]⟩⟩, h3⟩
theorem optV_scal2 (a b : Option Nat) : scal (optV a) (optV b) = true := by cases a <;> cases b <;> rfl
theorem optV_inj (a b : Option Nat) : decide (optV a = optV b) = decide (a = b) := by
  rw [Bool.eq_iff_iff, decide_eq_true_eq, decide_eq_true_eq]
  constructor
  · intro z
    cases a <;> cases b
    · rfl
    · cases z
    · cases z
    · injection z with z; rw [sg_inj.mp z]
  · intro z; rw [z]
theorem tiedL_snoc {ts : List Tie} {ld : Lead} {i : Nat} {p : Nat × Nat} (h : ld[i]? = some p) : tiedL ts (ld.take (i + 1)) = tiedL ts (ld.take i) ++ if ts.any (onT p.1) = true then [p] else [] := by
  unfold tiedL
  rw [take_snoc h, List.filter_append]
  congr 1
  by_cases c : ts.any (onT p.1) = true
  · rw [if_pos c, List.filter_cons_of_pos (p := fun p : Nat × Nat => ts.any (onT p.1)) c]; rfl
  · rw [if_neg c, List.filter_cons_of_neg (p := fun p : Nat × Nat => ts.any (onT p.1)) c]; rfl
/-- a block in a block -/
theorem any_ends (ts : List Tie) (p : Nat) : (!(((ts.map ends).filter fun e => e.1 == p || e.2 == p).map pairD).isEmpty) = ts.any (onT p) := by
  induction ts with
  | nil => rfl
  | cons t r ih =>
    rw [List.any_cons, List.map_cons]
    by_cases c : onT p t = true
    · rw [List.filter_cons_of_pos (p := fun e : Nat × Nat => e.1 == p || e.2 == p) (a := ends t) c, c, Bool.true_or]; rfl
    · rw [List.filter_cons_of_neg (p := fun e : Nat × Nat => e.1 == p || e.2 == p) (a := ends t) c, ih, Bool.eq_false_iff.mpr c, Bool.false_or]
theorem sh2 (x y : Int) : SeqAt.shaped (.tuple [.int x, .int y]) = true := by simp [SeqAt.shaped, PyData.canLay0, PyData.canLayAll0, PyData.depth, PyData.depthAll]
theorem two_good (a b : Lead) : SeqAt.shaped (.list [pairsD a, pairsD b]) = true := shaped_list (k := 2) (by decide) fun d hd => by
  have g : ∀ l : Lead, (pairsD l).canLay0 = true ∧ (pairsD l).depth ≤ 2 := fun l => by
    obtain ⟨h1, h2⟩ := lay_all (ds := l.map pairD) (k := 1) fun d hd => by
      obtain ⟨t, ht, rfl⟩ := List.mem_map.mp hd
      exact pairD_lay t
    unfold pairsD
    exact ⟨by simp only [PyData.canLay0]; exact h1, by simp only [PyData.depth]; omega⟩
  rcases List.mem_cons.mp hd with e | hd
  · rw [e]; exact g a
  · rw [List.mem_singleton.mp hd]; exact g b
end Cw

namespace Cw
open PySem PySem.Spec PyProof.Rows L2 CwCmb
theorem d_iCmb {K : PySem.W.Frag} {ta : TA} {σ : L2.St} {H : Hp} {R : It → Hp → Prop} (h : ta σ H fun vs H1 => ∃ a xs, vs = [.ref a, .int 2] ∧ SqL K H1 a xs ∧ xs.length ≤ 100000 ∧ R (Itcb xs) H1) : iCmb K ta σ H R := h
def agr (w w' : Web) (p q : Nat × Nat) : Bool := decide (tieL w.2 p.1 q.1 = tieL w'.2 p.2 q.2)
/-- any two pairs have like ties in both webs, or none in both -/
def lieB (w w' : Web) (ld : Lead) : Bool := ld.all fun p => ld.all fun q => agr w w' p q
theorem agr_swap {w w' : Web} {p q : Nat × Nat} (h : agr w w' p q = true) : agr w w' q p = true := by
  unfold agr at h ⊢
  rw [tieL_swap w.2 q.1 p.1, tieL_swap w'.2 q.2 p.2]
  exact h
theorem agr_self {w w' : Web} (W : WOk w) (W' : WOk w') (p : Nat × Nat) : agr w w' p p = true := by
  unfold agr
  rw [tieL_self W, tieL_self W']; rfl
theorem lieB_of {w w' : Web} (W : WOk w) (W' : WOk w') {ld : Lead} (h : ∀ (i j : Nat) p q, i < j → ld[i]? = some p → ld[j]? = some q → agr w w' p q = true) : lieB w w' ld = true := by
  refine List.all_eq_true.mpr fun p hp => List.all_eq_true.mpr fun q hq => ?_
  obtain ⟨i, hi, e1⟩ := List.getElem_of_mem hp
  obtain ⟨j, hj, e2⟩ := List.getElem_of_mem hq
  have g1 : ld[i]? = some p := by rw [List.getElem?_eq_getElem hi, e1]
  have g2 : ld[j]? = some q := by rw [List.getElem?_eq_getElem hj, e2]
  rcases Nat.lt_trichotomy i j with z | z | z
  · exact h i j p q z g1 g2
  · subst z
    rw [g1] at g2; cases g2
    exact agr_self W W' p
  · exact agr_swap (h j i q p z g2 g1)
theorem lieB_no {w w' : Web} {ld : Lead} {p q : Nat × Nat} (hp : p ∈ ld) (hq : q ∈ ld) (h : ¬ agr w w' p q = true) : lieB w w' ld = false := by
  rw [Bool.eq_false_iff]
  intro z
  exact h (List.all_eq_true.mp (List.all_eq_true.mp z p hp) q hq)
def optS (o : Option Nat) : V := (o.map fun c => V.str (sg c)).getD (.str (Str.ofString ""))
theorem optS_scal (a b : Option Nat) : scal (optS a) (optS b) = true := by cases a <;> cases b <;> rfl
theorem sg_ne (c : Nat) : sg c ≠ Str.ofString "" := by
  intro z
  have := congrArg (fun x : Str => x.cps.size) z
  have e : (Str.ofString "").cps.size = 0 := by decide +kernel
  simp only [e] at this
  exact absurd this (by show ¬ 1 = 0; decide)
theorem optS_inj (a b : Option Nat) : decide (optS a = optS b) = decide (a = b) := by
  rw [Bool.eq_iff_iff, decide_eq_true_eq, decide_eq_true_eq]
  constructor
  · intro z
    cases a <;> cases b
    · rfl
    · injection z with z; exact absurd z.symm (sg_ne _)
    · injection z with z; exact absurd z (sg_ne _)
    · injection z with z; rw [sg_inj.mp z]
  · intro z; rw [z]
theorem Paired.drop {α β : Type} {F : α → β → Prop} : ∀ {xs : List α} {ys : List β} (n : Nat), Paired F xs ys → Paired F (xs.drop n) (ys.drop n)
  | _, _, 0, h => h
  | _, _, n + 1, .nil => .nil
  | _, _, n + 1, .cons _ t => Paired.drop n t
theorem Paired.take {α β : Type} {F : α → β → Prop} : ∀ {xs : List α} {ys : List β} (n : Nat), Paired F xs ys → Paired F (xs.take n) (ys.take n)
  | _, _, 0, h => .nil
  | _, _, n + 1, .nil => .nil
  | _, _, n + 1, .cons a t => .cons a (Paired.take n t)
theorem Pairs.cut {K : PySem.W.Frag} {H : Hp} {pvs : List V} {ld : Lead} (x : Pairs K H pvs ld) (lo hi : Option Int) : ∃ kd, kd.Sublist ld ∧ Pairs K H (cutV pvs lo hi) kd :=
  ⟨_, (List.take_sublist _ _).trans (List.drop_sublist _ _), Paired.take _ (Paired.drop _ x)⟩
end Cw

/-! list(reversed(xs)), xs[i:j:k] -/
namespace Cw
open PySem PySem.Spec PySem.Calls PyProof.Rows L2
section
variable {prog : Program} {w : World} {A : Around} {E : Value → Shared → Prop} {s : Shared} {rv l S : Addr} {items : Array Value}
abbrev BackOf (items : Array Value) (acc : Array Value) : Prop := ItemsOf (fun k y => items[items.size - 1 - k]? = some y) acc items.size
theorem rv_extend {R : Result → Shared → Prop} (hh : A.handled = none) (hit : s.heap.IsRevIter rv l ((items.size : Int) - 1)) (hl : s.heap.IsList l items) (hli : l ≠ rv) (hiS : rv ≠ S) (hlS : l ≠ S) (res : Value) (c₀ : Nat) (hS : s.heap.get? S = some { cls := .type "list", data := .seq #[] c₀ })
    (hR : ∀ h' tk acc c, (∀ b o, b ≠ S → b ≠ rv → s.heap.get? b = some o → h'.get? b = some o) → h'.get? S = some { cls := .type "list", dict := none, data := .seq acc c, slots := #[] } → BackOf items acc → R (.ok (.ret res)) { s with heap := h', toks := tk })
    (hn : items.size ≤ sizeLine) :
    wpAny (model prog w) A.in1 (Builtin.List.listExtendWith (.ref S) (.ref rv) res)
      (fun fin s' => match fin with | .done f => R (.ok f) s' | .again c' => c'.quiet = true ∧ codeAny (model prog w) A c' R s') (fun e s' => R (.error e) s') s := by
  have Wk := (Walks.listRev (prog := prog) (w := w) (A := A.in1) hh rv l hli items).toS
  have apart : S ∉ [rv, l] := by
    simp only [List.mem_cons, List.not_mem_nil, or_false, not_or]
    exact ⟨hiS.symm, hlS.symm⟩
  have tyR : s.TypeIs (.ref rv) "list_reverseiterator" := Heap.IsRevIter.typeIs hit
  have ns : Builtin.List.listSameRef (.ref S) (.ref rv) = false := by
    simp [Builtin.List.listSameRef, hiS.symm]
  unfold Builtin.List.listExtendWith
  refine wpAny_bind (wpAny_typeOf tyR ?_)
  rw [if_neg (by rw [ns]; decide)]
  refine wpAny_bind (wpAny_pyIter_revIter (s := s) hit ?_)
  refine wpAny_bind (wpAny_holding ?_)
  unfold Builtin.List.listLengthHint
  refine wpAny_bind (wpAny_specialOf tyR RT.nolen_lri ?_)
  show wpAny _ A.in1 (specialOf (Value.ref rv) (Str.ofString "__length_hint__") >>= _) _ _ _
  refine wpAny_bind (wpAny_specialOf tyR RT.hint_lri ?_)
  generalize hid : ("list_reverseiterator.__length_hint__" : String) = nm
  wp_delta
  rw [show splitId nm = some ("list_reverseiterator", "__length_hint__") from by subst hid; decide +kernel]
  subst hid
  refine wpAny_bind (wpAny_isInstance (b := true) tyR (by rw [isSubtype_type]; kernel_rfl) ?_)
  refine wpAny_pure ?_
  rw [if_neg (by decide)]
  have z0 : ((items.size : Nat) : Int) - 1 - ((0 : Nat) : Int) = (items.size : Int) - 1 := by omega
  refine wpAny_pure ⟨plainId_quiet PySem.F.plain_extend_loop _, codeAny_extend_loopS Wk hn _ apart _ items.size 0 _ _ _ rfl (Nat.zero_le _) ⟨Nat.zero_le _, by rw [z0]; exact hit, hl⟩ hS (ItemsOf.nil _) fun s' acc' c' mv eS got => ?_⟩
  rw [Moved.eq_with mv]
  refine hR s'.heap s'.toks acc' c' (fun b o h1 h2 q => mv.heap b o (fun m => ?_) q) eS got
  rcases List.mem_cons.mp m with m | m
  · exact h1 m
  · exact h2 (List.mem_singleton.mp m)
theorem rv_call {Q : Value → Shared → Prop} (hh : A.handled = none) (hit : s.heap.IsRevIter rv l ((items.size : Int) - 1)) (hl : s.heap.IsList l items) (hli : l ≠ rv) (hn : items.size ≤ sizeLine)
    (hQ : ∀ h' tk acc c, (∀ b o, b ≠ rv → s.heap.get? b = some o → h'.get? b = some o) → h'.get? s.heap.objs.size = some { cls := .type "list", dict := none, data := .seq acc c, slots := #[] } → BackOf items acc → Q (.ref s.heap.objs.size) { s with heap := h', toks := tk }) :
    wpAny (model prog w) A (call (.type "list") [.ref rv]) Q E s := by
  refine callType_codes (Q₁ := fun obj s₁ => obj = .ref s.heap.objs.size ∧ s₁ = { s with heap := s.heap.push { cls := .type "list", data := .seq #[] } }) PySem.F.called_list (PySem.F.typeCall_list_1 _) PySem.F.entry_list_init (code_list_new _ ⟨rfl, rfl⟩) fun obj s₁ h₁ => ?_
  obtain ⟨rfl, rfl⟩ := h₁
  have hS : (s.heap.push { cls := .type "list", data := .seq #[] }).get? s.heap.objs.size = some { cls := .type "list", data := .seq #[] } := Heap.get?_push_size _ rfl
  have k1 : ∀ b o, s.heap.get? b = some o → (s.heap.push { cls := .type "list", data := .seq #[] }).get? b = some o := fun b o q => Heap.get?_push_of_some _ q
  have hiS : rv < s.heap.objs.size := by obtain ⟨_, q, _⟩ := hit; exact Heap.lt_size q
  have hlS : l < s.heap.objs.size := by obtain ⟨_, q, _⟩ := hl; exact Heap.lt_size q
  refine ⟨⟨_, hS, rfl⟩, PySem.F.args_list_init_2 _ _, ?_⟩
  show wpAny _ _ (do let old ← Builtin.List.listItems (.ref s.heap.objs.size); Builtin.List.listUpdate (.ref s.heap.objs.size) (fun _ => #[]); letGo old.toList.reverse; Builtin.List.listExtendWith (.ref s.heap.objs.size) (.ref rv) .none) _ _ _
  refine wpAny_bind ?_; unfold Builtin.List.listItems; refine wpAny_bind (wpAny_seqItems hS rfl (wpAny_pure ?_))
  show wpAny _ _ (updateSeq s.heap.objs.size (fun _ => #[]) >>= fun _ => letGo (#[] : Array Value).toList.reverse >>= fun _ => Builtin.List.listExtendWith (.ref s.heap.objs.size) (.ref rv) .none) _ _ _
  refine wpAny_bind (wpAny_updateSeq hS rfl (wpAny_bind (wpAny_letGo ?_)))
  have hS₂ := Heap.get?_update_self (Obj.mapSeq (fun _ => (#[] : Array Value))) hS rfl
  have k2 : ∀ b o, b ≠ s.heap.objs.size → s.heap.get? b = some o → ((s.heap.push { cls := .type "list", data := .seq #[] }).update s.heap.objs.size (Obj.mapSeq (fun _ => (#[] : Array Value)))).get? b = some o := fun b o hb q => (Heap.get?_update_other _ _ (Ne.symm hb)).trans (k1 b o q)
  refine rv_extend (A := A.in1) (s := { s with heap := (s.heap.push { cls := .type "list", data := .seq #[] }).update s.heap.objs.size (Obj.mapSeq (fun _ => (#[] : Array Value))) }) hh (hit.at fun o q => k2 rv o (Nat.ne_of_lt hiS) q) (hl.at fun o q => k2 l o (Nat.ne_of_lt hlS) q) hli (Nat.ne_of_lt hiS) (Nat.ne_of_lt hlS) .none _ hS₂ (fun h' tk acc c hk hS' got => ?_) hn
  exact ⟨rfl, hQ h' tk acc c (fun b o h1 q => hk b o (Nat.ne_of_lt (Heap.lt_size q)) h1 (k2 b o (Nat.ne_of_lt (Heap.lt_size q)) q)) hS' got⟩
end
/-- list(reversed(x)), x a list: a new list -/
def tLstRev (K : PySem.W.Frag) (te : TE) : TE := fun σ H Q => te σ H fun v H1 => ∃ (a : Addr) (xs : List V), v = .ref a ∧ SqL K H1 a xs ∧ ∀ q, H1 q = none → Q (.ref q) (upd H1 q (.lst xs.reverse))
section
variable {X : Cx}
theorem pe_lstRev {e : Expr} {te : TE} {p p2 pos pos2 : Pos} (hc : X.calm = true) (hg : Gl X "list") (hm : X.mg "list" = none) (hg2 : Gl X "reversed") (hm2 : X.mg "reversed" = none) (he : PE X e te)
    (hs : starEach [e] X.env = (false, eval e X.env) :: starEach [] X.env := by rfl)
    (hs2 : starEach [.Call (.Name "reversed" p2) [e] [] pos2] X.env = (false, eval (.Call (.Name "reversed" p2) [e] [] pos2) X.env) :: starEach [] X.env := by rfl) :
    PE X (.Call (.Name "list" p) [.Call (.Name "reversed" p2) [e] [] pos2] [] pos) (tLstRev X.K te) := by
  refine ⟨fun pins s σ H Q I h => ?_⟩
  refine Call_ (ld_blt I hg hm boot_list (PyProof.Rows.callWith_type1 (args_cons (Call_ (ld_blt I hg2 hm2 PyProof.Rows.boot_reversed (PyProof.Rows.callWith_type1 (args_cons (thn (he.run pins s σ H _ I h) fun u s1 ⟨v, H1, I1, r1, q1⟩ => args_nil ?_) hs) hs rfl))) hs2) hs2 rfl))
  obtain ⟨a, xs, rfl, hx, q⟩ := q1
  cases r1
  obtain ⟨its, rel, pl, hz⟩ := I1.list hx
  refine call_reversed_list pl.isList (args_nil ?_)
  have up : ∀ b o, s1.heap.get? b = some o → (s1.heap.push (revObj a ((its.toArray.size : Int) - 1))).get? b = some o := fun b o z => Heap.get?_push_of_some _ z
  have I2 : Inv X pins σ H1 { s1 with heap := s1.heap.push (revObj a ((its.toArray.size : Int) - 1)) } := I1.kept (t' := s1.toks) up
  obtain ⟨f0, f1, f2, f3, f4, f5⟩ := I1.fpOk (H' := H1) (b := s1.heap.objs.size) (Nat.le_refl _) (I1.hok.fresh (Nat.le_refl _))
  have lst := pl.isList
  obtain ⟨ol, eol, _⟩ := id lst
  have apart : a ≠ s1.heap.objs.size := Nat.ne_of_lt (Heap.lt_size eol)
  have few : its.toArray.size ≤ sizeLine := by rw [List.size_toArray, ← rel.length]; exact hz
  refine rv_call (s := { s1 with heap := s1.heap.push (revObj a ((its.toArray.size : Int) - 1)) }) (I1.ok.hd hc) ⟨_, Heap.get?_push_size _ rfl, rfl, rfl⟩ (lst.push _) apart few fun h' tk acc c hk eS got => ?_
  have sz1 : (s1.heap.push (revObj a ((its.toArray.size : Int) - 1))).objs.size = s1.heap.objs.size + 1 := Heap.size_push ..
  -- the new list is no older than the iterator
  have I3 : Inv X pins σ (upd H1 (s1.heap.push (revObj a ((its.toArray.size : Int) - 1))).objs.size (.lst xs.reverse)) { s1 with heap := h', toks := tk } := by
    have k3 : ∀ b u, s1.heap.get? b = some u → h'.get? b = some u := fun b u z => hk b u (Nat.ne_of_lt (Heap.lt_size z)) (up b u z)
    refine I1.laid (t' := tk) k3 (by rw [sz1]; exact Nat.le_succ _) ⟨by rw [List.length_reverse]; exact hz, acc.toList, c, RT.vals_rev rel got, ?_⟩
    rw [Array.toArray_toList]
    exact eS
  exact ⟨.ref _, _, I3, rfl, q _ (I1.hok.fresh (by rw [sz1]; exact Nat.le_succ _))⟩
/-! ### a part of a list by steps: some of its items -/
def tSlStep (K : PySem.W.Frag) (te : TE) (tl tu ts : TO) : TE := fun σ H Q => te σ H fun x H1 => tl σ H1 fun _ H2 => tu σ H2 fun _ H3 => ts σ H3 fun st H4 => ∃ a xs, x = .ref a ∧ SqL K H4 a xs ∧ st ≠ some 0 ∧
  ∀ p ys, (∀ y ∈ ys, y ∈ xs) → ys.length ≤ xs.length → H4 p = none → Q (.ref p) (upd H4 p (.lst ys))
theorem picks_rel {xs : List V} {us : List Value} (r : Vals xs us) : ∀ ks : List Nat, Vals (ks.filterMap (xs[·]?)) (ks.filterMap (us.toArray[·]?))
  | [] => .nil
  | k :: ks => by
    rw [List.filterMap_cons, List.filterMap_cons]
    cases c : xs[k]? with
    | none =>
      have d : us.toArray[k]? = none := by simpa using r.none_of c
      rw [d]
      exact picks_rel r ks
    | some x =>
      obtain ⟨u, e1, e2⟩ := r.get c
      have d : us.toArray[k]? = some u := by simpa using e1
      rw [d]
      exact .cons e2 (picks_rel r ks)
theorem pe_slStep {e lo hi st : Expr} {te : TE} {tl tu ts : TO} {p3 pos : Pos} (he : PE X e te) (hl : PO X (some lo) tl) (hu : PO X (some hi) tu) (hs : PO X (some st) ts) : PE X (.Subscript e (.Slice (some lo) (some hi) (some st) p3) pos) (tSlStep X.K te tl tu ts) := by
  refine ⟨fun pins s σ H Q I h => ?_⟩
  refine Subscript_ (thn (he.run pins s σ H _ I h) fun v s1 ⟨x, H1, I1, r1, q1⟩ => ?_)
  refine wpAny_Slice (thn (hl.run pins s1 σ H1 _ I1 q1) fun vl s2 ⟨l, H2, I2, pl, q2⟩ => thn (hu.run pins s2 σ H2 _ I2 q2) fun vu s3 ⟨u, H3, I3, pu, q3⟩ => thn (hs.run pins s3 σ H3 _ I3 q3) fun vs s4 ⟨o, H4, I4, ps, q4⟩ => ?_)
  obtain ⟨a, xs, rfl, hx, n0, q⟩ := q4
  cases r1
  have I5 : Inv X pins σ H4 { s4 with heap := s4.heap.push { cls := .type "slice", data := .fields #[vl, vu, vs] } } := I4.kept (t' := s4.toks) fun b ob z => Heap.get?_push_of_some _ z
  obtain ⟨its, rel, lst, hz⟩ := I5.list hx
  show wpAny (model X.prog X.w) X.A (subscriptTail e (.Slice (some lo) (some hi) (some st) p3) (.ref a) (.ref s4.heap.objs.size)) (EP X pins σ Q) X.xe { s4 with heap := s4.heap.push { cls := .type "slice", data := .fields #[vl, vu, vs] } }
  refine tail_any (ops := [.ref a, .ref s4.heap.objs.size]) lst.isList.typeIs (PySem.slot_list_getitem.lookup) ?_ (by with_unfolding_all rfl)
  refine wpAny_getItem_list_slice lst.isList (Heap.IsSliceOf.new _ vl vu vs) pl pu ps n0 ?_ (by rw [List.size_toArray, ← rel.length]; exact hz)
  have len := slicePick_size_le its.toArray l u o
  have rp := picks_rel rel (sliceRange (sliceBounds l u o its.toArray.size).1 (sliceBounds l u o its.toArray.size).2.1 (sliceBounds l u o its.toArray.size).2.2)
  generalize hk : (sliceRange (sliceBounds l u o its.toArray.size).1 (sliceBounds l u o its.toArray.size).2.1 (sliceBounds l u o its.toArray.size).2.2) = ks at rp
  have es : slicePick its.toArray l u o = (ks.filterMap (its.toArray[·]?)).toArray := by
    unfold slicePick
    rw [hk]
  have ly : (ks.filterMap (xs[·]?)).length ≤ xs.length := by
    have e1 := rp.length
    have e2 : (slicePick its.toArray l u o).size = (ks.filterMap (its.toArray[·]?)).length := by rw [es, List.size_toArray]
    have e3 := rel.length
    have e4 : its.toArray.size = its.length := by rw [List.size_toArray]
    omega
  refine ⟨.ref _, _, I5.laid (t' := s4.toks) (o := .lst (ks.filterMap (xs[·]?))) (fun b ob z => Heap.get?_push_of_some _ z) (Nat.le_refl _) ?_, rfl, q _ _ (fun y hy => ?_) ly (I5.hok.fresh (Nat.le_refl _))⟩
  · exact ⟨Nat.le_trans ly hz, _, 0, rp, by rw [es]; exact Heap.get?_push_size _ rfl⟩
  · obtain ⟨k, _, ek⟩ := List.mem_filterMap.mp hy
    exact List.mem_of_getElem? ek
end
end Cw

/-! pairs that fit: told, turned about, by other names, by other letters -/
namespace Cw
open PySem PySem.Spec PyProof.Rows L2
theorem tieL_mem {w : Web} (W : WOk w) {a b c : Nat} : tieL w.2 a b = some c ↔ (min a b, max a b, c) ∈ w.2 := by
  constructor
  · intro h
    unfold tieL at h
    obtain ⟨t, ht, rfl⟩ := Option.map_eq_some_iff.mp h
    have hm := List.mem_of_find?_eq_some ht
    have hp := at2_iff.mp (List.find?_some ht)
    have r := (W.ends t hm).1
    have e : (min a b, max a b, t.2.2) = t := by
      obtain ⟨t1, t2, t3⟩ := t
      simp only [Prod.mk.injEq, and_true]
      dsimp only at hp r
      omega
    rw [e]; exact hm
  · intro h
    have r := (W.ends _ h).1
    have q : at2 a b (min a b, max a b, c) = true := at2_iff.mpr (by dsimp only; omega)
    cases e : tieL w.2 a b with
    | none =>
      have z := (tieL_isSome (ts := w.2) (a := a) (b := b)).mpr ⟨_, h, q⟩
      rw [e] at z; cases z
    | some d =>
      unfold tieL at e
      obtain ⟨t, ht, rfl⟩ := Option.map_eq_some_iff.mp e
      have hm := List.mem_of_find?_eq_some ht
      have hp := at2_iff.mp (List.find?_some ht)
      have r2 := (W.ends t hm).1
      obtain ⟨i, hi, ei⟩ := List.getElem_of_mem hm
      obtain ⟨j, hj, ej⟩ := List.getElem_of_mem h
      have s := List.pairwise_iff_getElem.mp W.rise
      rcases Nat.lt_trichotomy i j with c1 | c1 | c1
      · have lt := s i j hi hj c1
        rw [ei, ej] at lt
        rcases lt with lt | lt <;> dsimp only at lt <;> omega
      · subst c1
        rw [ei] at ej
        rw [ej]
      · have lt := s j i hj hi c1
        rw [ei, ej] at lt
        rcases lt with lt | lt <;> dsimp only at lt <;> omega
theorem tieL_named {w w' : Web} {qs : List Nat} (W : WOk w) (W' : WOk w') (o : Ord qs w.1.length) (N : Named w qs w') {a b : Nat} (ha : a < w.1.length) (hb : b < w.1.length) : tieL w'.2 (qa qs a) (qa qs b) = tieL w.2 a b := by
  refine Option.ext fun c => ?_
  rw [tieL_mem W', tieL_mem W, N.ties.mem_iff, List.mem_map]
  constructor
  · rintro ⟨t, ht, e⟩
    have r := W.ends t ht
    unfold mapTie at e
    simp only [Prod.mk.injEq] at e
    obtain ⟨e1, e2, e3⟩ := e
    have key : (t.1 = a ∧ t.2.1 = b) ∨ (t.1 = b ∧ t.2.1 = a) := by
      by_cases c1 : qa qs t.1 = qa qs a
      · have z1 := o.inj (by omega) ha c1
        have z2 := o.inj (p := t.2.1) (r := b) (by omega) hb (by omega)
        exact .inl ⟨z1, z2⟩
      · have z1 := o.inj (p := t.1) (r := b) (by omega) hb (by omega)
        have z2 := o.inj (p := t.2.1) (r := a) (by omega) ha (by omega)
        exact .inr ⟨z1, z2⟩
    have e : (min a b, max a b, c) = t := by
      obtain ⟨t1, t2, t3⟩ := t
      simp only [Prod.mk.injEq]
      dsimp only at key r e3
      omega
    rw [e]; exact ht
  · intro h
    have r := W.ends _ h
    refine ⟨_, h, ?_⟩
    unfold mapTie
    simp only [Prod.mk.injEq, and_true]
    dsimp only at r
    rcases Nat.le_total a b with c1 | c1
    · rw [Nat.min_eq_left c1, Nat.max_eq_right c1]; exact ⟨rfl, rfl⟩
    · rw [Nat.min_eq_right c1, Nat.max_eq_left c1]
      omega
/-- two pairs fit -/
def fitB (w w' : Web) (x y : Nat × Nat) : Bool := if x.1 = y.1 ∨ x.2 = y.2 then false else decide (optV (tieL w.2 x.1 y.1) = optV (tieL w'.2 x.2 y.2))
theorem fitB_congr {w w' u u' : Web} {x y z t : Nat × Nat} (h : (x.1 = y.1 ∨ x.2 = y.2) ↔ (z.1 = t.1 ∨ z.2 = t.2)) (e : optV (tieL w.2 x.1 y.1) = optV (tieL w'.2 x.2 y.2) ↔ optV (tieL u.2 z.1 t.1) = optV (tieL u'.2 z.2 t.2)) : fitB w w' x y = fitB u u' z t := by
  unfold fitB
  by_cases c : x.1 = y.1 ∨ x.2 = y.2
  · rw [if_pos c, if_pos (h.mp c)]
  · rw [if_neg c, if_neg fun q => c (h.mpr q)]
    exact decide_eq_decide.mpr e
theorem fitB_turn (w w' : Web) (x y : Nat × Nat) : fitB w' w (x.2, x.1) (y.2, y.1) = fitB w w' x y := fitB_congr Or.comm eq_comm
theorem fitB_named {w w' u u' : Web} {qs rs : List Nat} (W : WOk w) (U : WOk u) (o : Ord qs w.1.length) (N : Named w qs u) (W' : WOk w') (U' : WOk u') (o' : Ord rs w'.1.length) (N' : Named w' rs u') {x y : Nat × Nat}
    (hx : x.1 < w.1.length ∧ x.2 < w'.1.length) (hy : y.1 < w.1.length ∧ y.2 < w'.1.length) : fitB u u' (qa qs x.1, qa rs x.2) (qa qs y.1, qa rs y.2) = fitB w w' x y := by
  refine fitB_congr ⟨fun h => h.imp (o.inj hx.1 hy.1) (o'.inj hx.2 hy.2), fun h => h.imp (fun e => by show qa qs _ = qa qs _; rw [e]) (fun e => by show qa rs _ = qa rs _; rw [e])⟩ ?_
  show optV (tieL u.2 (qa qs x.1) (qa qs y.1)) = optV (tieL u'.2 (qa rs x.2) (qa rs y.2)) ↔ _
  rw [tieL_named W U o N hx.1 hy.1, tieL_named W' U' o' N' hx.2 hy.2]
theorem fitB_self {w : Web} {a b : Nat} (h : a ≠ b) : fitB w w (a, a) (b, b) = true := by
  unfold fitB
  rw [if_neg (by intro z; rcases z with z | z <;> exact h z)]
  exact decide_eq_true rfl
/-! ### other letters -/
def shl (k c : Nat) : Nat := 97 + (c - 97 + k) % 26
theorem shl_ltr (k c : Nat) : Ltr (shl k c) := by unfold shl Ltr; omega
theorem shl_inj {k c d : Nat} (hc : Ltr c) (hd : Ltr d) (h : shl k c = shl k d) : c = d := by
  unfold shl at h
  unfold Ltr at hc hd
  omega
def lettered (w : Web) (by_ : Nat) : Web := (w.1.map (shl by_), w.2.map fun t => (t.1, t.2.1, shl (3 * by_) t.2.2))
theorem lettered_ok {w : Web} (W : WOk w) (k : Nat) : WOk (lettered w k) := by
  refine ⟨by show (w.1.map _).length ≤ 40; rw [List.length_map]; exact W.few, by show (w.2.map _).length ≤ 1600; rw [List.length_map]; exact W.most, fun c hc => ?_, ?_, fun t ht => ?_⟩
  · obtain ⟨d, _, rfl⟩ := List.mem_map.mp hc
    exact shl_ltr k d
  · show (w.2.map _).Pairwise tlt
    rw [List.pairwise_map]
    exact W.rise
  · obtain ⟨u, hu, rfl⟩ := List.mem_map.mp ht
    have r := W.ends u hu
    exact ⟨r.1, by show u.2.1 < (w.1.map _).length; rw [List.length_map]; exact r.2.1, shl_ltr _ _⟩
theorem tieL_lettered (w : Web) (k a b : Nat) : tieL (lettered w k).2 a b = (tieL w.2 a b).map (shl (3 * k)) := by
  unfold tieL lettered
  dsimp only
  rw [List.find?_map, Option.map_map, Option.map_map]
  rfl
theorem tieL_ltr {w : Web} (W : WOk w) {a b c : Nat} (h : tieL w.2 a b = some c) : Ltr c := (W.ends _ ((tieL_mem W).mp h)).2.2
theorem fitB_lettered {w w' : Web} (W : WOk w) (W' : WOk w') (k : Nat) (x y : Nat × Nat) : fitB (lettered w k) (lettered w' k) x y = fitB w w' x y := by
  refine fitB_congr Iff.rfl ?_
  rw [tieL_lettered, tieL_lettered]
  cases e1 : tieL w.2 x.1 y.1 with
  | none =>
    cases e2 : tieL w'.2 x.2 y.2 with
    | none => exact Iff.rfl
    | some d => exact ⟨fun z => (by cases z), fun z => (by cases z)⟩
  | some c =>
    cases e2 : tieL w'.2 x.2 y.2 with
    | none => exact ⟨fun z => (by cases z), fun z => (by cases z)⟩
    | some d =>
      show V.str (sg (shl (3 * k) c)) = V.str (sg (shl (3 * k) d)) ↔ V.str (sg c) = V.str (sg d)
      constructor
      · intro z
        rw [shl_inj (tieL_ltr W e1) (tieL_ltr W' e2) (sg_inj.mp (V.str.inj z))]
      · intro z
        rw [sg_inj.mp (V.str.inj z)]
/-! ### all pairs of like kinds -/
def rowL (w w' : Web) (p m : Nat) : Lead := ((List.range m).filter fun e => decide (w.1[p]? = w'.1[e]?)).map fun e => (p, e)
def preL (w w' : Web) (n : Nat) : Lead := (List.range n).flatMap fun p => rowL w w' p w'.1.length
def pairsL (w w' : Web) : Lead := preL w w' w.1.length
def plt (x y : Nat × Nat) : Prop := x.1 < y.1 ∨ (x.1 = y.1 ∧ x.2 < y.2)
theorem rowL_succ (w w' : Web) (p m : Nat) : rowL w w' p (m + 1) = rowL w w' p m ++ if w.1[p]? = w'.1[m]? then [(p, m)] else [] := by
  unfold rowL
  rw [List.range_succ, List.filter_append, List.map_append]
  congr 1
  by_cases c : w.1[p]? = w'.1[m]?
  · rw [if_pos c]; simp [c]
  · rw [if_neg c]; simp [c]
theorem preL_succ (w w' : Web) (n : Nat) : preL w w' (n + 1) = preL w w' n ++ rowL w w' n w'.1.length := by
  unfold preL
  rw [List.range_succ, List.flatMap_append]
  simp
theorem mem_rowL {w w' : Web} {p m : Nat} {x : Nat × Nat} : x ∈ rowL w w' p m ↔ x.1 = p ∧ x.2 < m ∧ w.1[p]? = w'.1[x.2]? := by
  unfold rowL
  rw [List.mem_map]
  constructor
  · rintro ⟨e, he, rfl⟩
    obtain ⟨h1, h2⟩ := List.mem_filter.mp he
    exact ⟨rfl, List.mem_range.mp h1, of_decide_eq_true h2⟩
  · rintro ⟨h1, h2, h3⟩
    exact ⟨x.2, List.mem_filter.mpr ⟨List.mem_range.mpr h2, decide_eq_true h3⟩, by rw [← h1]⟩
theorem mem_preL {w w' : Web} {n : Nat} {x : Nat × Nat} : x ∈ preL w w' n ↔ x.1 < n ∧ x.2 < w'.1.length ∧ w.1[x.1]? = w'.1[x.2]? := by
  unfold preL
  rw [List.mem_flatMap]
  constructor
  · rintro ⟨p, hp, hx⟩
    obtain ⟨h1, h2, h3⟩ := mem_rowL.mp hx
    rw [h1]
    exact ⟨List.mem_range.mp hp, h2, h3⟩
  · rintro ⟨h1, h2, h3⟩
    exact ⟨x.1, List.mem_range.mpr h1, mem_rowL.mpr ⟨rfl, h2, h3⟩⟩
theorem mem_pairsL {w w' : Web} {x : Nat × Nat} : x ∈ pairsL w w' ↔ x.1 < w.1.length ∧ x.2 < w'.1.length ∧ w.1[x.1]? = w'.1[x.2]? := mem_preL
theorem rowL_rise (w w' : Web) (p m : Nat) : (rowL w w' p m).Pairwise plt := by
  unfold rowL
  rw [List.pairwise_map]
  exact (List.Pairwise.filter _ List.pairwise_lt_range).imp fun h => .inr ⟨rfl, h⟩
theorem preL_rise (w w' : Web) : ∀ n, (preL w w' n).Pairwise plt
  | 0 => .nil
  | n + 1 => by
    rw [preL_succ]
    refine List.pairwise_append.mpr ⟨preL_rise w w' n, rowL_rise w w' n _, fun x hx y hy => .inl ?_⟩
    have h1 := (mem_preL.mp hx).1
    have h2 := (mem_rowL.mp hy).1
    omega
theorem rowL_len (w w' : Web) (p m : Nat) : (rowL w w' p m).length ≤ m := by
  unfold rowL
  rw [List.length_map]
  exact Nat.le_trans (List.length_filter_le _ _) (by rw [List.length_range]; exact Nat.le_refl _)
theorem preL_len {w w' : Web} (W' : WOk w') : ∀ n, (preL w w' n).length ≤ 40 * n
  | 0 => by simp [preL]
  | n + 1 => by
    rw [preL_succ, List.length_append]
    have h1 := preL_len W' n (w := w)
    have h2 := rowL_len w w' n w'.1.length
    have h3 := W'.few
    omega
theorem plt_ext : ∀ {l m : Lead}, l.Pairwise plt → m.Pairwise plt → (∀ x, x ∈ l ↔ x ∈ m) → l = m
  | [], [], _, _, _ => rfl
  | [], y :: m, _, _, h => absurd ((h y).mpr List.mem_cons_self) (by simp)
  | x :: l, [], _, _, h => absurd ((h x).mp List.mem_cons_self) (by simp)
  | x :: l, y :: m, hl, hm, h => by
    obtain ⟨l1, l2⟩ := List.pairwise_cons.mp hl
    obtain ⟨m1, m2⟩ := List.pairwise_cons.mp hm
    have asym : ∀ {a b : Nat × Nat}, plt a b → plt b a → False := fun {a b} p q => by unfold plt at p q; omega
    have hx : x = y := by
      rcases List.mem_cons.mp ((h x).mp List.mem_cons_self) with z | z
      · exact z
      · rcases List.mem_cons.mp ((h y).mpr List.mem_cons_self) with z' | z'
        · exact z'.symm
        · exact (asym (m1 x z) (l1 y z')).elim
    subst hx
    congr 1
    have irr : ∀ {a : Nat × Nat}, plt a a → False := fun {a} p => asym p p
    refine plt_ext l2 m2 fun z => ⟨fun hz => ?_, fun hz => ?_⟩
    · rcases List.mem_cons.mp ((h z).mp (List.mem_cons_of_mem _ hz)) with q | q
      · subst q; exact (irr (l1 _ hz)).elim
      · exact q
    · rcases List.mem_cons.mp ((h z).mpr (List.mem_cons_of_mem _ hz)) with q | q
      · subst q; exact (irr (m1 _ hz)).elim
      · exact q
/-- pairs turned about are those of the webs the other way about -/
theorem turned_mem {w w' : Web} (x : Nat × Nat) : x ∈ (pairsL w w').map (fun p => (p.2, p.1)) ↔ x ∈ pairsL w' w := by
  rw [List.mem_map, mem_pairsL]
  constructor
  · rintro ⟨p, hp, rfl⟩
    obtain ⟨h1, h2, h3⟩ := mem_pairsL.mp hp
    exact ⟨h2, h1, h3.symm⟩
  · rintro ⟨h1, h2, h3⟩
    exact ⟨(x.2, x.1), mem_pairsL.mpr ⟨h2, h1, h3.symm⟩, rfl⟩
theorem named_mem {w w' u u' : Web} {qs rs : List Nat} (o : Ord qs w.1.length) (N : Named w qs u) (o' : Ord rs w'.1.length) (N' : Named w' rs u') (x : Nat × Nat) : x ∈ (pairsL w w').map (fun p => (qa qs p.1, qa rs p.2)) ↔ x ∈ pairsL u u' := by
  rw [List.mem_map, mem_pairsL, N.len, N'.len]
  constructor
  · rintro ⟨p, hp, rfl⟩
    obtain ⟨h1, h2, h3⟩ := mem_pairsL.mp hp
    refine ⟨o.lt' h1, o'.lt' h2, ?_⟩
    show u.1[qa qs p.1]? = u'.1[qa rs p.2]?
    rw [N.kinds _ h1, N'.kinds _ h2, h3]
  · rintro ⟨h1, h2, h3⟩
    obtain ⟨a, ha, ea⟩ := o.onto h1
    obtain ⟨b, hb, eb⟩ := o'.onto h2
    refine ⟨(a, b), mem_pairsL.mpr ⟨ha, hb, ?_⟩, by show (qa qs a, qa rs b) = x; rw [ea, eb]⟩
    rw [← ea, ← eb, N.kinds _ ha, N'.kinds _ hb] at h3
    exact h3
theorem map_nodup {f : Nat × Nat → Nat × Nat} {l : Lead} (h : l.Pairwise plt) (hf : ∀ x ∈ l, ∀ y ∈ l, f x = f y → x = y) : (l.map f).Nodup := by
  show List.Pairwise _ _
  rw [List.pairwise_map]
  refine List.Pairwise.imp_of_mem (fun {x y} hx hy lt e => ?_) h
  have := hf x hx y hy e
  subst this
  unfold plt at lt
  omega
theorem pairsL_rise (w w' : Web) : (pairsL w w').Pairwise plt := preL_rise w w' _
/-- an arrangement in order of pairs none twice rises -/
theorem arranged {l m : Lead} (p : l.Perm m) (nd : m.Nodup) (s : l.Pairwise fun x y => ¬ plt y x) : l.Pairwise plt := by
  have nl : l.Nodup := p.nodup_iff.mpr nd
  refine (List.Pairwise.and s nl).imp fun {x y} ⟨h1, h2⟩ => ?_
  obtain ⟨a, b⟩ := x
  obtain ⟨c, d⟩ := y
  unfold plt at h1 ⊢
  simp only [ne_eq, Prod.mk.injEq] at h2
  dsimp only at h1 ⊢
  omega
end Cw

/-! sets of whole numbers: set(a list), {one}; a def's code told to its body -/
namespace Cw
open PySem PySem.Spec PySem.Calls PyProof.Rows L2
section
variable {P : Program} {w : World} {A : Around} {E : Value → Shared → Prop} {s : Shared}
abbrev noSet (w : World) : Obj := { cls := .type "set", dict := none, data := .set #[] 0 (.fresh 0 0 (!w.params.followText "set-order")) }
set_option maxHeartbeats 3200000 in
theorem call_set_lstI {l : Addr} {items : Array Value} (ns : List Int) {Q : Value → Shared → Prop} (hh : A.handled = none) (lst : s.heap.IsList l items) (nums : IntsAre items.toList ns) (room : ns.length + 1 < scanBound)
    (h : ∀ (h' : Heap) (tk c : Nat), SetR w h' s.heap.objs.size (fun j => decide (j ∈ ns)) c → c ≤ ns.length → (∀ b o, s.heap.get? b = some o → h'.get? b = some o) → Q (.ref s.heap.objs.size) { s with heap := h', toks := tk }) :
    wpAny (model P w) A (call (.type "set") [.ref l]) Q E s := by
  have many : items.size = ns.length := by
    have z := IntsAre.length nums
    rwa [Array.length_toList] at z
  obtain ⟨c, tl, hmro⟩ := F.called_set.mro
  have hmade := F.called_set.made
  have hsub := F.called_set.sub
  (refine wpAny_call (codeAny_of_tree ?_))
  show wpAny _ _ (callAny (.type "set") _) _ _ _
  (refine wpAny_pure ⟨Code.quiet_builtin _ (by decide +kernel), codeAny_builtin F.entry_type_call ?_⟩)
  (rw [Around.under_plain (weight_type_call_type "set" [.ref l] []) rfl])
  have h1 := F.called_set.notType
  have h2 := F.called_set.canCreate
  have hct := F.typeCall_set_1 (.ref l)
  (repeat (any_goals (first | assumption | wp_step)))
  refine codeAny_mono (code_set_led1 (.ref l) (E := E) (Q₁ := fun obj s₁ => obj = .ref s.heap.objs.size ∧ s₁ = { s with heap := s.heap.push (noSet w) }) ⟨rfl, rfl⟩) fun r s₁ hr => ?_
  match r, hr with
  | .error e, hr => exact hr
  | .ok (.next), hr => exact hr.elim
  | .ok (.brk), hr => exact hr.elim
  | .ok (.cont), hr => exact hr.elim
  | .ok (.ret obj), hr =>
    obtain ⟨rfl, rfl⟩ := hr
    have eS : (s.heap.push (noSet w)).get? s.heap.objs.size = some (noSet w) := Heap.get?_push_size _ rfl
    have tyS : Shared.TypeIs { s with heap := s.heap.push (noSet w) } (.ref s.heap.objs.size) "set" := ⟨_, eS, rfl⟩
    have hli := F.called_set.init.lookup
    have hbi := F.called_set.init.bind (.ref s.heap.objs.size)
    (repeat (any_goals (first | assumption | wp_step)))
    refine codeAny_mono (codeAny_call_builtin (R := wants (fun r s₂ => r = .none ∧ ∃ h' tk c, s₂ = { s with heap := h', toks := tk } ∧ SetR w h' s.heap.objs.size (fun j => decide (j ∈ ns)) c ∧ c ≤ ns.length ∧
        (∀ b o, s.heap.get? b = some o → h'.get? b = some o)) E) F.called_set.init.plain F.entry_set_init (check_set_init_1 tyS ?_)) fun r₂ s₂ hr₂ => ?_
    · obtain ⟨ol, eol, cl, nl, dl⟩ := lst
      obtain ⟨lcls, ldict, ldata, lslots⟩ := ol
      simp only at cl dl
      subst cl
      subst dl
      have eol' : (s.heap.push (noSet w)).get? l = some { cls := .type "list", dict := ldict, data := .seq items nl, slots := lslots } := Heap.get?_push_of_some _ eol
      have hsls := F.sub_list_set
      have hslf := F.sub_list_frozenset
      have hne : (Value.type "list" == Value.type "dict") = false := by decide
      have lst1 : (s.heap.push (noSet w)).IsList l items := ⟨_, eol', rfl, nl, rfl⟩
      (unfold Builtin.«set.__init__» noKeywords; unfold Builtin.Frozenset.updateFrom)
      generalize hPI : pyIter = PI
      wp_walk
      subst hPI
      refine wpAny_pyIter_list lst1 ?_
      refine wpAny_bind (wpAny_runValue ?_)
      have below : l < s.heap.objs.size := Heap.lt_size eol
      have hh3 : A.in1.in1.in1.handled = none := by simp [hh]
      have sz1 : (s.heap.push (noSet w)).objs.size = s.heap.objs.size + 1 := Heap.size_push ..
      have neI : l ≠ (s.heap.push (noSet w)).objs.size := by
        rw [sz1]
        exact Nat.ne_of_lt (Nat.lt_succ_of_lt below)
      have apart : s.heap.objs.size ∉ [(s.heap.push (noSet w)).objs.size, l] := by
        rw [sz1]
        intro z
        rcases List.mem_cons.mp z with z | z
        · exact absurd z (Nat.ne_of_lt (Nat.lt_succ_self _))
        · exact absurd (List.mem_singleton.mp z) (Nat.ne_of_gt below)
      have vals : ∀ (i : Nat) (v : Value), items[i]? = some v → ∃ k t, ns[i]? = some k ∧ v = .int k t := fun i v hv => by
        have hi : i < ns.length := by rw [← many]; exact (Array.getElem?_eq_some_iff.mp hv).1
        obtain ⟨t, e⟩ := PyProof.Rows.IntsAre.int_at nums i v (by rw [Array.getElem?_toList]; exact hv)
        exact ⟨ns[i], t, List.getElem?_eq_getElem hi, by rw [e, List.getD_eq_getElem?_getD, List.getElem?_eq_getElem hi]; rfl⟩
      refine set_update_ints ((Walks.list hh3 _ l neI items).toS) s.heap.objs.size apart ns many room vals (items.size - 0) 0 _ (by omega) (Nat.zero_le _) ⟨⟨_, Heap.get?_push_size _ rfl, rfl, rfl⟩, (lst1.push _)⟩ ⟨0, Nat.le_refl 0, setR_new_at (Heap.get?_push_of_some _ eS)⟩ ?_
      intro s' c' mv le' new
      obtain ⟨h', g2, d', tk', os'⟩ := s'
      have eg : g2 = s.gens := mv.gens
      have ed : d' = s.drawn := mv.drawn
      have eo : os' = s.os := mv.os
      subst eg
      subst ed
      subst eo
      show wpAny _ _ _ _ _ _
      refine wpAny_pure ?_
      show wpAny _ _ (ret Value.none) _ _ _
      rw [many] at le'
      refine wpAny_pure ⟨rfl, h', tk', c', rfl, new, le', fun b o e => ?_⟩
      have b0 : b < s.heap.objs.size := Heap.lt_size e
      refine mv.heap b o (fun z => ?_) (Heap.get?_push_of_some _ (Heap.get?_push_of_some _ e))
      rcases List.mem_cons.mp z with z | z
      · exact absurd z (Nat.ne_of_lt b0)
      · have z := List.mem_singleton.mp z
        rw [sz1] at z
        exact absurd z (Nat.ne_of_lt (Nat.lt_succ_of_lt b0))
    · match r₂, hr₂ with
      | .error e, hr₂ => exact hr₂
      | .ok (.next), hr₂ => exact hr₂.elim
      | .ok (.brk), hr₂ => exact hr₂.elim
      | .ok (.cont), hr₂ => exact hr₂.elim
      | .ok (.ret r), hr₂ =>
        obtain ⟨rfl, h', tk, c', rfl, new, le', kept⟩ := hr₂
        (repeat (any_goals (first | assumption | wp_step)))
        exact h _ _ _ new le' kept
end
section
variable {X : Cx}
/-- set(xs), xs a list of whole numbers -/
def rSetL (K : PySem.W.Frag) (w : World) : List V → Hp → VK → Prop := fun xs H Q => ∃ (a : Addr) (ns : List Int), xs = [.ref a] ∧ SqL K H a (ns.map V.int) ∧ ns.length ≤ 1000 ∧
  ∀ p c, c ≤ ns.length → H p = none → Q (.ref p) (upd H p (SetO w p (fun k => decide (k ∈ ns)) c))
theorem cr_setL (hc : X.calm = true) : CallR X (.type "set") (rSetL X.K X.w) := by
  intro pins s σ H xs us Q I r h
  obtain ⟨a, ns, rfl, hx, few, q⟩ := h
  obtain ⟨u, rfl, ru⟩ := vals1 r
  cases ru
  obtain ⟨its, rel, lst, _⟩ := I.list hx
  refine call_set_lstI ns (I.ok.hd hc) lst.isList (by simpa using intsAre_of rel) (by unfold scanBound; omega) fun h' tk c R le kept => ?_
  exact ⟨.ref _, _, I.laid (t' := tk) kept (Nat.le_refl _) (setO_new R), rfl, q _ c le (I.hok.fresh (Nat.le_refl _))⟩
end
/-! ### {one} -/
theorem codeIn_kds {K : PySem.W.Frag} {cd : Value} {q : Str} (h : PySem.W.codeIn K cd q = true) : PySem.W.kdsCode K cd = true := by
  unfold PySem.W.codeIn at h
  unfold PySem.W.kdsCode
  split at h
  · split at h
    · rename_i e
      simp only [e]
    · cases h
  · cases h
section
variable {P : Program} {w : World} {A : Around} {E : Value → Shared → Prop} {s : Shared}
theorem newSet_led {Q : Value → Shared → Prop} (h : Q (.ref s.heap.objs.size) { s with heap := s.heap.push (noSet w) }) : wpAny (model P w) A (newSet (.type "set")) Q E s := by
  unfold newSet
  refine wpAny_bind (wpAny_byText ?_)
  dsimp only
  exact wpAny_newObj_type h
theorem display_one {b : Bool} {T : Sem Value} {Q : Value → Shared → Prop}
    (h : wpAny (model P w) A T (fun v s1 => wpAny (model P w) A (setAdd s.heap.objs.size v) (fun _ s2 => Q (.ref s.heap.objs.size) s2) E s1) E { s with heap := s.heap.push (noSet w) }) :
    wpAny (model P w) A (setDisplay .oneByOne b [(false, T)]) Q E s := by
  unfold setDisplay
  dsimp only
  rw [if_neg (by decide)]
  refine wpAny_bind (newSet_led ?_)
  dsimp only
  refine wpAny_bind (wpAny_holding ?_)
  refine wpAny_bind ?_
  show wpAny _ _ (T >>= fun v => holding [v] (evalAll []) >>= fun r => pure (v :: r)) _ _ _
  refine wpAny_bind (wpAny_mono h (fun v s1 h1 => ?_) fun _ _ x => x)
  refine wpAny_bind (wpAny_holding (wpAny_pure ?_))
  refine wpAny_pure ?_
  refine wpAny_bind (wpAny_holding ?_)
  rw [List.forIn_cons]
  refine wpAny_bind (wpAny_bind (wpAny_bind (wpAny_mono h1 (fun _ s2 h2 => wpAny_pure ?_) fun _ _ x => x)))
  dsimp only
  rw [List.forIn_nil]
  refine wpAny_pure ?_
  rw [if_neg (by decide)]
  refine wpAny_pure ?_
  refine wpAny_bind ?_
  show wpAny _ _ (forIn ([] : List (Bool × Sem Value)) PUnit.unit _) _ _ s2
  rw [List.forIn_nil]
  exact wpAny_pure (wpAny_pure (wpAny_pure h2))
end
def tSet1 (w : World) (te : TE) : TE := fun σ H Q => ∀ p, H p = none → te σ (upd H p (SetO w p (fun _ => false) 0)) fun x H1 => ∃ k : Int, x = .int k ∧ H1 p = some (SetO w p (fun _ => false) 0) ∧ Q (.ref p) (upd H1 p (SetO w p (fun j => false || decide (j = k)) 1))
theorem pe_set1 {X : Cx} {e : Expr} {te : TE} {pos : Pos} {q : Str} {wd : World} (hw : X.w = wd) (hcd : PySem.W.codeIn X.K X.env.code q = true) (he : PE X e te) (hp : PySem.W.kdsPlain e = true := by rfl) : PE X (.Set [e] 0 pos) (tSet1 wd te) := by
  subst hw
  refine ⟨fun pins s σ H Q I h => ?_⟩
  rw [arm_eval_Set]
  refine wpAny_bind (wpAny_standAt ?_)
  refine wpAny_bind (PySem.W.kds_main I.kIn (codeIn_kds hcd) fun bm => ?_)
  rw [PySem.W.kds_star [e] (by simp [hp]), List.map_map, arm_evalEach_cons]
  refine (show wpAny (model X.prog X.w) X.A (setDisplay .oneByOne bm [(false, do let v ← eval e X.env; standAt pos; pure v)]) (EP X pins σ Q) X.xe s from display_one ?_)
  have R0 : SetR X.w (s.heap.push (noSet X.w)) s.heap.objs.size (fun _ => false) 0 := setR_fresh X.w
  have f0 : H s.heap.objs.size = none := I.hok.fresh (Nat.le_refl _)
  have I1 : Inv X pins σ (upd H s.heap.objs.size (SetO X.w s.heap.objs.size (fun _ => false) 0)) { s with heap := s.heap.push (noSet X.w) } := I.laid (t' := s.toks) (fun b u g => Heap.get?_push_of_some _ g) (Nat.le_refl _) (setO_new R0)
  refine wpAny_bind (thn (he.run pins _ σ _ _ I1 (h _ f0)) fun v s1 ⟨x, H1, I2, r1, k, ex, ep, q1⟩ => ?_)
  subst ex
  obtain ⟨tk, rfl⟩ := r1
  refine wpAny_bind (wpAny_standAt (wpAny_pure ?_))
  have R1 := setO_get I2 ep
  unfold setAdd
  refine wpAny_holding ?_
  refine wpAny_bind ((intKind X.prog X.w).pyHash (k := k) (intKind_is _ _ _ _) ?_)
  refine setR_add_hashed (s := { s1 with toks := s1.toks + 1 }) R1 (by decide) fun h' sb new => ?_
  have he' : ∃ u, h'.get? s.heap.objs.size = some u := let ⟨o, _, _, _, ho, _⟩ := new; ⟨o, ho⟩
  exact ⟨.ref _, _, I2.write (e := s.heap.objs.size) (t' := s1.toks + 1) (by rw [ep]; trivial) (.inl rfl) (fun b u hb hu => (sb.2 b hb).trans hu) he' (setO_new new), rfl, q1⟩
end Cw

/-! what hangs together -/
namespace Cw
open PySem PySem.Spec PyProof.Rows L2
noncomputable def dec (p : Prop) : Bool := @decide p (Classical.propDecidable p)
theorem dec_iff {p : Prop} : dec p = true ↔ p := by unfold dec; exact @decide_eq_true_iff p (Classical.propDecidable p)
theorem dec_true {p : Prop} (h : p) : dec p = true := dec_iff.mpr h
theorem dec_false {p : Prop} (h : ¬ p) : dec p = false := by
  cases e : dec p with
  | false => rfl
  | true => exact absurd (dec_iff.mp e) h
theorem dec_congr {p q : Prop} (h : p ↔ q) : dec p = dec q := by
  rw [Bool.eq_iff_iff, dec_iff, dec_iff]; exact h
theorem mem_nb {w : Web} (W : WOk w) {p q : Nat} : q ∈ nb w.2 p ↔ ∃ t ∈ w.2, at2 p q t = true := by
  unfold nb
  rw [List.mem_filterMap]
  constructor
  · rintro ⟨t, ht, h⟩
    exact ⟨t, ht, (beside_iff (W.ends t ht).1).mp h⟩
  · rintro ⟨t, ht, h⟩
    exact ⟨t, ht, (beside_iff (W.ends t ht).1).mpr h⟩
theorem nb_symm {w : Web} (W : WOk w) {p q : Nat} (h : q ∈ nb w.2 p) : p ∈ nb w.2 q := by
  obtain ⟨t, ht, e⟩ := (mem_nb W).mp h
  exact (mem_nb W).mpr ⟨t, ht, by rw [at2_swap]; exact e⟩
theorem nb_lt {w : Web} (W : WOk w) {p q : Nat} (h : q ∈ nb w.2 p) : p < w.1.length ∧ q < w.1.length := by
  obtain ⟨t, ht, e⟩ := (mem_nb W).mp h
  have r := W.ends t ht
  rcases at2_iff.mp e with ⟨a, b⟩ | ⟨a, b⟩ <;> omega
/-- from a one comes to it -/
inductive Rch (ts : List Tie) (a : Nat) : Nat → Prop
  | base : Rch ts a a
  | step {p q : Nat} : Rch ts a p → q ∈ nb ts p → Rch ts a q
theorem Rch.trans {ts : List Tie} {a b c : Nat} (h : Rch ts a b) (k : Rch ts b c) : Rch ts a c := by
  induction k with
  | base => exact h
  | step _ m ih => exact ih.step m
theorem Rch.symm {w : Web} (W : WOk w) {a b : Nat} (h : Rch w.2 a b) : Rch w.2 b a := by
  induction h with
  | base => exact .base
  | step _ m ih => exact Rch.trans (Rch.base.step (nb_symm W m)) ih
theorem Rch.lt {w : Web} (W : WOk w) {a b : Nat} (h : Rch w.2 a b) (ha : a < w.1.length) : b < w.1.length := by
  cases h with
  | base => exact ha
  | step _ m => exact (nb_lt W m).2
/-- the places that hang together with a -/
noncomputable def partL (w : Web) (a : Nat) : List Nat := (List.range w.1.length).filter fun k => dec (Rch w.2 a k)
theorem mem_partL {w : Web} (W : WOk w) {a k : Nat} (ha : a < w.1.length) : k ∈ partL w a ↔ Rch w.2 a k := by
  unfold partL
  rw [List.mem_filter, dec_iff, List.mem_range]
  exact ⟨fun h => h.2, fun h => ⟨h.lt W ha, h⟩⟩
theorem partL_rise (w : Web) (a : Nat) : (partL w a).Pairwise (· < ·) := List.Pairwise.filter _ List.pairwise_lt_range
theorem partL_len (w : Web) (a : Nat) : (partL w a).length ≤ w.1.length := Nat.le_trans (List.length_filter_le _ _) (by rw [List.length_range]; exact Nat.le_refl _)
/-- no lesser place hangs together with it -/
def Lst (w : Web) (a : Nat) : Prop := ∀ b, Rch w.2 a b → a ≤ b
noncomputable def leastsL (w : Web) (n : Nat) : List Nat := (List.range n).filter fun a => dec (Lst w a)
noncomputable def partsN (w : Web) (n : Nat) : List (List Nat) := (leastsL w n).map (partL w)
noncomputable def partsL (w : Web) : List (List Nat) := partsN w w.1.length
theorem leastsL_succ (w : Web) (n : Nat) : leastsL w (n + 1) = leastsL w n ++ if dec (Lst w n) = true then [n] else [] := by
  unfold leastsL
  rw [List.range_succ, List.filter_append]
  congr 1
  by_cases c : dec (Lst w n) = true
  · rw [if_pos c]; simp [c]
  · rw [if_neg c]; simp [c]
theorem partsN_succ (w : Web) (n : Nat) : partsN w (n + 1) = partsN w n ++ if dec (Lst w n) = true then [partL w n] else [] := by
  unfold partsN
  rw [leastsL_succ, List.map_append]
  congr 1
  split <;> rfl
theorem partsN_len (w : Web) (n : Nat) : (partsN w n).length ≤ n := by
  unfold partsN leastsL
  rw [List.length_map]
  exact Nat.le_trans (List.length_filter_le _ _) (by rw [List.length_range]; exact Nat.le_refl _)
/-- a place that none of the lesser ones comes to is least -/
theorem seen_iff {w : Web} (W : WOk w) {n : Nat} : (∃ a, a < n ∧ Rch w.2 a n) ↔ ¬ Lst w n := by
  constructor
  · rintro ⟨a, h1, h2⟩ l
    have := l a (h2.symm W)
    omega
  · intro h
    unfold Lst at h
    obtain ⟨b, hb⟩ := Classical.not_forall.mp h
    obtain ⟨h1, h2⟩ := Classical.not_imp.mp hb
    exact ⟨b, by omega, h1.symm W⟩
/-! ### the least place that one comes to, by turns -/
def Dn (ts : List Tie) : Nat → Nat → Nat → Prop
  | 0, p, q => p = q
  | k + 1, p, q => Dn ts k p q ∨ ∃ r, r ∈ nb ts p ∧ Dn ts k r q
theorem Dn.mono {ts : List Tie} {k p q : Nat} (h : Dn ts k p q) : ∀ m, Dn ts (k + m) p q
  | 0 => h
  | m + 1 => .inl (Dn.mono h m)
theorem filter_lt {α : Type} {P Q : α → Bool} : ∀ {l : List α}, (∀ x ∈ l, P x = true → Q x = true) → (∃ x ∈ l, Q x = true ∧ P x = false) → (l.filter P).length < (l.filter Q).length
  | [], _, ⟨x, h, _⟩ => absurd h (by simp)
  | y :: l, i, ⟨x, h, h1, h2⟩ => by
    have le : ∀ {l : List α}, (∀ x ∈ l, P x = true → Q x = true) → (l.filter P).length ≤ (l.filter Q).length := fun {l} i => by
      induction l with
      | nil => exact Nat.le_refl _
      | cons a r ih =>
        have ihr := ih fun x hx => i x (List.mem_cons_of_mem _ hx)
        by_cases c : P a = true
        · rw [List.filter_cons_of_pos c, List.filter_cons_of_pos (i a List.mem_cons_self c)]
          exact Nat.succ_le_succ ihr
        · rw [List.filter_cons_of_neg c]
          by_cases d : Q a = true
          · rw [List.filter_cons_of_pos d]; exact Nat.le_succ_of_le ihr
          · rw [List.filter_cons_of_neg d]; exact ihr
    have il : ∀ x ∈ l, P x = true → Q x = true := fun x hx => i x (List.mem_cons_of_mem _ hx)
    rcases List.mem_cons.mp h with z | z
    · subst z
      rw [List.filter_cons_of_neg (by rw [h2]; simp), List.filter_cons_of_pos h1]
      exact Nat.lt_succ_of_le (le il)
    · have ih := filter_lt il ⟨x, z, h1, h2⟩
      by_cases c : P y = true
      · rw [List.filter_cons_of_pos c, List.filter_cons_of_pos (i y List.mem_cons_self c)]
        exact Nat.succ_lt_succ ih
      · rw [List.filter_cons_of_neg c]
        by_cases d : Q y = true
        · rw [List.filter_cons_of_pos d]; exact Nat.lt_succ_of_lt ih
        · rw [List.filter_cons_of_neg d]; exact ih
/-- as many turns as there are places are enough -/
theorem dn_all {w : Web} (W : WOk w) {p q : Nat} (hq : q < w.1.length) (h : Rch w.2 p q) : Dn w.2 w.1.length p q := by
  have grow : ∀ k, (∀ a r, r ∈ nb w.2 a → Dn w.2 k r q → Dn w.2 k a q) ∨ k + 1 ≤ ((List.range w.1.length).filter fun a => dec (Dn w.2 k a q)).length := by
    intro k
    induction k with
    | zero =>
      right
      have : q ∈ (List.range w.1.length).filter fun a => dec (Dn w.2 0 a q) := List.mem_filter.mpr ⟨List.mem_range.mpr hq, dec_true rfl⟩
      exact List.length_pos_of_mem this
    | succ k ih =>
      rcases Classical.em (∀ a r, r ∈ nb w.2 a → Dn w.2 k r q → Dn w.2 k a q) with c | c
      · left
        have back : ∀ a, Dn w.2 (k + 1) a q → Dn w.2 k a q := fun a d => by
          rcases d with d | ⟨r, h1, h2⟩
          · exact d
          · exact c a r h1 h2
        intro a r h1 h2
        exact .inl (c a r h1 (back r h2))
      · right
        rcases ih with ih | ih
        · exact absurd ih c
        obtain ⟨a, ha⟩ := Classical.not_forall.mp c
        obtain ⟨r, hr⟩ := Classical.not_forall.mp ha
        obtain ⟨h1, hr⟩ := Classical.not_imp.mp hr
        obtain ⟨h2, h3⟩ := Classical.not_imp.mp hr
        have lt := filter_lt (l := List.range w.1.length) (P := fun a => dec (Dn w.2 k a q)) (Q := fun a => dec (Dn w.2 (k + 1) a q)) (fun x _ hx => dec_true (.inl (dec_iff.mp hx)))
          ⟨a, List.mem_range.mpr (nb_lt W h1).1, dec_true (.inr ⟨r, h1, h2⟩), dec_false h3⟩
        omega
  have closed : ∀ a r, r ∈ nb w.2 a → Dn w.2 w.1.length r q → Dn w.2 w.1.length a q := by
    rcases grow w.1.length with c | c
    · exact c
    · have := List.length_filter_le (fun a => dec (Dn w.2 w.1.length a q)) (List.range w.1.length)
      rw [List.length_range] at this
      omega
  have d0 : Dn w.2 w.1.length q q := by
    have z := Dn.mono (show Dn w.2 0 q q from rfl) w.1.length
    rw [Nat.zero_add] at z
    exact z
  have go : ∀ x, Rch w.2 p x → Dn w.2 w.1.length x q → Dn w.2 w.1.length p q := by
    intro x hx
    induction hx with
    | base => exact id
    | step _ m ih => exact fun d => ih (closed _ _ m d)
  exact go q h d0
/-- what the labels are while they sink: of its own part, and no greater than what k steps come to -/
structure Lab (w : Web) (k : Nat) (ls : List Nat) : Prop where
  len : ls.length = w.1.length
  own : ∀ (p l : Nat), ls[p]? = some l → Rch w.2 p l
  low : ∀ (p l q : Nat), ls[p]? = some l → Dn w.2 k p q → l ≤ q
/-- within a turn: i ties are done -/
structure LabT (w : Web) (k i : Nat) (old ls : List Nat) : Prop where
  len : ls.length = w.1.length
  own : ∀ (p l : Nat), ls[p]? = some l → Rch w.2 p l
  sink : ∀ (p l m : Nat), ls[p]? = some l → old[p]? = some m → l ≤ m
  done : ∀ t ∈ w.2.take i, ∀ (l m : Nat), (ls[t.1]? = some l → old[t.2.1]? = some m → l ≤ m) ∧ (ls[t.2.1]? = some l → old[t.1]? = some m → l ≤ m)
theorem Lab.start (w : Web) : Lab w 0 (List.range w.1.length) := by
  refine ⟨List.length_range, fun p l h => ?_, fun p l q h d => ?_⟩
  · obtain ⟨h1, h2⟩ := List.getElem?_eq_some_iff.mp h
    rw [List.getElem_range] at h2
    subst h2
    exact .base
  · obtain ⟨h1, h2⟩ := List.getElem?_eq_some_iff.mp h
    rw [List.getElem_range] at h2
    have : p = q := d
    omega
theorem LabT.start {w : Web} {k : Nat} {ls : List Nat} (L : Lab w k ls) : LabT w k 0 ls ls :=
  ⟨L.len, L.own, fun p l m h1 h2 => by rw [h1] at h2; cases h2; exact Nat.le_refl _, fun t ht => by simp at ht⟩
theorem LabT.tie {w : Web} (W : WOk w) {k i : Nat} {old ls : List Nat} (T : LabT w k i old ls) {t : Tie} (ht : w.2[i]? = some t) {l m : Nat} (hl : ls[t.1]? = some l) (hm : ls[t.2.1]? = some m) :
    LabT w k (i + 1) old ((ls.set t.1 (min l m)).set t.2.1 (min l m)) := by
  have r := W.ends t (List.mem_of_getElem? ht)
  have n1 : t.1 < ls.length := by rw [T.len]; omega
  have n2 : t.2.1 < ls.length := by rw [T.len]; omega
  have adj : t.2.1 ∈ nb w.2 t.1 := (mem_nb W).mpr ⟨t, List.mem_of_getElem? ht, at2_iff.mpr (.inl ⟨rfl, rfl⟩)⟩
  have at_ : ∀ p, ((ls.set t.1 (min l m)).set t.2.1 (min l m))[p]? = if p = t.1 ∨ p = t.2.1 then some (min l m) else ls[p]? := fun p => by
    by_cases c2 : t.2.1 = p
    · subst c2
      rw [List.getElem?_set_self (by rw [List.length_set]; exact n2), if_pos (.inr rfl)]
    · rw [List.getElem?_set_ne c2]
      by_cases c1 : t.1 = p
      · subst c1
        rw [List.getElem?_set_self n1, if_pos (.inl rfl)]
      · rw [List.getElem?_set_ne c1, if_neg (by intro z; rcases z with z | z; exact c1 z.symm; exact c2 z.symm)]
  have rl := T.own _ _ hl
  have rm := T.own _ _ hm
  have down : ∀ p x y, ((ls.set t.1 (min l m)).set t.2.1 (min l m))[p]? = some x → ls[p]? = some y → x ≤ y := fun p x y hx hy => by
    rw [at_] at hx
    split at hx
    · rename_i c
      have e := (Option.some.inj hx).symm
      subst e
      rcases c with c | c
      · subst c; rw [hl] at hy; cases hy; exact Nat.min_le_left _ _
      · subst c; rw [hm] at hy; cases hy; exact Nat.min_le_right _ _
    · rw [hx] at hy; cases hy; exact Nat.le_refl _
  have here : ∀ p x, ((ls.set t.1 (min l m)).set t.2.1 (min l m))[p]? = some x → ∃ y, ls[p]? = some y := fun p x hx => by
    have := (List.getElem?_eq_some_iff.mp hx).1
    rw [List.length_set, List.length_set] at this
    exact ⟨_, List.getElem?_eq_getElem this⟩
  refine ⟨by rw [List.length_set, List.length_set]; exact T.len, fun p x hx => ?_, fun p x y hx hy => ?_, fun u hu x y => ⟨fun hx hy => ?_, fun hx hy => ?_⟩⟩
  · rw [at_] at hx
    split at hx
    · rename_i c
      have e := (Option.some.inj hx).symm
      subst e
      have to1 : Rch w.2 t.1 (min l m) := by
        rcases Nat.le_total l m with z | z
        · rw [Nat.min_eq_left z]; exact rl
        · rw [Nat.min_eq_right z]; exact Rch.trans (Rch.base.step adj) rm
      rcases c with c | c
      · subst c; exact to1
      · subst c; exact Rch.trans (Rch.base.step (nb_symm W adj)) to1
    · exact T.own p x hx
  · obtain ⟨z, hz⟩ := here p x hx
    exact Nat.le_trans (down p x z hx hz) (T.sink p z y hz hy)
  · rw [take_snoc ht] at hu
    rcases List.mem_append.mp hu with hu | hu
    · obtain ⟨z, hz⟩ := here _ x hx
      exact Nat.le_trans (down _ x z hx hz) ((T.done u hu z y).1 hz hy)
    · rw [List.mem_singleton.mp hu] at hx hy
      rw [at_, if_pos (.inl rfl)] at hx
      cases hx
      exact Nat.le_trans (Nat.min_le_right _ _) (T.sink _ m y hm hy)
  · rw [take_snoc ht] at hu
    rcases List.mem_append.mp hu with hu | hu
    · obtain ⟨z, hz⟩ := here _ x hx
      exact Nat.le_trans (down _ x z hx hz) ((T.done u hu z y).2 hz hy)
    · rw [List.mem_singleton.mp hu] at hx hy
      rw [at_, if_pos (.inr rfl)] at hx
      cases hx
      exact Nat.le_trans (Nat.min_le_left _ _) (T.sink _ l y hl hy)
theorem LabT.turn {w : Web} (W : WOk w) {k : Nat} {old ls : List Nat} (L : Lab w k old) (T : LabT w k w.2.length old ls) : Lab w (k + 1) ls := by
  refine ⟨T.len, T.own, fun p l q hl d => ?_⟩
  have hp : p < old.length := by rw [L.len, ← T.len]; exact (List.getElem?_eq_some_iff.mp hl).1
  have ho := List.getElem?_eq_getElem hp
  rcases d with d | ⟨r, h1, h2⟩
  · exact Nat.le_trans (T.sink p l _ hl ho) (L.low p _ q ho d)
  · obtain ⟨t, ht, e⟩ := (mem_nb W).mp h1
    have hr : r < old.length := by rw [L.len]; exact (nb_lt W h1).2
    have hr' := List.getElem?_eq_getElem hr
    have tm : t ∈ w.2.take w.2.length := by rw [List.take_length]; exact ht
    have dn := T.done t tm l old[r]
    have le : l ≤ old[r] := by
      rcases at2_iff.mp e with ⟨a, b⟩ | ⟨a, b⟩
      · exact dn.1 (by rw [a]; exact hl) (by rw [b]; exact hr')
      · exact dn.2 (by rw [b]; exact hl) (by rw [a]; exact hr')
    exact Nat.le_trans le (L.low r _ q hr' h2)
/-- at the end: each label is the least place of its part -/
theorem Lab.end_ {w : Web} (W : WOk w) {ls : List Nat} (L : Lab w w.1.length ls) {p l : Nat} (h : ls[p]? = some l) : Rch w.2 p l ∧ Lst w l := by
  have hp : p < w.1.length := by rw [← L.len]; exact (List.getElem?_eq_some_iff.mp h).1
  have r := L.own p l h
  refine ⟨r, fun b hb => ?_⟩
  have rb := r.trans hb
  exact L.low p l b h (dn_all W (rb.lt W hp) rb)
theorem lst_uniq {w : Web} (W : WOk w) {a b : Nat} (ha : Lst w a) (hb : Lst w b) (h : Rch w.2 a b) : a = b := by
  have h1 := ha b h
  have h2 := hb a (h.symm W)
  omega
theorem Lab.is_ {w : Web} (W : WOk w) {ls : List Nat} (L : Lab w w.1.length ls) {p l a : Nat} (h : ls[p]? = some l) (ha : Lst w a) : l = a ↔ Rch w.2 a p := by
  obtain ⟨h1, h2⟩ := L.end_ W h
  constructor
  · rintro rfl
    exact h1.symm W
  · intro z
    exact (lst_uniq W ha h2 (z.trans h1)).symm
theorem labs_mem {w : Web} (W : WOk w) {ls : List Nat} (L : Lab w w.1.length ls) (x : Nat) : x ∈ ls ↔ x ∈ leastsL w w.1.length := by
  unfold leastsL
  rw [List.mem_filter, List.mem_range, dec_iff]
  constructor
  · intro h
    obtain ⟨p, hp⟩ := List.getElem?_of_mem h
    obtain ⟨h1, h2⟩ := L.end_ W hp
    have hp' : p < w.1.length := by rw [← L.len]; exact (List.getElem?_eq_some_iff.mp hp).1
    exact ⟨h1.lt W hp', h2⟩
  · rintro ⟨h1, h2⟩
    have hx : x < ls.length := by rw [L.len]; exact h1
    have g := List.getElem?_eq_getElem hx
    have e := (L.is_ W g h2).mpr .base
    rw [e] at g
    exact List.mem_of_getElem? g
theorem leasts_rise (w : Web) (n : Nat) : (leastsL w n).Pairwise (· < ·) := List.Pairwise.filter _ List.pairwise_lt_range
theorem mem_leasts {w : Web} {n x : Nat} (h : x ∈ leastsL w n) : x < n ∧ Lst w x := by
  unfold leastsL at h
  rw [List.mem_filter, List.mem_range, dec_iff] at h
  exact h
theorem labs_part {w : Web} (W : WOk w) {ls : List Nat} (L : Lab w w.1.length ls) {a : Nat} (ha : Lst w a) : ((List.range w.1.length).filter fun p => decide (ls[p]? = some a)) = partL w a := by
  unfold partL
  refine List.filter_congr fun p hp => ?_
  have hp' : p < ls.length := by rw [L.len]; exact List.mem_range.mp hp
  have g := List.getElem?_eq_getElem hp'
  rw [Bool.eq_iff_iff, dec_iff, decide_eq_true_eq, g, Option.some.injEq]
  exact L.is_ W g ha

/-! ### a def's code told to its body -/
section
variable {P : Program} {w : World} {K : PySem.W.Frag} {mg : Str → Option Value} {base : Heap}
theorem funOkC {x qual : Str} {st : Stmt} {f : Addr} {fd : FuncData} {N ps : List Str} {k : Nat} {sp : Sp} (F : Fun K x qual st f fd) (S : FnScope N ps (defScope st)) (len : ∀ vs H Q E, sp vs H Q E → vs.length = ps.length)
    (hbody : ∀ (cdv : Value), PySem.W.codeIn K cdv qual = true → ∀ (A : Around) (outer : List Env) (s : Shared) (H : Hp) (vs : List V) (Q : VK) (E : XK), Room k (A.deeper (envOfC qual (defScope st) s.heap.objs.size f cdv)) → sp vs H Q E →
      ∃ t, PSs (cxOf CX0 P w K mg base N qual (defScope st) f cdv A outer s H E).nox (defBody st) t ∧ t { nx := fun _ H' => Q .non H', rt := Q } (start N vs) H) : FnOk P w K mg base CX0 (k + 1) f fd ps sp := by
  obtain ⟨oc, od, kV, doc, pm, an, cdv, ct, osl, rfl, lk, hcd⟩ := F.ex
  refine fn_of lk hcd S len fun A outer s H vs Q E hr hsp => ?_
  obtain ⟨t, h, q⟩ := hbody cdv hcd A outer s H vs Q E hr hsp
  exact ⟨t, h.nox, q⟩
end
/-! ### a set of places -/
theorem cr_set0w {X : Cx} {wd : World} (hw : X.w = wd) : CallR X (.type "set") (rSet0 wd) := by
  subst hw
  exact cr_set0
def SetN (wd : World) (H : Hp) (S : Addr) (ms : List Nat) : Prop := ∃ Sx n, H S = some (SetO wd S Sx n) ∧ n ≤ ms.length ∧ (ms.Nodup → n = ms.length) ∧ ∀ k : Int, Sx k = true ↔ ∃ q : Nat, k = (q : Int) ∧ q ∈ ms
section
variable {wd : World} {K : PySem.W.Frag} {H H' : Hp} {S : Addr} {ms : List Nat} {q : Nat} {Q : VK}
theorem SetN.new (h : H S = some (SetO wd S (fun _ => false) 0)) : SetN wd H S [] := ⟨_, 0, h, Nat.le_refl _, fun _ => rfl, fun k => by simp⟩
theorem SetN.same (x : SetN wd H S ms) (s : Same H H') : SetN wd H' S ms := by
  obtain ⟨a, n, e, r⟩ := x
  exact ⟨a, n, s _ _ e, r⟩
theorem SetN.at_ (x : SetN wd H S ms) {b : Addr} {o : HO} (n : b ≠ S) : SetN wd (upd H b o) S ms := by
  obtain ⟨a, m, e, r⟩ := x
  exact ⟨a, m, by rw [upd_ne n.symm]; exact e, r⟩
theorem SetN.ne (x : SetN wd H S ms) {b : Addr} {ys : List V} (e : H b = some (.lst ys)) : b ≠ S := by
  obtain ⟨a, m, e', r⟩ := x
  exact ne_of e e' (by intro z; cases z)
theorem d_snotin (x : SetN wd H S ms) (k : Q (.bl (!decide (q ∈ ms))) H) : rSNotIn wd (.int (q : Nat)) (.ref S) H Q := by
  obtain ⟨Sx, n, e, l, l', m⟩ := x
  refine ⟨q, S, Sx, n, rfl, rfl, e, ?_⟩
  have : Sx (q : Nat) = decide (q ∈ ms) := by
    rw [Bool.eq_iff_iff, decide_eq_true_eq, m]
    constructor
    · rintro ⟨q', h1, h2⟩
      have : q = q' := by omega
      rw [this]; exact h2
    · intro h
      exact ⟨q, rfl, h⟩
  rw [this]
  exact k
theorem d_tsadd {to : TE} {t : TA} {σ : L2.St} (h : to σ H fun x H1 => (∃ a S n, x = V.ref a ∧ H1 a = some (SetO wd a S n)) ∧ t σ H1 fun xs H2 => rSAdd wd x xs H2 Q) : tSAdd wd to t σ H Q := h
theorem d_sadd0 (x : SetN wd H S ms) {C : Prop} (h : C) : (∃ a Sx n, V.ref S = V.ref a ∧ H a = some (SetO wd a Sx n)) ∧ C := by
  obtain ⟨a, n, e, r⟩ := x
  exact ⟨⟨S, a, n, rfl, e⟩, h⟩
theorem d_sadd (x : SetN wd H S ms) (few : ms.length ≤ 4000) (k : ∀ o ms', SetN wd (upd H S o) S ms' → (∀ y, y ∈ ms' ↔ y ∈ ms ∨ y = q) → ms'.length ≤ ms.length + 1 → (q ∉ ms → ms' = ms ++ [q]) → Q .non (upd H S o)) : rSAdd wd (.ref S) [.int (q : Nat)] H Q := by
  obtain ⟨Sx, n, e, l, l', m⟩ := x
  refine ⟨S, q, Sx, n, rfl, rfl, e, by unfold scanBound; omega, ?_⟩
  have mem : ∀ j : Int, (Sx j || decide (j = (q : Int))) = true ↔ ∃ y : Nat, j = (y : Int) ∧ (y ∈ ms ∨ y = q) := fun j => by
    rw [Bool.or_eq_true, m, decide_eq_true_eq]
    constructor
    · rintro (⟨y, h1, h2⟩ | h)
      · exact ⟨y, h1, .inl h2⟩
      · exact ⟨q, h, .inr rfl⟩
    · rintro ⟨y, h1, h2 | h2⟩
      · exact .inl ⟨y, h1, h2⟩
      · exact .inr (by rw [h1, h2])
  by_cases c : q ∈ ms
  · have c' : Sx (q : Nat) = true := (m _).mpr ⟨q, rfl, c⟩
    rw [if_pos c']
    refine k _ ms ⟨_, n, upd_same, l, l', fun j => ?_⟩ (fun y => ⟨.inl, fun h => h.elim id fun z => z ▸ c⟩) (by omega) fun z => absurd c z
    rw [mem]
    exact ⟨fun ⟨y, h1, h2⟩ => ⟨y, h1, h2.elim id fun z => z ▸ c⟩, fun ⟨y, h1, h2⟩ => ⟨y, h1, .inl h2⟩⟩
  · have c' : ¬ Sx (q : Nat) = true := fun z => by
      obtain ⟨y, h1, h2⟩ := (m _).mp z
      have : q = y := by omega
      exact c (this ▸ h2)
    rw [if_neg c']
    refine k _ (ms ++ [q]) ⟨_, n + 1, upd_same, by rw [List.length_append]; show n + 1 ≤ ms.length + 1; omega, fun nd => ?_, fun j => ?_⟩ (fun y => by rw [List.mem_append, List.mem_singleton]) (by rw [List.length_append]; exact Nat.le_refl _) fun _ => rfl
    · rw [List.length_append, l' (List.nodup_append.mp nd).1]; rfl
    · rw [mem]
      exact ⟨fun ⟨y, h1, h2⟩ => ⟨y, h1, by rw [List.mem_append, List.mem_singleton]; exact h2⟩, fun ⟨y, h1, h2⟩ => ⟨y, h1, by rw [List.mem_append, List.mem_singleton] at h2; exact h2⟩⟩
theorem nats_of {ns : List Int} {l : List Nat} (s : ns.Pairwise (· < ·)) (sl : l.Pairwise (· < ·)) (m : ∀ k, k ∈ ns ↔ ∃ q : Nat, k = (q : Int) ∧ q ∈ l) : ns = zs l := by
  have nn : ∀ k ∈ ns, 0 ≤ k := fun k hk => by
    obtain ⟨q, h, _⟩ := (m k).mp hk
    omega
  have e1 : zs (ns.map Int.toNat) = ns := by
    unfold zs
    rw [List.map_map]
    refine (List.map_congr_left fun k hk => ?_).trans (List.map_id _)
    show ((k.toNat : Nat) : Int) = k
    exact Int.toNat_of_nonneg (nn k hk)
  rw [← e1]
  congr 1
  refine sorted_ext ?_ sl fun x => ?_
  · rw [List.pairwise_map]
    refine s.imp_of_mem fun {x y} hx hy h => ?_
    have := nn x hx
    have := nn y hy
    omega
  · rw [List.mem_map]
    constructor
    · rintro ⟨k, h1, h2⟩
      obtain ⟨q, h3, h4⟩ := (m k).mp h1
      have : x = q := by omega
      rw [this]; exact h4
    · intro h
      exact ⟨(x : Int), (m _).mpr ⟨x, rfl, h⟩, by simp⟩
theorem d_ssort (x : SetN wd H S ms) {l : List Nat} (nd : ms.Nodup) (few : ms.length < 64) (sl : l.Pairwise (· < ·)) (m : ∀ y, y ∈ ms ↔ y ∈ l) (k : ∀ p, H p = none → Q (.ref p) (upd H p (.lst (l.map fun y => V.int (y : Nat))))) : rSortedSet wd [.ref S] H Q := by
  obtain ⟨Sx, n, e, l1, l2, m1⟩ := x
  refine ⟨S, Sx, n, rfl, e, by have := l2 nd; omega, fun ns p s mem len fp => ?_⟩
  have : ns = zs l := nats_of s sl fun j => by
    rw [mem, m1]
    exact ⟨fun ⟨y, h1, h2⟩ => ⟨y, h1, (m y).mp h2⟩, fun ⟨y, h1, h2⟩ => ⟨y, h1, (m y).mpr h2⟩⟩
  rw [this, ← ints_map]
  exact k p fp
end
/-! ### lists of lists of places -/
abbrev natsV (p : List Nat) : List V := p.map fun q => V.int (q : Nat)
def PartsAt (H : Hp) (rs : List Addr) (ps : List (List Nat)) : Prop := Paired (fun r p => H r = some (.lst (natsV p))) rs ps
def partsD (ps : List (List Nat)) : PyData := .list (ps.map fun p => .list ((zs p).map PyData.int))
section
variable {K : PySem.W.Frag} {H H' : Hp} {rs : List Addr} {ps : List (List Nat)}
theorem PartsAt.same (x : PartsAt H rs ps) (s : Same H H') : PartsAt H' rs ps := Paired.imp x fun _ _ e => s _ _ e
theorem PartsAt.keep {h : Addr} (x : PartsAt H rs ps) (k : Keep h H H') (n : h ∉ rs) : PartsAt H' rs ps := by
  induction x with
  | nil => exact .nil
  | cons e _ ih =>
    exact .cons (k _ _ (fun z => n (z ▸ List.mem_cons_self)) e) (ih fun z => n (List.mem_cons_of_mem _ z))
theorem PartsAt.dpa : ∀ {rs : List Addr} {ps : List (List Nat)}, PartsAt H rs ps → DpAll K H (rs.map V.ref) (ps.map fun p => PyData.list ((zs p).map PyData.int))
  | _, _, .nil => .nil
  | _, _, .cons e r => .cons (dp_nats e) (PartsAt.dpa r)
theorem PartsAt.dp {T : Addr} (x : PartsAt H rs ps) (e : H T = some (.lst (rs.map V.ref))) : Dp K H (.ref T) (partsD ps) := .lst (SqL.of e) x.dpa
theorem partsD_good (ps : List (List Nat)) : SeqAt.shaped (partsD ps) = true := by
  refine shaped_list (k := 1) (by decide) fun d hd => ?_
  obtain ⟨p, _, rfl⟩ := List.mem_map.mp hd
  have h := shaped_ints (zs p)
  refine ⟨SeqAt.canLay_of_shaped h, ?_⟩
  have : PyData.depthAll ((zs p).map PyData.int) ≤ 0 := by
    generalize zs p = l
    induction l with
    | nil => simp [PyData.depthAll]
    | cons a l ih => simp [PyData.depthAll, PyData.depth]; omega
  simp only [PyData.depth]; omega
end
theorem cr_setLw {X : Cx} {wd : World} (hw : X.w = wd) (hc : X.calm = true) : CallR X (.type "set") (rSetL X.K wd) := by
  subst hw
  exact cr_setL hc
/-! ### webs beside one another; a row -/
def shiftT (n : Nat) (t : Tie) : Tie := (t.1 + n, t.2.1 + n, t.2.2)
def joinW (u v : Web) : Web := (u.1 ++ v.1, u.2 ++ v.2.map (shiftT u.1.length))
def rowW (u : Web) : Web := (u.1, (List.range (u.1.length - 1)).map fun j => (j, j + 1, 115))
theorem ties_few {ts : List Tie} {n : Nat} (s : ts.Pairwise tlt) (e : ∀ t ∈ ts, t.1 < n ∧ t.2.1 < n) : ts.length ≤ n * n := by
  have h := nodup_len (n * n) (ts.map fun t => t.1 * n + t.2.1) ?_ ?_
  · rw [List.length_map] at h; exact h
  · unfold List.Nodup
    rw [List.pairwise_map]
    refine s.imp_of_mem fun {x y} hx hy h z => ?_
    obtain ⟨a1, a2⟩ := e x hx
    obtain ⟨b1, b2⟩ := e y hy
    unfold tlt at h
    have e1 : (x.1 * n + x.2.1) / n = x.1 := by rw [Nat.add_comm, Nat.add_mul_div_right _ _ (by omega), Nat.div_eq_of_lt a2, Nat.zero_add]
    have e2 : (y.1 * n + y.2.1) / n = y.1 := by rw [Nat.add_comm, Nat.add_mul_div_right _ _ (by omega), Nat.div_eq_of_lt b2, Nat.zero_add]
    have : x.1 = y.1 := by rw [← e1, ← e2, z]
    rw [this] at z
    omega
  · intro x hx
    obtain ⟨t, ht, rfl⟩ := List.mem_map.mp hx
    obtain ⟨a1, a2⟩ := e t ht
    calc t.1 * n + t.2.1 < t.1 * n + n := by omega
      _ = (t.1 + 1) * n := by rw [Nat.add_mul, Nat.one_mul]
      _ ≤ n * n := Nat.mul_le_mul_right _ a1
theorem few_most {n m : Nat} (h : n ≤ 40) (k : m ≤ n * n) : m ≤ 1600 := Nat.le_trans k (Nat.le_trans (Nat.mul_le_mul h h) (by decide))
theorem joinW_ok {u v : Web} (U : WOk u) (V : WOk v) (h : u.1.length + v.1.length ≤ 40) : WOk (joinW u v) := by
  have en : ∀ t ∈ (joinW u v).2, t.1 < t.2.1 ∧ t.2.1 < (joinW u v).1.length ∧ Ltr t.2.2 := fun t ht => by
    unfold joinW at ht ⊢
    dsimp only at ht ⊢
    rw [List.length_append]
    rcases List.mem_append.mp ht with ht | ht
    · obtain ⟨a, b, c⟩ := U.ends t ht
      exact ⟨a, by omega, c⟩
    · obtain ⟨s, hs, rfl⟩ := List.mem_map.mp ht
      obtain ⟨a, b, c⟩ := V.ends s hs
      unfold shiftT
      exact ⟨by dsimp only; omega, by dsimp only; omega, c⟩
  have ri : (joinW u v).2.Pairwise tlt := by
    unfold joinW
    refine List.pairwise_append.mpr ⟨U.rise, ?_, fun x hx y hy => ?_⟩
    · rw [List.pairwise_map]
      refine V.rise.imp fun {x y} h => ?_
      unfold tlt shiftT at *
      dsimp only
      omega
    · obtain ⟨s, hs, rfl⟩ := List.mem_map.mp hy
      obtain ⟨a, b, c⟩ := U.ends x hx
      unfold tlt shiftT
      left
      dsimp only
      omega
  have le : (joinW u v).1.length ≤ 40 := by unfold joinW; rw [List.length_append]; exact h
  refine ⟨le, few_most le (ties_few ri fun t ht => ?_), fun c hc => ?_, ri, en⟩
  · obtain ⟨a, b, _⟩ := en t ht
    omega
  · unfold joinW at hc
    rcases List.mem_append.mp hc with hc | hc
    · exact U.kinds c hc
    · exact V.kinds c hc
theorem rowW_ok {u : Web} (U : WOk u) : WOk (rowW u) := by
  refine ⟨U.few, ?_, U.kinds, ?_, fun t ht => ?_⟩
  · unfold rowW
    rw [List.length_map, List.length_range]
    have := U.few
    omega
  · unfold rowW
    rw [List.pairwise_map]
    refine List.pairwise_lt_range.imp fun {x y} h => ?_
    unfold tlt
    left
    exact h
  · unfold rowW at ht ⊢
    obtain ⟨j, hj, rfl⟩ := List.mem_map.mp ht
    rw [List.mem_range] at hj
    exact ⟨Nat.lt_succ_self _, by dsimp only; omega, by unfold Ltr; dsimp only; omega⟩
theorem wok_nil : WOk ([], []) := ⟨by decide, by decide, by simp, .nil, by simp⟩
theorem partsL_nil : partsL ([], []) = [] := rfl
end Cw

namespace Cw
open PySem PySem.Spec PyProof.Rows L2
/-! ### all, any of a generator expression: one clause without tests, over whatever PI serves; its item may call defs -/
/-- a def's table of code objects, which grows at the first call -/
def TbX (P : Addr) : HO := .ext fun h => ∃ ps : Array Value, h.get? P = some { cls := .none, data := .fields ps } ∧ TriplesOk ps.toList
theorem upd_id {H : Hp} {P : Addr} {o : HO} (e : H P = some o) : upd H P o = H := funext fun b => by
  by_cases hb : b = P
  · rw [hb, upd_same, e]
  · exact upd_ne hb
section
variable {X : Cx} {pins : List (Addr × Obj)} {σ : L2.St} {H : Hp} {s : Shared} {P : Addr}
theorem tb_at (I : Inv X pins σ H s) (hP : H P = some (TbX P)) : ∃ ps : Array Value, s.heap.get? P = some { cls := .none, data := .fields ps } ∧ TriplesOk ps.toList := (I.hok P _ hP).1
theorem tb_grown (I : Inv X pins σ H s) (hP : H P = some (TbX P)) {h' : Heap} {tk : Nat} {ps : Array Value} (k : ∀ b o, b ≠ P → s.heap.get? b = some o → h'.get? b = some o)
    (e : h'.get? P = some { cls := .none, data := .fields ps }) (ht : TriplesOk ps.toList) : Inv X pins σ H { s with heap := h', toks := tk } := by
  have J := I.write (x := P) (e := P) (o := TbX P) (t' := tk) (by rw [hP]; exact trivial) (.inl rfl) k ⟨_, e⟩ ⟨⟨ps, e, ht⟩, ⟨_, e⟩, fun h1 h2 ⟨qs, z, zt⟩ st => ⟨qs, st _ z, zt⟩⟩
  rw [upd_id hP] at J
  exact J
/-- the code object of a generator expression, made now or found -/
theorem gx_code {c : Addr} {gpos : Pos} {qual : Str} {scope : Scope} {E : Value → Shared → Prop} {A : Around} {Qc : Value → Shared → Prop} (TB : GxR.TabB X.base X.mg c P) (hcode : X.env.code = .ref c) (I : Inv X pins σ H s) (hP : H P = some (TbX P))
    (h : ∀ code h' tk, Inv X pins σ H { s with heap := h', toks := tk } → (∀ b o, b ≠ P → s.heap.get? b = some o → h'.get? b = some o) → s.heap.objs.size ≤ h'.objs.size → Qc code { s with heap := h', toks := tk }) :
    wpAny (model X.prog X.w) A (genexprCode X.env gpos qual scope) Qc E s := by
  obtain ⟨ps, e, ht⟩ := tb_at I hP
  have cd : PySem.W.CodeHd s.heap c P := TB.code.keeps fun b o q => I.bk b o q
  cases hf : codeAmong gpos ps.toList with
  | some cv => exact wpAny_genexprCode_hit hcode (cd.code e ht) hf (h cv s.heap s.toks I (fun _ _ _ q => q) (Nat.le_refl _))
  | none =>
    refine wpAny_genexprCodeX hcode (cd.code e ht) (cd.tab e) hf fun c' h' tk ext big less known _ tab _ => ?_
    obtain ⟨_, _, _, _, _, _, _, _, _, _, _, _, _, _, _, _, _, _, _, trip, _⟩ := known
    exact h _ h' tk (tb_grown I hP ext tab.2 trip) ext (Nat.le_trans big (Nat.le_of_lt less))
end
/-- where a generator expression's items run: its frame over the frames that stand, made at s -/
abbrev _root_.L2.Cx.gx (X : Cx) (Ag : Around) (s : Shared) (H : Hp) (cenv : Env) (fp : List Addr) : Cx := { X with A := Ag, s_0 := s, H_0 := H, env := cenv, outer := X.stack, stack := cenv :: X.stack, ex := fp, fn := fun _ => false, pn := [], xe := fun _ _ => False }
abbrev gxEnv (X : Cx) (scope : Scope) (C : Addr) (code : Value) : Env := genEnv scope (cloFrom X.env.cells scope.names []) C code builtinsNs X.env
section
variable {X : Cx} {pins : List (Addr × Obj)} {σ : L2.St} {H : Hp} {s : Shared} {scope : Scope} {own : List (Str × Nat)} {fp : List Addr} {Ag : Around} {code : Value} {h5 : Heap} {tk : Nat} {g5 : Array GenState} {a : Addr} {go : Obj}
theorem gx_cells (I : Inv X pins σ H s) {y : Str} {c : Addr} (free : ∀ y ∈ scope.names, y.2 = .free → ∃ c, X.env.cells.lookup y.1 = some c) (e : (cloFrom X.env.cells scope.names []).lookup y = some c) : X.env.cells.lookup y = some c ∧ c < s.heap.objs.size := by
  rcases cloFrom_mem (PySem.mem_of_lookup e) with z | ⟨z, rfl⟩
  · cases z
  · obtain ⟨c, hc⟩ := free _ z rfl
    obtain ⟨v, w⟩ := I.cell _ _ hc
    rw [hc]
    exact ⟨rfl, w.lt⟩
theorem gx_start (I : Inv X pins σ H s) (ok : BlkOk X.N X.env.scope scope own) (nc : ∀ y ∈ scope.names, y.2 ≠ .cell) (hN : X.N.Nodup) (hfp : ∀ b ∈ fp, FpOk X pins H b ∧ b < s.heap.objs.size) (hA : X.calm = true → Ag.handled = none) (hfr : Ag.frames = some (gxEnv X scope s.heap.objs.size code :: X.stack))
    (keep : ∀ b o, s.heap.get? b = some o → h5.get? b = some o) {m : Str → Option Value} (ns : h5.Ns s.heap.objs.size m) (ha : h5.get? a = some go) (la : s.heap.objs.size < a) (nv : ∀ v, go.data ≠ .cell v) (hg : AllBare g5) :
    Inv (X.gx Ag s H (gxEnv X scope s.heap.objs.size code) fp) [(a, go)] (wipe σ (own.map (·.2))) H { s with gens := g5, toks := tk, heap := h5 } := by
  have free : ∀ y ∈ scope.names, y.2 = .free → ∃ c, X.env.cells.lookup y.1 = some c := fun y hy e => (ok.free y hy e).elim (fun k => I.ok.has _ (.inl k)) fun k => I.ok.has _ (.inr k)
  have cm := fun {y : Str} {c : Addr} (e : (cloFrom X.env.cells scope.names []).lookup y = some c) => gx_cells I free e
  have there : ∀ {y : Str}, scope.names.lookup y = some .free → ∃ c, (cloFrom X.env.cells scope.names []).lookup y = some c ∧ X.env.cells.lookup y = some c := fun {y} hl => by
    obtain ⟨c', e'⟩ := mem_lookup (cloFrom_has (cells := X.env.cells) (acc := []) (PySem.mem_of_lookup hl))
    exact ⟨c', e', (cm e').1⟩
  have young : ∀ b o, s.heap.get? b = some o → b ≠ s.heap.objs.size := fun b o e => Nat.ne_of_lt (Heap.lt_size e)
  have okG : (X.gx Ag s H (gxEnv X scope s.heap.objs.size code) fp).Ok := {
    mod := I.ok.mod, kind := ok.kind, glob := I.ok.glob, blt := rfl, above := Nat.le_refl _
    inj := fun x y c e1 e2 => I.ok.inj x y c (cm e1).1 (cm e2).1
    has := fun x hx => by
      rcases hx with hx | hx
      · exact absurd rfl (nc _ (PySem.mem_of_lookup hx))
      · obtain ⟨c, e, _⟩ := there hx
        exact ⟨c, e⟩
    cab := fun x c z _ => nomatch z
    hd := hA, frames := hfr, stk := .inr ⟨rfl, rfl⟩
    exf := fun b hb => ⟨Nat.ne_of_lt (hfp b hb).2, fun x c e => (hfp b hb).1.2.2.2.2.1 x c (cm e).1⟩
    bs := I.bs, bsz := Nat.le_trans I.ok.bsz I.sz
    noex := fun b o e hb => by
      rcases (hfp b hb).1.2.2.2.1 with z | z
      · exact I.ok.noex b o e z
      · exact absurd (Nat.lt_of_lt_of_le (Heap.lt_size e) (Nat.le_trans I.ok.bsz z)) (Nat.lt_irrefl _)
    exfs := fun b hb z => (List.mem_cons.mp (I.stkSub b z)).elim (hfp b hb).1.2.1 (hfp b hb).1.2.2.1
    funs := I.stack, frf := I.stkFree }
  refine { ok := okG, os := rfl, bare := hg, base := Un.kept keep, loc := ⟨m, ns, fun i y v e1 e2 e3 => ?_⟩, cell := fun y c e => ?_, free := I.hok.fresh (Nat.le_refl _), freeC := fun y c e => I.freeC y c (cm e).1, pin := fun p hp => ?_, hok := I.hok.kept keep, len := by rw [wipe_length]; exact I.len }
  · obtain ⟨e2, hne⟩ := wipe_some e2
    have notOwn : ∀ k, scope.names.lookup y = some k → k = .local ∨ k = .cell → False := fun k hk hk' => by
      rcases ok.own _ (PySem.mem_of_lookup hk) hk' with z | z
      · obtain ⟨p, hp, hpy⟩ := List.mem_map.mp z
        exact hne (List.mem_map.mpr ⟨p, hp, nodup_ix hN (by rw [ok.ix p hp, show p.1 = y from hpy]) e1⟩)
      · exact z (List.mem_of_getElem? e1)
    have fr : scope.names.lookup y = some .free := by
      rcases e3 with z | z | z
      · exact (notOwn _ z (.inl rfl)).elim
      · exact (notOwn _ z (.inr rfl)).elim
      · exact z
    obtain ⟨c, h1, h2⟩ := there fr
    obtain ⟨m', _, hl⟩ := I.loc
    have cf := ok.free _ (PySem.mem_of_lookup fr) rfl
    obtain ⟨u, r, q⟩ := hl i y v e1 e2 (cf.elim (fun k => .inr (.inl k)) fun k => .inr (.inr k))
    refine ⟨u, r, .inr ⟨.inr fr, c, h1, ?_⟩⟩
    rcases q with ⟨k, _⟩ | ⟨_, c', e', z⟩
    · have k : X.env.scope.names.lookup y = some .local := k
      rcases cf with z | z <;> (rw [show X.env.scope.names.lookup y = _ from z] at k; cases k)
    · rw [h2] at e'
      cases e'
      exact z.keeps keep
  · obtain ⟨v, z⟩ := I.cell y c (cm e).1
    exact ⟨v, z.keeps keep⟩
  · obtain rfl : p = (a, go) := List.mem_singleton.mp (show p ∈ [(a, go)] from hp)
    refine ⟨ha, I.hok.fresh (Nat.le_of_lt la), Nat.ne_of_gt la, fun z => ?_, nv⟩
    obtain ⟨_, o, ho, _⟩ := I.stack.mem z
    exact absurd (Nat.lt_trans (Heap.lt_size ho) la) (Nat.lt_irrefl _)
/-- the state but for its generators, texts' numbers and draws -/
theorem inv_re {X : Cx} {s s' : Shared} (I : Inv X pins σ H s) (hh : s'.heap = s.heap) (ho : s'.os = s.os) (hg : AllBare s'.gens) : Inv X pins σ H s' := by
  obtain ⟨a1, a2, a3, a4, a5, a6, a7, a8, a9, a10, a11⟩ := I
  rw [← hh] at a4 a5 a6 a9 a10
  exact ⟨a1, ho.trans a2, hg, a4, a5, a6, a7, a8, a9, a10, a11⟩
end
/-! the generator's own run -/
/-- an item handed out: a truth; the one at which the consumer stops, and the others, behind which it asks again -/
def gxY (X : Cx) (p : Addr × Obj) (st : Bool) (QS : Hp → Prop) : Protocol := fun _ _ v s kap => ∃ (b : Bool) (σ : L2.St) (H : Hp), v = .bool b ∧ Inv X [p] σ H s ∧ (b = st → QS H) ∧
  (b = !st → ∀ s2 : Shared, s2.heap = s.heap → s2.os = s.os → AllBare s2.gens → kap (.send .none) s2)
def gxP (X : Cx) (p : Addr × Obj) (QE : Hp → Prop) : Nat → Shared → Shared → Prop := fun _ _ s => ∃ (σ : L2.St) (H : Hp), Inv X [p] σ H s ∧ QE H
abbrev gxR (X : Cx) (p : Addr × Obj) (QE : Hp → Prop) : GenEnd := fun n s0 r s => r = .ok .next ∧ gxP X p QE n s0 s
/-- one turn by the walk, the target, the item -/
def gxTurn (J : It) (g : TG) (te : TE) (vs : List Nat) (st : Bool) (σ : L2.St) (QE QS : Hp → Prop) (W : Nat → Nat → Hp → Prop) : Prop := ∀ i m H, W i m H → (J.stop i H ∧ QE H) ∨ (J.go i H ∧ ∀ x H', J.yld i H x H' →
  g x (wipe σ vs) H' fun σ2 H2 => wipe σ2 vs = wipe σ vs ∧ te σ2 H2 fun y H3 => ∃ b, y = .bl b ∧ (b = st → QS H3) ∧ (b = !st → ∃ m', m' < m ∧ W (i + 1) m' H3))
section
variable {X : Cx} {p : Addr × Obj} {st : Bool} {QE QS : Hp → Prop} {J : It} {g : TG} {te : TE} {vs : List Nat} {σ : L2.St} {W : Nat → Nat → Hp → Prop} {fp : List Addr} {it : Addr} {tn : Nat → Heap → Prop} {elt tg iter : Expr} {scope : Scope} {pos : Pos} {A0 : Around}
theorem gx_loop (hA : X.A = A0.over (.compLoop (.GeneratorExp elt [⟨tg, iter, [], 0⟩] scope pos) 0 (.ref it) .none X.env) []) (hco : X.env.scope.isCoroutine = false) (hx : ∀ e s, X.xe e s → False) (hc : X.calm = true)
    (T : Turn X.prog X.w X.K tg J fp it tn) (hex : ∀ b ∈ fp, b ∈ X.ex) (hpn : X.pn = []) (hap : ∀ b ∈ fp, p.1 ≠ b) (pg : PG X tg g) (pe : PE X elt te) (turn : gxTurn J g te vs st σ QE QS W) :
    ∀ (n i m : Nat) (H : Hp) (s s0 : Shared), m + 1 ≤ n → Inv X [p] (wipe σ vs) H s → tn i s.heap → (∀ b ∈ fp, H b = none) → W i m H →
      Seg (model X.prog X.w) A0 (gxR X p QE) (gxY X p st QS) n s0 (.compLoop (.GeneratorExp elt [⟨tg, iter, [], 0⟩] scope pos) 0 (.ref it) .none X.env)
        ((model X.prog X.w).den (.compLoop (.GeneratorExp elt [⟨tg, iter, [], 0⟩] scope pos) 0 (.ref it) .none X.env)) [] s := by
  have stat : ∀ {σ' : L2.St} {H' : Hp} {s' : Shared}, Inv X [p] σ' H' s' → (∀ b ∈ fp, H' b = none) → ∀ b ∈ fp, FpOk X [p] H' b := fun {σ' H' s'} I' hn b hb =>
    ⟨hn b hb, (I'.ok.exf b (hex b hb)).1, I'.ok.exfs b (hex b hb), .inl (hex b hb), (I'.ok.exf b (hex b hb)).2, fun q hq => by
      rw [hpn] at hq
      rw [List.mem_singleton.mp (show q ∈ [p] from hq)]
      exact hap b hb⟩
  intro n
  induction n with
  | zero => intro i m H s s0 hm; omega
  | succ n ih =>
    intro i m H s s0 hm I t hn w
    show Seg _ A0 _ _ _ s0 _ ((compTurn (.GeneratorExp elt [⟨tg, iter, [], 0⟩] scope pos) 0 (.ref it) .none X.env).onRaise (leaving X.env)) [] s
    rw [compTurn_gen, Sem.onRaise_eq_wrap]
    refine seg_bind_wrap (wpAny_standAt ?_)
    rcases turn i m H w with ⟨stop, qe⟩ | ⟨go, step⟩
    · have d := T.done X rfl rfl rfl hc i [p] s _ H (fun _ _ => False) I (stat I hn) t stop
      rw [hA] at d
      exact seg_bind_wrap (thnF d fun r s1 ⟨hr, I1⟩ => by subst hr; exact seg_end (.ok .next) ⟨rfl, _, _, I1, qe⟩)
    · have d := T.item X rfl rfl rfl hc i [p] s _ H (fun _ _ => False) I (stat I hn) t go
      rw [hA] at d
      refine seg_bind_wrap (thnF d fun r s1 ⟨u, hr, d1⟩ => ?_)
      subst hr
      refine seg_bind_wrap (thnF d1 fun _ s2 ⟨x, H2, I2, r2, y2, t2, n2⟩ => ?_)
      have I2' := I2.pinned (stat I2 n2) (T.obj _ _ t2)
      have dg := pg.run _ s2 _ H2 x u _ I2' r2 (step x H2 y2)
      rw [hA] at dg
      refine seg_bind_wrap (wpAny_mono dg (fun _ s3 ⟨σ3, H3, I3, w3, q3⟩ => ?_) fun e s' z => (hx e s' z).elim)
      simp only [List.forIn_nil]
      refine seg_bind_wrap (wpAny_pure ?_)
      simp only [if_true]
      have out : ∀ v, yieldOut X.env v = yieldValue v := fun v => by simp only [yieldOut, hco, Bool.false_eq_true, if_false]
      simp only [out]
      have de := pe.run _ s3 σ3 H3 _ I3 q3
      rw [hA] at de
      rw [Sem.bind_eq_wrap', Sem.bind_eq_wrap', Sem.wrap_wrap, Sem.wrap_wrap]
      refine seg_wrap (wpAny_mono de (fun v s4 ⟨y, H4, I4, r4, b, hy, qs, qn⟩ => ?_) fun e s' z => (hx e s' z).elim)
      subst hy
      obtain rfl : v = Value.bool b := r4
      have kept : ∀ b ∈ fp, ∀ o, s2.heap.get? b = some o → s4.heap.get? b = some o ∧ H4 b = none := fun b hb o e =>
        let z := I4.pin (b, o) (List.mem_append_right _ (List.mem_append_right _ (mem_pinsAt hb e)))
        ⟨z.1, z.2.1⟩
      refine seg_at (seg_yield rfl rfl rfl ⟨b, σ3, H4, rfl, I4.unpinned, qs, fun hb s5 e1 e2 e3 => ?_⟩)
      obtain ⟨m', lm, w'⟩ := qn hb
      have I5 := inv_re ((I4.unpinned (pins := [p])).weak (σ' := wipe σ vs) (by rw [← w3, wipe_length]) fun j v e => by rw [← w3] at e; exact (wipe_some e).1) e1 e2 e3
      refine seg_again rfl (ih (i + 1) m' H4 s5 s5 (by omega) I5 ?_ (fun b hb => ?_) w')
      · rw [e1]
        exact T.keep _ _ _ t2 fun b hb o e => (kept b hb o e).1
      · obtain ⟨o, e, _⟩ := T.obj _ _ t2 b hb
        exact (kept b hb o e).2
/-- its start: the iterator is asked for itself, then the loop -/
theorem gx_fresh {n : Nat} {s : Shared} (h : ∀ s0, Seg (model X.prog X.w) A0 (gxR X p QE) (gxY X p st QS) n s0 (.compLoop (.GeneratorExp elt [⟨tg, iter, [], 0⟩] scope pos) 0 (.ref it) .none X.env)
        ((model X.prog X.w).den (.compLoop (.GeneratorExp elt [⟨tg, iter, [], 0⟩] scope pos) 0 (.ref it) .none X.env)) [] s) (T : Turn X.prog X.w X.K tg J fp it tn) (t : tn 0 s.heap) (s0 : Shared) :
    Seg (model X.prog X.w) A0 (gxR X p QE) (gxY X p st QS) n s0 (.compStart (.GeneratorExp elt [⟨tg, iter, [], 0⟩] scope pos) 0 (.ref it) .none X.env)
      ((model X.prog X.w).den (.compStart (.GeneratorExp elt [⟨tg, iter, [], 0⟩] scope pos) 0 (.ref it) .none X.env)) [] s := by
  have go := seg_again (c := .compStart (.GeneratorExp elt [⟨tg, iter, [], 0⟩] scope pos) 0 (.ref it) .none X.env) (c' := .compLoop (.GeneratorExp elt [⟨tg, iter, [], 0⟩] scope pos) 0 (.ref it) .none X.env) rfl (h s0)
  show Seg _ A0 _ _ _ s0 _ ((compStart (.GeneratorExp elt [⟨tg, iter, [], 0⟩] scope pos) 0 (.ref it) .none X.env).onRaise (leaving X.env)) [] s
  unfold compStart
  rw [Sem.onRaise_eq_wrap]
  show Seg _ A0 _ _ _ s0 _ ((ask >>= _).wrap _ _ _ _) [] s
  refine seg_bind_wrap (wpAny_askSetting ?_)
  split
  · exact go
  · refine seg_bind_wrap (wpAny_rule ?_)
    show Seg _ A0 _ _ _ s0 _ ((standAt iter.pos >>= _).wrap _ _ _ _) [] s
    exact seg_bind_wrap (wpAny_standAt (seg_bind_wrap (T.self _ 0 s _ _ t go)))
end
/-! the consumer -/
section
variable {X : Cx} {a : Addr} {gn : Nat} {go : Obj} {st : Bool} {QE QS : Hp → Prop} {A : Around} {R : Result → Shared → Prop}
/-- the generator stands ready for at most n turns -/
def GxAt (X : Cx) (A : Around) (a : Addr) (go : Obj) (gn : Nat) (st : Bool) (QE QS : Hp → Prop) (n : Nat) (s : Shared) : Prop := ∃ (gs : GenState) (σ : L2.St) (H : Hp), s.gens[gn]? = some gs ∧ Inv X [(a, go)] σ H s ∧
  ∀ s2 : Shared, s2.heap = s.heap → s2.os = s.os → AllBare s2.gens → gs.Goes (model X.prog X.w) A (gxR X (a, go) QE) (gxY X (a, go) st QS) n (.send .none) s2
theorem allBare_set {gs : GenState} {s : Shared} (h : AllBare s.gens) (hb : gs.bare = true) : AllBare (s.setGen gn gs).gens := fun x hx => by
  obtain ⟨i, hi, e⟩ := Array.mem_iff_getElem.mp hx
  have e2 : (s.gens.setIfInBounds gn gs)[i]? = some x := Array.getElem?_eq_some_iff.mpr ⟨hi, e⟩
  rw [Array.getElem?_setIfInBounds] at e2
  split at e2
  · split at e2
    · cases e2; exact hb
    · cases e2
  · exact h x (Array.mem_of_getElem? e2)
theorem setGen_at {gs : GenState} {s : Shared} (h : gn < (s.setGen gn gs).gens.size) : (s.setGen gn gs).gens[gn]? = some gs := by
  rw [GenW.setGen_size] at h
  simp [Shared.setGen, h]
theorem gx_next {E : Value → Shared → Prop} {s : Shared} {n : Nat} {Qn : Option Value → Shared → Prop} (hh : A.handled = none) (hroom : A.depth < recursionLimit) (isg : ∀ h : Heap, h.get? a = some go → h.IsGen a gn) (G : GxAt X A.in1 a go gn st QE QS n s)
    (hend : ∀ s' σ H, Inv X [(a, go)] σ H s' → QE H → Qn none s') (hstop : ∀ s' σ H, Inv X [(a, go)] σ H s' → QS H → Qn (some (.bool st)) s') (hgo : ∀ k s', n = k + 1 → GxAt X A.in1 a go gn st QE QS k s' → Qn (some (.bool !st)) s') :
    wpAny (model X.prog X.w) A (pyNext (.ref a)) Qn E s := by
  obtain ⟨gs, σ, H, hgs, I, goes⟩ := G
  have at_ := fun {σ' : L2.St} {H' : Hp} {s' : Shared} (I' : Inv X [(a, go)] σ' H' s') => (I'.pin (a, go) (List.mem_append_right _ (List.mem_singleton.mpr rfl))).1
  have lt : gn + 1 ≤ s.gens.size := (Array.getElem?_eq_some_iff.mp hgs).1
  refine GenW.wpAny_gsz lt (wpAny_pyNext_genexpQ (P := gxP X (a, go) QE) hh I.nolimit hroom (isg _ (at_ I)) hgs (goes _ rfl rfl (allBare_set I.bare rfl)) (fun v s1 g1 hb hy => ?_) fun s1 ⟨σ1, H1, I1, q1⟩ h' k => ?_)
  · intro sz
    obtain ⟨b, σ1, H1, rfl, I1, qs, qn⟩ := hy
    have I2 : Inv X [(a, go)] σ1 H1 (s1.setGen gn g1) := inv_re I1 rfl rfl (allBare_set I1.bare hb)
    by_cases e : b = st
    · subst e
      exact hstop _ _ _ I2 (qs rfl)
    · have e2 : b = !st := by cases b <;> cases st <;> simp_all
      subst e2
      match n, qn rfl with
      | 0, qn => exact (qn s1 rfl rfl I1.bare).elim
      | n + 1, qn => exact hgo n _ rfl ⟨g1, σ1, H1, setGen_at sz, I2, qn⟩
  · intro _
    have I2 : Inv X [(a, go)] σ1 H1 (s1.setGen gn .finished) := inv_re I1 rfl rfl (allBare_set I1.bare rfl)
    exact hend _ _ _ (I2.kept (t' := s1.toks) k) q1
theorem gx_all_loop (hh : A.handled = none) (hroom : A.depth < recursionLimit) (isg : ∀ h : Heap, h.get? a = some go → h.IsGen a gn) (hend : ∀ s' σ H, Inv X [(a, go)] σ H s' → QE H → R (.ok (.ret (.bool true))) s')
    (hstop : ∀ s' σ H, Inv X [(a, go)] σ H s' → QS H → R (.ok (.ret (.bool false))) s') : ∀ (n : Nat) (s : Shared), GxAt X A.in1.in1 a go gn false QE QS n s → codeAny (model X.prog X.w) A (.builtin "all.loop" ⟨[.ref a], []⟩) R s := by
  intro n
  induction n with
  | zero =>
    intro s G
    refine codeAny_builtin F.entry_all_loop ?_
    rw [Around.under_plainId F.plain_all_loop _]
    show wpAny _ A.in1 (pyNext (.ref a) >>= _) _ _ s
    refine wpAny_bind (gx_next (A := A.in1) hh hroom isg G (fun s' σ H I q => ?_) (fun s' σ H I q => ?_) fun k s' e => absurd e (by omega))
    · exact wpAny_bind (wpAny_rule (wpAny_pure (hend _ _ _ I q)))
    · exact wpAny_bind (wpAny_holding (wpAny_truthy_bool (wpAny_bind (wpAny_letGo (wpAny_bind (wpAny_rule (wpAny_pure (hstop _ _ _ I q))))))))
  | succ n ih =>
    intro s G
    refine codeAny_builtin F.entry_all_loop ?_
    rw [Around.under_plainId F.plain_all_loop _]
    show wpAny _ A.in1 (pyNext (.ref a) >>= _) _ _ s
    refine wpAny_bind (gx_next (A := A.in1) hh hroom isg G (fun s' σ H I q => ?_) (fun s' σ H I q => ?_) fun k s' e G' => ?_)
    · exact wpAny_bind (wpAny_rule (wpAny_pure (hend _ _ _ I q)))
    · exact wpAny_bind (wpAny_holding (wpAny_truthy_bool (wpAny_bind (wpAny_letGo (wpAny_bind (wpAny_rule (wpAny_pure (hstop _ _ _ I q))))))))
    · cases e
      exact wpAny_bind (wpAny_holding (wpAny_truthy_bool (wpAny_bind (wpAny_letGo (wpAny_pure ⟨plainId_quiet F.plain_all_loop _, ih s' G'⟩)))))
theorem gx_any_loop (hh : A.handled = none) (hroom : A.depth < recursionLimit) (isg : ∀ h : Heap, h.get? a = some go → h.IsGen a gn) (hend : ∀ s' σ H, Inv X [(a, go)] σ H s' → QE H → R (.ok (.ret (.bool false))) s')
    (hstop : ∀ s' σ H, Inv X [(a, go)] σ H s' → QS H → R (.ok (.ret (.bool true))) s') : ∀ (n : Nat) (s : Shared), GxAt X A.in1.in1 a go gn true QE QS n s → codeAny (model X.prog X.w) A (.builtin "any.loop" ⟨[.ref a], []⟩) R s := by
  intro n
  induction n with
  | zero =>
    intro s G
    refine codeAny_builtin F.entry_any_loop ?_
    rw [Around.under_plainId F.plain_any_loop _]
    show wpAny _ A.in1 (pyNext (.ref a) >>= _) _ _ s
    refine wpAny_bind (gx_next (A := A.in1) hh hroom isg G (fun s' σ H I q => ?_) (fun s' σ H I q => ?_) fun k s' e => absurd e (by omega))
    · exact wpAny_bind (wpAny_rule (wpAny_pure (hend _ _ _ I q)))
    · exact wpAny_bind (wpAny_holding (wpAny_truthy_bool (wpAny_bind (wpAny_letGo (wpAny_bind (wpAny_rule (wpAny_pure (hstop _ _ _ I q))))))))
  | succ n ih =>
    intro s G
    refine codeAny_builtin F.entry_any_loop ?_
    rw [Around.under_plainId F.plain_any_loop _]
    show wpAny _ A.in1 (pyNext (.ref a) >>= _) _ _ s
    refine wpAny_bind (gx_next (A := A.in1) hh hroom isg G (fun s' σ H I q => ?_) (fun s' σ H I q => ?_) fun k s' e G' => ?_)
    · exact wpAny_bind (wpAny_rule (wpAny_pure (hend _ _ _ I q)))
    · exact wpAny_bind (wpAny_holding (wpAny_truthy_bool (wpAny_bind (wpAny_letGo (wpAny_bind (wpAny_rule (wpAny_pure (hstop _ _ _ I q))))))))
    · cases e
      exact wpAny_bind (wpAny_holding (wpAny_truthy_bool (wpAny_bind (wpAny_letGo (wpAny_pure ⟨plainId_quiet F.plain_any_loop _, ih s' G'⟩)))))
end
/-! the rule -/
abbrev gxAr (A : Around) (elt tg iter : Expr) (scope : Scope) (pos : Pos) (it : Addr) (env : Env) : Around := A.in1.in1.over (.compLoop (.GeneratorExp elt [⟨tg, iter, [], 0⟩] scope pos) 0 (.ref it) .none env) []
theorem gx_room {k : Nat} {A : Around} {elt tg iter : Expr} {scope : Scope} {pos : Pos} {it : Addr} {env : Env} (hr : Room (k + 1) A) : Room k (gxAr A elt tg iter scope pos it env) := by
  have e1 : (gxAr A elt tg iter scope pos it env).depth ≤ A.depth + 1 := Nat.le_of_eq rfl
  have e2 : (gxAr A elt tg iter scope pos it env).units ≤ A.units + 5 := Nat.le_of_eq rfl
  exact ⟨hr.hd, by have := hr.dp; omega, by have := hr.un; omega⟩
section
variable {X : Cx} {pins : List (Addr × Obj)} {σ : L2.St} {H : Hp} {s : Shared} {scope : Scope} {own : List (Str × Nat)} {elt tg iter : Expr} {gpos : Pos} {c P : Addr} {wi : TI} {g : TG} {te : TE} {k : Nat} {st : Bool} {QE QS : Hp → Prop}
/-- the generator is made at a; s4, H4: ahead of its frame -/
def GxMade (X : Cx) (pins : List (Addr × Obj)) (σ : L2.St) (elt tg iter : Expr) (scope : Scope) (gpos : Pos) (st : Bool) (QE QS : Hp → Prop) (a : Addr) (s5 : Shared) : Prop := ∃ (s4 : Shared) (H4 : Hp) (cenv : Env) (it : Addr) (fp : List Addr) (go : Obj) (gn n : Nat), Inv X pins σ H4 s4 ∧ (∀ b ∈ fp, FpOk X pins H4 b) ∧
  (∀ h : Heap, h.get? a = some go → h.IsGen a gn) ∧ GxAt (X.gx (gxAr X.A elt tg iter scope gpos it cenv) s4 H4 cenv fp) X.A.in1.in1 a go gn st QE QS n s5
theorem gx_made {Q' : Value → Shared → Prop} (hr : Room (k + 1) X.A) (hc : X.calm = true) (hN : X.N.Nodup) (TB : GxR.TabB X.base X.mg c P) (hcode : X.env.code = .ref c) (ok : BlkOk X.N X.env.scope scope own) (nc : ∀ y ∈ scope.names, y.2 ≠ .cell)
    (hdot : scope.names.lookup (".0" : Str) = some .local) (hco : scope.isCoroutine = false) (hi : PI X tg iter wi) (hg : ∀ (Ag : Around) (s : Shared) (H : Hp) (C : Addr) (code : Value) (fp : List Addr), PG (X.gx Ag s H (gxEnv X scope C code) fp) tg g)
    (he : ∀ (Ag : Around) (s : Shared) (H : Hp) (C : Addr) (code : Value) (fp : List Addr), Room k Ag → PE (X.gx Ag s H (gxEnv X scope C code) fp) elt te) (hs : ∀ v, genFold iter X.env v = pure v) (I : Inv X pins σ H s)
    (h : wi σ H fun J H1 => H1 P = some (TbX P) ∧ ∃ W, (∃ m, W 0 m H1) ∧ gxTurn J g te (own.map (·.2)) st σ QE QS W) (hQ : ∀ a s5, GxMade X pins σ elt tg iter scope gpos st QE QS a s5 → Q' (.ref a) s5) :
    wpAny (model X.prog X.w) X.A (eval (.GeneratorExp elt [⟨tg, iter, [], 0⟩] scope gpos) X.env) Q' X.xe s := by
  have free : ∀ y ∈ scope.names, y.2 = .free → ∃ c, X.env.cells.lookup y.1 = some c := fun y hy e => (ok.free y hy e).elim (fun k => I.ok.has _ (.inl k)) fun k => I.ok.has _ (.inr k)
  refine wpAny_GeneratorExp_make hco (closure_ok free) nc hdot ok.kind hr.depth (thn (hi.run pins s σ H _ I h) fun xv s1 hx => thn hx fun itv s2 h2 => ?_) hs
  obtain ⟨it, fp, tn, J, H2, rfl, I2, T, t2, f2, hP, W, ⟨m0, w0⟩, turn⟩ := h2
  refine ⟨I2.nolimit, gx_code TB hcode I2 hP fun code h3 tk I3 k3 z3 => ?_⟩
  obtain ⟨bm, ob, e1, e2, _, _, e5, e6, e7, e8⟩ := TB.bm
  refine wpAny_builtinsFor (m := X.mg) (by rw [I3.ok.glob]; exact I3.mod.glob.keeps I3.bk) e1 e2 (I3.bk _ _ e5) e6 e7 e8 ?_
  have fP : ∀ b ∈ fp, b ≠ P := fun b hb z => by
    have := (f2 b hb).1
    rw [z, hP] at this
    cases this
  have t3 : tn 0 h3 := T.keep _ _ _ t2 fun b hb o e => k3 b o (fP b hb) e
  have f3 : ∀ b ∈ fp, FpOk X pins H2 b ∧ b < h3.objs.size := fun b hb => by
    obtain ⟨o, e, _⟩ := T.obj _ _ t3 b hb
    exact ⟨f2 b hb, Heap.lt_size e⟩
  intro h4 ns sb
  have k4 : ∀ b o, h3.get? b = some o → h4.get? b = some o := fun b o e => sb.extBut b o (Nat.ne_of_lt (Heap.lt_size e)) (Heap.get?_push_of_some _ e)
  have z4 : h4.objs.size = h3.objs.size + 1 := by rw [sb.1, Heap.size_push]
  generalize hgo : ({ cls := .type "generator", data := .fields _ } : Obj) = go
  have nv : ∀ v, go.data ≠ .cell v := fun v z => by rw [← hgo] at z; cases z
  have k5 : ∀ b o, h3.get? b = some o → (h4.push go).get? b = some o := fun b o e => Heap.get?_push_of_some _ (k4 b o e)
  have t5 : tn 0 (h4.push go) := T.keep _ _ _ t3 fun b _ o e => k5 b o e
  have fr : (gxAr X.A elt tg iter scope gpos it (gxEnv X scope h3.objs.size code)).frames = some (gxEnv X scope h3.objs.size code :: X.stack) := by
    have e : (gxAr X.A elt tg iter scope gpos it (gxEnv X scope h3.objs.size code)).frames = pushEnvs (Code.envs (.compLoop (.GeneratorExp elt [⟨tg, iter, [], 0⟩] scope gpos) 0 (.ref it) .none (gxEnv X scope h3.objs.size code))) (pushEnvs (envsOf (([] : List Frame).map Frame.where_)) X.A.frames) := rfl
    rw [e, I.ok.frames]
    rfl
  have IG := fun (g5 : Array GenState) (tk5 : Nat) (hb : AllBare g5) => gx_start (Ag := gxAr X.A elt tg iter scope gpos it (gxEnv X scope h3.objs.size code)) (code := code) (h5 := h4.push go) (tk := tk5) (g5 := g5) (a := h4.objs.size) (go := go) I3 ok nc hN f3 (fun _ => hr.hd) fr k5 (ns.push _) (Heap.get?_push_size _ (by rw [← hgo]; rfl)) (by show h3.objs.size < h4.objs.size; omega) nv hb
  have I5 := IG _ (s2.toks) (AllBare.push (g := .fresh (.compStart (.GeneratorExp elt [⟨tg, iter, [], 0⟩] scope gpos) 0 (.ref it) .none (gxEnv X scope h3.objs.size code))) I3.bare rfl)
  refine hQ _ _ ⟨_, H2, gxEnv X scope h3.objs.size code, it, fp, go, s2.gens.size, m0 + 1, I3, f2, fun h e => ⟨go, _, _, e, by rw [← hgo], by rw [← hgo], by rw [← hgo]⟩, ?_⟩
  refine ⟨_, _, H2, Array.getElem?_push_size .., inv_re I5 rfl rfl I5.bare, fun s6 q1 q2 q3 => ⟨rfl, ?_⟩⟩
  have I6 := inv_re (s' := s6) I5 q1 q2 q3
  have t6 : tn 0 s6.heap := by rw [q1]; exact t5
  refine gx_fresh (X := X.gx (gxAr X.A elt tg iter scope gpos it (gxEnv X scope h3.objs.size code)) _ H2 (gxEnv X scope h3.objs.size code) fp) (fun s0 => ?_) T t6 s6
  exact gx_loop (X := X.gx (gxAr X.A elt tg iter scope gpos it (gxEnv X scope h3.objs.size code)) _ H2 (gxEnv X scope h3.objs.size code) fp) rfl hco (fun _ _ z => z) hc T (fun b hb => hb) rfl (fun b hb z => by
    have q : b < h3.objs.size := (f3 b hb).2
    have e : h4.objs.size = b := z
    have z5 : h4.objs.size = h3.objs.size + 1 := z4
    exact absurd (e ▸ q : h4.objs.size < h3.objs.size) (by rw [z5]; exact Nat.not_lt.mpr (Nat.le_succ _))) (hg _ _ _ _ _ _) (he _ _ _ _ _ _ (gx_room hr)) turn (m0 + 1) 0 m0 H2 s6 s0 (Nat.le_refl _) I6 t6 (fun b hb => (f2 b hb).1) w0
/-- behind it: the def's own state again -/
theorem gx_back {A2 : Around} {s4 : Shared} {H4 : Hp} {cenv : Env} {fp : List Addr} {p : Addr × Obj} {σ2 : L2.St} {H2 : Hp} {s' : Shared} (I : Inv X pins σ H4 s4) (hf : ∀ b ∈ fp, FpOk X pins H4 b) (I2 : Inv (X.gx A2 s4 H4 cenv fp) [p] σ2 H2 s') : Inv X pins σ H2 s' :=
  I.call' (ch := fp) I2.os I2.base I2.hok I2.bare fun b hb => let ⟨_, f1, _, f3, f4, f5⟩ := hf b hb; ⟨f3, f1, f4, f5⟩
/-- all(item for target in iter) where st is false, any(..) where it is true; it ends at the first st -/
def tAA (P : Addr) (st : Bool) (wi : TI) (g : TG) (te : TE) (vs : List Nat) : TE := fun σ H Q => wi σ H fun J H1 => H1 P = some (TbX P) ∧ ∃ W, (∃ m, W 0 m H1) ∧ gxTurn J g te vs st σ (fun H => Q (.bl (!st)) H) (fun H => Q (.bl st) H) W
theorem pe_all {p pos : Pos} (hr : Room (k + 1) X.A) (hc : X.calm = true) (hN : X.N.Nodup) (hgl : Gl X "all") (hm : X.mg "all" = none) (hb : bootBuiltins "all" = some (.builtin "all")) (TB : GxR.TabB X.base X.mg c P) (hcode : X.env.code = .ref c) (ok : BlkOk X.N X.env.scope scope own) (nc : ∀ y ∈ scope.names, y.2 ≠ .cell)
    (hdot : scope.names.lookup (".0" : Str) = some .local) (hco : scope.isCoroutine = false) (hi : PI X tg iter wi) (hg : ∀ (Ag : Around) (s : Shared) (H : Hp) (C : Addr) (code : Value) (fp : List Addr), PG (X.gx Ag s H (gxEnv X scope C code) fp) tg g)
    (he : ∀ (Ag : Around) (s : Shared) (H : Hp) (C : Addr) (code : Value) (fp : List Addr), Room k Ag → PE (X.gx Ag s H (gxEnv X scope C code) fp) elt te) (hs : ∀ v, genFold iter X.env v = pure v := by intro _; rfl)
    (hst : starEach [.GeneratorExp elt [⟨tg, iter, [], 0⟩] scope gpos] X.env = (false, eval (.GeneratorExp elt [⟨tg, iter, [], 0⟩] scope gpos) X.env) :: starEach [] X.env := by rfl) :
    PE X (.Call (.Name "all" p) [.GeneratorExp elt [⟨tg, iter, [], 0⟩] scope gpos] [] pos) (tAA P false wi g te (own.map (·.2))) := ⟨fun pins s σ H Q I h => by
  refine wpAny_Call_Name_kw (ld_blt I hgl hm hb (PyProof.Rows.callWith_builtin1 ?_ hst (by rfl)))
  rw [hst]
  refine Calls.spliced_cons (gx_made hr hc hN TB hcode ok nc hdot hco hi hg he hs I h fun a s5 made => Calls.spliced_nil ?_)
  obtain ⟨s4, H4, cenv, it, fp, go, gn, n, I4, f4, isg, G⟩ := made
  have isg5 : s5.heap.IsGen a gn := isg _ (let ⟨_, _, _, _, J, _⟩ := G; (J.pin (a, go) (List.mem_append_right _ (List.mem_singleton.mpr rfl))).1)
  refine call_function_tree F.kind_all F.plain_all F.entry_all (F.args_all1 _) ?_
  unfold Builtin.«all»
  refine wpAny_bind (m := oneArg "all" _) (wpAny_pure (wpAny_bind (wpAny_pyIter_gen isg5 (wpAny_pure ⟨plainId_quiet F.plain_all_loop _, ?_⟩))))
  exact gx_all_loop (X := X.gx (gxAr X.A elt tg iter scope gpos it cenv) s4 H4 cenv fp) hr.hd hr.depth isg (fun s' σ' H' J q => ⟨.bl true, H', gx_back I4 f4 J, rfl, q⟩) (fun s' σ' H' J q => ⟨.bl false, H', gx_back I4 f4 J, rfl, q⟩) n s5 G⟩
theorem pe_any {p pos : Pos} (hr : Room (k + 1) X.A) (hc : X.calm = true) (hN : X.N.Nodup) (hgl : Gl X "any") (hm : X.mg "any" = none) (hb : bootBuiltins "any" = some (.builtin "any")) (TB : GxR.TabB X.base X.mg c P) (hcode : X.env.code = .ref c) (ok : BlkOk X.N X.env.scope scope own) (nc : ∀ y ∈ scope.names, y.2 ≠ .cell)
    (hdot : scope.names.lookup (".0" : Str) = some .local) (hco : scope.isCoroutine = false) (hi : PI X tg iter wi) (hg : ∀ (Ag : Around) (s : Shared) (H : Hp) (C : Addr) (code : Value) (fp : List Addr), PG (X.gx Ag s H (gxEnv X scope C code) fp) tg g)
    (he : ∀ (Ag : Around) (s : Shared) (H : Hp) (C : Addr) (code : Value) (fp : List Addr), Room k Ag → PE (X.gx Ag s H (gxEnv X scope C code) fp) elt te) (hs : ∀ v, genFold iter X.env v = pure v := by intro _; rfl)
    (hst : starEach [.GeneratorExp elt [⟨tg, iter, [], 0⟩] scope gpos] X.env = (false, eval (.GeneratorExp elt [⟨tg, iter, [], 0⟩] scope gpos) X.env) :: starEach [] X.env := by rfl) :
    PE X (.Call (.Name "any" p) [.GeneratorExp elt [⟨tg, iter, [], 0⟩] scope gpos] [] pos) (tAA P true wi g te (own.map (·.2))) := ⟨fun pins s σ H Q I h => by
  refine wpAny_Call_Name_kw (ld_blt I hgl hm hb (PyProof.Rows.callWith_builtin1 ?_ hst (by rfl)))
  rw [hst]
  refine Calls.spliced_cons (gx_made hr hc hN TB hcode ok nc hdot hco hi hg he hs I h fun a s5 made => Calls.spliced_nil ?_)
  obtain ⟨s4, H4, cenv, it, fp, go, gn, n, I4, f4, isg, G⟩ := made
  have isg5 : s5.heap.IsGen a gn := isg _ (let ⟨_, _, _, _, J, _⟩ := G; (J.pin (a, go) (List.mem_append_right _ (List.mem_singleton.mpr rfl))).1)
  refine call_function_tree F.kind_any F.plain_any F.entry_any (F.args_any1 _) ?_
  unfold Builtin.«any»
  refine wpAny_bind (m := oneArg "any" _) (wpAny_pure (wpAny_bind (wpAny_pyIter_gen isg5 (wpAny_pure ⟨plainId_quiet F.plain_any_loop _, ?_⟩))))
  exact gx_any_loop (X := X.gx (gxAr X.A elt tg iter scope gpos it cenv) s4 H4 cenv fp) hr.hd hr.depth isg (fun s' σ' H' J q => ⟨.bl false, H', gx_back I4 f4 J, rfl, q⟩) (fun s' σ' H' J q => ⟨.bl true, H', gx_back I4 f4 J, rfl, q⟩) n s5 G⟩
end
/-- a def whose code object is at c -/
theorem funOkT {P : Program} {w : World} {K : PySem.W.Frag} {mg : Str → Option Value} {base : Heap} {c : Addr} {x qual : Str} {st : Stmt} {f : Addr} {fd : FuncData} {N ps : List Str} {k : Nat} {sp : Sp} (hc : fd.code = .ref c) (F : Fun K x qual st f fd) (S : FnScope N ps (defScope st)) (len : ∀ vs H Q E, sp vs H Q E → vs.length = ps.length)
    (hbody : ∀ (A : Around) (outer : List Env) (s : Shared) (H : Hp) (vs : List V) (Q : VK) (E : XK), Room k (A.deeper (envOfC qual (defScope st) s.heap.objs.size f (.ref c))) → sp vs H Q E →
      ∃ t, PSs (cxOf CX0 P w K mg base N qual (defScope st) f (.ref c) A outer s H E).nox (defBody st) t ∧ t { nx := fun _ H' => Q .non H', rt := Q } (start N vs) H) : FnOk P w K mg base CX0 (k + 1) f fd ps sp := by
  obtain ⟨oc, od, kV, doc, pm, an, cdv, ct, osl, rfl, lk, hcd⟩ := F.ex
  obtain rfl : cdv = .ref c := hc
  exact fn_of lk hcd S len fun A outer s H vs Q E hr hsp => let ⟨t, h, q⟩ := hbody A outer s H vs Q E hr hsp; ⟨t, h.nox, q⟩
/-- readings -/
theorem d_aa {P : Addr} {st : Bool} {wi : TI} {g : TG} {te : TE} {vs : List Nat} {σ : L2.St} {H : Hp} {Q : VK} (h : wi σ H fun J H1 => H1 P = some (TbX P) ∧ ∃ W, (∃ m, W 0 m H1) ∧ gxTurn J g te vs st σ (fun H => Q (.bl (!st)) H) (fun H => Q (.bl st) H) W) : tAA P st wi g te vs σ H Q := h
theorem aa_it {J : It} {n : Nat} {G : Hp → Prop} {Y : Nat → Hp → V → Hp → Prop} (w : Walk J n G Y) {g : TG} {te : TE} {vs : List Nat} {st : Bool} {σ : L2.St} {H1 : Hp} {QE QS : Hp → Prop} (Pv : Nat → Hp → Prop) (h0 : Pv 0 H1) (hG : ∀ i H, i ≤ n → Pv i H → G H)
    (hs : ∀ i x H H', i < n → Pv i H → Y i H x H' → g x (wipe σ vs) H' fun σ2 H2 => wipe σ2 vs = wipe σ vs ∧ te σ2 H2 fun y H3 => ∃ b, y = .bl b ∧ (b = st → QS H3) ∧ (b = !st → Pv (i + 1) H3)) (hd : ∀ H, Pv n H → QE H) :
    ∃ W, (∃ m, W 0 m H1) ∧ gxTurn J g te vs st σ QE QS W := by
  refine ⟨fun i m H => m = n - i ∧ i ≤ n ∧ Pv i H, ⟨n, by simp, Nat.zero_le _, h0⟩, ?_⟩
  rintro i m H ⟨rfl, hi, p⟩
  have gg := hG i H hi p
  rcases Nat.lt_or_eq_of_le hi with lt | rfl
  · have imp : ∀ {x : V} {H' : Hp} {y : V} {H3 : Hp}, (∃ b, y = V.bl b ∧ (b = st → QS H3) ∧ (b = !st → Pv (i + 1) H3)) → ∃ b, y = V.bl b ∧ (b = st → QS H3) ∧ (b = !st → ∃ m', m' < n - i ∧ m' = n - (i + 1) ∧ i + 1 ≤ n ∧ Pv (i + 1) H3) := fun ⟨b, e, q1, q2⟩ => ⟨b, e, q1, fun z => ⟨n - (i + 1), by omega, rfl, lt, q2 z⟩⟩
    refine .inr ⟨w.goes i H lt gg, fun x H' y => ?_⟩
    have z := hs i x H H' lt p (w.yields i H x H' lt gg y)
    have e : (fun (y : V) (H3 : Hp) => ∃ b, y = V.bl b ∧ (b = st → QS H3) ∧ (b = !st → ∃ m', m' < n - i ∧ m' = n - (i + 1) ∧ i + 1 ≤ n ∧ Pv (i + 1) H3)) = fun y H3 => ∃ b, y = V.bl b ∧ (b = st → QS H3) ∧ (b = !st → Pv (i + 1) H3) := by
      funext y H3
      refine propext ⟨fun ⟨b, e, q1, q2⟩ => ⟨b, e, q1, fun z => ?_⟩, fun q => imp (x := x) (H' := H') q⟩
      obtain ⟨_, _, _, _, q⟩ := q2 z
      exact q
    show g x (wipe σ vs) H' fun σ2 H2 => wipe σ2 vs = wipe σ vs ∧ te σ2 H2 (fun (y : V) (H3 : Hp) => ∃ b, y = V.bl b ∧ (b = st → QS H3) ∧ (b = !st → ∃ m', m' < n - i ∧ m' = n - (i + 1) ∧ i + 1 ≤ n ∧ Pv (i + 1) H3))
    rw [e]
    exact z
  · exact .inl ⟨w.stops H gg, hd H p⟩
end Cw

namespace Cw
open PySem PySem.Spec PyProof.Rows L2
/-! ### the end of a law whose defs hold generator expressions: their tables are tracked, and may grow -/
/-- what is tracked at the law's entry: the tables, and the script where it is not written -/
def entry (T : List Addr) (K : PySem.W.Frag) (a : Addr) (o : Obj) (xs : List V) : Hp := fun b => if b ∈ T then some (TbX b) else if b = a ∧ (K.lookup a).isNone = true then some (.frz o (.lst xs)) else none
section
variable {T : List Addr} {K : PySem.W.Frag} {a b : Addr} {o : Obj} {xs : List V} {u : HO}
theorem entry_tab (h : b ∈ T) : entry T K a o xs b = some (TbX b) := if_pos h
theorem entry_cases (h : entry T K a o xs b = some u) : (b ∈ T ∧ u = TbX b) ∨ (b ∉ T ∧ b = a ∧ K.lookup a = none ∧ u = .frz o (.lst xs)) := by
  unfold entry at h
  split at h
  · rename_i hb; exact .inl ⟨hb, (Option.some.inj h).symm⟩
  · rename_i hb
    split at h
    · rename_i ha; exact .inr ⟨hb, ha.1, Option.isNone_iff_eq_none.mp ha.2, (Option.some.inj h).symm⟩
    · cases h
theorem entry_none (hT : b ∉ T) (ha : b ≠ a ∨ ∃ z, K.lookup a = some z) : entry T K a o xs b = none := by
  cases e : entry T K a o xs b with
  | none => rfl
  | some u =>
    rcases entry_cases e with ⟨h, _⟩ | ⟨_, h, h2, _⟩
    · exact absurd h hT
    · rcases ha with z | ⟨z, e2⟩
      · exact absurd h z
      · rw [h2] at e2; cases e2
end
/-- a promise of a def where it is called from one place -/
structure FnAt (P : Program) (w : World) (K : PySem.W.Frag) (mg : Str → Option Value) (base : Heap) (A : Around) (f : Addr) (fd : FuncData) (ps : List Str) (sp : Sp) : Prop where
  run : ∀ (outer : List Env) (s : Shared) (H : Hp) (args : Args) (us : List Value) (vs : List V) (Q : VK) (E : XK), Env0 P w K mg base A outer s H → BindsTo s fd args (ps.zip us) → Vals vs us → sp vs H Q E → codeAny (model P w) A (.call (.ref f) args) (CR CX0 outer P w H s Q E) s
theorem FnAt.of {P : Program} {w : World} {K : PySem.W.Frag} {mg : Str → Option Value} {base : Heap} {A : Around} {k : Nat} {f : Addr} {fd : FuncData} {ps : List Str} {sp : Sp} (F : FnOk P w K mg base CX0 k f fd ps sp) (hr : Room k A) : FnAt P w K mg base A f fd ps sp :=
  ⟨fun outer s H args us vs Q E => F.run A outer s H args us vs Q E hr⟩
/-- by its body, where what stands around is known (its guards, say) -/
theorem fun_at {P : Program} {w : World} {K : PySem.W.Frag} {mg : Str → Option Value} {base : Heap} {A : Around} {x qual : Str} {st : Stmt} {f : Addr} {fd : FuncData} {N ps : List Str} {k : Nat} {sp : Sp} (F : Fun K x qual st f fd) (S : FnScope N ps (defScope st)) (ha : Room (k + 1) A)
    (len : ∀ vs H Q E, sp vs H Q E → vs.length = ps.length)
    (body : ∀ (cdv : Value) (outer : List Env) (s : Shared) (H : Hp) (vs : List V) (Q : VK) (E : XK), Room k (A.deeper (envOfC qual (defScope st) s.heap.objs.size f cdv)) → sp vs H Q E →
      ∃ t, PSs (cxOf CX0 P w K mg base N qual (defScope st) f cdv A outer s H E).nox (defBody st) t ∧ t { nx := fun _ H' => Q .non H', rt := Q } (start N vs) H) : FnAt P w K mg base A f fd ps sp := by
  obtain ⟨oc, od, kV, doc, pm, an, cdv, ct, osl, rfl, at_, code⟩ := F.ex
  refine ⟨fun outer s H args us vs Q E e0 bnd rv want => ?_⟩
  have nvs := len _ _ _ _ want
  have stays : ∀ b o, base.get? b = some o → s.heap.get? b = some o := fun b o e => (e0.bs b o e).1
  have inK : K.In s.heap := e0.mod.kin.keeps stays
  have kinds : ∀ y ∈ ps.zip us, (defScope st).names.lookup y.1 = some .local ∨ ((defScope st).names.lookup y.1 = some .cell ∧ ((cellsFrom (s.heap.objs.size + 1) (defScope st).names []).lookup y.1).isSome = true) := fun y hy =>
    (S.par y.1 (List.of_mem_zip (show (y.1, y.2) ∈ ps.zip us from hy)).1).imp_right fun q => ⟨q, PySem.W.cellsFrom_some _ _ _ (.inl q)⟩
  refine codeAny_call_function ha.depth (inK _ _ at_) rfl S.co S.gen rfl (PySem.W.codeRec_of inK code) (bnd _ _ _ _ (wpAny_newFunctionEnv_cells S.kind kinds fun env he s1 made => ?_))
  cases he
  obtain ⟨t, ht, hq⟩ := body cdv outer s H vs Q E (ha.deeper _) want
  refine ⟨(e0.mod.nolimit.keeps stays).keeps made.toInCall.keep, codeAny_func (wpAny_mono (ht.nox.run [] s1 (start N vs) H _ (inv_start S ha.hd e0 nvs rv made) hq) (fun fl s' hs => ?_) fun _ _ hs => hs)⟩
  match fl, hs with
  | .ret u, ⟨v, _, H', J, r, q⟩ => exact ⟨v, H', J.os, J.bare, J.base, J.hok, r, q⟩
  | .next, ⟨_, H', J, q⟩ => exact ⟨.non, H', J.os, J.bare, J.base, J.hok, rfl, q⟩
  | .brk, ⟨_, _, _, q⟩ => exact q.elim
  | .cont, ⟨_, _, _, q⟩ => exact q.elim
abbrev tab0 : Obj := { cls := .none, data := .fields #[] }
theorem law_tabs {P : Program} {w : World} {K : PySem.W.Frag} {mg mb : Str → Option Value} {fa a : Addr} {cs : List (Addr × Addr)} {fd : FuncData} {x : Str} {sp : Sp} {s : Shared} {vs : List Value} {ns : List Int}
    (KX : K.In s.heap) (hns : s.heap.Ns mainGlobals mg) (hb : s.heap.Ns builtinsNs mb) (hbb : ∀ x : Str, x ≠ "__name__" → mb x = bootBuiltins x) (hlim : s.heap.NoLimit) (hg : s.gens = #[])
    (hT : ∀ p ∈ cs, s.heap.get? p.2 = some tab0) (nT : ∀ p ∈ cs, K.lookup p.2 = none) (C : ∀ p ∈ cs, PySem.W.CodeHd s.heap p.1 p.2)
    (hbm : ∃ (bm : Addr) (ob : Obj), mg "__builtins__" = some (.ref bm) ∧ bm ≠ builtinsNs ∧ s.heap.get? bm = some ob ∧ ob.cls = .type "module" ∧ ob.dict = some builtinsNs ∧ ob.data = .plain)
    (ha : s.heap.get? a = some { cls := .type "list", data := .seq vs.toArray }) (hi : IntsAre vs ns) (hl : ns.length ≤ sizeLine)
    (F : ∀ base : Heap, K.In base → base.Ns mainGlobals mg → (∀ p ∈ cs, GxR.TabB base mg p.1 p.2) → FnAt P w K mg base callerA fa fd [x] sp) (hbind : ∀ (s : Shared) (u : Value), BindsTo s fd ⟨[u], []⟩ [(x, u)])
    (hsp : ∀ H : Hp, (∀ p ∈ cs, H p.2 = some (TbX p.2)) → SqL K H a (ns.map V.int) → sp [.ref a] H (fun v H' => v = .bl true ∧ ∀ p ∈ cs, H' p.2 = some (TbX p.2)) fun _ _ _ => False)
    :
    codeAny (model P w) callerA (.call (.ref fa) ⟨[.ref a], []⟩) (fun r s' => r = .ok (.ret (.bool true)) ∧ OldK s.heap s'.heap ∧ s'.os = s.os ∧ AllBare s'.gens) s := by
  have inT : ∀ {b}, b ∈ cs.map (·.2) → ∃ p ∈ cs, p.2 = b := fun h => by simpa using h
  have atT : ∀ {b}, b ∈ cs.map (·.2) → s.heap.get? b = some tab0 := fun h => let ⟨p, hp, e⟩ := inT h; e ▸ hT p hp
  have rv : Vals (ns.map V.int) vs := vals_ints hi
  have lv : (ns.map V.int).length = vs.length := rv.length
  generalize hH : entry (cs.map (·.2)) K a { cls := .type "list", data := .seq vs.toArray } (ns.map V.int) = H
  have tabH : ∀ p ∈ cs, H p.2 = some (TbX p.2) := fun p hp => by rw [← hH]; exact entry_tab (List.mem_map.mpr ⟨p, hp, rfl⟩)
  -- what is neither a table nor a list is not tracked
  have off : ∀ {b : Addr} {o : Obj}, s.heap.get? b = some o → o.data ≠ .fields #[] → (∀ zs n, o.data ≠ .seq zs n) → H b = none := fun {b o} e d1 d2 => by
    rw [← hH]
    refine entry_none (fun z => ?_) (.inl fun z => ?_)
    · rw [atT z] at e; cases e; exact d1 rfl
    · rw [z, ha] at e; cases e; exact d2 _ _ rfl
  have okH : HOk P w H s.heap := fun b u e => by
    rw [← hH] at e
    rcases entry_cases e with ⟨h, rfl⟩ | ⟨_, rfl, _, rfl⟩
    · exact ⟨⟨#[], atT h, trivial⟩, ⟨_, atT h⟩, fun h1 h2 ⟨ps, z, zt⟩ st => ⟨ps, st _ z, zt⟩⟩
    · exact ⟨ha, by rw [List.length_map]; exact hl, vs, _, rv, ha⟩
  have hidden : ∀ {b : Addr} {m : Str → Option Value}, s.heap.Ns b m → (hidT s.heap H).Ns b m := fun ⟨o, es, ep, e, d, r⟩ => ⟨o, es, ep, hidT_get e (off e (by rw [d]; exact fun z => nomatch z) (by rw [d]; exact fun _ _ z => nomatch z)), d, r⟩
  have KB : K.In (hidT s.heap H) := fun b o e => hidT_get (KX b o e) (by
    rw [← hH]
    refine entry_none (fun z => ?_) ?_
    · obtain ⟨p, hp, rfl⟩ := inT z
      rw [nT p hp] at e; cases e
    · by_cases z : b = a
      · exact .inr ⟨o, z ▸ e⟩
      · exact .inl z)
  have TB : ∀ p ∈ cs, GxR.TabB (hidT s.heap H) mg p.1 p.2 := fun p hp => by
    refine ⟨?_, ?_, fun z => ?_⟩
    · obtain ⟨o, us, fl, tf, fs, tg, iF, tx, tt, e1, r1, r2, r3, r⟩ := C p hp
      exact ⟨o, us, fl, tf, fs, tg, iF, tx, tt, hidT_get e1 (off e1 (fun z => by rw [r2] at z; cases z; simp at r3) (by rw [r2]; exact fun _ _ z => nomatch z)), r1, r2, r3, r⟩
    · obtain ⟨bm, ob, b1, b2, b3, b4, b5, b6⟩ := hbm
      refine ⟨bm, ob, b1, b2, fun q => ?_, fun q => ?_, hidT_get b3 (off b3 (by rw [b6]; exact fun z => nomatch z) (by rw [b6]; exact fun _ _ z => nomatch z)), b4, b5, b6⟩
      · obtain ⟨o, es, ep, e, d, _⟩ := hns
        rw [← q, b3] at e; cases e; rw [b6] at d; cases d
      · rw [q, hT p hp] at b3; cases b3; cases b6
    · obtain ⟨o, es, ep, e, d, _⟩ := hns
      rw [z, hT p hp] at e; cases e; cases d
  have SQ : SqL K H a (ns.map V.int) := by
    cases e : K.lookup a with
    | some o =>
      have e' := KX a o e
      rw [ha] at e'; cases e'
      exact .inr ⟨_, vs.toArray, _, e, rfl, rfl, rfl, by rw [List.size_toArray, ← lv, List.length_map]; exact hl, by simpa using rv⟩
    | none =>
      refine .inl (.inr ⟨{ cls := .type "list", data := .seq vs.toArray }, ?_⟩)
      rw [← hH]
      unfold entry
      rw [if_neg (fun z => by have := atT z; rw [ha] at this; cases this), if_pos ⟨rfl, by rw [e]; rfl⟩]
  have E0 : Env0 P w K mg (hidT s.heap H) callerA [] s H := ⟨rfl, ⟨KB, hidden hns, ⟨mb, hidden hb, hbb⟩, let ⟨mc, h1, h2⟩ := hlim; ⟨mc, hidden h1, h2⟩⟩, fun b o e => of_hidT e, Nat.le_of_eq (hidT_size _ _), trivial, fun b z => (nomatch z), okH, .of_eq hg⟩
  refine codeAny_mono ((F _ KB (hidden hns) TB).run [] s H ⟨[.ref a], []⟩ [.ref a] [.ref a] _ _ E0 (hbind s (.ref a)) (.cons rfl .nil) (hsp H tabH SQ)) fun r s' h => ?_
  match r, h with
  | .error e, h => exact h.elim
  | .ok .next, h => exact h.elim
  | .ok .brk, h => exact h.elim
  | .ok .cont, h => exact h.elim
  | .ok (.ret u), ⟨v, H', os, bare, un, ok', rel, ev, tabs⟩ =>
    subst ev
    obtain rfl : u = Value.bool true := rel
    have grown : ∀ p ∈ cs, ∃ more : Array Value, s'.heap.get? p.2 = some { cls := .none, data := .fields more } := fun p hp => let ⟨ps, e, _⟩ := (ok' _ _ (tabs p hp)).1; ⟨ps, e⟩
    have stays : ∀ b o, b ∉ cs.map (·.2) → s.heap.get? b = some o → s'.heap.get? b = some o := fun b o nb e => by
      cases q : H b with
      | none => exact un.keep b o e q (fun z => nomatch z) (fun z => nomatch z)
      | some u =>
        have q2 := q
        rw [← hH] at q2
        rcases entry_cases q2 with ⟨z, _⟩ | ⟨_, _, _, rfl⟩
        · exact absurd z nb
        · have e1 := (okH b _ q).1
          rw [e] at e1
          rw [e1]
          exact (ok' b _ (un.frzs b _ _ q)).1
    refine ⟨rfl, ⟨fun b o e => ?_, fun b o e => ?_⟩, os, bare⟩ <;> by_cases hb : b ∈ cs.map (·.2)
    · obtain ⟨p, hp, rfl⟩ := inT hb
      obtain ⟨more, hm⟩ := grown p hp
      rw [hT p hp] at e
      cases e
      exact .inr (.inl ⟨((C p hp).tab (hT p hp)).isCodeTable, rfl, #[], more, rfl, by rw [Array.empty_append]; exact hm⟩)
    · exact .inl (stays b o hb e)
    · obtain ⟨p, hp, rfl⟩ := inT hb
      obtain ⟨more, hm⟩ := grown p hp
      exact ⟨_, hm⟩
    · exact ⟨o, stays b o hb e⟩
/-- a def of the top with its empty table -/
def TabFact (mg : Str → Option Value) (h : Heap) (x : Str) : Prop := ∃ (a : Addr) (o : Obj) (fd : FuncData) (c P : Addr), mg x = some (.ref a) ∧ h.get? a = some o ∧ o.data = .func fd ∧ fd.code = .ref c ∧ h.IsCode c P #[] ∧ h.TableAt c P #[]
theorem tab_of {K : PySem.W.Frag} {mg : Str → Option Value} {h : Heap} {x : Str} {f c P : Addr} {oc tc : Value} {od td : Option Addr} {fd : FuncData} {osl ts : Array (Option Value)} {tv : Array Value} (X : K.In h) (hf : mg x = some (.ref f)) (l : K.lookup f = some ⟨oc, od, .func fd, osl⟩)
    (hc : fd.code = .ref c) (t : K.lookup c = some ⟨tc, td, .fields tv, ts⟩) (u : tv[11]? = some (.ref P)) (F : TabFact mg h x) : h.get? P = some tab0 ∧ PySem.W.CodeHd h c P := by
  obtain ⟨a, o, fd', c', P', h1, h2, h3, h4, h5, h6⟩ := F
  rw [hf] at h1
  cases h1
  rw [X _ _ l] at h2
  cases h2
  cases h3
  rw [hc] at h4
  cases h4
  have cd := PySem.W.CodeHd.of h5 h6
  obtain ⟨⟨o2, vs2, e1, _, e3, e4⟩, hP⟩ := h6
  rw [X _ _ t] at e1
  cases e1
  cases e3
  rw [u] at e4
  cases e4
  exact ⟨hP, cd⟩
/-- the law's promise, its tables tracked -/
def spLawT (K : PySem.W.Frag) (cs : List (Addr × Addr)) : Sp := fun vs H Q _ => ∃ (a : Addr) (ns : List Int), vs = [.ref a] ∧ SqL K H a (ns.map V.int) ∧ ns.length ≤ 63 ∧ (∀ p ∈ cs, H p.2 = some (TbX p.2)) ∧ ∀ H', (∀ p ∈ cs, H' p.2 = some (TbX p.2)) → Q (.bl true) H'
def LawX (l : PySem.W.OpenLaw) (w : World) (K : PySem.W.Frag) (mg : Str → Option Value) (fa : Addr) (h : Heap) : Prop := ∃ (fd : FuncData) (cs : List (Addr × Addr)), (∀ (s : Shared) (u : Value), BindsTo s fd ⟨[u], []⟩ [("script", u)]) ∧ (∀ p ∈ cs, h.get? p.2 = some tab0) ∧ (∀ p ∈ cs, K.lookup p.2 = none) ∧ (∀ p ∈ cs, PySem.W.CodeHd h p.1 p.2) ∧
  ∀ base : Heap, K.In base → base.Ns mainGlobals mg → (∀ p ∈ cs, GxR.TabB base mg p.1 p.2) → FnAt l.prog w K mg base callerA fa fd ["script"] (spLawT K cs)
theorem walk_ofX {l : PySem.W.OpenLaw} {q : Program} {loose : List Str} {XP : (Str → Option Value) → Heap → Prop} {YP : World → Heap → Prop} {d : DefRec} {K : Params → PySem.W.Frag} (names : List Str)
    (hn : l.most = some 63) (hdf : d.params.defaults = []) (hrec : (names.all fun x => (recsOf q).any fun e => e.name == x) = true) (hY : ∀ (w : World) (h : Heap), YP w h → (K w.params).In h)
    (F : ∀ (w : World) (mg : Str → Option Value) (fa : Addr) (h : Heap), (K w.params).In h → h.Ns mainGlobals mg → mg d.name = some (.ref fa) → (∀ x ∈ names, TabFact mg h x) → LawX l w (K w.params) mg fa h) :
    PySem.W.WalkO q loose XP YP l.row.toRowW d [] (fun f vs => PySem.call f vs) := by
  refine Att.attach_callB hn hdf fun w s₀ s₁ mg mb fa o pm cd doc a vs ns G Y ho hd hcd hmg hobj hints hlen hbits hg => ?_
  have KX := hY w _ Y
  have facts : ∀ x ∈ names, TabFact mg s₁.heap x := fun x hx => by
    obtain ⟨e, he, ee⟩ := List.any_eq_true.mp (List.all_eq_true.mp hrec x hx)
    obtain ⟨a1, o1, fd1, c1, P1, r⟩ := G.T.tab e he
    have : e.name = x := beq_iff_eq.mp ee
    rw [this] at r
    exact ⟨a1, o1, fd1, c1, P1, r⟩
  obtain ⟨fd, cs, hb, hT, nT, C, hF⟩ := F w mg fa _ KX G.T.g hmg facts
  exact law_tabs KX G.T.g G.T.b G.T.builtins G.T.nolimit hg hT nT C G.T.bmain hobj hints (Nat.le_trans hlen (by decide)) hF hb (fun H hH hS => ⟨a, ns, rfl, hS, hlen, hH, fun H' h' => ⟨rfl, h'⟩⟩)
end Cw

namespace Cw
open PySem PySem.Spec PySem.Calls PyProof.Rows L2
/-! ### the kind of a thing told -/
inductive TyS (K : PySem.W.Frag) (H : Hp) : V → String → Prop
  | int (i : Int) : TyS K H (.int i) "int"
  | str (x : Str) : TyS K H (.str x) "str"
  | lst {a : Addr} {xs : List V} (e : SqL K H a xs) : TyS K H (.ref a) "list"
  | tup {a : Addr} {xs : List V} (e : SqT K H a xs) : TyS K H (.ref a) "tuple"
def rTyS (K : PySem.W.Frag) : List V → Hp → VK → Prop := fun xs H Q => ∃ x T, xs = [x] ∧ TyS K H x T ∧ Q (.ty T) H
theorem cr_type {X : Cx} : CallR X (.type "type") (rTyS X.K) := by
  intro pins s σ H xs us Q I r h
  obtain ⟨x, T, rfl, t, q⟩ := h
  obtain ⟨u, rfl, rx⟩ := vals1 r
  have fin : EP X pins σ Q (.type T) s := ⟨.ty T, H, I, rfl, q⟩
  cases t with
  | int i =>
    obtain ⟨k, rfl⟩ := rx
    exact call_type_of (typeIs_int s i k) (by decide +kernel) fin
  | str z =>
    obtain ⟨k, rfl⟩ := rx
    exact call_type_of (typeIs_str s z k) (by decide +kernel) fin
  | lst e =>
    cases rx
    obtain ⟨_, _, p, _⟩ := I.list e
    exact call_type_of p.isList.typeIs (by decide +kernel) fin
  | tup e =>
    cases rx
    obtain ⟨_, _, p, _⟩ := I.tuple e
    exact call_type_of p.typeIs (by decide +kernel) fin
theorem d_type {K : PySem.W.Frag} {H : Hp} {Q : VK} {x : V} {T : String} (t : TyS K H x T) (q : Q (.ty T) H) : rTyS K [x] H Q := ⟨x, T, rfl, t, q⟩
/-! ### how many members a set has -/
def rLenSO (w : World) : List V → Hp → VK → Prop := fun xs H Q => ∃ a S n, xs = [.ref a] ∧ H a = some (SetO w a S n) ∧ ∀ ks : List Int, ks.Nodup → (∀ k, S k = true ↔ k ∈ ks) → ks.length = n → Q (.int (n : Nat)) H
theorem cr_lenSO {X : Cx} {wd : World} (hw : X.w = wd) : CallR X (.builtin "len") (rLenSO wd) := by
  subst hw
  intro pins s σ H xs us Q I r h
  obtain ⟨a, S, n, rfl, e, q⟩ := h
  obtain ⟨u, rfl, ru⟩ := vals1 r
  obtain rfl : u = Value.ref a := ru
  obtain ⟨o, es, ep, t, ho, ex, d, _, nd, mem, _, fits, hn, _⟩ := setO_get I e
  refine call_len_set ho ex d fits ?_ ⟨.int (n : Nat), H, I.tok _, ⟨_, by rw [hn]⟩, q _ nd mem (by rw [List.length_map, Array.length_toList, hn])⟩
  have := ‹es.size < scanBound›
  unfold scanBound at this
  omega
theorem sub_len {α : Type} [DecidableEq α] : ∀ (ks ns : List α), ks.Nodup → (∀ k ∈ ks, k ∈ ns) → ks.length ≤ ns.length
  | [], _, _, _ => Nat.zero_le _
  | k :: r, ns, nd, sub => by
    have hk := sub k List.mem_cons_self
    have h1 := sub_len r (ns.erase k) (List.nodup_cons.mp nd).2 fun x hx => (List.mem_erase_of_ne fun (z : x = k) => (List.nodup_cons.mp nd).1 (z ▸ hx)).mpr (sub x (List.mem_cons_of_mem _ hx))
    rw [List.length_erase_of_mem hk] at h1
    have := List.length_pos_of_mem hk
    rw [List.length_cons]
    omega
theorem len_nodup {α : Type} [DecidableEq α] {ks ns : List α} (nd : ks.Nodup) (m : ∀ k, k ∈ ks ↔ k ∈ ns) : ks.length = ns.length ↔ ns.Nodup := by
  constructor
  · intro e
    refine Decidable.byContradiction fun c => ?_
    have : ∃ x : α, ∃ l : List α, l.length + 1 = ns.length ∧ (∀ y, y ∈ ns → y ∈ l) := by
      clear e nd m
      induction ns with
      | nil => exact absurd .nil c
      | cons x r ih =>
        by_cases h : x ∈ r
        · exact ⟨x, r, rfl, fun y hy => (List.mem_cons.mp hy).elim (fun z => z ▸ h) id⟩
        · obtain ⟨y, l, hl, hm⟩ := ih fun z => c (List.nodup_cons.mpr ⟨h, z⟩)
          exact ⟨y, x :: l, by rw [List.length_cons, List.length_cons, hl], fun z hz => (List.mem_cons.mp hz).elim (fun q => q ▸ List.mem_cons_self) fun q => List.mem_cons_of_mem _ (hm z q)⟩
    obtain ⟨_, l, hl, hm⟩ := this
    have := sub_len ks l nd fun k hk => hm k ((m k).mp hk)
    omega
  · intro nn
    exact Nat.le_antisymm (sub_len _ _ nd fun k hk => (m k).mp hk) (sub_len _ _ nn fun k hk => (m k).mpr hk)
/-! ### numbers that rise -/
theorem rise_ext {ns ks : List Int} (a : ns.Pairwise (· < ·)) (b : ks.Pairwise (· < ·)) (m : ∀ k, k ∈ ns ↔ k ∈ ks) : ns = ks := by
  have nd : ∀ {l : List Int}, l.Pairwise (· < ·) → l.Nodup := fun h => h.imp fun {x y} h => by omega
  have p : ns.Perm ks := (List.perm_ext_iff_of_nodup (nd a) (nd b)).mpr m
  exact p.eq_of_pairwise (le := (· < ·)) (fun x y _ _ h1 h2 => by omega) a b
theorem dp_ints {K : PySem.W.Frag} {H : Hp} {L : Addr} {ns : List Int} (e : SqL K H L (ns.map V.int)) : Dp K H (.ref L) (.list (ns.map PyData.int)) := .lst e (dpa_ints ns)
theorem eqv_ints2 : ∀ ns ks : List Int, PyData.eqvAll (ns.map PyData.int) (ks.map PyData.int) = decide (ns = ks)
  | [], [] => by simp [PyData.eqvAll]
  | [], _ :: _ => by simp [PyData.eqvAll]
  | _ :: _, [] => by simp [PyData.eqvAll]
  | a :: r, b :: t => by
    have := eqv_ints2 r t
    simp only [List.map_cons, PyData.eqvAll, this, PyData.eqv]
    rw [Bool.eq_iff_iff]
    simp
theorem eqv_intsB (ns ks : List Int) : PyData.eqv (.list (ns.map PyData.int)) (.list (ks.map PyData.int)) = decide (ns = ks) := by
  simp only [PyData.eqv]
  exact eqv_ints2 ns ks
/-- firsts rise, ends are no two alike -/
def leadB (ld : Lead) : Bool := decide ((ld.map (·.1)).Pairwise (· < ·) ∧ (ld.map (·.2)).Nodup)
end Cw

/-! rows of pairs: pairs put in order, leads and pairs that fit -/
namespace Cw
open PySem PySem.Spec PySem.W PyProof.Rows L2
def pltB (p r : Nat × Nat) : Bool := if p.1 = r.1 then decide (p.2 < r.2) else decide (p.1 < r.1)
theorem pltB_iff {p r : Nat × Nat} : pltB p r = true ↔ plt p r := by
  unfold pltB plt
  by_cases h : p.1 = r.1
  · rw [if_pos h, decide_eq_true_eq]; omega
  · rw [if_neg h, decide_eq_true_eq]; omega
def rGtP (K : PySem.W.Frag) : R2 := fun x y H Q => ∃ p r : Nat × Nat, PairAt K H x p ∧ PairAt K H y r ∧ Q (.bl (pltB r p)) H
theorem op_gtP {X : Cx} (hu : X.A.units + 65 < cLine) : OpR X (compareOp .Gt) (rGtP X.K) := by
  intro pins s σ H x y v u Q I rx ry h
  obtain ⟨p, r, ⟨a, rfl, ha⟩, ⟨b, rfl, hb⟩, q⟩ := h
  have d1 : Dp X.K H (.ref a) (pairD p) := .tup ha (.cons (.int _) (.cons (.int _) .nil))
  have d2 : Dp X.K H (.ref b) (pairD r) := .tup hb (.cons (.int _) (.cons (.int _) .nil))
  obtain ⟨as, r1⟩ := Dp.reads I _ _ _ d1 rx
  obtain ⟨bs, r2⟩ := Dp.reads I _ _ _ d2 ry
  refine gt_datum (x := ((p.1 : Int), (p.2 : Int))) (y := ((r.1 : Int), (r.2 : Int))) ⟨as, r1⟩ ⟨bs, r2⟩ (Nat.lt_of_le_of_lt (Nat.add_le_add_left (show Datum.depth (Int × Int) ≤ 65 by decide) _) hu) ⟨.bl _, H, I, ?_, q⟩
  show Value.bool _ = Value.bool _
  congr 1
  unfold pltB
  show (if ((r.1 : Int) = (p.1 : Int)) then decide ((r.2 : Int) < (p.2 : Int)) else decide ((r.1 : Int) < (p.1 : Int))) = _
  by_cases h : r.1 = p.1
  · rw [if_pos h, if_pos (by omega)]
    exact decide_eq_decide.mpr (by omega)
  · rw [if_neg h, if_neg (by omega)]
    exact decide_eq_decide.mpr (by omega)
theorem lead_unlike {ld : Lead} (s : ld.Pairwise plt) : leadB ld = (decide (ld.map (·.1)).Nodup && decide (ld.map (·.2)).Nodup) := by
  rw [← Bool.decide_and]
  refine decide_eq_decide.mpr ⟨fun h => ⟨h.1.imp fun {a b} h => Nat.ne_of_lt h, h.2⟩, fun h => ⟨?_, h.2⟩⟩
  have n := h.1
  unfold List.Nodup at n
  rw [List.pairwise_map] at n ⊢
  refine s.imp₂ (fun a b (h1 : plt a b) (h2 : a.1 ≠ b.1) => ?_) n
  unfold plt at h1
  omega
/-- the pairs fit, two by two -/
def fitsB (u u' : Web) (ld : Lead) : Prop := ld.Pairwise fun x y => fitB u u' x y = true
instance (u u' : Web) (ld : Lead) : Decidable (fitsB u u' ld) := by unfold fitsB; infer_instance
theorem fits_lead {u u' : Web} {ld : Lead} (s : ld.Pairwise plt) (h : fitsB u u' ld) : leadB ld = true := by
  have un : ∀ {x y : Nat × Nat}, fitB u u' x y = true → x.1 ≠ y.1 ∧ x.2 ≠ y.2 := fun {x y} h => by
    unfold fitB at h
    by_cases c : x.1 = y.1 ∨ x.2 = y.2
    · rw [if_pos c] at h; cases h
    · omega
  rw [lead_unlike s, Bool.and_eq_true, decide_eq_true_eq, decide_eq_true_eq]
  unfold List.Nodup
  rw [List.pairwise_map, List.pairwise_map]
  exact ⟨h.imp fun {x y} h => (un h).1, h.imp fun {x y} h => (un h).2⟩
theorem fits_lies {u u' : Web} (U : WOk u) (U' : WOk u') {ld : Lead} (h : leadB ld = true) : lieB u u' ld = decide (fitsB u u' ld) := by
  have h := of_decide_eq_true h
  have n1 := h.1
  have n2 := h.2
  unfold List.Nodup at n2
  rw [List.pairwise_map] at n1 n2
  have key : ∀ x y : Nat × Nat, x.1 ≠ y.1 → x.2 ≠ y.2 → fitB u u' x y = agr u u' x y := fun x y h1 h2 => by
    unfold fitB agr
    rw [if_neg (by omega), optV_inj]
  rw [Bool.eq_iff_iff, decide_eq_true_eq]
  constructor
  · intro l
    unfold fitsB
    refine (n1.and n2).imp_of_mem fun {x y} hx hy hh => ?_
    rw [key x y (Nat.ne_of_lt hh.1) hh.2]
    exact List.all_eq_true.mp (List.all_eq_true.mp l x hx) y hy
  · intro f
    refine lieB_of U U' fun i j p q hij hp hq => ?_
    obtain ⟨hi, rfl⟩ := List.getElem?_eq_some_iff.mp hp
    obtain ⟨hj, rfl⟩ := List.getElem?_eq_some_iff.mp hq
    have a := List.pairwise_iff_getElem.mp n1 i j hi hj hij
    have b := List.pairwise_iff_getElem.mp n2 i j hi hj hij
    have c := List.pairwise_iff_getElem.mp f i j hi hj hij
    rw [← key _ _ (Nat.ne_of_lt a) b]
    exact c
end Cw

namespace Cw
open PySem PySem.Spec PyProof.Rows L2
local macro_rules | `(tactic| walk_at "rd1") => `(tactic| first
  | (with_reducible refine d_seq ?_) | (with_reducible refine d_asg ?_) | (with_reducible refine d_cons ?_) | (with_reducible refine d_nil ?_)
  | ((with_reducible refine' d_var ?e ?_); (case e => exact rfl))
  | (with_reducible refine d_c ?_) | (with_reducible refine d_op ?_) | (with_reducible refine d_un ?_) | (with_reducible refine d_cb ?_)
  | (with_reducible refine d_rI0 ?_) | (with_reducible refine d_rU ?_) | (with_reducible refine d_eqI ?_) | (with_reducible refine d_neI ?_)
  | ((with_reducible refine d_rI ?hc ?_); (case hc => first | assumption | decide | exact ⟨by decide, by decide⟩ | exact ⟨by omega, by omega⟩ | exact .inl ⟨by omega, by omega⟩ | exact .inr ⟨by omega, by omega⟩))
  | ((with_reducible refine' d_ixLm ?h ?e ?_); (case h => first | assumption | exact upd_same); (case e => rfl)) | ((with_reducible refine' d_ixTm ?h ?e ?_); (case h => first | assumption | exact upd_same); (case e => rfl))
  | (with_reducible refine d_test ?_) | (with_reducible refine d_tB ?_) | (with_reducible refine d_bl ?_) | (with_reducible refine d_not ?_) | (with_reducible refine d_notV ?_) | (with_reducible refine d_and ?_) | (with_reducible refine d_or ?_)
  | (with_reducible refine d_if ?_) | (with_reducible refine d_andV ?_) | (with_reducible refine d_ifS ?_) | (with_reducible refine iteT ?_) | (with_reducible refine iteF ?_) | (with_reducible refine iteNT ?_) | (with_reducible refine iteNF ?_)
  | (with_reducible refine d_ret ?_) | (with_reducible refine d_retN ?_) | (with_reducible refine d_drop ?_) | (with_reducible refine d_next ?_) | (with_reducible refine d_brk ?_) | (with_reducible refine d_ct ?_)
  | (with_reducible refine d_gname ?_) | (with_reducible refine d_gcons ?_) | (with_reducible refine d_gnil ?_) | (with_reducible refine d_gsub ?_)
  | (with_reducible refine d_call ?_) | (with_reducible refine d_tup ?_) | (with_reducible refine d_lst ?_)
  | (with_reducible refine d_sl ?_) | (with_reducible refine d_nop ?_) | (with_reducible refine d_part ?_) | (with_reducible refine d_in ?_)
  | (with_reducible refine d_bm ?_) | (with_reducible refine d_bm0 ?_) | (with_reducible refine d_m1 ?_) | (with_reducible refine d_exs ?_)
  | ((with_reducible refine' d_setL ?h ?e ?_); (case h => first | assumption | exact upd_same); (case e => rfl))
  | ((with_reducible refine' d_gtupm ?h ?e ?_); (case h => first | assumption | exact upd_same); (case e => rfl))
  | ((with_reducible refine' d_aug ?e ?_); (case e => exact rfl))
  | (with_reducible refine d_for ?_) | (with_reducible refine d_lc ?_) | (with_reducible refine d_dc ?_) | (with_reducible refine d_iR1 ?_) | (with_reducible refine d_iR2 ?_) | (with_reducible refine d_iL ?_) | (with_reducible refine d_iT ?_) | (with_reducible refine d_iS ?_) | (with_reducible refine d_iSe ?_) | (with_reducible refine d_yes ?_) | (with_reducible refine d_lsten ?_) | (with_reducible refine d_iEnS ?_) | (with_reducible refine d_iEnSe ?_) | (with_reducible refine d_iEn ?_) | (with_reducible refine d_dget1 ?_) | (with_reducible refine d_dget2 ?_) | (with_reducible refine d_iCmb ?_) | (with_reducible refine d_dget ?_) | (with_reducible refine d_dput ?_) | (with_reducible refine d_daug ?_) | (with_reducible refine d_par ?_) | (with_reducible refine d_par2 ?_) | (with_reducible refine d_din ?_) | (with_reducible refine d_dnewT ?_) | (with_reducible refine d_dnewK ?_) | ((with_reducible refine d_wipe ?e ?_); (case e => rfl)) | (with_reducible refine d_lrg ?_) | (with_reducible refine d_rg1 ?_)
  | ((with_reducible refine d_iR1e ?a ?b ?_); (case a => omega); (case b => omega)) | ((with_reducible refine d_iR2e ?a ?_); (case a => omega))
  | (with_reducible refine d_isN ?_))
local macro_rules | `(tactic| walk_at "rd") => `(tactic| (repeat walk_at "rd1"))

def topS (i : Nat) : Stmt := PySem.Challenge.pw_commonweb_k17_whole_leads_and_pairs.main.body.getD i (.Pass ⟨0, 0, 0, 0⟩)
abbrev s_is_place : Stmt := topS 2
abbrev s_rises : Stmt := topS 3
abbrev s_tie_of : Stmt := topS 4
abbrev s_kinds_by_ends : Stmt := topS 5
abbrev s_pairs : Stmt := topS 7
abbrev s_fit : Stmt := topS 8
abbrev s_is_lead : Stmt := topS 10
abbrev s_is_pair : Stmt := topS 11
abbrev s_lies : Stmt := topS 12
abbrev s_led_ties : Stmt := topS 13
abbrev s_size_of : Stmt := topS 14
abbrev s_mixed : Stmt := topS 16
abbrev s_purse : Stmt := topS 17
abbrev s_next : Stmt := topS 18
abbrev s_web : Stmt := topS 19
abbrev s_order : Stmt := topS 20
abbrev s_turned : Stmt := topS 21
abbrev s_near : Stmt := topS 22
abbrev s_two : Stmt := topS 23
abbrev s_rows : Stmt := topS 24
abbrev s_right : Stmt := topS 25
abbrev s_law : Stmt := topS 26
theorem sc_is_place : FnScope ["kinds", "thing"] ["kinds", "thing"] (defScope s_is_place) := ⟨rfl, rfl, rfl, by decide +kernel, rfl, by decide +kernel, by decide +kernel⟩
theorem sc_rises : FnScope ["numbers"] ["numbers"] (defScope s_rises) := ⟨rfl, rfl, rfl, by decide +kernel, rfl, by decide +kernel, by decide +kernel⟩
theorem sc_tie_of : FnScope ["web", "one", "other", "ties", "ends", "low", "high", "middle"] ["web", "one", "other"] (defScope s_tie_of) := ⟨rfl, rfl, rfl, by decide +kernel, rfl, by decide +kernel, by decide +kernel⟩
theorem sc_kinds_by_ends : FnScope ["web", "kinds", "place", "other", "kind"] ["web"] (defScope s_kinds_by_ends) := ⟨rfl, rfl, rfl, by decide +kernel, rfl, by decide +kernel, by decide +kernel⟩
theorem sc_pairs : FnScope ["one", "other", "told", "place", "kind", "end", "kind_of_end"] ["one", "other"] (defScope s_pairs) := ⟨rfl, rfl, rfl, by decide +kernel, rfl, by decide +kernel, by decide +kernel⟩
theorem sc_fit : FnScope ["one", "other", "pair", "beside"] ["one", "other", "pair", "beside"] (defScope s_fit) := ⟨rfl, rfl, rfl, by decide +kernel, rfl, by decide +kernel, by decide +kernel⟩
theorem sc_is_lead : FnScope ["one", "other", "thing", "ends", "pair"] ["one", "other", "thing"] (defScope s_is_lead) := ⟨rfl, rfl, rfl, by decide +kernel, rfl, by decide +kernel, by decide +kernel⟩
theorem sc_is_pair : FnScope ["kinds", "others", "thing", "place", "end"] ["kinds", "others", "thing"] (defScope s_is_pair) := ⟨rfl, rfl, rfl, by decide +kernel, rfl, by decide +kernel, by decide +kernel⟩
theorem sc_lies : FnScope ["one", "other", "lead", "here", "there", "place", "end", "beside", "end_beside"] ["one", "other", "lead"] (defScope s_lies) := ⟨rfl, rfl, rfl, by decide +kernel, rfl, by decide +kernel, by decide +kernel⟩
theorem sc_led_ties : FnScope ["one", "other", "lead", "led", "there", "told", "place", "beside", "kind"] ["one", "other", "lead"] (defScope s_led_ties) := ⟨rfl, rfl, rfl, by decide +kernel, rfl, by decide +kernel, by decide +kernel⟩
theorem sc_size_of : FnScope ["one", "other", "lead", "how"] ["one", "other", "lead", "how"] (defScope s_size_of) := ⟨rfl, rfl, rfl, by decide +kernel, rfl, by decide +kernel, by decide +kernel⟩
theorem sc_mixed : FnScope ["cell", "k", "number"] ["cell", "k"] (defScope s_mixed) := ⟨rfl, rfl, rfl, by decide +kernel, rfl, by decide +kernel, by decide +kernel⟩
theorem sc_purse : FnScope ["script", "at", "step", "many", "cells", "rests", "purse", "k", "place", "cell"] ["script", "at", "step", "many"] (defScope s_purse) := ⟨rfl, rfl, rfl, by decide +kernel, rfl, by decide +kernel, by decide +kernel⟩
theorem sc_next : FnScope ["purse"] ["purse"] (defScope s_next) := ⟨rfl, rfl, rfl, by decide +kernel, rfl, by decide +kernel, by decide +kernel⟩
theorem sc_web : FnScope ["purse", "least", "most", "many", "letters", "first", "wide", "kinds", "tied", "sorts", "share", "ties", "place", "other", "drawn", "k"] ["purse", "least", "most"] (defScope s_web) := ⟨rfl, rfl, rfl, by decide +kernel, rfl, by decide +kernel, by decide +kernel⟩
theorem sc_order : FnScope ["purse", "many", "left", "k"] ["purse", "many"] (defScope s_order) := ⟨rfl, rfl, rfl, by decide +kernel, rfl, by decide +kernel, by decide +kernel⟩
theorem sc_turned : FnScope ["web", "order", "kinds", "ties", "place", "other", "kind"] ["web", "order"] (defScope s_turned) := ⟨rfl, rfl, rfl, by decide +kernel, rfl, by decide +kernel, by decide +kernel⟩
theorem sc_near : FnScope ["purse", "web", "kinds", "ties", "way", "at"] ["purse", "web"] (defScope s_near) := ⟨rfl, rfl, rfl, by decide +kernel, rfl, by decide +kernel, by decide +kernel⟩
theorem sc_two : FnScope ["purse", "most", "one", "other", "kind"] ["purse", "most"] (defScope s_two) := ⟨rfl, rfl, rfl, by decide +kernel, rfl, by decide +kernel, by decide +kernel⟩
theorem sc_rows : FnScope ["some", "found", "row", "pair"] ["some"] (defScope s_rows) := ⟨rfl, rfl, rfl, by decide +kernel, rfl, by decide +kernel, by decide +kernel⟩
theorem sc_right : FnScope ["one", "other", "row", "unlike", "two", "at", "pair", "beside"] ["one", "other", "row"] (defScope s_right) := ⟨rfl, rfl, rfl, by decide +kernel, rfl, by decide +kernel, by decide +kernel⟩
theorem sc_law : FnScope ["script", "k", "purse", "one", "other", "some", "row"] ["script"] (defScope s_law) := ⟨rfl, rfl, rfl, by decide +kernel, rfl, by decide +kernel, by decide +kernel⟩
/-- what the top leaves -/
structure Tx (K : PySem.W.Frag) (mg : Str → Option Value) (base : Heap) where
  is_place : Df K mg "is_place" s_is_place ["kinds", "thing"]
  rises : Df K mg "rises" s_rises ["numbers"]
  tie_of : Df K mg "tie_of" s_tie_of ["web", "one", "other"]
  kinds_by_ends : Df K mg "kinds_by_ends" s_kinds_by_ends ["web"]
  pairs : Df K mg "pairs" s_pairs ["one", "other"]
  fit : Df K mg "fit" s_fit ["one", "other", "pair", "beside"]
  is_lead : Df K mg "is_lead" s_is_lead ["one", "other", "thing"]
  is_pair : Df K mg "is_pair" s_is_pair ["kinds", "others", "thing"]
  lies : Df K mg "lies" s_lies ["one", "other", "lead"]
  led_ties : Df K mg "led_ties" s_led_ties ["one", "other", "lead"]
  size_of : Df K mg "size_of" s_size_of ["one", "other", "lead", "how"]
  mixed : Df K mg "_law_mixed" s_mixed ["cell", "k"]
  purse : Df K mg "_law_purse" s_purse ["script", "at", "step", "many"]
  next : Df K mg "_law_next" s_next ["purse"]
  web : Df K mg "_law_web" s_web ["purse", "least", "most"]
  order : Df K mg "_law_order" s_order ["purse", "many"]
  turned : Df K mg "_law_turned" s_turned ["web", "order"]
  near : Df K mg "_law_near" s_near ["purse", "web"]
  two : Df K mg "_law_two" s_two ["purse", "most"]
  rows : Df K mg "_law_rows" s_rows ["some"]
  right : Df K mg "_law_right" s_right ["one", "other", "row"]
  law : Df K mg "law" s_law ["script"]
  m_abs : mg "abs" = none
  m_all : mg "all" = none
  m_dict : mg "dict" = none
  m_enumerate : mg "enumerate" = none
  m_int : mg "int" = none
  m_len : mg "len" = none
  m_list : mg "list" = none
  m_max : mg "max" = none
  m_min : mg "min" = none
  m_range : mg "range" = none
  m_reversed : mg "reversed" = none
  m_set : mg "set" = none
  m_sorted : mg "sorted" = none
  m_tuple : mg "tuple" = none
  m_type : mg "type" = none
  m_combinations : mg "combinations" = some (.type "itertools.combinations")
  c_is_lead : Addr
  P_is_lead : Addr
  hc_is_lead : is_lead.fd.code = .ref c_is_lead
  tb_is_lead : GxR.TabB base mg c_is_lead P_is_lead
def Tx.cs {K : PySem.W.Frag} {mg : Str → Option Value} {base : Heap} (T : Tx K mg base) : List (Addr × Addr) := [(T.c_is_lead, T.P_is_lead)]
section
variable {P : Program} {w : World} {K : PySem.W.Frag} {mg : Str → Option Value} {base : Heap}
/-- the law's purse: whole numbers -/
def Purse (H : Hp) (h : Addr) : Prop := ∃ ns : List Int, H h = some (.lst (ns.map V.int)) ∧ ns.length ≤ 2000
theorem Purse.same {H H' : Hp} {h : Addr} (x : Purse H h) (s : Same H H') : Purse H' h := by
  obtain ⟨ns, e, r⟩ := x
  exact ⟨ns, s _ _ e, r⟩
theorem Purse.ne {H : Hp} {h p : Addr} (x : Purse H h) (n : H p = none) : p ≠ h := by
  obtain ⟨ns, e, r⟩ := x
  exact (ne_of_none e n).symm
theorem Purse.put {H : Hp} {h p : Addr} {o : HO} (x : Purse H h) (n : p ≠ h) : Purse (upd H p o) h := by
  obtain ⟨ns, e, r⟩ := x
  exact ⟨ns, by rw [upd_ne n.symm]; exact e, r⟩
theorem d_slStep {te : TE} {tl tu ts : TO} {σ : L2.St} {H : Hp} {Q : VK} (h : te σ H fun x H1 => tl σ H1 fun _ H2 => tu σ H2 fun _ H3 => ts σ H3 fun st H4 => ∃ a xs, x = .ref a ∧ SqL K H4 a xs ∧ st ≠ some 0 ∧
  ∀ p ys, (∀ y ∈ ys, y ∈ xs) → ys.length ≤ xs.length → H4 p = none → Q (.ref p) (upd H4 p (.lst ys))) : tSlStep K te tl tu ts σ H Q := h
theorem d_lstRev {te : TE} {σ : L2.St} {H : Hp} {Q : VK} (h : te σ H fun v H1 => ∃ (a : Addr) (xs : List V), v = .ref a ∧ SqL K H1 a xs ∧ ∀ q, H1 q = none → Q (.ref q) (upd H1 q (.lst xs.reverse))) : tLstRev K te σ H Q := h
theorem ints_sub {ns : List Int} : ∀ ys : List V, (∀ y ∈ ys, y ∈ ns.map V.int) → ∃ ms : List Int, ys = ms.map V.int
  | [], _ => ⟨[], rfl⟩
  | y :: ys, h => by
    obtain ⟨c, _, e⟩ := List.mem_map.mp (h y List.mem_cons_self)
    obtain ⟨ms, e2⟩ := ints_sub ys fun z hz => h z (List.mem_cons_of_mem _ hz)
    exact ⟨c :: ms, by rw [e2, ← e]; rfl⟩
theorem ints_at {ns : List Int} {i : Nat} (h : i < ns.length) : ∃ c : Int, (ns.map V.int)[i]? = some (.int c) := ⟨ns[i], by rw [List.getElem?_map, List.getElem?_eq_getElem h]; rfl⟩
def spMixed : Sp := fun vs H Q _ => ∃ c k : Int, vs = [.int c, .int k] ∧ 0 ≤ k ∧ k ≤ 100000 ∧ ∀ g : Int, Q (.int g) H
theorem ok_mixed (T : Tx K mg base) : FnOk P w K mg base CX0 1 T.mixed.f T.mixed.fd ["cell", "k"] spMixed := by
  refine T.mixed.F.ok sc_mixed (fun vs H Q E h => ?_) (fun cdv A outer s H vs Q E hr h => ?_)
  · obtain ⟨c, k, rfl, _⟩ := h; rfl
  · obtain ⟨c, k, rfl, k0, k1, q⟩ := h
    refine ⟨_, (pss_cons (ps_set (i := 2) sc_mixed.nd rfl (.inl rfl) (pe_op op_mod (pe_op op_add (pe_op op_mod (pv 0) pe_int) (pe_op op_mul pe_int (pe_op op_add (pv 1) pe_int))) pe_int))
      (pss_cons (ps_set (i := 2) sc_mixed.nd rfl (.inl rfl) (pe_op op_mod (pe_op op_add (pe_op op_add (pe_op op_mul (pv 2) (pv 2)) (pe_op op_mul pe_int (pv 2))) (pv 1)) pe_int))
      (pss_cons (ps_set (i := 2) sc_mixed.nd rfl (.inl rfl) (pe_op op_mod (pe_op op_mul (pv 2) (pv 2)) pe_int))
      (pss_one (ps_ret (pe_op op_fdiv (pe_op op_mod (pe_op op_mul (pv 2) pe_int) pe_int) pe_int)))))), ?_⟩
    walk_at "rd"
    exact q _
def spPurse (K : PySem.W.Frag) : Sp := fun vs H Q _ => ∃ (a : Addr) (ns : List Int) (at_ st n : Int), vs = [.ref a, .int at_, .int st, .int n] ∧ SqL K H a (ns.map V.int) ∧ ns.length ≤ 63 ∧ 0 < st ∧ 0 ≤ n ∧ n ≤ 2000 ∧
  ∀ H' p, Same H H' → H p = none → Purse H' p → Q (.ref p) H'
theorem ok_purse (T : Tx K mg base) : FnOk P w K mg base CX0 2 T.purse.f T.purse.fd ["script", "at", "step", "many"] (spPurse K) := by
  refine T.purse.F.ok sc_purse (fun vs H Q E h => ?_) (fun cdv A outer s H vs Q E hr h => ?_)
  · obtain ⟨_, _, _, _, _, rfl, _⟩ := h; rfl
  · obtain ⟨a, ns, at_, st, n, rfl, hS, hl, st0, n0, n1, q⟩ := h
    refine ⟨_, (pss_cons (ps_set (i := 4) sc_purse.nd rfl (.inl rfl) (pe_slStep (pv 0) (po_some (pv 1)) (po_some pe_int) (po_some (pv 2))))
      (Evl.pss_cut (ps_if (pt_cmpR (op_eqD (hr.units)) (pv 4) (pe_lst pa_nil) (nomark _))
        (pss_one (ps_set (i := 4) sc_purse.nd rfl (.inl rfl) (pe_lst (pa_cons (pv 1) pa_nil))))
        pss_nil)
      (pss_cons (ps_setLc (i := 5) (own := [("cell", 9)]) (g := gName 9) (tt := tYes) rfl sc_purse.nd rfl rfl (sw_true rfl rfl rfl (by decide +kernel)) (pi_list (pv 4)) (blkOk_by (N := ["script", "at", "step", "many", "cells", "rests", "purse", "k", "place", "cell"]) (sc := defScope s_purse) (by decide +kernel)) (fun _ _ _ _ _ => (pg_name (i := 9) sc_purse.nd rfl (.inl rfl))) (fun _ _ _ _ _ => pts_nil) (fun _ _ _ _ _ => (pe_op op_mul (pe_callB call_abs (by rfl) T.m_abs (by decide +kernel) (pa_cons (pv 9) pa_nil)) (pe_callTy call_int1 (by rfl) T.m_int (by decide +kernel) (pa_cons (pe_cmpR op_ge (pe_callB call_abs (by rfl) T.m_abs (by decide +kernel) (pa_cons (pv 9) pa_nil)) (pe_op op_pow pe_int pe_int) (nomark _)) pa_nil)))))
      (pss_cons (ps_set (i := 6) sc_purse.nd rfl (.inl rfl) (pe_lst pa_nil))
      (pss_cons (ps_for PassesOwn.never rfl (pi_range1 (by rfl) T.m_range (pa_cons (pv 3) pa_nil)) (pg_name (i := 7) sc_purse.nd rfl (.inl rfl))
        (pss_cons (ps_set (i := 8) sc_purse.nd rfl (.inl rfl) (pe_op op_mod (pv 7) (pe_callB call_len_seq (by rfl) T.m_len (by decide +kernel) (pa_cons (pv 4) pa_nil))))
        (pss_one (ps_if (pt_cmpR op_gt (pe_ix ix_list (pv 5) (pv 8) (fun _ _ => rfl)) pe_int (nomark _))
          (pss_cons (ps_expr (pe_bm PySem.F.plainAttrs_list PySem.F.slot_list_append PySem.F.type_list_append mt_append (pv 6) (pa_cons (pe_op op_mod (pe_ix ix_list (pv 5) (pv 8) (fun _ _ => rfl)) pe_int) pa_nil)))
          (pss_one (ps_asg (pe_op op_fdiv (pe_ix ix_list (pv 5) (pv 8) (fun _ _ => rfl)) pe_int) (pg_sub (pv 5) (pv 8) set_list))))
          (pss_one (ps_expr (pe_bm PySem.F.plainAttrs_list PySem.F.slot_list_append PySem.F.type_list_append mt_append (pv 6) (pa_cons (pe_call (ok_mixed T) (hr.mono (by decide)) (by rfl) T.mixed.g T.mixed.F.kp T.mixed.b .nil pass0 (pa_cons (pe_ix ix_list (pv 4) (pv 8) (fun _ _ => rfl)) (pa_cons (pe_op op_fdiv (pv 7) (pe_callB call_len_seq (by rfl) T.m_len (by decide +kernel) (pa_cons (pv 4) pa_nil))) pa_nil))) pa_nil))))))))
      (pss_one (ps_ret (pe_lstRev rfl (by rfl) T.m_list (by rfl) T.m_reversed (pv 6))))))))), ?_⟩
    walk_at "rd"
    refine d_slStep ?_
    walk_at "rd"
    refine ⟨a, _, rfl, hS, by intro z; have := Option.some.inj z; omega, fun p ys my ly fp => ?_⟩
    obtain ⟨cs, rfl⟩ := ints_sub ys my
    rw [List.length_map, List.length_map] at ly
    have s1 := same_new (o := .lst (cs.map V.int)) fp
    walk_at "rd"
    refine d_cut (fun σ H2 => ∃ (p : Addr) (cs : List Int) (y5 y6 y7 y8 y9 : Option V), σ = [some (.ref a), some (.int at_), some (.int st), some (.int n), some (.ref p), y5, y6, y7, y8, y9] ∧ Same H H2 ∧ H2 p = some (.lst (cs.map V.int)) ∧ 0 < cs.length ∧ cs.length ≤ 64) ?_ (fun σ H2 hP => ?_)
    · walk_at "rd"
      refine ⟨sz (by decide), fun p2 f2 => ?_⟩
      have s2 := same_new (o := .lst []) f2
      refine ⟨_, _, .lst (SqL.of (s2 _ _ upd_same)) (dpa_ints cs), .lst (SqL.of upd_same) .nil, shaped_ints cs, by decide, ?_⟩
      have eb : PyData.eqv (.list (cs.map PyData.int)) (.list []) = decide (cs.length = 0) := by
        cases cs with
        | nil => rfl
        | cons c r => simp [PyData.eqv, PyData.eqvAll]
      rw [eb]
      walk_at "rd"
      refine ite2 (fun c => ?_) (fun c => ?_)
      · walk_at "rd"
        refine ⟨sz (by show 1 ≤ 100000; decide), fun p3 f3 => ?_⟩
        walk_at "rd"
        exact ⟨p3, [at_], _, _, _, _, _, rfl, Same.trans s1 (Same.trans s2 (same_new f3)), upd_same, (by show 0 < 1; omega), (by show 1 ≤ 64; omega)⟩
      · walk_at "rd"
        have c' : cs.length ≠ 0 := fun z => c (decide_eq_true z)
        exact ⟨p, cs, _, _, _, _, _, rfl, Same.trans s1 s2, s2 _ _ upd_same, by omega, by omega⟩
    · obtain ⟨p, cs, y5, y6, y7, y8, y9, rfl, s2, ep, c0, c1⟩ := hP
      walk_at "rd"
      refine d_iLe (SqL.of ep) ?_
      intro D fD
      refine lc_list (K := K) (a := p) (xs := cs.map V.int) (fun i H3 => ∃ rs : List Int, rs.length = i ∧ H3 D = some (.lst (rs.map V.int)) ∧ Same H2 H3) ⟨[], rfl, upd_same, same_new fD⟩ (fun i H3 _ hP => by obtain ⟨_, _, _, s3⟩ := hP; exact SqL.of (s3 _ _ ep)) (fun i x H3 hx hP => ?_) (fun H3 hP => ?_)
      · obtain ⟨rs, lr, eD, s3⟩ := hP
        rw [List.getElem?_map] at hx
        obtain ⟨z, hz, rfl⟩ := Option.map_eq_some_iff.mp hx
        have hi := (List.getElem?_eq_some_iff.mp hz).1
        walk_at "rd"
        refine ⟨_, rfl, ?_⟩
        walk_at "rd"
        refine ⟨_, rfl, ?_⟩
        generalize (if z < 0 then -z else z) = m
        walk_at "rd"
        refine .inr ⟨_, rfl, ?_⟩
        refine ⟨_, _, rfl, rfl, .inr ?_, ?_⟩
        · split <;> decide
        refine ⟨_, eD, szl (by rw [List.length_map]; omega), ?_⟩
        exact ⟨rs ++ [_], by rw [List.length_append, lr]; rfl, by rw [upd_same, List.map_append]; rfl, same_upd s3 fD⟩
      obtain ⟨rs, lr, eD, s3⟩ := hP
      rw [List.length_map] at lr
      walk_at "rd"
      refine ⟨sz (by decide), fun pp fpp => ?_⟩
      walk_at "rd"
      have s4 := same_new (o := .lst []) fpp
      have s34 := Same.trans s3 s4
      have eD4 := s4 _ _ eD
      have epp := upd_same (H := H3) (a := pp) (o := .lst [])
      have npp : H2 pp = none := Same.free s3 fpp
      generalize upd H3 pp (.lst []) = H4 at s34 eD4 epp ⊢
      have nDp : D ≠ pp := ne_of_none eD fpp
      refine for_range (fun i σ H5 => ∃ (y7 y8 y9 : Option V) (rs ps : List Int), σ = [some (.ref a), some (.int at_), some (.int st), some (.int n), some (.ref p), some (.ref D), some (.ref pp), y7, y8, y9] ∧ Same H2 H5 ∧ rs.length = cs.length ∧ H5 D = some (.lst (rs.map V.int)) ∧ ps.length = i ∧ H5 pp = some (.lst (ps.map V.int)))
        ⟨_, _, _, rs, [], rfl, s34, lr, eD4, rfl, epp⟩ (fun i σ H5 hi hP => ?_) (fun σ H5 hP => ?_)
      · obtain ⟨z7, z8, z9, rs, ps, rfl, s5, lr, eD5, lp, epp5⟩ := hP
        have ep5 := s5 _ _ ep
        walk_at "rd"
        refine d_lenL (SqL.of ep5) ?_
        rw [List.length_map]
        refine ⟨_, _, rfl, rfl, by omega, ?_⟩
        have m0 := Int.emod_nonneg (0 + (i : Int)) (show (cs.length : Int) ≠ 0 by omega)
        have m1 := Int.emod_lt_of_pos (0 + (i : Int)) (show 0 < (cs.length : Int) by omega)
        dsimp only
        generalize (0 + (i : Int)) % (cs.length : Int) = m at m0 m1 ⊢
        obtain ⟨j, rfl⟩ := Int.eq_ofNat_of_zero_le m0
        have hj : j < rs.length := by omega
        obtain ⟨c, ec⟩ := ints_at hj
        walk_at "rd"
        refine d_ixLm eD5 (atI_nat ec) ?_
        walk_at "rd"
        refine ite2 (fun b => ?_) (fun b => ?_)
        · walk_at "rd"
          refine d_app epp5 ?_
          walk_at "rd"
          refine d_ixLm eD5 (atI_nat ec) ?_
          walk_at "rd"
          refine d_append epp5 (szl (by rw [List.length_map]; omega)) ?_
          walk_at "rd"
          have eD6 : (upd H5 pp (.lst (ps.map V.int ++ [V.int (c % 1000003)]))) D = some (.lst (rs.map V.int)) := by rw [upd_ne nDp]; exact eD5
          refine d_ixLm eD6 (atI_nat ec) ?_
          walk_at "rd"
          refine d_setL eD6 (j := j) (by unfold ixN; rw [List.length_map, if_pos (by omega), if_pos (by omega)]; simp) ?_
          refine ⟨_, _, _, rs.set j (c / 1000003), ps ++ [c % 1000003], rfl, ?_, by rw [List.length_set]; exact lr, ?_, by rw [List.length_append, lp]; rfl, ?_⟩
          · exact same_upd (same_upd s5 npp) fD
          · rw [upd_same, List.map_set]
          · rw [upd_ne nDp.symm, upd_same, List.map_append]; rfl
        · walk_at "rd"
          refine d_app epp5 ?_
          walk_at "rd"
          obtain ⟨c2, ec2⟩ := ints_at (show j < cs.length by omega)
          refine d_ixLm ep5 (atI_nat ec2) ?_
          walk_at "rd"
          refine d_lenL (SqL.of ep5) ?_
          rw [List.length_map]
          refine ⟨_, _, rfl, rfl, ⟨by omega, by omega⟩, ?_⟩
          walk_at "rd"
          refine ⟨_, _, rfl, Int.ediv_nonneg (by omega) (by omega), ?_, fun g => ?_⟩
          · exact Int.le_trans (Int.ediv_le_self _ (by omega)) (by omega)
          walk_at "rd"
          refine d_append epp5 (szl (by rw [List.length_map]; omega)) ?_
          refine ⟨_, _, _, rs, ps ++ [g], rfl, same_upd s5 npp, lr, by rw [upd_ne nDp]; exact eD5, by rw [List.length_append, lp]; rfl, ?_⟩
          rw [upd_same, List.map_append]; rfl
      · obtain ⟨z7, z8, z9, rs, ps, rfl, s5, lr, eD5, lp, epp5⟩ := hP
        walk_at "rd"
        refine d_lstRev ?_
        walk_at "rd"
        refine ⟨pp, _, rfl, SqL.of epp5, fun q1 fq => ?_⟩
        refine q _ _ (Same.trans s2 (Same.trans s5 (same_new fq))) (Same.free (Same.trans s2 s5) fq) ⟨ps.reverse, ?_, ?_⟩
        · rw [upd_same, List.map_reverse]
        · rw [List.length_reverse]; omega
def spNext : Sp := fun vs H Q _ => ∃ h : Addr, vs = [.ref h] ∧ Purse H h ∧ ∀ H' (g : Int), Keep h H H' → Purse H' h → Q (.int g) H'
theorem ok_next (T : Tx K mg base) : FnOk P w K mg base CX0 1 T.next.f T.next.fd ["purse"] spNext := by
  refine T.next.F.ok sc_next (fun vs H Q E h => ?_) (fun cdv A outer s H vs Q E hr h => ?_)
  · obtain ⟨_, rfl, _⟩ := h; rfl
  · obtain ⟨h, rfl, ⟨ns, e, l⟩, q⟩ := h
    refine ⟨_, (pss_cons (ps_if (pt_cmpR (op_eqD (hr.units)) (pv 0) (pe_lst pa_nil) (nomark _))
        (pss_one (ps_ret pe_int))
        pss_nil)
      (pss_one (ps_ret (pe_bm0 PySem.F.plainAttrs_list PySem.F.slot_list_pop PySem.F.type_list_pop mt_pop (pv 0))))), ?_⟩
    walk_at "rd"
    refine ⟨sz (by decide), fun p1 f1 => ?_⟩
    have s1 := same_new (o := .lst []) f1
    have e1 := s1 _ _ e
    refine ⟨_, _, .lst (SqL.of e1) (dpa_ints ns), .lst (SqL.of upd_same) .nil, shaped_ints ns, by decide, ?_⟩
    have eb : PyData.eqv (.list (ns.map PyData.int)) (.list []) = decide (ns.length = 0) := by
      cases ns with
      | nil => rfl
      | cons c r => simp [PyData.eqv, PyData.eqvAll]
    rw [eb]
    walk_at "rd"
    refine ite2 (fun c => ?_) (fun c => ?_)
    · walk_at "rd"
      exact q _ _ (Same.keep s1) ⟨ns, e1, l⟩
    · walk_at "rd"
      have c' : ns.length ≠ 0 := fun z => c (decide_eq_true z)
      refine ⟨.inl ⟨rfl, _, SqL.of e1⟩, ?_⟩
      obtain ⟨g, eg⟩ := ints_at (show ns.length - 1 < ns.length by omega)
      refine ⟨h, _, _, rfl, rfl, e1, by rw [List.length_map]; exact eg, ?_⟩
      refine q _ g (Keep.self (Same.keep s1)) ⟨ns.dropLast, ?_, ?_⟩
      · rw [upd_same, List.map_dropLast]
      · rw [List.length_dropLast]; omega
def Lts (z : Str) : Prop := (z.cps.toList.all fun c => decide (97 ≤ c) && decide (c ≤ 122)) = true ∧ 0 < z.length ∧ z.length ≤ 26
abbrev abc : Str := Str.ofString "abcdefghijklmnopqrstuvwxyz"
theorem abc_lts : Lts abc := by unfold Lts; decide +kernel
theorem Lts.at' {z : Str} (l : Lts z) {g : Int} (h0 : 0 ≤ g) (h1 : g < z.length) : ∃ c, atI z.cps.toList g = some c ∧ Ltr c := by
  obtain ⟨n, rfl⟩ := Int.eq_ofNat_of_zero_le h0
  have hn : n < z.cps.toList.length := by
    have e : z.cps.toList.length = z.length := rfl
    omega
  refine ⟨z.cps.toList[n], atI_nat (List.getElem?_eq_getElem hn), ?_⟩
  have a := List.all_eq_true.mp l.1 _ (List.getElem_mem hn)
  simp only [Bool.and_eq_true, decide_eq_true_eq] at a
  exact a
theorem abc_len : abc.length = 26 := by decide +kernel
theorem abc_at {g : Int} (h0 : 0 ≤ g) (h1 : g < 26) : ∃ c, atI abc.cps.toList g = some c ∧ Ltr c := abc_lts.at' h0 (by rw [abc_len]; exact h1)
/-- one of some whole numbers, all from 0 on and below a bound -/
theorem one_of {ns : List Int} {B : Int} (hb : ∀ x ∈ ns, 0 ≤ x ∧ x ≤ B) {n : Int} (hn : n = ns.length) {g : Int} (g0 : 0 ≤ g) (g1 : g < n) : ∃ x : Int, atI (ns.map V.int) g = some (.int x) ∧ x ∈ ns ∧ 0 ≤ x ∧ x ≤ B := by
  obtain ⟨j, rfl⟩ := Int.eq_ofNat_of_zero_le g0
  have hj : j < ns.length := by omega
  exact ⟨ns[j], atI_nat (by rw [List.getElem?_map, List.getElem?_eq_getElem hj]; rfl), List.getElem_mem hj, hb _ (List.getElem_mem hj)⟩
theorem mod_lo (x : Int) {n : Int} (h : 0 < n) : 0 ≤ x % n := Int.emod_nonneg _ (by omega)
theorem mod_hi (x : Int) {n : Int} (h : 0 < n) : x % n < n := Int.emod_lt_of_pos _ h
def spWeb (K : PySem.W.Frag) : Sp := fun vs H Q _ => ∃ (h : Addr) (lo hi : Int), vs = [.ref h, .int lo, .int hi] ∧ 0 ≤ lo ∧ lo ≤ hi ∧ hi ≤ 40 ∧ Purse H h ∧ ∀ H' v w, Keep h H H' → Purse H' h → WebAt K H' v w → WOk w → (w.1.length : Int) ≤ hi → Q v H'
theorem ok_web (T : Tx K mg base) : FnOk P w K mg base CX0 2 T.web.f T.web.fd ["purse", "least", "most"] (spWeb K) := by
  refine T.web.F.ok sc_web (fun vs H Q E h => ?_) (fun cdv A outer s H vs Q E hr h => ?_)
  · obtain ⟨a, b, c, rfl, _⟩ := h; rfl
  · obtain ⟨h, lo, hi, rfl, l0, l1, l2, hh, q⟩ := h
    refine ⟨_, (pss_cons (ps_set (i := 3) sc_web.nd rfl (.inl rfl) (pe_op op_add (pv 1) (pe_op op_mod (pe_call (ok_next T) (hr.mono (by decide)) (by rfl) T.next.g T.next.F.kp T.next.b .nil pass0 (pa_cons (pv 0) pa_nil)) (pe_op op_add (pe_op op_sub (pv 2) (pv 1)) pe_int))))
      (pss_cons (ps_set (i := 4) sc_web.nd rfl (.inr rfl) pe_str)
      (pss_cons (ps_set (i := 5) sc_web.nd rfl (.inr rfl) (pe_op op_mod (pe_call (ok_next T) (hr.mono (by decide)) (by rfl) T.next.g T.next.F.kp T.next.b .nil pass0 (pa_cons (pv 0) pa_nil)) pe_int))
      (pss_cons (ps_set (i := 6) sc_web.nd rfl (.inr rfl) (pe_ix ix_list (pe_lst (pa_cons pe_int (pa_cons pe_int (pa_cons pe_int (pa_cons pe_int (pa_cons pe_int (pa_cons pe_int pa_nil))))))) (pe_op op_mod (pe_call (ok_next T) (hr.mono (by decide)) (by rfl) T.next.g T.next.F.kp T.next.b .nil pass0 (pa_cons (pv 0) pa_nil)) pe_int) (fun _ _ => rfl)))
      (pss_cons (ps_set (i := 7) sc_web.nd rfl (.inl rfl) (pe_join pe_str (pe_lc (own := [("k", 15)]) (g := gName 15) (tt := tYes) rfl sc_web.nd (pi_range1 (by rfl) T.m_range (pa_cons (pv 3) pa_nil)) (blkOk_by (N := ["purse", "least", "most", "many", "letters", "first", "wide", "kinds", "tied", "sorts", "share", "ties", "place", "other", "drawn", "k"]) (sc := defScope s_web) (by decide +kernel)) (fun _ _ _ _ _ => (pg_name (i := 15) sc_web.nd rfl (.inl rfl))) (fun _ _ _ _ _ => pts_nil) (fun _ _ _ _ _ => (pe_ix ix_str (pv 4) (pe_op op_mod (pe_op op_add (pv 5) (pe_op op_mod (pe_call (ok_next T) (hr.mono (by decide)) (by rfl) T.next.g T.next.F.kp T.next.b .nil pass0 (pa_cons (pv 0) pa_nil)) (pv 6))) pe_int) (fun _ _ => rfl))))))
      (pss_cons (ps_set (i := 8) sc_web.nd rfl (.inl rfl) (pe_op op_mod (pe_call (ok_next T) (hr.mono (by decide)) (by rfl) T.next.g T.next.F.kp T.next.b .nil pass0 (pa_cons (pv 0) pa_nil)) pe_int))
      (pss_cons (ps_set (i := 9) sc_web.nd rfl (.inl rfl) (pe_ix ix_list (pe_lst (pa_cons pe_int (pa_cons pe_int (pa_cons pe_int (pa_cons pe_int (pa_cons pe_int (pa_cons pe_int pa_nil))))))) (pe_op op_mod (pe_call (ok_next T) (hr.mono (by decide)) (by rfl) T.next.g T.next.F.kp T.next.b .nil pass0 (pa_cons (pv 0) pa_nil)) pe_int) (fun _ _ => rfl)))
      (pss_cons (ps_set (i := 10) sc_web.nd rfl (.inl rfl) (pe_ix ix_list (pe_lst (pa_cons pe_int (pa_cons pe_int (pa_cons pe_int (pa_cons pe_int (pa_cons pe_int (pa_cons pe_int pa_nil))))))) (pe_op op_mod (pe_call (ok_next T) (hr.mono (by decide)) (by rfl) T.next.g T.next.F.kp T.next.b .nil pass0 (pa_cons (pv 0) pa_nil)) pe_int) (fun _ _ => rfl)))
      (pss_cons (ps_set (i := 11) sc_web.nd rfl (.inl rfl) (pe_lst pa_nil))
      (pss_cons (ps_for PassesOwn.never rfl (pi_range1 (by rfl) T.m_range (pa_cons (pv 3) pa_nil)) (pg_name (i := 12) sc_web.nd rfl (.inl rfl))
        (pss_one (ps_for PassesOwn.never rfl (pi_range2 (by rfl) T.m_range (pa_cons (pe_op op_add (pv 12) pe_int) (pa_cons (pv 3) pa_nil))) (pg_name (i := 13) sc_web.nd rfl (.inl rfl))
          (pss_cons (ps_set (i := 14) sc_web.nd rfl (.inl rfl) (pe_call (ok_next T) (hr.mono (by decide)) (by rfl) T.next.g T.next.F.kp T.next.b .nil pass0 (pa_cons (pv 0) pa_nil)))
          (pss_one (ps_if (pt_cmpR op_lt (pe_op op_mod (pv 14) pe_int) (pv 10) (nomark _))
            (pss_one (ps_expr (pe_bm PySem.F.plainAttrs_list PySem.F.slot_list_append PySem.F.type_list_append mt_append (pv 11) (pa_cons (pe_tup (pa_cons (pv 12) (pa_cons (pv 13) (pa_cons (pe_ix ix_str (pv 4) (pe_op op_mod (pe_op op_add (pv 8) (pe_op op_mod (pe_op op_fdiv (pv 14) pe_int) (pv 9))) pe_int) (fun _ _ => rfl)) pa_nil)))) pa_nil))))
            pss_nil))))))
      (pss_one (ps_ret (pe_tup (pa_cons (pv 7) (pa_cons (pe_callTy call_tuple_of (by rfl) T.m_tuple (by decide +kernel) (pa_cons (pv 11) pa_nil)) pa_nil))))))))))))))), ?_⟩
    walk_at "rd"
    refine ⟨h, rfl, hh, fun H1 g1 k1 hh1 => ?_⟩
    walk_at "rd"
    have a1 := mod_lo g1 (show 0 < hi - lo + 1 by omega)
    have b1 := mod_hi g1 (show 0 < hi - lo + 1 by omega)
    refine ⟨_, _, rfl, rfl, by omega, ?_⟩
    walk_at "rd"
    dsimp only
    generalize hn : lo + g1 % (hi - lo + 1) = n
    have n0 : 0 ≤ n := by omega
    have n40 : n ≤ 40 := by omega
    refine ⟨h, rfl, hh1, fun H2 g2 k2 hh2 => ?_⟩
    walk_at "rd"
    have a2 := mod_lo g2 (show 0 < (23 : Int) by decide)
    dsimp only
    generalize g2 % 23 = fst_ at a2
    refine ⟨sz (by decide), fun p3 f3 => ?_⟩
    walk_at "rd"
    refine ⟨h, rfl, hh2.put (hh2.ne f3), fun H3 g3 k3 hh3 => ?_⟩
    have e3 := k3 p3 _ (hh2.ne f3) upd_same
    walk_at "rd"
    obtain ⟨wd, ew, mw, w0, w1⟩ := one_of (ns := [1, 1, 2, 3, 5, 26]) (B := 26) (by decide) (n := 6) rfl (mod_lo g3 (by decide)) (mod_hi g3 (by decide))
    have w0 : 0 < wd := by
      simp only [List.mem_cons, List.not_mem_nil, or_false] at mw
      omega
    refine d_ixLm e3 ew ?_
    have kA : Keep h H H3 := Keep.trans k1 (Keep.trans k2 (Keep.trans (Same.keep (same_new f3)) k3))
    walk_at "rd"
    intro D fD
    have nD := hh3.ne fD
    refine lc_range (fun i H' => ∃ cs : List Nat, cs.length = i ∧ (∀ c ∈ cs, Ltr c) ∧ H' D = some (.lst (cs.map fun c => V.str (sg c))) ∧ Keep h H3 H' ∧ Purse H' h) ⟨[], rfl, by simp, upd_same, Same.keep (same_new fD), hh3.put nD⟩ (fun i H' hi8 hP => ?_) (fun H' hP => ?_)
    · obtain ⟨cs, hlen, hl, eD, kk, hh'⟩ := hP
      walk_at "rd"
      refine ⟨h, rfl, hh', fun H4 g k4 hh4 => ?_⟩
      walk_at "rd"
      have gm := mod_lo g w0
      obtain ⟨c, ec, lc⟩ := abc_at (mod_lo (fst_ + g % wd) (show 0 < (26 : Int) by decide)) (mod_hi (fst_ + g % wd) (by decide))
      refine ⟨abc, _, c, rfl, rfl, sz (by decide +kernel), ec, ?_⟩
      refine ⟨_, k4 D _ nD eD, szl (by rw [List.length_map]; omega), cs ++ [c], by rw [List.length_append, hlen]; rfl, ?_, by rw [upd_same, List.map_append]; rfl, Keep.new (Keep.trans kk k4) fD, hh4.put nD⟩
      intro x hx
      rcases List.mem_append.mp hx with hx | hx
      · exact hl x hx
      · rw [List.mem_singleton.mp hx]; exact lc
    obtain ⟨cs, hlen, hl, eD, kk, hh'⟩ := hP
    refine ⟨_, D, cs.map sg, rfl, rfl, .inl (SqL.of (by rw [List.map_map]; exact eD)), ?_, ?_⟩
    · rw [sum_const _ 1 _ (by intro x hx; obtain ⟨c, _, rfl⟩ := List.mem_map.mp hx; rfl), List.length_map]
      have e0 : (Str.ofString "").length = 0 := by decide +kernel
      rw [e0]; omega
    rw [join_signs]
    walk_at "rd"
    refine ⟨h, rfl, hh', fun H4 g4 k4 hh4 => ?_⟩
    walk_at "rd"
    have a4 := mod_lo g4 (show 0 < (23 : Int) by decide)
    dsimp only
    generalize g4 % 23 = td at a4
    refine ⟨sz (by decide), fun p5 f5 => ?_⟩
    walk_at "rd"
    refine ⟨h, rfl, hh4.put (hh4.ne f5), fun H5 g5 k5 hh5 => ?_⟩
    have e5 := k5 p5 _ (hh4.ne f5) upd_same
    walk_at "rd"
    obtain ⟨so, es, ms, s0, s1⟩ := one_of (ns := [1, 1, 2, 3, 5, 26]) (B := 26) (by decide) (n := 6) rfl (mod_lo g5 (by decide)) (mod_hi g5 (by decide))
    have s0 : 0 < so := by
      simp only [List.mem_cons, List.not_mem_nil, or_false] at ms
      omega
    refine d_ixLm e5 es ?_
    walk_at "rd"
    refine ⟨sz (by decide), fun p6 f6 => ?_⟩
    walk_at "rd"
    refine ⟨h, rfl, hh5.put (hh5.ne f6), fun H6 g6 k6 hh6 => ?_⟩
    have e6 := k6 p6 _ (hh5.ne f6) upd_same
    walk_at "rd"
    obtain ⟨sh, esh, _, _, _⟩ := one_of (ns := [0, 1, 2, 2, 3, 5]) (B := 26) (by decide) (n := 6) rfl (mod_lo g6 (by decide)) (mod_hi g6 (by decide))
    refine d_ixLm e6 esh ?_
    walk_at "rd"
    have kB : Keep h H H6 := Keep.trans kA (Keep.trans kk (Keep.trans k4 (Keep.trans (Same.keep (same_new f5)) (Keep.trans k5 (Keep.trans (Same.keep (same_new f6)) k6)))))
    refine ⟨sz (by decide), fun l fl => ?_⟩
    walk_at "rd"
    have nl := hh6.ne fl
    refine for_range (fun i σ H7 => ∃ y12 y13 y14 y15 ts tvs, σ = [some (.ref h), some (.int lo), some (.int hi), some (.int n), some (.str abc), some (.int fst_), some (.int wd), some (.str ⟨cs.toArray⟩), some (.int td), some (.int so), some (.int sh), some (.ref l), y12, y13, y14, y15] ∧ H7 l = some (.lst tvs) ∧ Paired (TieAt K H7) tvs ts ∧ ts.Pairwise tlt ∧
      (∀ t ∈ ts, t.1 < i ∧ t.1 < t.2.1 ∧ t.2.1 < n.toNat ∧ Ltr t.2.2) ∧ ts.length ≤ 40 * i ∧ Keep h H6 H7 ∧ Purse H7 h) ⟨_, _, _, _, [], [], rfl, upd_same, .nil, .nil, by simp, by simp, Same.keep (same_new fl), hh6.put nl⟩ (fun i σ H7 hi7 hP => ?_) (fun σ H7 hP => ?_)
    · obtain ⟨y12, y13, y14, y15, ts, tvs, rfl, eL, pT, sT, bT, lT, k7, hh7⟩ := hP
      walk_at "rd"
      refine for_range (fun j σ H8 => ∃ y13 y14 y15 ts tvs, σ = [some (.ref h), some (.int lo), some (.int hi), some (.int n), some (.str abc), some (.int fst_), some (.int wd), some (.str ⟨cs.toArray⟩), some (.int td), some (.int so), some (.int sh), some (.ref l), some (.int (0 + (i : Nat))), y13, y14, y15] ∧ H8 l = some (.lst tvs) ∧ Paired (TieAt K H8) tvs ts ∧ ts.Pairwise tlt ∧
        (∀ t ∈ ts, (t.1 < i ∨ (t.1 = i ∧ t.2.1 < i + 1 + j)) ∧ t.1 < t.2.1 ∧ t.2.1 < n.toNat ∧ Ltr t.2.2) ∧ ts.length ≤ 40 * i + j ∧ Keep h H6 H8 ∧ Purse H8 h) ⟨_, _, _, ts, tvs, rfl, eL, pT, sT, fun t ht => ⟨.inl (bT t ht).1, (bT t ht).2⟩, lT, k7, hh7⟩ (fun j σ H8 hj hP => ?_) (fun σ H8 hP => ?_)
      · obtain ⟨z13, z14, z15, us, uvs, rfl, eL8, pU, sU, bU, lU, k8, hh8⟩ := hP
        walk_at "rd"
        refine ⟨h, rfl, hh8, fun H9 g9 k9 hh9 => ?_⟩
        have eL9 := k9 l _ nl eL8
        obtain ⟨n8, e8, _⟩ := id hh8
        have pU9 : Paired (TieAt K H9) uvs us := Paired.imp pU fun _ _ z => z.keep k9 e8
        walk_at "rd"
        refine ite2 (fun e => ?_) (fun e => ?_)
        · walk_at "rd"
          refine d_app eL9 ?_
          walk_at "rd"
          obtain ⟨c, ec, lc⟩ := abc_at (mod_lo (td + g9 / 5 % so) (show 0 < (26 : Int) by decide)) (mod_hi (td + g9 / 5 % so) (by decide))
          refine ⟨abc, _, c, rfl, rfl, sz (by decide +kernel), ec, ?_⟩
          walk_at "rd"
          refine ⟨sz (by show 3 ≤ 100000; decide), fun p fp => ?_⟩
          walk_at "rd"
          have npl : l ≠ p := ne_of_none eL9 fp
          have eLa : (upd H9 p (.tup [V.int (0 + (i : Nat)), V.int (0 + (i : Nat) + 1 + (j : Nat)), V.str (sg c)])) l = some (.lst uvs) := by rw [upd_ne npl]; exact eL9
          have luv : uvs.length = us.length := Paired.length pU
          refine d_append eLa (szl (by omega)) ?_
          refine ⟨_, _, _, us ++ [(i, i + 1 + j, c)], uvs ++ [.ref p], rfl, upd_same, ?_, ?_, ?_, ?_, ?_, ?_⟩
          · have lst9 : ∃ ys, (upd H9 p (.tup [V.int (0 + (i : Nat)), V.int (0 + (i : Nat) + 1 + (j : Nat)), V.str (sg c)])) l = some (.lst ys) := ⟨_, eLa⟩
            refine Paired.snoc (Paired.imp pU9 fun _ _ z => (z.put (.inl fp)).put (.inr lst9)) ⟨p, rfl, ?_⟩
            refine sqt_upd (.inr lst9) (SqT.of ?_)
            rw [upd_same]
            simp only [Int.zero_add]
            rfl
          · refine List.pairwise_append.mpr ⟨sU, List.pairwise_singleton _ _, fun a ha b hb => ?_⟩
            rw [List.mem_singleton.mp hb]
            rcases (bU a ha).1 with z | ⟨z1, z2⟩
            · exact .inl z
            · exact .inr ⟨z1, z2⟩
          · intro t ht
            rcases List.mem_append.mp ht with ht | ht
            · obtain ⟨z1, z2⟩ := bU t ht
              refine ⟨?_, z2⟩
              rcases z1 with z | ⟨z3, z4⟩
              · exact .inl z
              · exact .inr ⟨z3, by omega⟩
            · rw [List.mem_singleton.mp ht]
              exact ⟨.inr ⟨rfl, by show i + 1 + j < i + 1 + (j + 1); omega⟩, by show i < i + 1 + j; omega, by show i + 1 + j < n.toNat; omega, lc⟩
          · rw [List.length_append]
            show us.length + 1 ≤ 40 * i + (j + 1)
            omega
          · exact Keep.new (Keep.new (Keep.trans k8 k9) (Keep.free (Keep.trans k8 k9) (hh9.ne fp) fp)) fl
          · exact (hh9.put (hh9.ne fp)).put nl
        · walk_at "rd"
          exact ⟨_, _, _, us, uvs, rfl, eL9, pU9, sU, fun t ht => ⟨(bU t ht).1.imp id fun z => ⟨z.1, by omega⟩, (bU t ht).2⟩, by omega, Keep.trans k8 k9, hh9⟩
      · obtain ⟨z13, z14, z15, us, uvs, rfl, eL8, pU, sU, bU, lU, k8, hh8⟩ := hP
        refine ⟨_, _, _, _, us, uvs, rfl, eL8, pU, sU, fun t ht => ⟨?_, (bU t ht).2⟩, by omega, k8, hh8⟩
        rcases (bU t ht).1 with z | ⟨z, _⟩ <;> omega
    · obtain ⟨y12, y13, y14, y15, ts, tvs, rfl, eL, pT, sT, bT, lT, k7, hh7⟩ := hP
      walk_at "rd"
      refine ⟨l, tvs, rfl, .inl ⟨SqL.of eL, fun t ft => ?_⟩⟩
      walk_at "rd"
      refine ⟨sz (by show 2 ≤ 100000; decide), fun a fa => ?_⟩
      refine q _ _ (cs, ts) ?_ ?_ ?_ ⟨by show cs.length ≤ 40; omega, by show ts.length ≤ 1600; omega, hl, sT, fun t ht => ⟨(bT t ht).2.1, by show t.2.1 < cs.length; rw [hlen]; exact (bT t ht).2.2.1, (bT t ht).2.2.2⟩⟩ (by show ((cs.length : Nat) : Int) ≤ hi; omega)
      · exact Keep.same (Keep.same (Keep.trans kB k7) (same_new ft)) (same_new fa)
      · exact (hh7.put (hh7.ne ft)).put ((hh7.put (hh7.ne ft)).ne fa)
      · exact ⟨a, t, tvs, rfl, SqT.of upd_same, sqt_upd (.inl fa) (SqT.of upd_same), Paired.imp pT fun _ _ z => (z.put (.inl ft)).put (.inl fa)⟩
/-- the places in a drawn order -/
def spOrder : Sp := fun vs H Q _ => ∃ (h : Addr) (n : Int), vs = [.ref h, .int n] ∧ 0 ≤ n ∧ n ≤ 1000 ∧ Purse H h ∧ ∀ H' (p : Addr) (qs : List Nat), Keep h H H' → Purse H' h → H p = none → H' p = some (.lst (qs.map fun q => V.int (q : Nat))) → qs.Perm (List.range n.toNat) → Q (.ref p) H'
theorem ok_order (T : Tx K mg base) : FnOk P w K mg base CX0 2 T.order.f T.order.fd ["purse", "many"] spOrder := by
  refine T.order.F.ok sc_order (fun vs H Q E h => ?_) (fun cdv A outer s H vs Q E hr h => ?_)
  · obtain ⟨h, n, rfl, _⟩ := h; rfl
  · obtain ⟨h, n, rfl, n0, n1, hh, q⟩ := h
    refine ⟨_, (pss_cons (ps_set (i := 2) sc_order.nd rfl (.inr rfl) (pe_listRg rfl (by rfl) T.m_list (prg_1 (by rfl) T.m_range (pv 1))))
      (pss_one (ps_ret (pe_lc (own := [("k", 3)]) (g := gName 3) (tt := tYes) (te := tBM K "list" rPopAt (tVar 2) (tCons (tOp (rI (fun _ j => 0 < j) fun i j => .int (i % j)) (tCall spNext [] E0 (tCons (tVar 0) tNil)) (tCB (Evl.rLenS K) (tCons (tVar 2) tNil))) tNil)) rfl sc_order.nd (pi_range1 (by rfl) T.m_range (pa_cons (pv 1) pa_nil)) (blkOk_by (N := ["purse", "many", "left", "k"]) (sc := defScope s_order) (by decide +kernel)) (fun _ _ _ _ _ => (pg_name (i := 3) sc_order.nd rfl (.inl rfl))) (fun _ _ _ _ _ => pts_nil) (fun _ _ _ _ _ => (pe_bm PySem.F.plainAttrs_list PySem.F.slot_list_pop PySem.F.type_list_pop mt_popAt (pv 2) (pa_cons (pe_op op_mod (pe_call (ok_next T) (hr.mono (by decide)) (by rfl) T.next.g T.next.F.kp T.next.b .nil pass0 (pa_cons (pv 0) pa_nil)) (pe_callB call_len_seq (by rfl) T.m_len (by decide +kernel) (pa_cons (pv 2) pa_nil))) pa_nil))))))), ?_⟩
    walk_at "rd"
    refine ⟨RgOk.of_le (by omega) (by omega) (by omega) (by omega), fun L fL => ?_⟩
    walk_at "rd"
    have nL := hh.ne fL
    have hh1 := hh.put (o := .lst (rgV 0 n)) nL
    have eL := upd_same (H := H) (a := L) (o := .lst (rgV 0 n))
    rw [rgV_nats] at eL hh1
    have s1 := same_new (o := .lst ((List.range n.toNat).map fun q => V.int (q : Nat))) fL
    intro D fD
    have nD := (show Purse _ h from by rw [rgV_nats]; exact hh1).ne fD
    have nLD : L ≠ D := ne_of_none (upd_same (H := H) (a := L) (o := .lst (rgV 0 n))) fD
    rw [rgV_nats] at fD ⊢
    refine lc_range (fun i H' => ∃ gs ls : List Nat, gs.length = i ∧ (gs ++ ls).Perm (List.range n.toNat) ∧ H' D = some (.lst (gs.map fun q => V.int (q : Nat))) ∧ H' L = some (.lst (ls.map fun q => V.int (q : Nat))) ∧ Keep h H H' ∧ Purse H' h)
      ⟨[], List.range n.toNat, rfl, List.Perm.refl _, upd_same, at_upd eL fD, Keep.new (Same.keep s1) (Same.free s1 fD), hh1.put nD⟩ (fun i H' hi hP => ?_) (fun H' hP => ?_)
    · obtain ⟨gs, ls, lg, pm, eD, eL', kk, hh'⟩ := hP
      have lsum := pm.length_eq
      rw [List.length_append, List.length_range] at lsum
      have hi' : i < n.toNat := by omega
      walk_at "rd"
      refine ⟨.inl ⟨rfl, _, SqL.of eL'⟩, ?_⟩
      walk_at "rd"
      refine ⟨h, rfl, hh', fun H2 g k2 hh2 => ?_⟩
      walk_at "rd"
      have eL2 := k2 L _ nL eL'
      refine d_lenL (SqL.of eL2) ?_
      rw [List.length_map]
      refine ⟨_, _, rfl, rfl, by omega, ?_⟩
      walk_at "rd"
      have g0 := mod_lo g (show 0 < (ls.length : Int) by omega)
      have g1 := mod_hi g (show 0 < (ls.length : Int) by omega)
      dsimp only
      generalize g % (ls.length : Int) = g' at g0 g1 ⊢
      obtain ⟨m, rfl⟩ := Int.eq_ofNat_of_zero_le g0
      have hm : m < ls.length := by omega
      refine ⟨L, _, (m : Nat), m, .int (ls[m] : Nat), rfl, rfl, eL2, by omega, by omega, by rw [List.length_map]; exact seqIndex_of (by omega) (by omega), by rw [List.getElem?_map, List.getElem?_eq_getElem hm]; rfl, ?_⟩
      have eD2 := k2 D _ nD eD
      refine ⟨_, by rw [upd_ne nLD.symm]; exact eD2, szl (by rw [List.length_map]; omega), gs ++ [ls[m]], ls.eraseIdx m, by rw [List.length_append, lg]; rfl, ?_, by rw [upd_same, List.map_append]; rfl, ?_, ?_, ?_⟩
      · rw [List.append_assoc]
        exact (List.Perm.append_left gs (erase_perm ls m hm)).trans pm
      · rw [upd_ne nLD, upd_same]
        congr 2
        exact erase_map _ _ _
      · exact Keep.new (Keep.new (Keep.trans kk k2) fL) (Same.free s1 fD)
      · exact (hh2.put nL).put nD
    · obtain ⟨gs, ls, lg, pm, eD, eL', kk, hh'⟩ := hP
      have lsum := pm.length_eq
      rw [List.length_append, List.length_range] at lsum
      have e0 : ls = [] := List.eq_nil_of_length_eq_zero (by omega)
      subst e0
      rw [List.append_nil] at pm
      exact q H' D gs kk hh' (Same.free s1 fD) eD pm
theorem min_int (a b : Nat) : (if (b : Int) < (a : Int) then (b : Int) else (a : Int)) = ((min a b : Nat) : Int) := by split <;> omega
theorem max_int (a b : Nat) : (if (b : Int) > (a : Int) then (b : Int) else (a : Int)) = ((max a b : Nat) : Int) := by split <;> omega
/-- a web by other names: the place of each name is sought -/
def spTurned (K : PySem.W.Frag) : Sp := fun vs H Q _ => ∃ v w, ∃ (o : Addr) (qs : List Nat), vs = [v, .ref o] ∧ WebAt K H v w ∧ WOk w ∧ H o = some (.lst (qs.map fun q => V.int (q : Nat))) ∧ Ord qs w.1.length ∧
  ∀ H' (a t : Addr) tvs w', Same H H' → SqT K H' a [.str ⟨w'.1.toArray⟩, .ref t] → SqT K H' t tvs → Paired (TieAt K H') tvs w'.2 → WOk w' → Named w qs w' → Q (.ref a) H'
theorem ok_turned (T : Tx K mg base) : FnOk P w K mg base CX0 1 T.turned.f T.turned.fd ["web", "order"] (spTurned K) := by
  refine T.turned.F.ok sc_turned (fun vs H Q E h => ?_) (fun cdv A outer s H vs Q E hr h => ?_)
  · obtain ⟨_, _, _, _, rfl, _⟩ := h; rfl
  · obtain ⟨v, w, o, qs, rfl, ⟨a, b, tvs, rfl, q1, q2, pT⟩, W, eO, oo, q⟩ := h
    have lt : tvs.length = w.2.length := Paired.length pT
    have l16 := W.most
    have l40 := W.few
    have hl : (⟨w.1.toArray⟩ : Str).length = w.1.length := by show w.1.toArray.size = _; simp
    have lq := oo.len
    refine ⟨_, (pss_cons (ps_set (i := 2) sc_turned.nd rfl (.inl rfl) (pe_join pe_str (pe_lc (own := [("place", 4)]) (g := gName 4) (tt := tYes) (te := tOp rIxS (tOp (rIxT K) (tVar 0) (tC (.int 0))) (tBM K "list" (rIndex K) (tVar 1) (tCons (tVar 4) tNil))) rfl sc_turned.nd (pi_range1 (by rfl) T.m_range (pa_cons (pe_callB call_len_str (by rfl) T.m_len (by decide +kernel) (pa_cons (pe_ix ix_tup (pv 0) pe_int (fun _ _ => rfl)) pa_nil)) pa_nil)) (blkOk_by (N := ["web", "order", "kinds", "ties", "place", "other", "kind"]) (sc := defScope s_turned) (by decide +kernel)) (fun _ _ _ _ _ => (pg_name (i := 4) sc_turned.nd rfl (.inl rfl))) (fun _ _ _ _ _ => pts_nil) (fun _ _ _ _ _ => (pe_ix ix_str (pe_ix ix_tup (pv 0) pe_int (fun _ _ => rfl)) (pe_bm PySem.F.plainAttrs_list PySem.F.slot_list_index PySem.F.type_list_index mt_index (pv 1) (pa_cons (pv 4) pa_nil)) (fun _ _ => rfl))))))
      (pss_cons (ps_set (i := 3) sc_turned.nd rfl (.inl rfl) (pe_lst pa_nil))
      (pss_cons (ps_for PassesOwn.never rfl (pi_tup (pe_ix ix_tup (pv 0) pe_int (fun _ _ => rfl))) (pg_tup rfl (pgs_cons (pg_name (i := 4) sc_turned.nd rfl (.inl rfl)) (pgs_cons (pg_name (i := 5) sc_turned.nd rfl (.inl rfl)) (pgs_cons (pg_name (i := 6) sc_turned.nd rfl (.inl rfl)) pgs_nil))))
        (pss_one (ps_expr (pe_bm PySem.F.plainAttrs_list PySem.F.slot_list_append PySem.F.type_list_append mt_append (pv 3) (pa_cons (pe_tup (pa_cons (pe_callB (call_min2 rfl) (by rfl) T.m_min (by decide +kernel) (pa_cons (pe_ix ix_list (pv 1) (pv 4) (fun _ _ => rfl)) (pa_cons (pe_ix ix_list (pv 1) (pv 5) (fun _ _ => rfl)) pa_nil))) (pa_cons (pe_callB (call_max2 rfl) (by rfl) T.m_max (by decide +kernel) (pa_cons (pe_ix ix_list (pv 1) (pv 4) (fun _ _ => rfl)) (pa_cons (pe_ix ix_list (pv 1) (pv 5) (fun _ _ => rfl)) pa_nil))) (pa_cons (pv 6) pa_nil)))) pa_nil)))))
      (pss_one (ps_ret (pe_tup (pa_cons (pv 2) (pa_cons (pe_callTy call_tuple_of (by rfl) T.m_tuple (by decide +kernel) (pa_cons (pe_callB cr_sorted3 (by rfl) T.m_sorted (by decide +kernel) (pa_cons (pv 3) pa_nil)) pa_nil)) pa_nil)))))))), ?_⟩
    walk_at "rd"
    refine d_ixT q1 rfl ?_
    refine d_lenS (z := ⟨w.1.toArray⟩) (sz (by omega)) ?_
    rw [hl]
    walk_at "rd"
    intro D fD
    refine lc_range (fun i H' => ∃ cs : List Nat, cs.length = i ∧ (∀ p, p < w.1.length → qa qs p < i → cs[qa qs p]? = w.1[p]?) ∧ H' D = some (.lst (cs.map fun c => V.str (sg c))) ∧ Same H H') ⟨[], rfl, fun p _ h => absurd h (Nat.not_lt_zero _), upd_same, same_new fD⟩ (fun i H' hi hP => ?_) (fun H' hP => ?_)
    · obtain ⟨cs, hlen, hc, eD, sm⟩ := hP
      have hi' : i < w.1.length := hi
      obtain ⟨j, hj, ej⟩ := oo.onto hi'
      walk_at "rd"
      refine d_ixT (Same.sqt sm q1) rfl ?_
      walk_at "rd"
      have eO' := sm _ _ eO
      refine ⟨.inl ⟨rfl, _, SqL.of eO'⟩, ?_⟩
      walk_at "rd"
      have hq : ∀ m, m < w.1.length → (qs.map fun q => V.int (q : Nat))[m]? = some (.int (qa qs m : Nat)) := fun m hm => by
        rw [List.getElem?_map, qa_at (by omega)]; rfl
      refine ⟨o, _, _, j, _, rfl, rfl, SqL.of eO', rfl, ?_, hq j hj, ?_, fun m z' hm hz => ?_, ?_⟩
      · rw [List.all_map]
        exact List.all_eq_true.mpr fun _ _ => rfl
      · show ((qa qs j : Int) == 0 + (i : Int)) = true
        rw [ej, Int.zero_add]
        exact beq_self_eq_true _
      · rw [hq m (by omega)] at hz
        cases hz
        show ((qa qs m : Int) == 0 + (i : Int)) = false
        refine beq_eq_false_iff_ne.mpr fun z => ?_
        have : qa qs m = qa qs j := by rw [ej]; omega
        have := oo.inj (by omega) hj this
        omega
      have gj := List.getElem?_eq_getElem hj
      refine ⟨⟨w.1.toArray⟩, _, w.1[j], rfl, rfl, sz (by omega), atI_nat (by show w.1.toArray.toList[j]? = _; simp [gj]), ?_⟩
      refine ⟨_, eD, szl (by rw [List.length_map]; omega), cs ++ [w.1[j]], by rw [List.length_append, hlen]; rfl, fun p hp hlt => ?_, by rw [upd_same, List.map_append]; rfl, same_upd sm fD⟩
      rcases Nat.lt_or_ge (qa qs p) i with c | c
      · rw [List.getElem?_append_left (by omega)]
        exact hc p hp c
      · have e1 : qa qs p = i := by omega
        have e2 : p = j := oo.inj hp hj (by rw [e1, ej])
        subst e2
        rw [e1, List.getElem?_append_right (by omega), hlen, Nat.sub_self, gj]; rfl
    obtain ⟨cs, hlen, hc, eD, sm⟩ := hP
    have lcs : cs.length = w.1.length := hlen
    have hcs : ∀ p, p < w.1.length → cs[qa qs p]? = w.1[p]? := fun p hp => hc p hp (oo.lt' hp)
    refine ⟨_, D, cs.map sg, rfl, rfl, .inl (SqL.of (by rw [List.map_map]; exact eD)), ?_, ?_⟩
    · rw [sum_const _ 1 _ (by intro x hx; obtain ⟨c, _, rfl⟩ := List.mem_map.mp hx; rfl), List.length_map]
      have e0 : (Str.ofString "").length = 0 := by decide +kernel
      rw [e0]; omega
    rw [join_signs]
    walk_at "rd"
    refine ⟨sz (by decide), fun L fL => ?_⟩
    walk_at "rd"
    have s4 := same_upd (o := .lst []) sm (Same.free sm fL)
    refine d_ixT (Same.sqt s4 q1) rfl ?_
    refine d_iTe (Same.sqt s4 q2) ?_
    refine for_it (walk_tup (xs := tvs)) (fun i σ H5 => ∃ y4 y5 y6, ∃ es : List (Addr × Tie), σ = [some (.ref a), some (.ref o), some (.str ⟨cs.toArray⟩), some (.ref L), y4, y5, y6] ∧ Same H H5 ∧ H5 L = some (.lst (es.map fun e => V.ref e.1)) ∧ es.map (·.2) = (w.2.take i).map (mapTie qs) ∧ ∀ e ∈ es, H5 e.1 = some (.tup (triV ((e.2.1 : Int), (e.2.2.1 : Int), e.2.2.2))))
      ⟨_, _, _, [], rfl, s4, upd_same, rfl, by simp⟩ (fun i σ H5 hi hP => ?_) (fun i x σ H5' H5 hi hP hy => ?_) (fun σ H5 hP => ?_)
    · obtain ⟨_, _, _, _, _, s5, _⟩ := hP
      exact Same.sqt s5 q2
    · obtain ⟨z4, z5, z6, es, rfl, s5, eL5, ees, hes⟩ := hP
      obtain ⟨rfl, hx⟩ := hy
      obtain ⟨t, ht, a', rfl, qt⟩ := Paired.at pT hx
      have rt := W.ends t (List.mem_of_getElem? ht)
      refine d_gtup (Same.sqt s5 qt) rfl ?_
      walk_at "rd"
      refine d_app eL5 ?_
      walk_at "rd"
      have eO5 := s5 _ _ eO
      have g1 : atI (qs.map fun q => V.int (q : Nat)) (t.1 : Nat) = some (.int (qa qs t.1 : Nat)) := atI_nat (by rw [List.getElem?_map, qa_at (by omega)]; rfl)
      have g2 : atI (qs.map fun q => V.int (q : Nat)) (t.2.1 : Nat) = some (.int (qa qs t.2.1 : Nat)) := atI_nat (by rw [List.getElem?_map, qa_at (by omega)]; rfl)
      refine d_ixLm eO5 g1 ?_
      walk_at "rd"
      refine d_ixLm eO5 g2 ?_
      refine ⟨_, _, rfl, ?_⟩
      rw [min_int]
      walk_at "rd"
      refine d_ixLm eO5 g1 ?_
      walk_at "rd"
      refine d_ixLm eO5 g2 ?_
      refine ⟨_, _, rfl, ?_⟩
      rw [max_int]
      walk_at "rd"
      refine ⟨sz (by show 3 ≤ 100000; decide), fun p fp => ?_⟩
      have les : es.length ≤ 1600 := by
        have z := congrArg List.length ees
        rw [List.length_map, List.length_map] at z
        have := List.length_take_le i w.2
        omega
      walk_at "rd"
      refine d_append (at_upd eL5 fp) (szl (by rw [List.length_map]; omega)) ?_
      have npL : p ≠ L := fun z => by rw [z, eL5] at fp; cases fp
      refine ⟨_, _, _, es ++ [(p, mapTie qs t)], rfl, ?_, ?_, ?_, ?_⟩
      · exact same_upd (same_upd s5 (Same.free s5 fp)) (Same.free sm fL)
      · rw [upd_same, List.map_append]; rfl
      · rw [take_snoc ht, List.map_append, List.map_append, ees]; rfl
      · intro e he
        rcases List.mem_append.mp he with he | he
        · have h1 := hes e he
          have h2 : e.1 ≠ L := fun z => by rw [z, eL5] at h1; cases h1
          rw [upd_ne h2]
          exact at_upd h1 fp
        · rw [List.mem_singleton.mp he]
          show (upd _ L _) p = _
          rw [upd_ne npL, upd_same]; rfl
    · obtain ⟨z4, z5, z6, es, rfl, s5, eL5, ees, hes⟩ := hP
      rw [lt, List.take_length] at ees
      walk_at "rd"
      let es3 : List (Addr × Tri) := es.map fun e => (e.1, ((e.2.1 : Int), (e.2.2.1 : Int), e.2.2.2))
      refine ⟨L, es3, rfl, SqL.of (by rw [eL5]; show _ = some (HO.lst ((es.map _).map _)); rw [List.map_map]; rfl), fun e he => ?_, fun es' S pm srt fS => ?_⟩
      · obtain ⟨e0, he0, rfl⟩ := List.mem_map.mp he
        exact hes e0 he0
      walk_at "rd"
      refine ⟨S, _, rfl, .inl ⟨SqL.of upd_same, fun R fR => ?_⟩⟩
      walk_at "rd"
      refine ⟨sz (by show 2 ≤ 100000; decide), fun W' fW => ?_⟩
      let ts' : List Tie := es'.map fun e => (e.2.1.toNat, e.2.2.1.toNat, e.2.2.2)
      have back : ∀ e ∈ es', ∃ e0 ∈ es, e = (e0.1, ((e0.2.1 : Int), (e0.2.2.1 : Int), e0.2.2.2)) := fun e he => by
        obtain ⟨e0, he0, e1⟩ := List.mem_map.mp (pm.mem_iff.mp he)
        exact ⟨e0, he0, e1.symm⟩
      have pts : ts'.Perm (w.2.map (mapTie qs)) := by
        have z := pm.map fun e => ((e.2.1.toNat, e.2.2.1.toNat, e.2.2.2) : Tie)
        rw [← ees]
        have e2 : (es.map (fun e => (e.1, ((e.2.1 : Int), (e.2.2.1 : Int), e.2.2.2)))).map (fun e => ((e.2.1.toNat, e.2.2.1.toNat, e.2.2.2) : Tie)) = es.map (·.2) := by
          rw [List.map_map]; rfl
        rw [← e2]
        exact z
      have N : Named w qs (cs, ts') := ⟨lcs, hcs, pts⟩
      have srt' : ts'.Pairwise (fun x y => lexT ((y.1 : Int), (y.2.1 : Int), y.2.2) ((x.1 : Int), (x.2.1 : Int), x.2.2) = false) := by
        rw [List.pairwise_map] at srt
        show (es'.map _).Pairwise _
        rw [List.pairwise_map]
        refine srt.imp_of_mem fun {x y} hx hy hxy => ?_
        obtain ⟨e0, _, rfl⟩ := back x hx
        obtain ⟨e1, _, rfl⟩ := back y hy
        exact hxy
      have sf : Same H5 (upd (upd (upd H5 S (.lst (es'.map fun e => V.ref e.1))) R (.tup (es'.map fun e => V.ref e.1))) W' (.tup [V.str ⟨cs.toArray⟩, V.ref R])) := Same.trans (same_new fS) (Same.trans (same_new fR) (same_new fW))
      refine q _ W' R _ (cs, ts') (Same.trans s5 sf) (SqT.of upd_same) (SqT.of (at_upd upd_same fW)) ?_ (named_ok W oo N srt') N
      have go : ∀ l : List (Addr × Tri), (∀ e ∈ l, ∃ e0 ∈ es, e = (e0.1, ((e0.2.1 : Int), (e0.2.2.1 : Int), e0.2.2.2))) → Paired (TieAt K (upd (upd (upd H5 S (.lst (es'.map fun e => V.ref e.1))) R (.tup (es'.map fun e => V.ref e.1))) W' (.tup [V.str ⟨cs.toArray⟩, V.ref R]))) (l.map fun e => V.ref e.1) (l.map fun e => ((e.2.1.toNat, e.2.2.1.toNat, e.2.2.2) : Tie)) := by
        intro l
        induction l with
        | nil => intro _; exact .nil
        | cons x l ih =>
          intro hl
          obtain ⟨e0, he0, rfl⟩ := hl x List.mem_cons_self
          exact .cons ⟨e0.1, rfl, SqT.of (sf _ _ (hes e0 he0))⟩ (ih fun e he => hl e (List.mem_cons_of_mem _ he))
      exact go es' back
theorem d_catA {xs ys : List V} {a b : Addr} {H : Hp} {Q : VK} (ha : SqT K H a xs) (hb : SqT K H b ys) (hl : xs.length + ys.length ≤ sizeLine) (q : ∀ H' p, Same H H' → SqT K H' p (xs ++ ys) → Q (.ref p) H') : rCatA K (.ref a) (.ref b) H Q := by
  refine ⟨a, b, xs, ys, rfl, rfl, ha, hb, hl, fun e => ?_, fun _ e => ?_, fun _ _ p fp => ?_⟩
  · subst e
    exact q H b (Same.refl _) hb
  · subst e
    refine q H a (Same.refl _) ?_
    rw [List.append_nil]
    exact ha
  · exact q _ p (same_new fp) (SqT.of upd_same)
theorem cut_drop (xs : List V) (n : Nat) (h : n ≤ xs.length) : cutV xs (some (n : Nat)) none = xs.drop n := by
  unfold cutV
  have e : HT.sIx xs.length 0 (some ((n : Nat) : Int)) = min n xs.length := HT.sIx_nat xs.length 0 n
  rw [HT.sIx_none, e, Nat.min_eq_left h]
  exact List.take_of_length_le (by rw [List.length_drop]; omega)
theorem d_takeT {xs : List V} {a : Addr} {H : Hp} {Q : VK} {n : Nat} (ha : SqT K H a xs) (hn : n < xs.length) (q : ∀ p, H p = none → Q (.ref p) (upd H p (.tup (xs.take n)))) : rSlT K (.ref a) none (some ((n : Nat) : Int)) H Q := by
  refine ⟨a, xs, rfl, ha, fun z => ?_, fun p fp => ?_⟩
  · have e := HT.sIx_nat xs.length xs.length n
    rw [e] at z
    have := z.2
    omega
  · rw [cut_take xs n (by omega)]
    exact q p fp
theorem d_dropT {xs : List V} {a : Addr} {H : Hp} {Q : VK} {n : Nat} (ha : SqT K H a xs) (h0 : 0 < n) (hn : n ≤ xs.length) (q : ∀ p, H p = none → Q (.ref p) (upd H p (.tup (xs.drop n)))) : rSlT K (.ref a) (some ((n : Nat) : Int)) none H Q := by
  refine ⟨a, xs, rfl, ha, fun z => ?_, fun p fp => ?_⟩
  · have e := HT.sIx_nat xs.length 0 n
    rw [e] at z
    have := z.1
    omega
  · rw [cut_drop xs n hn]
    exact q p fp
theorem paired_take {α β : Type} {F : α → β → Prop} : ∀ {xs : List α} {ys : List β} (n : Nat), Paired F xs ys → Paired F (xs.take n) (ys.take n)
  | _, _, 0, _ => .nil
  | _, _, _ + 1, .nil => .nil
  | _, _, n + 1, .cons r t => .cons r (paired_take n t)
theorem paired_drop {α β : Type} {F : α → β → Prop} : ∀ {xs : List α} {ys : List β} (n : Nat), Paired F xs ys → Paired F (xs.drop n) (ys.drop n)
  | _, _, 0, r => r
  | _, _, _ + 1, .nil => .nil
  | _, _, n + 1, .cons _ t => paired_drop n t
theorem paired_app {α β : Type} {F : α → β → Prop} : ∀ {xs xs' : List α} {ys ys' : List β}, Paired F xs ys → Paired F xs' ys' → Paired F (xs ++ xs') (ys ++ ys')
  | _, _, _, _, .nil, s => s
  | _, _, _, _, .cons r t, s => .cons r (paired_app t s)
theorem WOk.sub {cs : List Nat} {ts us : List Tie} (W : WOk (cs, ts)) (s : us.Sublist ts) : WOk (cs, us) :=
  ⟨W.few, Nat.le_trans s.length_le W.most, W.kinds, W.rise.sublist s, fun t ht => W.ends t (s.subset ht)⟩
theorem tlt_ends {ts : List Tie} : ts.Pairwise tlt ↔ (ts.map ends).Pairwise (fun a b => a.1 < b.1 ∨ (a.1 = b.1 ∧ a.2 < b.2)) := by
  rw [List.pairwise_map]
  exact Iff.rfl
theorem WOk.kind {cs : List Nat} {ts : List Tie} (W : WOk (cs, ts)) {n : Nat} {t : Tie} (ht : ts[n]? = some t) {c : Nat} (hc : Ltr c) : WOk (cs, ts.take n ++ [(t.1, t.2.1, c)] ++ ts.drop (n + 1)) := by
  have hn := (List.getElem?_eq_some_iff.mp ht).1
  have e : ts = ts.take n ++ [t] ++ ts.drop (n + 1) := by
    obtain ⟨_, rfl⟩ := List.getElem?_eq_some_iff.mp ht
    rw [List.append_assoc]
    show ts = ts.take n ++ (ts[n] :: ts.drop (n + 1))
    rw [← List.drop_eq_getElem_cons hn, List.take_append_drop]
  have ee : (ts.take n ++ [(t.1, t.2.1, c)] ++ ts.drop (n + 1)).map Cw.ends = ts.map Cw.ends := by
    have z := congrArg (List.map Cw.ends) e
    rw [z]
    simp [Cw.ends]
  have el := congrArg List.length ee
  rw [List.length_map, List.length_map] at el
  refine ⟨W.few, by show List.length _ ≤ 1600; rw [el]; exact W.most, W.kinds, by rw [tlt_ends, ee, ← tlt_ends]; exact W.rise, fun u hu => ?_⟩
  rcases List.mem_append.mp hu with hu | hu
  · rcases List.mem_append.mp hu with hu | hu
    · exact W.ends u (List.mem_of_mem_take hu)
    · rw [List.mem_singleton.mp hu]
      have r := W.ends t (List.mem_of_getElem? ht)
      exact ⟨r.1, r.2.1, hc⟩
  · exact W.ends u (List.mem_of_mem_drop hu)
theorem WOk.letters {cs ds : List Nat} {ts : List Tie} (W : WOk (cs, ts)) (l : ds.length = cs.length) (h : ∀ c ∈ ds, Ltr c) : WOk (ds, ts) :=
  ⟨by show ds.length ≤ 40; rw [l]; exact W.few, W.most, h, W.rise, fun t ht => by have r := W.ends t ht; exact ⟨r.1, by show t.2.1 < ds.length; rw [l]; exact r.2.1, r.2.2⟩⟩
theorem shaped_tup {ds : List PyData} {k : Nat} (hk : k ≤ 63) (h : ∀ d ∈ ds, d.canLay0 = true ∧ d.depth ≤ k) : SeqAt.shaped (.tuple ds) = true := by
  obtain ⟨h1, h2⟩ := lay_all h
  have : PyData.depth (.tuple ds) ≤ 64 := by simp only [PyData.depth]; omega
  simp [SeqAt.shaped, PyData.canLay0, h1, this]
theorem dpa_ties {K : PySem.W.Frag} {H : Hp} : ∀ {xs : List V} {ts : List Tie}, Paired (TieAt K H) xs ts → DpAll K H xs (ts.map tieD)
  | _, _, .nil => .nil
  | _, _, .cons h t => by
    obtain ⟨a, rfl, q⟩ := h
    exact .cons (.tup q (.cons (.int _) (.cons (.int _) (.cons (.str _) .nil)))) (dpa_ties t)
/-- ties != () -/
theorem d_neT0 {H : Hp} {QB : VK} {a p : Addr} {tvs : List V} {ts : List Tie} (ha : SqT K H a tvs) (pT : Paired (TieAt K H) tvs ts) (hl : ∀ t ∈ ts, Ltr t.2.2) (ep : H p = some (.tup [])) (q : QB (.bl (!decide (ts.length = 0))) H) : rNeD K (.ref a) (.ref p) H QB := by
  refine ⟨.tuple (ts.map tieD), .tuple [], .tup ha (dpa_ties pT), .tup (SqT.of ep) .nil, shaped_tup (k := 1) (by decide) fun d hd => ?_, by decide, ?_⟩
  · obtain ⟨t, ht, rfl⟩ := List.mem_map.mp hd
    exact tieD_lay (hl t ht)
  · have e : PyData.eqv (.tuple (ts.map tieD)) (.tuple []) = decide (ts.length = 0) := by
      cases ts with
      | nil => rfl
      | cons c r => simp [PyData.eqv, PyData.eqvAll]
    rw [e]
    exact q
theorem str_app (xs ys : List Nat) : (⟨xs.toArray⟩ ++ ⟨ys.toArray⟩ : Str) = ⟨(xs ++ ys).toArray⟩ := str_ext (by show (xs.toArray ++ ys.toArray).toList = _; simp)
theorem str_take (xs : List Nat) (n : Nat) (h : n ≤ xs.length) : cutS ⟨xs.toArray⟩ none (some (n : Nat)) = ⟨(xs.take n).toArray⟩ := by
  have hl : (⟨xs.toArray⟩ : Str).length = xs.length := by show xs.toArray.size = _; simp
  unfold cutS
  have e : HT.sIx xs.length xs.length (some ((n : Nat) : Int)) = min n xs.length := HT.sIx_nat xs.length xs.length n
  rw [hl, HT.sIx_none, e, List.drop_zero, Nat.sub_zero, Nat.min_eq_left h]
theorem str_drop (xs : List Nat) (n : Nat) (h : n ≤ xs.length) : cutS ⟨xs.toArray⟩ (some (n : Nat)) none = ⟨(xs.drop n).toArray⟩ := by
  have hl : (⟨xs.toArray⟩ : Str).length = xs.length := by show xs.toArray.size = _; simp
  unfold cutS
  have e : HT.sIx xs.length 0 (some ((n : Nat) : Int)) = min n xs.length := HT.sIx_nat xs.length 0 n
  rw [hl, HT.sIx_none, e, Nat.min_eq_left h]
  congr 2
  exact List.take_of_length_le (by rw [List.length_drop]; exact Nat.le_refl _)
theorem str_len (xs : List Nat) : (⟨xs.toArray⟩ : Str).length = xs.length := by show xs.toArray.size = _; simp
/-- what a web near to another one has been made to, so far -/
def NearI (K : PySem.W.Frag) (h : Addr) (H H' : Hp) (cs : List Nat) (t : Addr) : Prop := ∃ tvs ts, SqT K H' t tvs ∧ Paired (TieAt K H') tvs ts ∧ WOk (cs, ts) ∧ Keep h H H' ∧ Purse H' h
def spNear (K : PySem.W.Frag) : Sp := fun vs H Q _ => ∃ (h : Addr) (v : V) (w : Web), vs = [.ref h, v] ∧ Purse H h ∧ WebAt K H v w ∧ WOk w ∧ ∀ H' v' w', Keep h H H' → Purse H' h → WebAt K H' v' w' → WOk w' → w'.1.length = w.1.length → Q v' H'
theorem ok_near (T : Tx K mg base) : FnOk P w K mg base CX0 3 T.near.f T.near.fd ["purse", "web"] (spNear K) := by
  refine T.near.F.ok sc_near (fun vs H Q E h => ?_) (fun cdv A outer s H vs Q E hr h => ?_)
  · obtain ⟨_, _, _, rfl, _⟩ := h; rfl
  · obtain ⟨h, v, w, rfl, hh, hw, W, q⟩ := h
    have l16 := W.most
    have l40 := W.few
    obtain ⟨a, b, tvs, rfl, q1, q2, pT⟩ := id hw
    refine ⟨_, (pss_cons (ps_asg (pe_call (ok_turned T) (hr.mono (by decide)) (by rfl) T.turned.g T.turned.F.kp T.turned.b .nil pass0 (pa_cons (pv 1) (pa_cons (pe_call (ok_order T) (hr.mono (by decide)) (by rfl) T.order.g T.order.F.kp T.order.b .nil pass0 (pa_cons (pv 0) (pa_cons (pe_callB call_len_str (by rfl) T.m_len (by decide +kernel) (pa_cons (pe_ix ix_tup (pv 1) pe_int (fun _ _ => rfl)) pa_nil)) pa_nil))) pa_nil))) (pg_tup rfl (pgs_cons (pg_name (i := 2) sc_near.nd rfl (.inl rfl)) (pgs_cons (pg_name (i := 3) sc_near.nd rfl (.inl rfl)) pgs_nil))))
      (pss_cons (ps_set (i := 4) sc_near.nd rfl (.inl rfl) (pe_op op_mod (pe_call (ok_next T) (hr.mono (by decide)) (by rfl) T.next.g T.next.F.kp T.next.b .nil pass0 (pa_cons (pv 0) pa_nil)) pe_int))
      (Evl.pss_cut (ps_if (PW.pt (pw_and (pt_cmpR op_eq (pv 4) pe_int (nomark _)) (pw_and1 (pt_cmpR (op_neD (hr.units)) (pv 3) (pe_tup pa_nil) (nomark _)))))
        (pss_cons (ps_set (i := 5) sc_near.nd rfl (.inl rfl) (pe_op op_mod (pe_call (ok_next T) (hr.mono (by decide)) (by rfl) T.next.g T.next.F.kp T.next.b .nil pass0 (pa_cons (pv 0) pa_nil)) (pe_callB call_len_seq (by rfl) T.m_len (by decide +kernel) (pa_cons (pv 3) pa_nil))))
        (pss_one (ps_set (i := 3) sc_near.nd rfl (.inl rfl) (pe_op op_catA (pe_slice sl_tup (pv 3) po_none (po_some (pv 5))) (pe_slice sl_tup (pv 3) (po_some (pe_op op_add (pv 5) pe_int)) po_none)))))
        pss_nil)
      (Evl.pss_cut (ps_if (PW.pt (pw_and (pt_cmpR op_eq (pv 4) pe_int (nomark _)) (pw_and1 (pt_cmpR (op_neD (hr.units)) (pv 3) (pe_tup pa_nil) (nomark _)))))
        (pss_cons (ps_set (i := 5) sc_near.nd rfl (.inl rfl) (pe_op op_mod (pe_call (ok_next T) (hr.mono (by decide)) (by rfl) T.next.g T.next.F.kp T.next.b .nil pass0 (pa_cons (pv 0) pa_nil)) (pe_callB call_len_seq (by rfl) T.m_len (by decide +kernel) (pa_cons (pv 3) pa_nil))))
        (pss_one (ps_set (i := 3) sc_near.nd rfl (.inl rfl) (pe_op op_catA (pe_op op_catA (pe_slice sl_tup (pv 3) po_none (po_some (pv 5))) (pe_tup (pa_cons (pe_op op_catA (pe_slice sl_tup (pe_ix ix_tup (pv 3) (pv 5) (fun _ _ => rfl)) po_none (po_some pe_int)) (pe_tup (pa_cons pe_str pa_nil))) pa_nil))) (pe_slice sl_tup (pv 3) (po_some (pe_op op_add (pv 5) pe_int)) po_none)))))
        pss_nil)
      (Evl.pss_cut (ps_if (PW.pt (pw_and (pt_cmpR op_eq (pv 4) pe_int (nomark _)) (pw_and1 (pt_cmpR op_ne (pv 2) pe_str (nomark _)))))
        (pss_cons (ps_set (i := 5) sc_near.nd rfl (.inl rfl) (pe_op op_mod (pe_call (ok_next T) (hr.mono (by decide)) (by rfl) T.next.g T.next.F.kp T.next.b .nil pass0 (pa_cons (pv 0) pa_nil)) (pe_callB call_len_str (by rfl) T.m_len (by decide +kernel) (pa_cons (pv 2) pa_nil))))
        (pss_one (ps_set (i := 2) sc_near.nd rfl (.inl rfl) (pe_op op_add_str (pe_op op_add_str (pe_slice sl_str (pv 2) po_none (po_some (pv 5))) (pe_ix ix_str (pv 2) pe_int (fun _ _ => rfl))) (pe_slice sl_str (pv 2) (po_some (pe_op op_add (pv 5) pe_int)) po_none)))))
        pss_nil)
      (pss_one (ps_ret (pe_tup (pa_cons (pv 2) (pa_cons (pv 3) pa_nil)))))))))), ?_⟩
    walk_at "rd"
    refine d_ixT q1 rfl ?_
    refine d_lenS (z := ⟨w.1.toArray⟩) (sz (by rw [str_len]; omega)) ?_
    rw [str_len]
    walk_at "rd"
    refine ⟨h, _, rfl, by omega, by omega, hh, fun H1 o qs k1 hh1 fo eo pm => ?_⟩
    walk_at "rd"
    obtain ⟨n0, e0, _⟩ := id hh
    refine ⟨_, w, o, qs, rfl, hw.keep k1 e0, W, eo, Ord.of pm, fun H2 a' t' tvs' w' s2 r1 r2 r3 W' NN => ?_⟩
    refine d_gtup r1 rfl ?_
    walk_at "rd"
    refine ⟨h, rfl, hh1.same s2, fun H3 g3 k3 hh3 => ?_⟩
    walk_at "rd"
    dsimp only
    generalize g3 % 5 = way
    obtain ⟨n2, e2, _⟩ := id (hh1.same s2)
    have I3 : NearI K h H H3 w'.1 t' := ⟨tvs', w'.2, k3.sqt e2 r2, Paired.imp r3 fun _ _ z => z.keep k3 e2, W', Keep.trans k1 (Keep.trans (Same.keep s2) k3), hh3⟩
    refine d_cut (fun σ H' => ∃ (t : Addr) (y5 : Option V), σ = [some (.ref h), some (.ref a), some (.str ⟨w'.1.toArray⟩), some (.ref t), some (.int way), y5] ∧ NearI K h H H' w'.1 t) ?_ (fun σ H' hP => ?_)
    · walk_at "rd"
      refine ite2 (fun c => ?_) (fun c => ?_)
      · walk_at "rd"
        obtain ⟨tv, ts, x1, x2, x3, x4, x5⟩ := I3
        refine ⟨sz (by decide), fun p1 f1 => ?_⟩
        have s4 := same_new (o := .tup []) f1
        refine d_neT0 (Same.sqt s4 x1) (Paired.imp x2 fun _ _ z => z.same s4) (fun t ht => (x3.ends t ht).2.2) upd_same ?_
        walk_at "rd"
        refine ite2 (fun c => ?_) (fun c => ?_)
        · have c0 : 0 < ts.length := by
            rcases Nat.eq_zero_or_pos ts.length with z | z
            · rw [z] at c; cases c
            · exact z
          have lt : tv.length = ts.length := Paired.length x2
          walk_at "rd"
          refine ⟨h, rfl, x5.same s4, fun H5 g5 k5 hh5 => ?_⟩
          walk_at "rd"
          obtain ⟨_, e5, _⟩ := id (x5.same s4)
          have y1 := k5.sqt e5 (Same.sqt s4 x1)
          have y2 := Paired.imp x2 fun _ _ z => (z.same s4).keep k5 e5
          refine d_lenT y1 ?_
          rw [lt]
          refine ⟨_, _, rfl, rfl, by omega, ?_⟩
          have m0 := mod_lo g5 (show 0 < (ts.length : Int) by omega)
          have m1 := mod_hi g5 (show 0 < (ts.length : Int) by omega)
          dsimp only
          generalize g5 % (ts.length : Int) = m at m0 m1 ⊢
          obtain ⟨j, rfl⟩ := Int.eq_ofNat_of_zero_le m0
          have hj : j < ts.length := by omega
          walk_at "rd"
          refine d_takeT y1 (by omega) fun p6 f6 => ?_
          have s6 := same_new (o := .tup (tv.take j)) f6
          walk_at "rd"
          refine d_dropT (n := j + 1) (Same.sqt s6 y1) (by omega) (by omega) fun p7 f7 => ?_
          have s7 := same_new (o := .tup (tv.drop (j + 1))) f7
          refine d_catA (SqT.of (s7 _ _ upd_same)) (SqT.of upd_same) (by rw [List.length_take, List.length_drop]; exact sz (by have l6 : ts.length ≤ 1600 := x3.most; omega)) fun H8 p8 s8 q8 => ?_
          walk_at "rd"
          have sA := Same.trans s6 (Same.trans s7 s8)
          have sub : (ts.take j ++ ts.drop (j + 1)).Sublist ts := by
            have z := List.Sublist.append (List.Sublist.refl (ts.take j)) (List.drop_sublist_drop_left ts (show j ≤ j + 1 by omega))
            rw [List.take_append_drop] at z
            exact z
          exact ⟨p8, _, rfl, _, ts.take j ++ ts.drop (j + 1), q8, paired_app (paired_take j (Paired.imp y2 fun _ _ z => z.same sA)) (paired_drop (j + 1) (Paired.imp y2 fun _ _ z => z.same sA)), x3.sub sub, Keep.trans x4 (Keep.trans (Same.keep s4) (Keep.same k5 sA)), hh5.same sA⟩
        · walk_at "rd"
          exact ⟨t', _, rfl, tv, ts, Same.sqt s4 x1, Paired.imp x2 fun _ _ z => z.same s4, x3, Keep.same x4 s4, x5.same s4⟩
      · walk_at "rd"
        exact ⟨t', _, rfl, I3⟩
    · obtain ⟨t, y5, rfl, I4⟩ := hP
      clear I3
      refine d_cut (fun σ H' => ∃ (t : Addr) (y5 : Option V), σ = [some (.ref h), some (.ref a), some (.str ⟨w'.1.toArray⟩), some (.ref t), some (.int way), y5] ∧ NearI K h H H' w'.1 t) ?_ (fun σ H' hP => ?_)
      · walk_at "rd"
        refine ite2 (fun c => ?_) (fun c => ?_)
        · walk_at "rd"
          obtain ⟨tv, ts, x1, x2, x3, x4, x5⟩ := I4
          refine ⟨sz (by decide), fun p1 f1 => ?_⟩
          have s4 := same_new (o := .tup []) f1
          refine d_neT0 (Same.sqt s4 x1) (Paired.imp x2 fun _ _ z => z.same s4) (fun t ht => (x3.ends t ht).2.2) upd_same ?_
          walk_at "rd"
          refine ite2 (fun c => ?_) (fun c => ?_)
          · have c0 : 0 < ts.length := by
              rcases Nat.eq_zero_or_pos ts.length with z | z
              · rw [z] at c; cases c
              · exact z
            have lt : tv.length = ts.length := Paired.length x2
            walk_at "rd"
            refine ⟨h, rfl, x5.same s4, fun H5 g5 k5 hh5 => ?_⟩
            walk_at "rd"
            obtain ⟨_, e5, _⟩ := id (x5.same s4)
            have y1 := k5.sqt e5 (Same.sqt s4 x1)
            have y2 := Paired.imp x2 fun _ _ z => (z.same s4).keep k5 e5
            refine d_lenT y1 ?_
            rw [lt]
            refine ⟨_, _, rfl, rfl, by omega, ?_⟩
            have m0 := mod_lo g5 (show 0 < (ts.length : Int) by omega)
            have m1 := mod_hi g5 (show 0 < (ts.length : Int) by omega)
            dsimp only
            generalize g5 % (ts.length : Int) = m at m0 m1 ⊢
            obtain ⟨j, rfl⟩ := Int.eq_ofNat_of_zero_le m0
            have hj : j < ts.length := by omega
            walk_at "rd"
            refine d_takeT y1 (by omega) fun p6 f6 => ?_
            have s6 := same_new (o := .tup (tv.take j)) f6
            have gv : tv[j]? = some (tv[j]'(by omega)) := List.getElem?_eq_getElem (by omega)
            obtain ⟨u, hu, au, eu, qu⟩ := Paired.at y2 gv
            rw [eu] at gv
            walk_at "rd"
            refine d_ixT (Same.sqt s6 y1) (atI_nat gv) ?_
            walk_at "rd"
            refine ⟨au, _, rfl, Same.sqt s6 qu, (show ¬ (HT.sIx 3 0 none = 0 ∧ HT.sIx 3 3 (some 2) = 3) by decide), fun p7 f7 => ?_⟩
            rw [show cutV [V.int (u.1 : Nat), V.int (u.2.1 : Nat), V.str (sg u.2.2)] none (some 2) = [V.int (u.1 : Nat), V.int (u.2.1 : Nat)] from rfl]
            have s7 := same_new (o := .tup [V.int (u.1 : Nat), V.int (u.2.1 : Nat)]) f7
            walk_at "rd"
            refine ⟨sz (by show 1 ≤ 100000; decide), fun p8 f8 => ?_⟩
            have s8 := same_new (o := .tup [V.str (Str.ofString "q")]) f8
            refine d_catA (SqT.of (s8 _ _ upd_same)) (SqT.of upd_same) (sz (by show 2 + 1 ≤ 100000; decide)) fun H9 p9 s9 q9 => ?_
            walk_at "rd"
            refine ⟨sz (by show 1 ≤ 100000; decide), fun pa fa => ?_⟩
            have sa := same_new (o := .tup [V.ref p9]) fa
            have s6a := Same.trans s7 (Same.trans s8 (Same.trans s9 sa))
            refine d_catA (SqT.of (s6a _ _ upd_same)) (SqT.of upd_same) (by rw [List.length_take]; exact sz (by have l6 : ts.length ≤ 1600 := x3.most; show min j tv.length + 1 ≤ 100000; omega)) fun Hb pb sb qb => ?_
            walk_at "rd"
            have sB := Same.trans s6 (Same.trans s6a sb)
            refine d_dropT (n := j + 1) (Same.sqt sB y1) (by omega) (by omega) fun pc fc => ?_
            have sc := same_new (o := .tup (tv.drop (j + 1))) fc
            refine d_catA (Same.sqt sc qb) (SqT.of upd_same) (by rw [List.length_append, List.length_take, List.length_drop]; exact sz (by have l6 : ts.length ≤ 1600 := x3.most; show min j tv.length + 1 + (tv.length - (j + 1)) ≤ 100000; omega)) fun Hd pd sd qd => ?_
            walk_at "rd"
            have sA := Same.trans sB (Same.trans sc sd)
            have mid : TieAt K Hd (.ref p9) (u.1, u.2.1, 113) := ⟨p9, rfl, Same.sqt (Same.trans sa (Same.trans sb (Same.trans sc sd))) q9⟩
            refine ⟨pd, _, rfl, _, ts.take j ++ [(u.1, u.2.1, 113)] ++ ts.drop (j + 1), qd, paired_app (paired_app (paired_take j (Paired.imp y2 fun _ _ z => z.same sA)) (.cons mid .nil)) (paired_drop (j + 1) (Paired.imp y2 fun _ _ z => z.same sA)), x3.kind hu ⟨by decide, by decide⟩, Keep.trans x4 (Keep.trans (Same.keep s4) (Keep.same k5 sA)), hh5.same sA⟩
          · walk_at "rd"
            exact ⟨t, _, rfl, tv, ts, Same.sqt s4 x1, Paired.imp x2 fun _ _ z => z.same s4, x3, Keep.same x4 s4, x5.same s4⟩
        · walk_at "rd"
          exact ⟨t, _, rfl, I4⟩
      · obtain ⟨t, y5, rfl, I5⟩ := hP
        clear I4
        refine d_cut (fun σ H' => ∃ (cs : List Nat) (y5 : Option V), σ = [some (.ref h), some (.ref a), some (.str ⟨cs.toArray⟩), some (.ref t), some (.int way), y5] ∧ cs.length = w'.1.length ∧ NearI K h H H' cs t) ?_ (fun σ H' hP => ?_)
        · walk_at "rd"
          refine ite2 (fun c => ?_) (fun c => ?_)
          · walk_at "rd"
            refine ⟨rfl, ?_⟩
            walk_at "rd"
            refine ite2 (fun c => ?_) (fun c => ?_)
            · have c0 : 0 < w'.1.length := by
                rcases Nat.eq_zero_or_pos w'.1.length with z | z
                · rw [List.eq_nil_of_length_eq_zero z] at c
                  exact absurd c (by decide +kernel)
                · exact z
              walk_at "rd"
              obtain ⟨tv, ts, x1, x2, x3, x4, x5⟩ := I5
              have f40 : w'.1.length ≤ 40 := x3.few
              refine ⟨h, rfl, x5, fun H5 g5 k5 hh5 => ?_⟩
              walk_at "rd"
              refine ⟨sz (by rw [str_len]; omega), ?_⟩
              rw [str_len]
              refine ⟨_, _, rfl, rfl, by omega, ?_⟩
              have m0 := mod_lo g5 (show 0 < (w'.1.length : Int) by omega)
              have m1 := mod_hi g5 (show 0 < (w'.1.length : Int) by omega)
              dsimp only
              generalize g5 % (w'.1.length : Int) = m at m0 m1 ⊢
              obtain ⟨j, rfl⟩ := Int.eq_ofNat_of_zero_le m0
              have hj : j < w'.1.length := by omega
              walk_at "rd"
              refine ⟨_, rfl, sz (by rw [str_len]; omega), ?_⟩
              rw [str_take _ _ (by omega)]
              walk_at "rd"
              have g0 := List.getElem?_eq_getElem c0
              refine ⟨⟨w'.1.toArray⟩, _, w'.1[0], rfl, rfl, sz (by rw [str_len]; omega), by show atI w'.1.toArray.toList ((0 : Nat) : Int) = _; exact atI_nat (by simp [g0]), ?_⟩
              refine ⟨_, _, rfl, rfl, ?_, ?_⟩
              · rw [str_len, List.length_take]
                show _ + 1 ≤ _
                exact sz (by omega)
              rw [show (⟨#[w'.1[0]]⟩ : Str) = ⟨[w'.1[0]].toArray⟩ from rfl, str_app]
              walk_at "rd"
              refine ⟨_, rfl, sz (by rw [str_len]; omega), ?_⟩
              rw [show ((j : Nat) : Int) + 1 = ((j + 1 : Nat) : Int) from rfl, str_drop _ _ (by omega)]
              refine ⟨_, _, rfl, rfl, ?_, ?_⟩
              · rw [str_len, str_len, List.length_append, List.length_take, List.length_drop]
                show _ + 1 + _ ≤ _
                exact sz (by omega)
              rw [str_app]
              walk_at "rd"
              obtain ⟨_, e5, _⟩ := id x5
              refine ⟨_, _, rfl, ?_, tv, ts, k5.sqt e5 x1, Paired.imp x2 fun _ _ z => z.keep k5 e5, x3.letters ?_ (fun c hc => ?_), Keep.trans x4 k5, hh5⟩
              · rw [List.length_append, List.length_append, List.length_take, List.length_drop]
                show _ + 1 + _ = _
                omega
              · rw [List.length_append, List.length_append, List.length_take, List.length_drop]
                show _ + 1 + _ = _
                omega
              · rcases List.mem_append.mp hc with hc | hc
                · rcases List.mem_append.mp hc with hc | hc
                  · exact x3.kinds c (List.mem_of_mem_take hc)
                  · rw [List.mem_singleton.mp hc]
                    exact x3.kinds _ (List.getElem_mem _)
                · exact x3.kinds c (List.mem_of_mem_drop hc)
            · walk_at "rd"
              exact ⟨_, _, rfl, rfl, I5⟩
          · walk_at "rd"
            exact ⟨_, _, rfl, rfl, I5⟩
        · obtain ⟨cs, y5, rfl, lcs, tv, ts, x1, x2, x3, x4, x5⟩ := hP
          walk_at "rd"
          refine ⟨sz (by show 2 ≤ 100000; decide), fun p1 f1 => ?_⟩
          exact q _ _ (cs, ts) (Keep.new x4 (Keep.free x4 (x5.ne f1) f1)) (x5.put (x5.ne f1)) ⟨p1, t, tv, rfl, SqT.of upd_same, sqt_upd (.inl f1) x1, Paired.imp x2 fun _ _ z => z.put (.inl f1)⟩ x3 (lcs.trans NN.len)
def spTwo (K : PySem.W.Frag) : Sp := fun vs H Q _ => ∃ (h : Addr) (n : Int), vs = [.ref h, .int n] ∧ 0 ≤ n ∧ n ≤ 40 ∧ Purse H h ∧ ∀ H' p v w v' w', Keep h H H' → Purse H' h → SqT K H' p [v, v'] → WebAt K H' v w → WOk w → WebAt K H' v' w' → WOk w' → (w.1.length : Int) ≤ n → (w'.1.length : Int) ≤ n → Q (.ref p) H'
theorem ok_two (T : Tx K mg base) : FnOk P w K mg base CX0 4 T.two.f T.two.fd ["purse", "most"] (spTwo K) := by
  refine T.two.F.ok sc_two (fun vs H Q E h => ?_) (fun cdv A outer s H vs Q E hr h => ?_)
  · obtain ⟨_, _, rfl, _⟩ := h; rfl
  · obtain ⟨h, n, rfl, n0, n1, hh, q⟩ := h
    refine ⟨_, (pss_cons (ps_set (i := 2) sc_two.nd rfl (.inr rfl) (pe_call (ok_web T) (hr.mono (by decide)) (by rfl) T.web.g T.web.F.kp T.web.b .nil pass0 (pa_cons (pv 0) (pa_cons pe_int (pa_cons (pv 1) pa_nil)))))
      (pss_cons (ps_if (pt_cmpR op_eq (pe_op op_mod (pe_call (ok_next T) (hr.mono (by decide)) (by rfl) T.next.g T.next.F.kp T.next.b .nil pass0 (pa_cons (pv 0) pa_nil)) pe_int) pe_int (nomark _))
        (pss_one (ps_ret (pe_tup (pa_cons (pv 2) (pa_cons (pe_call (ok_near T) (hr.mono (by decide)) (by rfl) T.near.g T.near.F.kp T.near.b .nil pass0 (pa_cons (pv 0) (pa_cons (pv 2) pa_nil))) pa_nil)))))
        pss_nil)
      (pss_cons (ps_set (i := 3) sc_two.nd rfl (.inl rfl) (pe_call (ok_web T) (hr.mono (by decide)) (by rfl) T.web.g T.web.F.kp T.web.b .nil pass0 (pa_cons (pv 0) (pa_cons pe_int (pa_cons (pv 1) pa_nil)))))
      (pss_cons (ps_if (pt_cmpR op_eq (pe_op op_mod (pe_call (ok_next T) (hr.mono (by decide)) (by rfl) T.next.g T.next.F.kp T.next.b .nil pass0 (pa_cons (pv 0) pa_nil)) pe_int) pe_int (nomark _))
        (pss_one (ps_set (i := 3) sc_two.nd rfl (.inl rfl) (pe_tup (pa_cons (pe_join pe_str (pe_lc (own := [("kind", 4)]) (g := gName 4) (tt := tYes) (te := tOp rIxS (tOp _ (tOp (rIxT K) (tVar 2) (tC (.int 0))) _) (tOp _ (tCall spNext [] E0 (tCons (tVar 0) tNil)) (tOp _ (tCB _ (tCons (tOp (rIxT K) (tVar 2) (tC (.int 0))) tNil)) _))) rfl sc_two.nd (pi_str (pe_ix ix_tup (pv 3) pe_int (fun _ _ => rfl))) (blkOk_by (N := ["purse", "most", "one", "other", "kind"]) (sc := defScope s_two) (by decide +kernel)) (fun _ _ _ _ _ => (pg_name (i := 4) sc_two.nd rfl (.inl rfl))) (fun _ _ _ _ _ => pts_nil) (fun _ _ _ _ _ => (pe_ix ix_str (pe_op op_add_str (pe_ix ix_tup (pv 2) pe_int (fun _ _ => rfl)) pe_str) (pe_op op_mod (pe_call (ok_next T) (hr.mono (by decide)) (by rfl) T.next.g T.next.F.kp T.next.b .nil pass0 (pa_cons (pv 0) pa_nil)) (pe_op op_add (pe_callB call_len_str (by rfl) T.m_len (by decide +kernel) (pa_cons (pe_ix ix_tup (pv 2) pe_int (fun _ _ => rfl)) pa_nil)) pe_int)) (fun _ _ => rfl))))) (pa_cons (pe_ix ix_tup (pv 3) pe_int (fun _ _ => rfl)) pa_nil)))))
        pss_nil)
      (pss_one (ps_ret (pe_tup (pa_cons (pv 2) (pa_cons (pv 3) pa_nil))))))))), ?_⟩
    walk_at "rd"
    refine ⟨h, 0, n, rfl, by decide, n0, n1, hh, fun H1 v1 w1 k1 hh1 hw1 W1 lw1 => ?_⟩
    obtain ⟨_, e0, _⟩ := id hh
    obtain ⟨_, e1, _⟩ := id hh1
    walk_at "rd"
    refine ⟨h, rfl, hh1, fun H2 g2 k2 hh2 => ?_⟩
    obtain ⟨_, e2, _⟩ := id hh2
    have hw2 := hw1.keep k2 e1
    walk_at "rd"
    refine ite2 (fun c => ?_) (fun c => ?_)
    · walk_at "rd"
      refine ⟨h, v1, w1, rfl, hh2, hw2, W1, fun H3 v3 w3 k3 hh3 hw3 W3 lw3 => ?_⟩
      walk_at "rd"
      refine ⟨sz (by show 2 ≤ 100000; decide), fun p fp => ?_⟩
      exact q _ p v1 w1 v3 w3 (Keep.same (Keep.trans k1 (Keep.trans k2 k3)) (same_new fp)) (hh3.put (hh3.ne fp)) (SqT.of upd_same) ((hw2.keep k3 e2).put (.inl fp)) W1 (hw3.put (.inl fp)) W3 lw1 (by rw [lw3]; exact lw1)
    · walk_at "rd"
      refine ⟨h, 0, n, rfl, by decide, n0, n1, hh2, fun H3 v3 w3 k3 hh3 hw3 W3 lw3 => ?_⟩
      obtain ⟨_, e3, _⟩ := id hh3
      walk_at "rd"
      refine ⟨h, rfl, hh3, fun H4 g4 k4 hh4 => ?_⟩
      have hw4 := (hw2.keep k3 e2).keep k4 e3
      have hv4 := hw3.keep k4 e3
      have k04 := Keep.trans k1 (Keep.trans k2 (Keep.trans k3 k4))
      walk_at "rd"
      refine ite2 (fun c => ?_) (fun c => ?_)
      · obtain ⟨a, b, tvs, rfl, q1, q2, pT⟩ := id hw4
        obtain ⟨a3, b3, uvs, rfl, r1, r2, pU⟩ := id hv4
        have l1 := W1.few
        have l3 := W3.few
        obtain ⟨_, e4, _⟩ := id hh4
        walk_at "rd"
        refine d_ixT r1 rfl ?_
        walk_at "rd"
        intro D fD
        have nD := hh4.ne fD
        have sz3 : (⟨w3.1.toArray⟩ : Str).cps.size = w3.1.length := by show w3.1.toArray.size = _; simp
        refine lc_it (walk_str (z := ⟨w3.1.toArray⟩)) (fun i H' => ∃ cs : List Nat, cs.length = i ∧ (∀ c ∈ cs, Ltr c) ∧ H' D = some (.lst (cs.map fun c => V.str (sg c))) ∧ Keep h H4 H' ∧ Purse H' h) ⟨[], rfl, by simp, upd_same, Same.keep (same_new fD), hh4.put nD⟩ (fun _ _ _ _ => trivial) (fun i x H5 H' hi hP hy => ?_) (fun H' hP => ?_)
        · obtain ⟨cs, hlen, hl, eD, kk, hh'⟩ := hP
          obtain ⟨rfl, c0, _, rfl⟩ := hy
          rw [sz3] at hi
          walk_at "rd"
          refine d_ixT (kk.sqt e4 q1) rfl ?_
          walk_at "rd"
          refine ⟨_, _, rfl, rfl, by rw [str_len]; exact sz (by show _ + 1 ≤ _; omega), ?_⟩
          rw [show (Str.ofString "a" : Str) = ⟨[97].toArray⟩ from rfl, str_app]
          walk_at "rd"
          refine ⟨h, rfl, hh', fun H6 g6 k6 hh6 => ?_⟩
          obtain ⟨_, e', _⟩ := id hh'
          walk_at "rd"
          refine d_ixT (k6.sqt e' (kk.sqt e4 q1)) rfl ?_
          refine d_lenS (z := ⟨w1.1.toArray⟩) (sz (by rw [str_len]; omega)) ?_
          rw [str_len]
          walk_at "rd"
          refine ⟨_, _, rfl, rfl, by omega, ?_⟩
          have m0 := mod_lo g6 (show 0 < (w1.1.length : Int) + 1 by omega)
          have m1 := mod_hi g6 (show 0 < (w1.1.length : Int) + 1 by omega)
          dsimp only
          generalize g6 % ((w1.1.length : Int) + 1) = m at m0 m1 ⊢
          obtain ⟨j, rfl⟩ := Int.eq_ofNat_of_zero_le m0
          have hj : j < (w1.1 ++ [97]).length := by rw [List.length_append]; show j < _ + 1; omega
          have gj := List.getElem?_eq_getElem hj
          refine ⟨_, _, (w1.1 ++ [97])[j], rfl, rfl, sz (by rw [str_len, List.length_append]; show _ + 1 ≤ _; omega), atI_nat (by show (w1.1 ++ [97]).toArray.toList[j]? = _; rw [List.toList_toArray]; exact gj), ?_⟩
          refine ⟨_, k6 D _ nD eD, szl (by rw [List.length_map]; omega), cs ++ [_], by rw [List.length_append, hlen]; rfl, ?_, by rw [upd_same, List.map_append]; rfl, Keep.new (Keep.trans kk k6) fD, hh6.put nD⟩
          intro x hx
          rcases List.mem_append.mp hx with hx | hx
          · exact hl x hx
          · rw [List.mem_singleton.mp hx]
            have lm : ∀ c ∈ w1.1 ++ [97], Ltr c := fun c hc => by
              rcases List.mem_append.mp hc with hc | hc
              · exact W1.kinds c hc
              · rw [List.mem_singleton.mp hc]; exact ⟨by decide, by decide⟩
            exact lm _ (List.getElem_mem hj)
        obtain ⟨cs, hlen, hl, eD, kk, hh'⟩ := hP
        rw [sz3] at hlen
        refine ⟨_, D, cs.map sg, rfl, rfl, .inl (SqL.of (by rw [List.map_map]; exact eD)), ?_, ?_⟩
        · rw [sum_const _ 1 _ (by intro x hx; obtain ⟨c, _, rfl⟩ := List.mem_map.mp hx; rfl), List.length_map]
          have e0 : (Str.ofString "").length = 0 := by decide +kernel
          rw [e0]; omega
        rw [join_signs]
        walk_at "rd"
        refine d_ixT (kk.sqt e4 r1) rfl ?_
        walk_at "rd"
        refine ⟨sz (by show 2 ≤ 100000; decide), fun p5 f5 => ?_⟩
        walk_at "rd"
        refine ⟨sz (by show 2 ≤ 100000; decide), fun p6 f6 => ?_⟩
        have s5 := same_new (o := .tup [V.str ⟨cs.toArray⟩, V.ref b3]) f5
        have s6 := same_new (o := .tup [V.ref a, V.ref p5]) f6
        have sA := Same.trans s5 s6
        refine q _ p6 _ w1 (.ref p5) (cs, w3.2) (Keep.same (Keep.trans k04 kk) sA) (hh'.same sA) (SqT.of upd_same) ((hw4.keep kk e4).same sA) W1 ⟨p5, b3, uvs, rfl, SqT.of (s6 _ _ upd_same), Same.sqt sA (kk.sqt e4 r2), Paired.imp pU fun _ _ z => (z.keep kk e4).same sA⟩ (W3.letters hlen hl) lw1 (by show ((cs.length : Nat) : Int) ≤ n; rw [hlen]; exact lw3)
      · walk_at "rd"
        refine ⟨sz (by show 2 ≤ 100000; decide), fun p fp => ?_⟩
        exact q _ p v1 w1 v3 w3 (Keep.same k04 (same_new fp)) (hh4.put (hh4.ne fp)) (SqT.of upd_same) (hw4.put (.inl fp)) W1 (hv4.put (.inl fp)) W3 lw1 lw3
/-- tie by tie, by their ends in order -/
theorem find_take {ts : List Tie} {f : Tie → Bool} {i : Nat} {t : Tie} (h : ts[i]? = some t) (n : (ts.take i).find? f = none) (ht : f t = true) : ts.find? f = some t := by
  have e : ts = ts.take i ++ t :: ts.drop (i + 1) := by
    obtain ⟨hi, rfl⟩ := List.getElem?_eq_some_iff.mp h
    exact (List.take_append_drop i ts).symm.trans (by rw [List.drop_eq_getElem_cons hi])
  rw [e, List.find?_append, n, Option.none_or, List.find?_cons_of_pos ht]
/-- ahead of a pair, as tuples are ordered -/
def ahd (m n : Nat) (t : Tie) : Bool := decide (t.1 < m ∨ (t.1 = m ∧ t.2.1 < n))
theorem ahd_lex (m n : Nat) (t : Tie) : HT.lexLt [(t.1 : Int), (t.2.1 : Int)] [(m : Int), (n : Int)] = ahd m n t := by
  unfold ahd
  rw [HT.lexLt_cons]
  by_cases e : (t.1 : Int) = (m : Int)
  · rw [if_pos e, HT.lexLt_cons]
    by_cases f : (t.2.1 : Int) = (n : Int)
    · rw [if_pos f, HT.lexLt_nil_nil]
      exact (decide_eq_false (by omega)).symm
    · rw [if_neg f]
      exact decide_eq_decide.mpr (by omega)
  · rw [if_neg e]
    exact decide_eq_decide.mpr (by omega)
theorem minmax_at2 {w : Web} (W : WOk w) {t : Tie} (ht : t ∈ w.2) (a b : Nat) : at2 a b t = true ↔ t.1 = min a b ∧ t.2.1 = max a b := by
  have r := (W.ends t ht).1
  rw [at2_iff]
  omega
/-- the least tie that is not ahead tells the kind -/
theorem half_found {w : Web} (W : WOk w) {a b lo : Nat} {t : Tie} (h1 : ∀ i u, i < lo → w.2[i]? = some u → ahd (min a b) (max a b) u = true) (ht : w.2[lo]? = some t) (e1 : t.1 = min a b) (e2 : t.2.1 = max a b) : tieL w.2 a b = some t.2.2 := by
  have hm := List.mem_of_getElem? ht
  have e := find_take (f := at2 a b) ht (List.find?_eq_none.mpr fun u hu => ?_) ((minmax_at2 W hm a b).mpr ⟨e1, e2⟩)
  · unfold tieL; rw [e]; rfl
  · obtain ⟨i, hi, hu'⟩ := List.getElem_of_mem hu
    have hi2 : i < lo := by rw [List.length_take] at hi; omega
    have g : w.2[i]? = some u := by
      rw [← hu', List.getElem_take]
      exact List.getElem?_eq_getElem _
    have z := of_decide_eq_true (h1 i u hi2 g)
    intro q
    have := (minmax_at2 W (List.mem_of_getElem? g) a b).mp q
    omega
theorem half_none {w : Web} (W : WOk w) {a b lo : Nat} (h1 : ∀ i u, i < lo → w.2[i]? = some u → ahd (min a b) (max a b) u = true) (h2 : ∀ i u, lo ≤ i → w.2[i]? = some u → ahd (min a b) (max a b) u = false)
    (hn : ∀ t, w.2[lo]? = some t → ¬ (t.1 = min a b ∧ t.2.1 = max a b)) : tieL w.2 a b = none := by
  refine tieL_none fun u hu => ?_
  cases q : at2 a b u with
  | false => rfl
  | true =>
    exfalso
    have z := (minmax_at2 W hu a b).mp q
    obtain ⟨i, hi⟩ := List.getElem?_of_mem hu
    rcases Nat.lt_trichotomy i lo with c | c | c
    · have := of_decide_eq_true (h1 i u c hi)
      omega
    · rw [c] at hi
      exact hn u hi z
    · have hl : lo < w.2.length := Nat.lt_trans c (List.getElem?_eq_some_iff.mp hi).1
      have g := List.getElem?_eq_getElem hl
      have y := of_decide_eq_false (h2 lo _ (Nat.le_refl _) g)
      have s := W.rise
      rw [List.pairwise_iff_getElem] at s
      obtain ⟨hi1, hi2⟩ := List.getElem?_eq_some_iff.mp hi
      have lt := s lo i hl hi1 c
      rw [hi2] at lt
      rcases lt with lt | lt <;> omega
/-- where the ties rise those ahead stand ahead -/
theorem ahd_down {w : Web} (W : WOk w) {m n i j : Nat} {t u : Tie} (hi : w.2[i]? = some t) (hj : w.2[j]? = some u) (l : i ≤ j) (h : ahd m n u = true) : ahd m n t = true := by
  rcases Nat.lt_or_ge i j with c | c
  · have s := W.rise
    rw [List.pairwise_iff_getElem] at s
    obtain ⟨i1, i2⟩ := List.getElem?_eq_some_iff.mp hi
    obtain ⟨j1, j2⟩ := List.getElem?_eq_some_iff.mp hj
    have lt := s i j i1 j1 c
    rw [i2, j2] at lt
    have z := of_decide_eq_true h
    refine decide_eq_true ?_
    rcases lt with lt | lt <;> omega
  · have : i = j := by omega
    subst this
    rw [hi] at hj
    cases hj
    exact h
def spTieOf (K : PySem.W.Frag) : Sp := fun vs H Q _ => ∃ v w, ∃ a b : Nat, vs = [v, .int (a : Nat), .int (b : Nat)] ∧ WebAt K H v w ∧ WOk w ∧ ∀ H', Same H H' → Q (optV (tieL w.2 a b)) H'
theorem min_intT (a b : Nat) : (if (b : Int) < (a : Int) then (b : Int) else (a : Int)) = ((min a b : Nat) : Int) := by split <;> omega
theorem max_intT (a b : Nat) : (if (b : Int) > (a : Int) then (b : Int) else (a : Int)) = ((max a b : Nat) : Int) := by split <;> omega
theorem half_mid {lo hi : Nat} : ((lo : Int) + (hi : Int)) / 2 = (((lo + hi) / 2 : Nat) : Int) := by omega
theorem ok_tie_of (T : Tx K mg base) : FnOk P w K mg base CX0 1 T.tie_of.f T.tie_of.fd ["web", "one", "other"] (spTieOf K) := by
  refine T.tie_of.F.ok sc_tie_of (fun vs H Q E h => ?_) (fun cdv A outer s H vs Q E hr h => ?_)
  · obtain ⟨v, w, a, b, rfl, _⟩ := h; rfl
  · obtain ⟨v, w, a, b, rfl, ⟨a0, tb, tvs, rfl, q1, q2, pT⟩, W, q⟩ := h
    have lt : tvs.length = w.2.length := Paired.length pT
    refine ⟨_, (pss_cons (ps_set (i := 3) sc_tie_of.nd rfl (.inl rfl) (pe_ix ix_tup (pv 0) pe_int (fun _ _ => rfl)))
      (pss_cons (ps_set (i := 4) sc_tie_of.nd rfl (.inl rfl) (pe_tup (pa_cons (pe_callB (call_min2 rfl) (by rfl) T.m_min (by decide +kernel) (pa_cons (pv 1) (pa_cons (pv 2) pa_nil))) (pa_cons (pe_callB (call_max2 rfl) (by rfl) T.m_max (by decide +kernel) (pa_cons (pv 1) (pa_cons (pv 2) pa_nil))) pa_nil))))
      (pss_cons (ps_par (i := 5) (j := 6) rfl sc_tie_of.nd rfl rfl (by decide) rfl rfl (pa_cons pe_int (pa_cons (pe_callB call_len_seq (by rfl) T.m_len (by decide +kernel) (pa_cons (pv 3) pa_nil)) pa_nil)) (by rfl))
      (pss_cons (ps_while PassesOwn.never (pt_cmpR op_lt (pv 5) (pv 6) (nomark _))
        (pss_cons (ps_set (i := 7) sc_tie_of.nd rfl (.inl rfl) (pe_op op_fdiv (pe_op op_add (pv 5) (pv 6)) pe_int))
        (pss_one (ps_if (pt_cmpR (op_ltT (Nat.lt_of_le_of_lt (Nat.le_add_right _ _) hr.units)) (pe_slice sl_tup (pe_ix ix_tup (pv 3) (pv 7) (fun _ _ => rfl)) po_none (po_some pe_int)) (pv 4) (nomark _))
          (pss_one (ps_set (i := 5) sc_tie_of.nd rfl (.inl rfl) (pe_op op_add (pv 7) pe_int)))
          (pss_one (ps_set (i := 6) sc_tie_of.nd rfl (.inl rfl) (pv 7)))))))
      (pss_cons (ps_if (PW.pt (pw_and (pt_cmpR op_lt (pv 5) (pe_callB call_len_seq (by rfl) T.m_len (by decide +kernel) (pa_cons (pv 3) pa_nil)) (nomark _)) (pw_and1 (pt_cmpR (op_eqD (hr.units)) (pe_slice sl_tup (pe_ix ix_tup (pv 3) (pv 5) (fun _ _ => rfl)) po_none (po_some pe_int)) (pv 4) (nomark _)))))
        (pss_one (ps_ret (pe_ix ix_tup (pe_ix ix_tup (pv 3) (pv 5) (fun _ _ => rfl)) pe_int (fun _ _ => rfl))))
        pss_nil)
      (pss_one (ps_ret pe_non))))))), ?_⟩
    walk_at "rd"
    refine d_ixT q1 rfl ?_
    walk_at "rd"
    refine ⟨_, _, rfl, ?_⟩
    rw [min_intT]
    walk_at "rd"
    refine ⟨_, _, rfl, ?_⟩
    rw [max_intT]
    walk_at "rd"
    refine ⟨sz (by show 2 ≤ 100000; decide), fun pe fe => ?_⟩
    have s1 := same_new (o := .tup [V.int (min a b : Nat), V.int (max a b : Nat)]) fe
    have eE := upd_same (H := H) (a := pe) (o := .tup [V.int (min a b : Nat), V.int (max a b : Nat)])
    generalize upd H pe (.tup [V.int (min a b : Nat), V.int (max a b : Nat)]) = H1 at s1 eE ⊢
    walk_at "rd"
    walk_at "rd"
    refine d_lenT (Same.sqt s1 q2) ?_
    walk_at "rd"
    rw [lt]
    refine ⟨fun k σ H' => ∃ lo hi : Nat, ∃ y7, σ = [some (.ref a0), some (.int (a : Nat)), some (.int (b : Nat)), some (.ref tb), some (.ref pe), some (.int (lo : Nat)), some (.int (hi : Nat)), y7] ∧ k = hi - lo ∧ lo ≤ hi ∧ hi ≤ w.2.length ∧ Same H1 H' ∧
      (∀ i u, i < lo → w.2[i]? = some u → ahd (min a b) (max a b) u = true) ∧ (∀ i u, hi ≤ i → w.2[i]? = some u → ahd (min a b) (max a b) u = false),
      ⟨_, 0, w.2.length, _, rfl, rfl, Nat.zero_le _, Nat.le_refl _, Same.refl _, fun i u hi => absurd hi (Nat.not_lt_zero _), fun i u hi e => absurd (List.getElem?_eq_some_iff.mp e).1 (by omega)⟩, ?_⟩
    rintro k σ H2 ⟨lo, hi, y7, rfl, rfl, l1, l2, s2, g1, g2⟩
    have s12 := Same.trans s1 s2
    have eE2 := s2 _ _ eE
    walk_at "rd"
    refine ite2 (fun c => ?_) (fun c => ?_)
    · have c1 : lo < hi := by have := of_decide_eq_true c; omega
      refine ⟨_, fun σ' H' h => h, ?_⟩
      walk_at "rd"
      rw [half_mid]
      have hm : (lo + hi) / 2 < w.2.length := by omega
      have gm := List.getElem?_eq_getElem hm
      have gv : tvs[(lo + hi) / 2]? = some (tvs[(lo + hi) / 2]'(by omega)) := List.getElem?_eq_getElem (by omega)
      obtain ⟨t, ht, a', ea', qt⟩ := Paired.at pT gv
      rw [ea'] at gv
      walk_at "rd"
      refine d_ixT (Same.sqt s12 q2) (atI_nat gv) ?_
      walk_at "rd"
      refine ⟨a', _, rfl, Same.sqt s12 qt, (show ¬ (HT.sIx 3 0 none = 0 ∧ HT.sIx 3 3 (some 2) = 3) by decide), fun p1 f1 => ?_⟩
      rw [show cutV [V.int (t.1 : Nat), V.int (t.2.1 : Nat), V.str (sg t.2.2)] none (some 2) = [V.int (t.1 : Nat), V.int (t.2.1 : Nat)] from rfl]
      have s3 := same_new (o := .tup [V.int (t.1 : Nat), V.int (t.2.1 : Nat)]) f1
      walk_at "rd"
      refine ⟨p1, pe, [(t.1 : Int), (t.2.1 : Int)], [((min a b : Nat) : Int), ((max a b : Nat) : Int)], rfl, rfl, SqT.of upd_same, SqT.of (s3 _ _ eE2), ?_⟩
      rw [ahd_lex]
      walk_at "rd"
      refine ite2 (fun d => ?_) (fun d => ?_)
      · walk_at "rd"
        refine ⟨hi - ((lo + hi) / 2 + 1), by omega, (lo + hi) / 2 + 1, hi, _, rfl, rfl, by omega, l2, Same.trans s2 s3, fun i u hi' e => ahd_down W e ht (by omega) d, g2⟩
      · walk_at "rd"
        refine ⟨(lo + hi) / 2 - lo, by omega, lo, (lo + hi) / 2, _, rfl, rfl, by omega, by omega, Same.trans s2 s3, g1, fun i u hi' e => ?_⟩
        cases z : ahd (min a b) (max a b) u with
        | false => rfl
        | true => exact absurd (ahd_down W ht e hi' z) d
    · have c1 : lo = hi := by
        have := c
        simp only [decide_eq_true_eq] at this
        omega
      subst c1
      walk_at "rd"
      refine d_lenT (Same.sqt s12 q2) ?_
      walk_at "rd"
      rw [lt]
      refine ite2 (fun c => ?_) (fun c => ?_)
      · have hm : lo < w.2.length := by have := of_decide_eq_true c; omega
        have gv : tvs[lo]? = some (tvs[lo]'(by omega)) := List.getElem?_eq_getElem (by omega)
        obtain ⟨t, ht, a', ea', qt⟩ := Paired.at pT gv
        rw [ea'] at gv
        walk_at "rd"
        refine d_ixT (Same.sqt s12 q2) (atI_nat gv) ?_
        walk_at "rd"
        refine ⟨a', _, rfl, Same.sqt s12 qt, (show ¬ (HT.sIx 3 0 none = 0 ∧ HT.sIx 3 3 (some 2) = 3) by decide), fun p1 f1 => ?_⟩
        rw [show cutV [V.int (t.1 : Nat), V.int (t.2.1 : Nat), V.str (sg t.2.2)] none (some 2) = [V.int (t.1 : Nat), V.int (t.2.1 : Nat)] from rfl]
        have s3 := same_new (o := .tup [V.int (t.1 : Nat), V.int (t.2.1 : Nat)]) f1
        walk_at "rd"
        refine ⟨.tuple [.int (t.1 : Nat), .int (t.2.1 : Nat)], .tuple [.int (min a b : Nat), .int (max a b : Nat)], .tup (SqT.of upd_same) (.cons (.int _) (.cons (.int _) .nil)), .tup (SqT.of (s3 _ _ eE2)) (.cons (.int _) (.cons (.int _) .nil)), sh2 _ _, sh2 _ _, ?_⟩
        have eq : PyData.eqv (.tuple [.int (t.1 : Nat), .int (t.2.1 : Nat)]) (.tuple [.int (min a b : Nat), .int (max a b : Nat)]) = decide (t.1 = min a b ∧ t.2.1 = max a b) := by
          rw [Bool.eq_iff_iff]
          simp only [PyData.eqv, PyData.eqvAll, Bool.and_true, Bool.and_eq_true, beq_iff_eq, decide_eq_true_eq]
          omega
        rw [eq]
        walk_at "rd"
        have s13 := Same.trans s12 s3
        refine ite2 (fun d => ?_) (fun d => ?_)
        · have d' := of_decide_eq_true d
          walk_at "rd"
          refine d_ixT (Same.sqt s13 q2) (atI_nat gv) ?_
          walk_at "rd"
          refine d_ixT (Same.sqt s13 qt) rfl ?_
          have z := q _ s13
          rw [half_found W g1 ht d'.1 d'.2] at z
          exact z
        · walk_at "rd"
          have z := q _ s13
          rw [half_none W g1 g2 fun u hu => ?_] at z
          · exact z
          · rw [ht] at hu
            cases hu
            exact fun x => d (decide_eq_true x)
      · walk_at "rd"
        have z := q _ s12
        rw [half_none W g1 g2 fun u hu => absurd (List.getElem?_eq_some_iff.mp hu).1 (by intro x; exact c (decide_eq_true (by omega)))] at z
        exact z
def spFit (K : PySem.W.Frag) : Sp := fun vs H Q _ => ∃ v w v' w' p x r y, vs = [v, v', p, r] ∧ WebAt K H v w ∧ WOk w ∧ WebAt K H v' w' ∧ WOk w' ∧ PairAt K H p x ∧ PairAt K H r y ∧ ∀ H', Same H H' → Q (.bl (fitB w w' x y)) H'
theorem ok_fit (T : Tx K mg base) : FnOk P w K mg base CX0 2 T.fit.f T.fit.fd ["one", "other", "pair", "beside"] (spFit K) := by
  refine T.fit.F.ok sc_fit (fun vs H Q E h => ?_) (fun cdv A outer s H vs Q E hr h => ?_)
  · obtain ⟨_, _, _, _, _, _, _, _, rfl, _⟩ := h; rfl
  · obtain ⟨v, w, v', w', p, x, r, y, rfl, hw, W, hw', W', ⟨a, rfl, qa_⟩, ⟨b, rfl, qb⟩, q⟩ := h
    refine ⟨_, (pss_cons (ps_if (PW.pt (pw_or (pt_cmpR op_eq (pe_ix ix_tup (pv 2) pe_int (fun _ _ => rfl)) (pe_ix ix_tup (pv 3) pe_int (fun _ _ => rfl)) (nomark _)) (pw_or1 (pt_cmpR op_eq (pe_ix ix_tup (pv 2) pe_int (fun _ _ => rfl)) (pe_ix ix_tup (pv 3) pe_int (fun _ _ => rfl)) (nomark _)))))
        (pss_one (ps_ret pe_bl))
        pss_nil)
      (pss_one (ps_ret (pe_cmpR op_eq (pe_call (ok_tie_of T) (hr.mono (by decide)) (by rfl) T.tie_of.g T.tie_of.F.kp T.tie_of.b .nil pass0 (pa_cons (pv 0) (pa_cons (pe_ix ix_tup (pv 2) pe_int (fun _ _ => rfl)) (pa_cons (pe_ix ix_tup (pv 3) pe_int (fun _ _ => rfl)) pa_nil)))) (pe_call (ok_tie_of T) (hr.mono (by decide)) (by rfl) T.tie_of.g T.tie_of.F.kp T.tie_of.b .nil pass0 (pa_cons (pv 1) (pa_cons (pe_ix ix_tup (pv 2) pe_int (fun _ _ => rfl)) (pa_cons (pe_ix ix_tup (pv 3) pe_int (fun _ _ => rfl)) pa_nil)))) (nomark _))))), ?_⟩
    walk_at "rd"
    refine d_ixT qa_ rfl ?_
    walk_at "rd"
    refine d_ixT qb rfl ?_
    walk_at "rd"
    refine ite2 (fun c => ?_) (fun c => ?_)
    · walk_at "rd"
      have c' : x.1 = y.1 := by have := of_decide_eq_true c; omega
      have z := q _ (Same.refl _)
      rw [show fitB w w' x y = false from if_pos (.inl c')] at z
      exact z
    · have c' : ¬ x.1 = y.1 := fun z => c (decide_eq_true (by rw [z]))
      walk_at "rd"
      refine d_ixT qa_ rfl ?_
      walk_at "rd"
      refine d_ixT qb rfl ?_
      walk_at "rd"
      refine ite2 (fun d => ?_) (fun d => ?_)
      · walk_at "rd"
        have d' : x.2 = y.2 := by have := of_decide_eq_true d; omega
        have z := q _ (Same.refl _)
        rw [show fitB w w' x y = false from if_pos (.inr d')] at z
        exact z
      · have d' : ¬ x.2 = y.2 := fun z => d (decide_eq_true (by rw [z]))
        walk_at "rd"
        refine d_ixT qa_ rfl ?_
        walk_at "rd"
        refine d_ixT qb rfl ?_
        walk_at "rd"
        refine ⟨v, w, x.1, y.1, rfl, hw, W, fun H1 s1 => ?_⟩
        walk_at "rd"
        refine d_ixT (Same.sqt s1 qa_) rfl ?_
        walk_at "rd"
        refine d_ixT (Same.sqt s1 qb) rfl ?_
        walk_at "rd"
        refine ⟨v', w', x.2, y.2, rfl, hw'.same s1, W', fun H2 s2 => ?_⟩
        refine ⟨optV_scal2 _ _, ?_⟩
        have z := q _ (Same.trans s1 s2)
        rw [show fitB w w' x y = decide (optV (tieL w.2 x.1 y.1) = optV (tieL w'.2 x.2 y.2)) from if_neg (by intro z; rcases z with z | z; exact c' z; exact d' z)] at z
        exact z
def spPairs (K : PySem.W.Frag) : Sp := fun vs H Q _ => ∃ v w v' w', vs = [v, v'] ∧ WebAt K H v w ∧ WOk w ∧ WebAt K H v' w' ∧ WOk w' ∧ ∀ H' L pvs, Same H H' → H L = none → H' L = some (.lst pvs) → Pairs K H' pvs (pairsL w w') → Q (.ref L) H'
theorem ok_pairs (T : Tx K mg base) : FnOk P w K mg base CX0 1 T.pairs.f T.pairs.fd ["one", "other"] (spPairs K) := by
  refine T.pairs.F.ok sc_pairs (fun vs H Q E h => ?_) (fun cdv A outer s H vs Q E hr h => ?_)
  · obtain ⟨_, _, _, _, rfl, _⟩ := h; rfl
  · obtain ⟨v, w, v', w', rfl, ⟨a, b, tvs, rfl, q1, q2, pT⟩, W, ⟨a', b', uvs, rfl, r1, r2, pU⟩, W', q⟩ := h
    have l40 := W.few
    have m40 := W'.few
    have zs1 : (⟨w.1.toArray⟩ : Str).cps.size = w.1.length := by show w.1.toArray.size = _; simp
    have zs2 : (⟨w'.1.toArray⟩ : Str).cps.size = w'.1.length := by show w'.1.toArray.size = _; simp
    refine ⟨_, (pss_cons (ps_set (i := 2) sc_pairs.nd rfl (.inl rfl) (pe_lst pa_nil))
      (pss_cons (ps_for PassesOwn.never rfl (pi_enumS (by rfl) T.m_enumerate (pa_cons (pe_ix ix_tup (pv 0) pe_int (fun _ _ => rfl)) pa_nil)) (pg_tup rfl (pgs_cons (pg_name (i := 3) sc_pairs.nd rfl (.inl rfl)) (pgs_cons (pg_name (i := 4) sc_pairs.nd rfl (.inl rfl)) pgs_nil)))
        (pss_one (ps_for PassesOwn.never rfl (pi_enumS (by rfl) T.m_enumerate (pa_cons (pe_ix ix_tup (pv 1) pe_int (fun _ _ => rfl)) pa_nil)) (pg_tup rfl (pgs_cons (pg_name (i := 5) sc_pairs.nd rfl (.inl rfl)) (pgs_cons (pg_name (i := 6) sc_pairs.nd rfl (.inl rfl)) pgs_nil)))
          (pss_one (ps_if (pt_cmpR op_eq (pv 4) (pv 6) (nomark _))
            (pss_one (ps_expr (pe_bm PySem.F.plainAttrs_list PySem.F.slot_list_append PySem.F.type_list_append mt_append (pv 2) (pa_cons (pe_tup (pa_cons (pv 3) (pa_cons (pv 5) pa_nil))) pa_nil))))
            pss_nil)))))
      (pss_one (ps_ret (pv 2))))), ?_⟩
    walk_at "rd"
    refine ⟨sz (by decide), fun L fL => ?_⟩
    have s1 := same_new (o := .lst []) fL
    walk_at "rd"
    refine d_ixT (Same.sqt s1 q1) rfl ?_
    walk_at "rd"
    refine for_it (walk_enumS (z := ⟨w.1.toArray⟩)) (fun i σ H3 => ∃ y3 y4 y5 y6 pvs, σ = [some (.ref a), some (.ref a'), some (.ref L), y3, y4, y5, y6] ∧ H3 L = some (.lst pvs) ∧ Pairs K H3 pvs (preL w w' i) ∧ Same H H3)
      ⟨_, _, _, _, [], rfl, upd_same, .nil, s1⟩ (fun _ _ _ _ _ => trivial) (fun i x σ H3 H3' hi hP hy => ?_) (fun σ H3 hP => ?_)
    · obtain ⟨y3, y4, y5, y6, pvs, rfl, eL, pP, s3⟩ := hP
      obtain ⟨T', x', y', rfl, fT, rfl, ex, ey⟩ := hy
      have hi' : i < w.1.length := by rw [← zs1]; exact hi
      have ex' : x' = V.int (i : Nat) := (Option.some.inj ex).symm
      subst ex'
      have ey' : y' = V.str (sg w.1[i]) := by
        have z : (w.1.toArray[i]?).map (fun c => V.str (⟨#[c]⟩ : Str)) = some y' := ey
        rw [List.getElem?_toArray, List.getElem?_eq_getElem hi'] at z
        exact (Option.some.inj z).symm
      subst ey'
      refine d_gtupm upd_same rfl ?_
      have s4 := Same.trans s3 (same_new (o := .tup [V.int (i : Nat), V.str (sg w.1[i])]) fT)
      have eL4 := at_upd (u := .tup [V.int (i : Nat), V.str (sg w.1[i])]) eL fT
      have pP4 : Pairs K (upd H3 T' (.tup [V.int (i : Nat), V.str (sg w.1[i])])) pvs (preL w w' i) := pP.put (.inl fT)
      generalize upd H3 T' (.tup [V.int (i : Nat), V.str (sg w.1[i])]) = H4 at s4 eL4 pP4 ⊢
      walk_at "rd"
      refine d_ixT (Same.sqt s4 r1) rfl ?_
      walk_at "rd"
      refine for_it (walk_enumS (z := ⟨w'.1.toArray⟩)) (fun j σ H5 => ∃ y5 y6 pvs, σ = [some (.ref a), some (.ref a'), some (.ref L), some (.int (i : Nat)), some (.str (sg w.1[i])), y5, y6] ∧ H5 L = some (.lst pvs) ∧ Pairs K H5 pvs (preL w w' i ++ rowL w w' i j) ∧ Same H H5)
        ⟨_, _, pvs, rfl, eL4, by rw [show rowL w w' i 0 = [] from rfl, List.append_nil]; exact pP4, s4⟩ (fun _ _ _ _ _ => trivial) (fun j x σ H5 H5' hj hP hy => ?_) (fun σ H5 hP => ?_)
      · obtain ⟨y5, y6, pvs, rfl, eL5, pP5, s5⟩ := hP
        obtain ⟨T2, x2, y2, rfl, fT2, rfl, ex2, ey2⟩ := hy
        have hj' : j < w'.1.length := by rw [← zs2]; exact hj
        have ex2' : x2 = V.int (j : Nat) := (Option.some.inj ex2).symm
        subst ex2'
        have ey2' : y2 = V.str (sg w'.1[j]) := by
          have z : (w'.1.toArray[j]?).map (fun c => V.str (⟨#[c]⟩ : Str)) = some y2 := ey2
          rw [List.getElem?_toArray, List.getElem?_eq_getElem hj'] at z
          exact (Option.some.inj z).symm
        subst ey2'
        refine d_gtupm upd_same rfl ?_
        have s6 := Same.trans s5 (same_new (o := .tup [V.int (j : Nat), V.str (sg w'.1[j])]) fT2)
        have eL6 := at_upd (u := .tup [V.int (j : Nat), V.str (sg w'.1[j])]) eL5 fT2
        have pP6 : Pairs K (upd H5 T2 (.tup [V.int (j : Nat), V.str (sg w'.1[j])])) pvs (preL w w' i ++ rowL w w' i j) := pP5.put (.inl fT2)
        generalize upd H5 T2 (.tup [V.int (j : Nat), V.str (sg w'.1[j])]) = H6 at s6 eL6 pP6 ⊢
        walk_at "rd"
        refine ⟨rfl, ?_⟩
        have lk : w.1[i]? = w'.1[j]? ↔ w.1[i] = w'.1[j] := by
          rw [List.getElem?_eq_getElem hi', List.getElem?_eq_getElem hj', Option.some.injEq]
        have lp := pP6.len
        have lr := rowL_len w w' i j
        have lq := preL_len W' i (w := w)
        walk_at "rd"
        refine ite2 (fun c => ?_) (fun c => ?_)
        · have c' : w.1[i]? = w'.1[j]? := lk.mpr (sg_inj.mp (V.str.inj (of_decide_eq_true c)))
          walk_at "rd"
          refine d_app eL6 ?_
          walk_at "rd"
          refine ⟨sz (by show 2 ≤ 100000; decide), fun p fp => ?_⟩
          walk_at "rd"
          rw [List.length_append] at lp
          refine d_append (at_upd eL6 fp) (szl (by omega)) ?_
          refine ⟨_, _, _, rfl, upd_same, ?_, same_upd (same_upd s6 (Same.free s6 fp)) fL⟩
          rw [rowL_succ, if_pos c', ← List.append_assoc]
          exact pP6.more eL6 fp
        · have c' : ¬ w.1[i]? = w'.1[j]? := fun z => c (decide_eq_true (by rw [lk.mp z]))
          walk_at "rd"
          refine ⟨_, _, _, rfl, eL6, ?_, s6⟩
          rw [rowL_succ, if_neg c', List.append_nil]
          exact pP6
      · obtain ⟨y5, y6, pvs, rfl, eL5, pP5, s5⟩ := hP
        rw [zs2] at pP5
        exact ⟨_, _, _, _, pvs, rfl, eL5, by rw [preL_succ]; exact pP5, s5⟩
    · obtain ⟨y3, y4, y5, y6, pvs, rfl, eL, pP, s3⟩ := hP
      rw [zs1] at pP
      walk_at "rd"
      exact q H3 L pvs s3 fL eL pP
def kEnds (a b : Nat) : List Key := [.inl (a : Nat), .inl (b : Nat)]
theorem kEnds_eq {a b c d : Nat} : kEnds a b = kEnds c d ↔ a = c ∧ b = d := by
  unfold kEnds
  constructor
  · intro h
    simp only [List.cons.injEq, Sum.inl.injEq, and_true] at h
    omega
  · rintro ⟨rfl, rfl⟩; rfl
/-- a dict by both ends -/
def spKinds (K : PySem.W.Frag) : Sp := fun vs H Q _ => ∃ v w, vs = [v] ∧ WebAt K H v w ∧ WOk w ∧ ∀ H' (d : Addr) kvs, Same H H' → H d = none → H' d = some (.dT kvs) → (∀ a b : Nat, valV kvs (kEnds a b) = (tieL w.2 a b).map fun c => V.str (sg c)) → Q (.ref d) H'
theorem kinds_turn {ts : List Tie} {i : Nat} {t : Tie} {kvs : List (List Key × V)} (s : ts.Pairwise tlt) (e : ∀ t ∈ ts, t.1 < t.2.1) (h : ts[i]? = some t) (hk : ∀ a b : Nat, valV kvs (kEnds a b) = (tieL (ts.take i) a b).map fun c => V.str (sg c)) (a b : Nat) :
    valV (putK (putK kvs (kEnds t.1 t.2.1) (.str (sg t.2.2))) (kEnds t.2.1 t.1) (.str (sg t.2.2))) (kEnds a b) = (tieL (ts.take (i + 1)) a b).map fun c => V.str (sg c) := by
  have et := e t (List.mem_of_getElem? h)
  have new := tieL_new s e h
  rw [valV_put, valV_put, take_snoc h, tieL_snoc]
  by_cases h1 : kEnds a b = kEnds t.2.1 t.1
  · obtain ⟨rfl, rfl⟩ := kEnds_eq.mp h1
    rw [if_pos rfl, tieL_swap, new, if_pos (at2_iff.mpr (.inr ⟨rfl, rfl⟩))]; rfl
  · rw [if_neg h1]
    by_cases h2 : kEnds a b = kEnds t.1 t.2.1
    · obtain ⟨rfl, rfl⟩ := kEnds_eq.mp h2
      rw [if_pos rfl, new, if_pos (at2_iff.mpr (.inl ⟨rfl, rfl⟩))]; rfl
    · rw [if_neg h2, hk, if_neg (fun z => by
        rcases at2_iff.mp z with ⟨z1, z2⟩ | ⟨z1, z2⟩
        · exact h2 (kEnds_eq.mpr ⟨z1.symm, z2.symm⟩)
        · exact h1 (kEnds_eq.mpr ⟨z2.symm, z1.symm⟩)), Option.or_none]
theorem ok_kinds_by_ends (T : Tx K mg base) : FnOk P w K mg base CX0 1 T.kinds_by_ends.f T.kinds_by_ends.fd ["web"] (spKinds K) := by
  refine T.kinds_by_ends.F.ok sc_kinds_by_ends (fun vs H Q E h => ?_) (fun cdv A outer s H vs Q E hr h => ?_)
  · obtain ⟨v, w, rfl, _⟩ := h; rfl
  · obtain ⟨v, w, rfl, ⟨a, b, tvs, rfl, q1, q2, pT⟩, W, q⟩ := h
    have lt : tvs.length = w.2.length := Paired.length pT
    refine ⟨_, (pss_cons (ps_set (i := 1) sc_kinds_by_ends.nd rfl (.inl rfl) pe_dnewT)
      (pss_cons (ps_for PassesOwn.never rfl (pi_tup (pe_ix ix_tup (pv 0) pe_int (fun _ _ => rfl))) (pg_tup rfl (pgs_cons (pg_name (i := 2) sc_kinds_by_ends.nd rfl (.inl rfl)) (pgs_cons (pg_name (i := 3) sc_kinds_by_ends.nd rfl (.inl rfl)) (pgs_cons (pg_name (i := 4) sc_kinds_by_ends.nd rfl (.inl rfl)) pgs_nil))))
        (pss_cons (ps_dput (hu_of hr) (pv 1) (pe_tup (pa_cons (pv 2) (pa_cons (pv 3) pa_nil))) (pv 4) rfl)
        (pss_one (ps_dput (hu_of hr) (pv 1) (pe_tup (pa_cons (pv 3) (pa_cons (pv 2) pa_nil))) (pv 4) rfl))))
      (pss_one (ps_ret (pv 1))))), ?_⟩
    walk_at "rd"
    intro d fd
    walk_at "rd"
    have s0 := same_new (o := .dT []) fd
    refine d_ixT (Same.sqt s0 q1) rfl ?_
    refine d_iTe (Same.sqt s0 q2) ?_
    refine for_it (walk_tup (xs := tvs)) (fun i σ H1 => ∃ y2 y3 y4 kvs, σ = [some (.ref a), some (.ref d), y2, y3, y4] ∧ H1 d = some (.dT kvs) ∧ Same H H1 ∧ kvs.length ≤ 2 * i ∧ ∀ a b : Nat, valV kvs (kEnds a b) = (tieL (w.2.take i) a b).map fun c => V.str (sg c))
      ⟨_, _, _, [], rfl, upd_same, s0, by simp, fun _ _ => rfl⟩ (fun i σ H1 hi hP => ?_) (fun i x σ H0 H1 hi hP hy => ?_) (fun σ H1 hP => ?_)
    · obtain ⟨_, _, _, _, _, _, sm, _⟩ := hP
      exact Same.sqt sm q2
    · obtain ⟨y2, y3, y4, kvs, rfl, eD, sm, lk, hk⟩ := hP
      obtain ⟨rfl, hx⟩ := hy
      obtain ⟨t, ht, a', rfl, qt⟩ := Paired.at pT hx
      refine d_gtup (Same.sqt sm qt) rfl ?_
      walk_at "rd"
      refine ⟨sz (by show 2 ≤ 100000; decide), fun p1 f1 => ?_⟩
      have l16 := W.most
      have eD1 := at_upd (o := .dT kvs) (u := .tup [V.int (t.1 : Nat), V.int (t.2.1 : Nat)]) eD f1
      refine ⟨d, _, rfl, DPut.t (k := kEnds t.1 t.2.1) eD1 upd_same (szl (by omega)), ?_⟩
      walk_at "rd"
      refine ⟨sz (by show 2 ≤ 100000; decide), fun p2 f2 => ?_⟩
      have ln := length_putK kvs (kEnds t.1 t.2.1) (.str (sg t.2.2))
      have eD2 := at_upd (u := .tup [V.int (t.2.1 : Nat), V.int (t.1 : Nat)]) (upd_same (H := upd H1 p1 (.tup [V.int (t.1 : Nat), V.int (t.2.1 : Nat)])) (a := d) (o := .dT (putK kvs (kEnds t.1 t.2.1) (.str (sg t.2.2))))) f2
      refine ⟨d, _, rfl, DPut.t (k := kEnds t.2.1 t.1) eD2 upd_same (szl (by omega)), ?_⟩
      have ln2 := length_putK (putK kvs (kEnds t.1 t.2.1) (.str (sg t.2.2))) (kEnds t.2.1 t.1) (.str (sg t.2.2))
      refine ⟨_, _, _, _, rfl, upd_same, ?_, by omega, kinds_turn W.rise (fun t ht => (W.ends t ht).1) ht hk⟩
      have g1 : H p1 = none := Same.free sm f1
      have g2 : H p2 = none := Same.free (same_upd (same_upd sm g1) fd) f2
      exact same_upd (same_upd (same_upd (same_upd sm g1) fd) g2) fd
    · obtain ⟨y2, y3, y4, kvs, rfl, eD, sm, lk, hk⟩ := hP
      walk_at "rd"
      rw [lt, List.take_length] at hk
      exact q _ d kvs sm fd eD hk
/-- what lies -/
def spLies (K : PySem.W.Frag) : Sp := fun vs H Q _ => ∃ (v v' : V) (l : Addr) (w w' : Web) (pvs : List V) (ld : Lead), vs = [v, v', .ref l] ∧ WebAt K H v w ∧ WOk w ∧ WebAt K H v' w' ∧ WOk w' ∧ H l = some (.lst pvs) ∧ Pairs K H pvs ld ∧ ld.length ≤ 100000 ∧ ∀ H', Same H H' → Q (.bl (lieB w w' ld)) H'
theorem ok_lies (T : Tx K mg base) : FnOk P w K mg base CX0 2 T.lies.f T.lies.fd ["one", "other", "lead"] (spLies K) := by
  refine T.lies.F.ok sc_lies (fun vs H Q E h => ?_) (fun cdv A outer s H vs Q E hr h => ?_)
  · obtain ⟨_, _, _, _, _, _, _, rfl, _⟩ := h; rfl
  · obtain ⟨v, v', l, w, w', pvs, ld, rfl, hw, W, hw', W', eLd, pp, ll, q⟩ := h
    have lpv := pp.len
    refine ⟨_, (pss_cons (ps_set (i := 3) sc_lies.nd rfl (.inl rfl) (pe_call (ok_kinds_by_ends T) (hr.mono (by decide)) (by rfl) T.kinds_by_ends.g T.kinds_by_ends.F.kp T.kinds_by_ends.b .nil pass0 (pa_cons (pv 0) pa_nil)))
      (pss_cons (ps_set (i := 4) sc_lies.nd rfl (.inl rfl) (pe_call (ok_kinds_by_ends T) (hr.mono (by decide)) (by rfl) T.kinds_by_ends.g T.kinds_by_ends.F.kp T.kinds_by_ends.b .nil pass0 (pa_cons (pv 1) pa_nil)))
      (pss_cons (ps_for PassesOwn.never rfl ((pi_cmb (by rfl) T.m_combinations (pa_cons (pv 2) (pa_cons pe_int pa_nil)))) (pg_tup rfl (pgs_cons (pg_tup rfl (pgs_cons (pg_name (i := 5) sc_lies.nd rfl (.inl rfl)) (pgs_cons (pg_name (i := 6) sc_lies.nd rfl (.inl rfl)) pgs_nil))) (pgs_cons (pg_tup rfl (pgs_cons (pg_name (i := 7) sc_lies.nd rfl (.inl rfl)) (pgs_cons (pg_name (i := 8) sc_lies.nd rfl (.inl rfl)) pgs_nil))) pgs_nil)))
        (pss_one (ps_if (pt_cmpR op_ne (pe_dget1 (hu_of hr) (pv 3) (pe_tup (pa_cons (pv 5) (pa_cons (pv 7) pa_nil))) ⟨rfl, rfl, rfl, rfl⟩) (pe_dget1 (hu_of hr) (pv 4) (pe_tup (pa_cons (pv 6) (pa_cons (pv 8) pa_nil))) ⟨rfl, rfl, rfl, rfl⟩) (nomark _))
          (pss_one (ps_ret pe_bl))
          pss_nil)))
      (pss_one (ps_ret pe_bl))))), ?_⟩
    walk_at "rd"
    refine ⟨v, w, rfl, hw, W, fun H1 d kvs s1 fd ed hk => ?_⟩
    walk_at "rd"
    refine ⟨v', w', rfl, hw'.same s1, W', fun H2 d' kvs' s2 fd' ed' hk' => ?_⟩
    have s12 := Same.trans s1 s2
    have ed2 := s2 _ _ ed
    walk_at "rd"
    refine ⟨l, pvs, rfl, SqL.of (s12 _ _ eLd), by omega, ?_⟩
    refine for_cmb (fun k σ H' => ∃ y5 y6 y7 y8, σ = [some v, some v', some (.ref l), some (.ref d), some (.ref d'), y5, y6, y7, y8] ∧ Same H2 H' ∧ ∀ k', k' < k → ∀ i j p r, CwCmb.cmb pvs.length k' = some (i, j) → ld[i]? = some p → ld[j]? = some r → agr w w' p r = true)
      ⟨_, _, _, _, rfl, Same.refl _, fun k' h => absurd h (Nat.not_lt_zero _)⟩ (fun k i j x y T' σ H' hc hx hy hP fT => ?_) (fun k σ H' hc hP => ?_)
    · obtain ⟨y5, y6, y7, y8, rfl, s3, hall⟩ := hP
      obtain ⟨p, hp, pa, rfl, qp⟩ := Paired.at pp hx
      obtain ⟨r, hr', ra, rfl, qr⟩ := Paired.at pp hy
      have s23 := Same.trans s12 s3
      have s4 := same_new (o := .tup [V.ref pa, V.ref ra]) fT
      have s24 := Same.trans s23 s4
      have s34 := Same.trans s3 s4
      refine d_gtupm upd_same rfl ?_
      generalize upd H' T' _ = H4 at s4 s24 s34 ⊢
      walk_at "rd"
      refine d_gtup (Same.sqt s24 qp) rfl ?_
      walk_at "rd"
      refine d_gtup (Same.sqt s24 qr) rfl ?_
      have ed4 := s34 _ _ ed2
      have ed4' := s34 _ _ ed'
      walk_at "rd"
      refine ⟨d, rfl, .inr ⟨_, .inl ed4⟩, ?_⟩
      walk_at "rd"
      refine ⟨sz (by show 2 ≤ 100000; decide), fun p1 f1 => ?_⟩
      have g1 := DGet.t (k := kEnds p.1 r.1) (at_upd ed4 f1) (upd_same (H := H4) (a := p1) (o := .tup [V.int (p.1 : Nat), V.int (r.1 : Nat)]))
      rw [hk] at g1
      refine ⟨_, g1, ?_⟩
      rw [optV_get]
      clear g1
      have s5 := same_upd (o := .tup [V.int (p.1 : Nat), V.int (r.1 : Nat)]) s34 (Same.free s34 f1)
      have ed5' := at_upd (u := .tup [V.int (p.1 : Nat), V.int (r.1 : Nat)]) ed4' f1
      generalize upd H4 p1 _ = H5 at s5 ed5' ⊢
      walk_at "rd"
      refine ⟨d', rfl, .inr ⟨_, .inl ed5'⟩, ?_⟩
      walk_at "rd"
      refine ⟨sz (by show 2 ≤ 100000; decide), fun p2 f2 => ?_⟩
      have g2 := DGet.t (k := kEnds p.2 r.2) (at_upd ed5' f2) (upd_same (H := H5) (a := p2) (o := .tup [V.int (p.2 : Nat), V.int (r.2 : Nat)]))
      rw [hk'] at g2
      refine ⟨_, g2, ?_⟩
      rw [optV_get]
      clear g2
      have s6 := same_upd (o := .tup [V.int (p.2 : Nat), V.int (r.2 : Nat)]) s5 (Same.free s5 f2)
      generalize upd H5 p2 _ = H6 at s6 ⊢
      refine ⟨optV_scal2 _ _, ?_⟩
      rw [optV_inj]
      walk_at "rd"
      refine ite2 (fun c => ?_) (fun c => ?_)
      · have no : ¬ agr w w' p r = true := fun z => by
          unfold agr at z
          rw [z] at c; cases c
        walk_at "rd"
        have z := q _ (Same.trans s12 s6)
        rw [lieB_no (List.mem_of_getElem? hp) (List.mem_of_getElem? hr') no] at z
        exact z
      · walk_at "rd"
        refine ⟨_, _, _, _, rfl, s6, fun k' hk2 i2 j2 p' r' hc2 hp2 hr2 => ?_⟩
        by_cases e : k' = k
        · subst e
          rw [hc] at hc2; cases hc2
          rw [hp] at hp2; cases hp2
          rw [hr'] at hr2; cases hr2
          unfold agr
          cases z : decide (tieL w.2 p.1 r.1 = tieL w'.2 p.2 r.2) with
          | true => rfl
          | false => rw [z] at c; exact absurd rfl c
        · exact hall k' (by omega) i2 j2 p' r' hc2 hp2 hr2
    · obtain ⟨y5, y6, y7, y8, rfl, s3, hall⟩ := hP
      walk_at "rd"
      have z := q _ (Same.trans s12 s3)
      rw [lieB_of W W' fun i j p r hij hp hr' => by
        have lj : j < pvs.length := by rw [lpv]; exact (List.getElem?_eq_some_iff.mp hr').1
        obtain ⟨k', hk2⟩ := CwCmb.cmb_all hij lj
        refine hall k' ?_ i j p r hk2 hp hr'
        by_cases z : k' < k
        · exact z
        · have := CwCmb.cmb_none hc (k' - k)
          rw [show k + (k' - k) = k' by omega, hk2] at this
          cases this] at z
      exact z
theorem cps_size (l : List Nat) : (⟨l.toArray⟩ : Str).cps.size = l.length := by show l.toArray.size = _; simp
theorem d_chain2 {r r' : R2} {ta tb tc : TE} {σ : L2.St} {H : Hp} {Q : VK} (h : ta σ H fun x H1 => tb σ H1 fun y H2 => r x y H2 fun z H3 => ∃ k, z = .bl k ∧ (if k = true then tc σ H3 fun w' H4 => r' y w' H4 Q else Q (.bl false) H3)) : tChain r r' ta tb tc σ H Q := h
/-- a place's kind -/
theorem d_kindOf {H : Hp} {QB : VK} {u : Web} {n : Nat} (W : WOk u) (hn : n < u.1.length) (q : QB (.str (sg u.1[n])) H) : rIxS (.str ⟨u.1.toArray⟩) (.int (n : Nat)) H QB := by
  have g := List.getElem?_eq_getElem hn
  have l := W.few
  exact ⟨_, _, u.1[n], rfl, rfl, sz (by show u.1.toArray.size ≤ 100000; simp; omega), atI_nat (by show u.1.toArray.toList[n]? = _; simp [g]), q⟩
/-! ### places, pairs, leads told apart -/
def spIsPlace : Sp := fun vs H Q _ => ∃ z n, vs = [.str z, .int n] ∧ z.cps.size ≤ 40 ∧ ∀ H', Same H H' → Q (.bl (decide (0 ≤ n ∧ n < (z.cps.size : Int)))) H'
theorem ok_is_place (T : Tx K mg base) : FnOk P w K mg base CX0 1 T.is_place.f T.is_place.fd ["kinds", "thing"] spIsPlace := by
  refine T.is_place.F.ok sc_is_place (fun vs H Q E h => ?_) (fun cdv A outer s H vs Q E hr h => ?_)
  · obtain ⟨_, _, rfl, _⟩ := h; rfl
  · obtain ⟨z, n, rfl, lz, q⟩ := h
    refine ⟨_, (pss_one (ps_ret (pe_and (pe_cmpR op_isTy (pe_callTy cr_type (by rfl) T.m_type (by decide +kernel) (pa_cons (pv 1) pa_nil)) (pe_bltn (by rfl) T.m_int (by decide +kernel) (v := .ty "int") rfl) (nomark _)) (pe_one (pe_chain op_le op_lt pe_int (pv 1) (pe_callB call_len_str (by rfl) T.m_len (by decide +kernel) (pa_cons (pv 0) pa_nil))))))), ?_⟩
    walk_at "rd"
    refine d_type (.int n) ?_
    walk_at "rd"
    refine ⟨"int", "int", rfl, rfl, ?_⟩
    walk_at "rd"
    rw [if_pos (by decide)]
    refine d_chain2 ?_
    walk_at "rd"
    refine ite2 (fun c => ?_) (fun c => ?_)
    · have c := of_decide_eq_true c
      walk_at "rd"
      refine ⟨sz (by show z.cps.size ≤ 100000; omega), ?_⟩
      walk_at "rd"
      have e : decide (n < (z.length : Int)) = decide (0 ≤ n ∧ n < (z.cps.size : Int)) := decide_eq_decide.mpr ⟨fun x => ⟨c, x⟩, fun x => x.2⟩
      rw [e]
      exact q _ (Same.refl _)
    · have e : false = decide (0 ≤ n ∧ n < (z.cps.size : Int)) := (decide_eq_false fun x => c (decide_eq_true x.1)).symm
      walk_at "rd"
      rw [e]
      exact q _ (Same.refl _)
def spRises (K : PySem.W.Frag) : Sp := fun vs H Q _ => ∃ L, ∃ ns : List Int, vs = [.ref L] ∧ SqL K H L (ns.map V.int) ∧ ns.length < 64 ∧ ∀ H', Same H H' → Q (.bl (decide (ns.Pairwise (· < ·)))) H'
theorem ok_rises (T : Tx K mg base) : FnOk P w K mg base CX0 1 T.rises.f T.rises.fd ["numbers"] (spRises K) := by
  refine T.rises.F.ok sc_rises (fun vs H Q E h => ?_) (fun cdv A outer s H vs Q E hr h => ?_)
  · obtain ⟨_, _, rfl, _⟩ := h; rfl
  · obtain ⟨L, ns, rfl, hL, few, q⟩ := h
    refine ⟨_, (pss_one (ps_ret (pe_cmpR (op_eqD (hr.units)) (pv 0) (pe_callB (cr_sortedSet rfl) (by rfl) T.m_sorted (by decide +kernel) (pa_cons (pe_callTy (cr_setLw (wd := w) rfl rfl) (by rfl) T.m_set (by decide +kernel) (pa_cons (pv 0) pa_nil)) pa_nil)) (nomark _)))), ?_⟩
    walk_at "rd"
    refine ⟨L, ns, rfl, hL, by omega, fun S c le fS => ?_⟩
    have s1 := same_new (o := SetO w S (fun k => decide (k ∈ ns)) c) fS
    walk_at "rd"
    refine ⟨S, _, c, rfl, upd_same, by omega, fun ks R rise mem len fR => ?_⟩
    have s2 := Same.trans s1 (same_new (o := .lst (ks.map V.int)) fR)
    have d1 : Dp K (upd (upd H S (SetO w S (fun k => decide (k ∈ ns)) c)) R (.lst (ks.map V.int))) (.ref L) (.list (ns.map PyData.int)) := dp_ints (Same.seq s2 hL)
    have d2 : Dp K (upd (upd H S (SetO w S (fun k => decide (k ∈ ns)) c)) R (.lst (ks.map V.int))) (.ref R) (.list (ks.map PyData.int)) := dp_ints (SqL.of upd_same)
    refine ⟨_, _, d1, d2, shaped_ints ns, shaped_ints ks, ?_⟩
    have e : PyData.eqv (.list (ns.map PyData.int)) (.list (ks.map PyData.int)) = decide (ns.Pairwise (· < ·)) := by
      rw [eqv_intsB]
      refine decide_eq_decide.mpr ⟨fun e => e ▸ rise, fun z => rise_ext z rise fun k => ?_⟩
      rw [mem, decide_eq_true_eq]
    rw [e]
    walk_at "rd"
    exact q _ s2
def spIsPair (K : PySem.W.Frag) : Sp := fun vs H Q _ => ∃ (u u' : Web) (p : Addr) (a b : Nat), vs = [.str ⟨u.1.toArray⟩, .str ⟨u'.1.toArray⟩, .ref p] ∧ WOk u ∧ WOk u' ∧ SqT K H p [.int (a : Nat), .int (b : Nat)] ∧ a < u.1.length ∧ b < u'.1.length ∧ u.1[a]? = u'.1[b]? ∧ ∀ H', Same H H' → Q (.bl true) H'
theorem ok_is_pair (T : Tx K mg base) : FnOk P w K mg base CX0 2 T.is_pair.f T.is_pair.fd ["kinds", "others", "thing"] (spIsPair K) := by
  refine T.is_pair.F.ok sc_is_pair (fun vs H Q E h => ?_) (fun cdv A outer s H vs Q E hr h => ?_)
  · obtain ⟨_, _, _, _, _, rfl, _⟩ := h; rfl
  · obtain ⟨u, u', p, a, b, rfl, W, W', qp, la, lb, like, q⟩ := h
    have l40 := W.few
    have m40 := W'.few
    refine ⟨_, (pss_cons (ps_if (PW.pt (pw_or (pt_cmpR op_isNotTy (pe_callTy cr_type (by rfl) T.m_type (by decide +kernel) (pa_cons (pv 2) pa_nil)) (pe_bltn (by rfl) T.m_tuple (by decide +kernel) (v := .ty "tuple") rfl) (nomark _)) (pw_or1 (pt_cmpR op_ne (pe_callB call_len_seq (by rfl) T.m_len (by decide +kernel) (pa_cons (pv 2) pa_nil)) pe_int (nomark _)))))
        (pss_one (ps_ret pe_bl))
        pss_nil)
      (pss_cons (ps_asg (pv 2) (pg_tup rfl (pgs_cons (pg_name (i := 3) sc_is_pair.nd rfl (.inl rfl)) (pgs_cons (pg_name (i := 4) sc_is_pair.nd rfl (.inl rfl)) pgs_nil))))
      (pss_cons (ps_if (PW.pt (pw_or (pt_not (pt_val (pe_call (ok_is_place T) (hr.mono (by decide)) (by rfl) T.is_place.g T.is_place.F.kp T.is_place.b .nil pass0 (pa_cons (pv 0) (pa_cons (pv 3) pa_nil))))) (pw_or1 (pt_not (pt_val (pe_call (ok_is_place T) (hr.mono (by decide)) (by rfl) T.is_place.g T.is_place.F.kp T.is_place.b .nil pass0 (pa_cons (pv 1) (pa_cons (pv 4) pa_nil))))))))
        (pss_one (ps_ret pe_bl))
        pss_nil)
      (pss_one (ps_ret (pe_cmpR op_eq (pe_ix ix_str (pv 0) (pv 3) (fun _ _ => rfl)) (pe_ix ix_str (pv 1) (pv 4) (fun _ _ => rfl)) (nomark _))))))), ?_⟩
    walk_at "rd"
    refine d_type (.tup qp) ?_
    walk_at "rd"
    refine ⟨"tuple", "tuple", rfl, rfl, ?_⟩
    walk_at "rd"
    refine iteNS rfl ?_
    walk_at "rd"
    refine d_lenT qp ?_
    walk_at "rd"
    refine iteNS rfl ?_
    walk_at "rd"
    refine d_gtup qp rfl ?_
    walk_at "rd"
    refine ⟨_, _, rfl, by rw [cps_size]; omega, fun H1 s1 => ?_⟩
    rw [decide_eq_true (show (0 : Int) ≤ (a : Nat) ∧ ((a : Nat) : Int) < _ by rw [cps_size]; omega)]
    walk_at "rd"
    refine ⟨_, _, rfl, by rw [cps_size]; omega, fun H2 s2 => ?_⟩
    rw [decide_eq_true (show (0 : Int) ≤ (b : Nat) ∧ ((b : Nat) : Int) < _ by rw [cps_size]; omega)]
    walk_at "rd"
    refine d_kindOf W la ?_
    walk_at "rd"
    refine d_kindOf W' lb ?_
    refine ⟨rfl, ?_⟩
    have e : u.1[a] = u'.1[b] := by
      rw [List.getElem?_eq_getElem la, List.getElem?_eq_getElem lb] at like
      exact Option.some.inj like
    rw [e, decide_eq_true rfl]
    exact q _ (Same.trans s1 s2)
theorem zs_len (l : List Nat) : (zs l).length = l.length := by unfold zs; simp
theorem zs_rise (l : List Nat) : decide ((zs l).Pairwise (· < ·)) = decide (l.Pairwise (· < ·)) := by
  refine decide_eq_decide.mpr ?_
  unfold zs
  rw [List.pairwise_map]
  exact ⟨fun h => h.imp fun {a b} h => by omega, fun h => h.imp fun {a b} h => by omega⟩
theorem zs_nodup (l : List Nat) : (zs l).Nodup ↔ l.Nodup := by
  unfold zs List.Nodup
  rw [List.pairwise_map]
  exact ⟨fun h => h.imp fun {a b} h => by omega, fun h => h.imp fun {a b} h => by omega⟩
def LikeP (u u' : Web) (ld : Lead) : Prop := ∀ p ∈ ld, p.1 < u.1.length ∧ p.2 < u'.1.length ∧ u.1[p.1]? = u'.1[p.2]?
def spIsLead (K : PySem.W.Frag) (P : Addr) : Sp := fun vs H Q _ => ∃ v u v' u' L pvs ld, vs = [v, v', .ref L] ∧ H P = some (TbX P) ∧ WebAt K H v u ∧ WOk u ∧ WebAt K H v' u' ∧ WOk u' ∧ SqL K H L pvs ∧ Pairs K H pvs ld ∧ LikeP u u' ld ∧ ld.length < 64 ∧ ∀ H', Same H H' → Q (.bl (leadB ld)) H'
theorem ok_is_lead (T : Tx K mg base) : FnOk P w K mg base CX0 4 T.is_lead.f T.is_lead.fd ["one", "other", "thing"] (spIsLead K T.P_is_lead) := by
  refine funOkT T.hc_is_lead T.is_lead.F sc_is_lead (fun vs H Q E h => ?_) (fun A outer s H vs Q E hr h => ?_)
  · obtain ⟨_, _, _, _, _, _, _, rfl, _⟩ := h; rfl
  · obtain ⟨v, u, v', u', L, pvs, ld, rfl, tab, ⟨a, b, tvs, rfl, q1, q2, pT⟩, W, ⟨a', b', uvs, rfl, r1, r2, pU⟩, W', hL, pP, like, few, q⟩ := h
    refine ⟨_, (pss_cons (ps_if (pt_cmpR op_isNotTy (pe_callTy cr_type (by rfl) T.m_type (by decide +kernel) (pa_cons (pv 2) pa_nil)) (pe_bltn (by rfl) T.m_list (by decide +kernel) (v := .ty "list") rfl) (nomark _))
        (pss_one (ps_ret pe_bl))
        pss_nil)
      (pss_cons (ps_if (pt_not (pt_val (pe_all (g := gName 4) (te := tCall (spIsPair K) [] E0 (tCons (tOp (rIxT K) (tVar 0) (tC (.int 0))) (tCons (tOp (rIxT K) (tVar 1) (tC (.int 0))) (tCons (tVar 4) tNil)))) (own := [("pair", 4)]) hr rfl sc_is_lead.nd (by rfl) T.m_all (by decide +kernel) T.tb_is_lead rfl (blkOk_by (N := ["one", "other", "thing", "ends", "pair"]) (sc := defScope s_is_lead) (by decide +kernel)) (by decide +kernel) rfl rfl (pi_list (pv 2)) (fun _ _ _ _ _ _ => (pg_name (i := 4) sc_is_lead.nd rfl (.inl rfl))) (fun _ _ _ _ _ _ hr => (pe_call (ok_is_pair T) (hr.mono (by decide)) (by rfl) T.is_pair.g T.is_pair.F.kp T.is_pair.b .nil pass0 (pa_cons (pe_ix ix_tup (pv 0) pe_int (fun _ _ => rfl)) (pa_cons (pe_ix ix_tup (pv 1) pe_int (fun _ _ => rfl)) (pa_cons (pv 4) pa_nil))))))))
        (pss_one (ps_ret pe_bl))
        pss_nil)
      (pss_cons (ps_setLc (i := 3) (own := [("pair", 4)]) (g := gName 4) (tt := tYes) (te := tOp (rIxT K) (tVar 4) (tC (.int 1))) rfl sc_is_lead.nd rfl rfl (sw_true rfl rfl rfl (by decide +kernel)) (pi_list (pv 2)) (blkOk_by (N := ["one", "other", "thing", "ends", "pair"]) (sc := defScope s_is_lead) (by decide +kernel)) (fun _ _ _ _ _ => (pg_name (i := 4) sc_is_lead.nd rfl (.inl rfl))) (fun _ _ _ _ _ => pts_nil) (fun _ _ _ _ _ => (pe_ix ix_tup (pv 4) pe_int (fun _ _ => rfl))))
      (pss_one (ps_ret (pe_and (pe_call (ok_rises T) (hr.mono (by decide)) (by rfl) T.rises.g T.rises.F.kp T.rises.b .nil pass0 (pa_cons (pe_lc (own := [("pair", 4)]) (g := gName 4) (tt := tYes) (te := tOp (rIxT K) (tVar 4) (tC (.int 0))) rfl sc_is_lead.nd (pi_list (pv 2)) (blkOk_by (N := ["one", "other", "thing", "ends", "pair"]) (sc := defScope s_is_lead) (by decide +kernel)) (fun _ _ _ _ _ => (pg_name (i := 4) sc_is_lead.nd rfl (.inl rfl))) (fun _ _ _ _ _ => pts_nil) (fun _ _ _ _ _ => (pe_ix ix_tup (pv 4) pe_int (fun _ _ => rfl)))) pa_nil)) (pe_one (pe_cmpR op_eq (pe_callB (cr_lenSO (wd := w) rfl) (by rfl) T.m_len (by decide +kernel) (pa_cons (pe_callTy (cr_setLw (wd := w) rfl rfl) (by rfl) T.m_set (by decide +kernel) (pa_cons (pv 3) pa_nil)) pa_nil)) (pe_callB call_len_seq (by rfl) T.m_len (by decide +kernel) (pa_cons (pv 3) pa_nil)) (nomark _))))))))), ?_⟩
    walk_at "rd"
    refine d_type (.lst hL) ?_
    walk_at "rd"
    refine ⟨"list", "list", rfl, rfl, ?_⟩
    walk_at "rd"
    refine iteNS rfl ?_
    walk_at "rd"
    refine d_aa ?_
    walk_at "rd"
    refine d_iLe hL ?_
    refine ⟨tab, aa_it (walk_list (K := K) (xs := pvs)) (fun i H' => Same H H') (Same.refl _) (fun i H' _ s => Same.seq s hL) (fun i x H1 H2 hi s1 y => ?_) (fun H1 s1 => ?_)⟩
    · obtain ⟨rfl, hx⟩ := y
      obtain ⟨t, ht, pt, rfl, qt⟩ := Paired.at pP hx
      walk_at "rd"
      refine d_ixT (Same.sqt s1 q1) rfl ?_
      walk_at "rd"
      refine d_ixT (Same.sqt s1 r1) rfl ?_
      walk_at "rd"
      have lk := like t (List.mem_of_getElem? ht)
      refine ⟨u, u', pt, t.1, t.2, rfl, W, W', Same.sqt s1 qt, lk.1, lk.2.1, lk.2.2, fun H3 s3 => ?_⟩
      exact ⟨true, rfl, (fun z => nomatch z), fun _ => Same.trans s1 s3⟩
    · walk_at "rd"
      refine iteF ?_
      have lpv : pvs.length = ld.length := pP.len
      walk_at "rd"
      refine d_iLe (Same.seq s1 hL) ?_
      intro D fD
      refine lc_list (K := K) (a := L) (xs := pvs) (fun m H2 => H2 D = some (.lst (((ld.map (·.2)).take m).map fun z => V.int (z : Nat))) ∧ Same H1 H2) ⟨by rw [List.take_zero]; exact upd_same, same_new fD⟩ (fun m H2 _ hP => Same.seq (Same.trans s1 hP.2) hL) (fun m x H2 hx hP => ?_) (fun H2 hP => ?_)
      · obtain ⟨eD, s2⟩ := hP
        obtain ⟨t, ht, pt, rfl, qt⟩ := Paired.at pP hx
        walk_at "rd"
        refine d_ixT (Same.sqt (Same.trans s1 s2) qt) rfl ?_
        have ht2 : (ld.map (·.2))[m]? = some t.2 := by rw [List.getElem?_map, ht]; rfl
        refine ⟨_, eD, szl (by rw [List.length_map, List.length_take, List.length_map]; omega), ?_, same_upd s2 fD⟩
        rw [upd_same, take_snoc ht2, List.map_append]
        rfl
      · obtain ⟨eD, s2⟩ := hP
        rw [lpv, show (ld.map (·.2)).take ld.length = ld.map (·.2) by rw [← List.length_map (f := fun x : Nat × Nat => x.2) (as := ld), List.take_length]] at eD
        have s12 := Same.trans s1 s2
        walk_at "rd"
        refine d_iLe (Same.seq s12 hL) ?_
        intro F fF
        refine lc_list (K := K) (a := L) (xs := pvs) (fun m H3 => H3 F = some (.lst (((ld.map (·.1)).take m).map fun z => V.int (z : Nat))) ∧ Same H2 H3) ⟨by rw [List.take_zero]; exact upd_same, same_new fF⟩ (fun m H3 _ hP => Same.seq (Same.trans s12 hP.2) hL) (fun m x H3 hx hP => ?_) (fun H3 hP => ?_)
        · obtain ⟨eF, s3⟩ := hP
          obtain ⟨t, ht, pt, rfl, qt⟩ := Paired.at pP hx
          walk_at "rd"
          refine d_ixT (Same.sqt (Same.trans s12 s3) qt) rfl ?_
          have ht2 : (ld.map (·.1))[m]? = some t.1 := by rw [List.getElem?_map, ht]; rfl
          refine ⟨_, eF, szl (by rw [List.length_map, List.length_take, List.length_map]; omega), ?_, same_upd s3 fF⟩
          rw [upd_same, take_snoc ht2, List.map_append]
          rfl
        · obtain ⟨eF, s3⟩ := hP
          rw [lpv, show (ld.map (·.1)).take ld.length = ld.map (·.1) by rw [← List.length_map (f := fun x : Nat × Nat => x.1) (as := ld), List.take_length]] at eF
          have s13 := Same.trans s12 s3
          walk_at "rd"
          refine ⟨F, zs (ld.map (·.1)), rfl, SqL.of (by rw [← ints_map]; exact eF), by rw [zs_len, List.length_map]; exact few, fun H4 s4 => ?_⟩
          rw [zs_rise]
          walk_at "rd"
          refine ite2 (fun c => ?_) (fun c => ?_)
          · have c := of_decide_eq_true c
            have s24 := Same.trans s3 s4
            have eD4 := s24 _ _ eD
            walk_at "rd"
            refine ⟨D, zs (ld.map (·.2)), rfl, SqL.of (by rw [← ints_map]; exact eD4), by rw [zs_len, List.length_map]; omega, fun S n le fS => ?_⟩
            have s5 := same_new (o := SetO w S (fun k => decide (k ∈ zs (ld.map (·.2)))) n) fS
            walk_at "rd"
            refine ⟨S, _, n, rfl, upd_same, fun ks nd mem len => ?_⟩
            walk_at "rd"
            refine d_lenL (SqL.of (s5 _ _ eD4)) ?_
            refine ⟨rfl, ?_⟩
            have e : decide (V.int (n : Nat) = V.int (((ld.map (·.2)).map fun z => V.int (z : Nat)).length : Nat)) = leadB ld := by
              refine decide_eq_decide.mpr ?_
              rw [V.int.injEq, List.length_map]
              have z := len_nodup nd (ns := zs (ld.map (·.2))) fun k => by rw [← mem, decide_eq_true_eq]
              rw [len, zs_len, zs_nodup] at z
              exact ⟨fun h => ⟨c, z.mp (by omega)⟩, fun h => by rw [z.mpr h.2]⟩
            rw [e]
            exact q _ (Same.trans s13 (Same.trans s4 s5))
          · have e : false = leadB ld := (decide_eq_false fun x => c (decide_eq_true x.1)).symm
            walk_at "rd"
            rw [e]
            exact q _ (Same.trans s13 s4)
theorem ok_led_ties (T : Tx K mg base) : FnOk P w K mg base CX0 2 T.led_ties.f T.led_ties.fd ["one", "other", "lead"] (fun _ _ _ _ => False) := T.led_ties.F.ok sc_led_ties (fun vs H Q E h => h.elim) (fun cdv A outer s H vs Q E hr h => h.elim)
def spSizeL (K : PySem.W.Frag) : Sp := fun vs H Q _ => ∃ (v v' : V) (l : Addr) (pvs : List V), vs = [v, v', .ref l, .str (Str.ofString "lies")] ∧ H l = some (.lst pvs) ∧ ∀ H', Same H H' → Q (.int (pvs.length : Nat)) H'
theorem ok_size_of (T : Tx K mg base) : FnOk P w K mg base CX0 3 T.size_of.f T.size_of.fd ["one", "other", "lead", "how"] (spSizeL K) := by
  refine T.size_of.F.ok sc_size_of (fun vs H Q E h => ?_) (fun cdv A outer s H vs Q E hr h => ?_)
  · obtain ⟨_, _, _, _, rfl, _⟩ := h; rfl
  · obtain ⟨v, v', l, pvs, rfl, el, q⟩ := h
    refine ⟨_, (pss_cons (ps_if (pt_cmpR op_eq (pv 3) pe_str (nomark _))
        (pss_one (ps_ret (pe_callB call_len_seq (by rfl) T.m_len (by decide +kernel) (pa_cons (pv 2) pa_nil))))
        pss_nil)
      (pss_one (ps_ret (pe_callB call_len_seq (by rfl) T.m_len (by decide +kernel) (pa_cons (pe_call (ok_led_ties T) (hr.mono (by decide)) (by rfl) T.led_ties.g T.led_ties.F.kp T.led_ties.b .nil pass0 (pa_cons (pv 0) (pa_cons (pv 1) (pa_cons (pv 2) pa_nil)))) pa_nil))))), ?_⟩
    walk_at "rd"
    refine ⟨rfl, ?_⟩
    rw [show decide (V.str (Str.ofString "lies") = V.str (Str.ofString "lies")) = true by simp]
    walk_at "rd"
    refine d_lenL (SqL.of el) ?_
    walk_at "rd"
    exact q _ (Same.refl _)
/-- a row of some pairs, in order; its list is not the one at D -/
def RowAt (K : PySem.W.Frag) (H : Hp) (D : Addr) (ps : Lead) (m : Nat) (v : V) : Prop := ∃ r rvs ld, v = .ref r ∧ r ≠ D ∧ H r = some (.lst rvs) ∧ Pairs K H rvs ld ∧ ld.Pairwise plt ∧ (∀ x ∈ ld, x ∈ ps) ∧ ld ≠ [] ∧ ld.length ≤ m
theorem RowAt.same {H H' : Hp} {D : Addr} {ps : Lead} {m : Nat} {v : V} (x : RowAt K H D ps m v) (s : Same H H') : RowAt K H' D ps m v := by
  obtain ⟨r, rvs, ld, e, n, q, p, r1, r2, r3, r4⟩ := x
  exact ⟨r, rvs, ld, e, n, s _ _ q, p.same s, r1, r2, r3, r4⟩
theorem RowAt.mono {H : Hp} {D : Addr} {ps : Lead} {m n : Nat} {v : V} (x : RowAt K H D ps m v) (h : m ≤ n) : RowAt K H D ps n v := by
  obtain ⟨r, rvs, ld, e, nn, q, p, r1, r2, r3, r4⟩ := x
  exact ⟨r, rvs, ld, e, nn, q, p, r1, r2, r3, Nat.le_trans r4 h⟩
theorem RowAt.move {H : Hp} {D D' : Addr} {ps : Lead} {m : Nat} {v : V} (x : RowAt K H D ps m v) (f : H D' = none) : RowAt K H D' ps m v := by
  obtain ⟨r, rvs, ld, e, n, q, p, r1⟩ := x
  exact ⟨r, rvs, ld, e, ne_of_none q f, q, p, r1⟩
theorem RowAt.put {H : Hp} {D : Addr} {ps : Lead} {m : Nat} {v : V} {ys zs : List V} (x : RowAt K H D ps m v) (e : H D = some (.lst ys)) : RowAt K (upd H D (.lst zs)) D ps m v := by
  obtain ⟨r, rvs, ld, e0, n, q, p, r1⟩ := x
  exact ⟨r, rvs, ld, e0, n, by rw [upd_ne n]; exact q, p.put (.inr ⟨_, e⟩), r1⟩
theorem last_lt {ld : Lead} {p x : Nat × Nat} (s : ld.Pairwise plt) (h : ld.getLast? = some x) (l : plt x p) : (ld ++ [p]).Pairwise plt := by
  refine List.pairwise_append.mpr ⟨s, List.pairwise_singleton _ _, fun a ha b hb => ?_⟩
  rw [List.mem_singleton.mp hb]
  have e := List.getLast?_eq_some_iff.mp h
  obtain ⟨ys, rfl⟩ := e
  rcases List.mem_append.mp ha with ha | ha
  · have := (List.pairwise_append.mp s).2.2 a ha x (List.mem_singleton.mpr rfl)
    unfold plt at this l ⊢
    omega
  · rw [List.mem_singleton.mp ha]; exact l
theorem row_last {H : Hp} {rvs : List V} {ld : Lead} (pR : Pairs K H rvs ld) (ne : ld ≠ []) : ∃ kvs vz kd z, rvs = kvs ++ [vz] ∧ ld = kd ++ [z] ∧ PairAt K H vz z := by
  have l := pR.len
  have pos : 0 < ld.length := List.length_pos_iff.mpr ne
  have nr : rvs ≠ [] := List.length_pos_iff.mp (by omega)
  refine ⟨rvs.dropLast, rvs.getLast nr, ld.dropLast, ld.getLast ne, (List.dropLast_concat_getLast nr).symm, (List.dropLast_concat_getLast ne).symm, ?_⟩
  have hx : rvs[rvs.length - 1]? = some (rvs.getLast nr) := by rw [← List.getLast?_eq_getElem?, List.getLast?_eq_some_getLast nr]
  obtain ⟨t, ht, pt⟩ := Paired.at pR hx
  rw [l, ← List.getLast?_eq_getElem?, List.getLast?_eq_some_getLast ne] at ht
  cases ht
  exact pt
def spRows (K : PySem.W.Frag) : Sp := fun vs H Q _ => ∃ (l : Addr) (pvs : List V) (ps : Lead), vs = [.ref l] ∧ H l = some (.lst pvs) ∧ Pairs K H pvs ps ∧ ps.length ≤ 16 ∧ ∀ H' R fs, Same H H' → H' R = some (.lst fs) → (∀ v ∈ fs, RowAt K H' R ps 3 v) → Q (.ref R) H'
theorem ok_rows (T : Tx K mg base) : FnOk P w K mg base CX0 1 T.rows.f T.rows.fd ["some"] (spRows K) := by
  refine T.rows.F.ok sc_rows (fun vs H Q E h => ?_) (fun cdv A outer s H vs Q E hr h => ?_)
  · obtain ⟨_, _, _, rfl, _⟩ := h; rfl
  · obtain ⟨l, pvs, ps, rfl, el, pP, few, q⟩ := h
    have lpv := pP.len
    refine ⟨_, (pss_cons (ps_setLc (i := 1) (own := [("pair", 3)]) (g := gName 3) (tt := tYes) (te := tLst (tCons (tVar 3) tNil)) rfl sc_rows.nd rfl rfl (sw_true rfl rfl rfl (by decide +kernel)) (pi_list (pv 0)) (blkOk_by (N := ["some", "found", "row", "pair"]) (sc := defScope s_rows) (by decide +kernel)) (fun _ _ _ _ _ => (pg_name (i := 3) sc_rows.nd rfl (.inl rfl))) (fun _ _ _ _ _ => pts_nil) (fun _ _ _ _ _ => (pe_lst (pa_cons (pv 3) pa_nil))))
      (pss_cons (ps_for PassesOwn.never rfl (pi_list (pe_callTy call_list_of (by rfl) T.m_list (by decide +kernel) (pa_cons (pv 1) pa_nil))) (pg_name (i := 2) sc_rows.nd rfl (.inr rfl))
        (pss_one (ps_set (i := 1) sc_rows.nd rfl (.inl rfl) (pe_op op_cat (pv 1) (pe_lc (own := [("pair", 3)]) (g := gName 3) (tt := tTest (tOp (rGtP K) (tVar 3) (tOp (rIxL K) (tVar 2) (tUn (rU fun i => .int (-i)) (tC (.int 1)))))) (te := tOp rCat (tVar 2) (tLst (tCons (tVar 3) tNil))) rfl sc_rows.nd (pi_list (pv 0)) (blkOk_by (N := ["some", "found", "row", "pair"]) (sc := defScope s_rows) (by decide +kernel)) (fun _ _ _ _ _ => (pg_name (i := 3) sc_rows.nd rfl (.inl rfl))) (fun _ _ _ _ _ => pts_one (pt_cmpR (op_gtP (units1 hr)) (pv 3) (pe_ix ix_list (pv 2) (pe_un un_neg pe_int) (fun _ _ => rfl)) (nomark _))) (fun _ _ _ _ _ => (pe_op op_cat (pv 2) (pe_lst (pa_cons (pv 3) pa_nil)))))))))
      (pss_cons (ps_for PassesOwn.never rfl (pi_list (pe_lc (own := [("row", 2)]) (g := gName 2) (tt := tTest (tOp rEq (tCB (Evl.rLenS K) (tCons (tVar 2) tNil)) (tC (.int 2)))) rfl sc_rows.nd (pi_list (pv 1)) (blkOk_by (N := ["some", "found", "row", "pair"]) (sc := defScope s_rows) (by decide +kernel)) (fun _ _ _ _ _ => (pg_name (i := 2) sc_rows.nd rfl (.inl rfl))) (fun _ _ _ _ _ => pts_one (pt_cmpR op_eq (pe_callB call_len_seq (by rfl) T.m_len (by decide +kernel) (pa_cons (pv 2) pa_nil)) pe_int (nomark _))) (fun _ _ _ _ _ => (pv 2)))) (pg_name (i := 2) sc_rows.nd rfl (.inr rfl))
        (pss_one (ps_set (i := 1) sc_rows.nd rfl (.inl rfl) (pe_op op_cat (pv 1) (pe_lc (own := [("pair", 3)]) (g := gName 3) (tt := tTest (tOp (rGtP K) (tVar 3) (tOp (rIxL K) (tVar 2) (tUn (rU fun i => .int (-i)) (tC (.int 1)))))) (te := tOp rCat (tVar 2) (tLst (tCons (tVar 3) tNil))) rfl sc_rows.nd (pi_list (pv 0)) (blkOk_by (N := ["some", "found", "row", "pair"]) (sc := defScope s_rows) (by decide +kernel)) (fun _ _ _ _ _ => (pg_name (i := 3) sc_rows.nd rfl (.inl rfl))) (fun _ _ _ _ _ => pts_one (pt_cmpR (op_gtP (units1 hr)) (pv 3) (pe_ix ix_list (pv 2) (pe_un un_neg pe_int) (fun _ _ => rfl)) (nomark _))) (fun _ _ _ _ _ => (pe_op op_cat (pv 2) (pe_lst (pa_cons (pv 3) pa_nil)))))))))
      (pss_one (ps_ret (pv 1)))))), ?_⟩
    walk_at "rd"
    refine d_iLe (SqL.of el) ?_
    intro D fD
    refine lc_list (K := K) (a := l) (xs := pvs) (fun i H1 => ∃ fs, H1 D = some (.lst fs) ∧ fs.length = i ∧ (∀ v ∈ fs, RowAt K H1 D ps 1 v) ∧ Same H H1) ⟨[], upd_same, rfl, (fun v hv => nomatch hv), same_new fD⟩ (fun i H1 _ hP => by obtain ⟨_, _, _, _, s1⟩ := hP; exact SqL.of (s1 _ _ el)) (fun i x H1 hx hP => ?_) (fun H1 hP => ?_)
    · obtain ⟨fs, eD, lf, rows, s1⟩ := hP
      obtain ⟨t, ht, pt, rfl, qt⟩ := Paired.at pP hx
      have hi := (List.getElem?_eq_some_iff.mp hx).1
      walk_at "rd"
      refine ⟨sz (by show 1 ≤ 100000; decide), fun p1 f1 => ?_⟩
      have n1 : p1 ≠ D := (ne_of_none eD f1).symm
      have s2 := same_new (o := .lst [V.ref pt]) f1
      have e2 := at_upd (u := .lst [V.ref pt]) eD f1
      refine ⟨_, e2, szl (by omega), fs ++ [.ref p1], upd_same, by rw [List.length_append, lf]; rfl, fun v hv => ?_, same_upd (Same.trans s1 s2) fD⟩
      rcases List.mem_append.mp hv with hv | hv
      · exact ((rows v hv).same s2).put e2
      · rw [List.mem_singleton.mp hv]
        have one : RowAt K (upd H1 p1 (.lst [V.ref pt])) D ps 1 (.ref p1) := ⟨p1, [.ref pt], [t], rfl, n1, upd_same, .cons ⟨pt, rfl, Same.sqt (Same.trans s1 s2) qt⟩ .nil, List.pairwise_singleton _ _, fun x hx => by rw [List.mem_singleton.mp hx]; exact List.mem_of_getElem? ht, by simp, by simp⟩
        exact one.put e2
    · obtain ⟨fs, eD, lf, rows, s1⟩ := hP
      walk_at "rd"
      refine ⟨D, fs, rfl, .inl (SqL.of eD), fun C fC => ?_⟩
      have s2 := same_new (o := .lst fs) fC
      have eC := upd_same (H := H1) (a := C) (o := .lst fs)
      have rowsC : ∀ v ∈ fs, RowAt K (upd H1 C (.lst fs)) C ps 1 v := fun v hv => by
        have := ((rows v hv).move fC)
        obtain ⟨r, rvs, ld, e0, n, q0, p0, r1⟩ := this
        exact ⟨r, rvs, ld, e0, n, s2 _ _ q0, p0.same s2, r1⟩
      have rowsD : ∀ v ∈ fs, RowAt K (upd H1 C (.lst fs)) D ps 2 v := fun v hv => ((rows v hv).same s2).mono (by decide)
      have eD2 := s2 _ _ eD
      have s02 := Same.trans s1 s2
      generalize upd H1 C (.lst fs) = H2 at s2 eC rowsC rowsD eD2 s02 ⊢
      walk_at "rd"
      refine d_iLe (SqL.of eC) ?_
      refine for_it (walk_list (K := K) (xs := fs)) (fun i σ H3 => ∃ F y2 y3 gs, σ = [some (.ref l), some (.ref F), y2, y3] ∧ Same H2 H3 ∧ H3 F = some (.lst gs) ∧ gs.length ≤ 16 + 16 * i ∧ ∀ v ∈ gs, RowAt K H3 F ps 2 v)
        ⟨D, _, _, fs, rfl, Same.refl _, eD2, by omega, rowsD⟩ (fun i σ H3 _ hP => ?_) (fun i x σ H3' H3 hi hP hy => ?_) (fun σ H3 hP => ?_)
      · obtain ⟨_, _, _, _, _, s3, _⟩ := hP
        exact SqL.of (s3 _ _ eC)
      · obtain ⟨F, y2, y3, gs, rfl, s3, eF, lg, rowsF⟩ := hP
        obtain ⟨rfl, hx⟩ := hy
        obtain ⟨r, rvs, ld, rfl, nr, er, pR, so, sub, ne, lm⟩ := (rowsC x (List.mem_of_getElem? hx)).same s3
        have s03 := Same.trans s02 s3
        walk_at "rd"
        refine d_iLe (SqL.of (s03 _ _ el)) ?_
        intro D2 fD2
        refine lc_list (K := K) (a := l) (xs := pvs) (fun k H4 => ∃ es, H4 D2 = some (.lst es) ∧ es.length ≤ k ∧ (∀ v ∈ es, RowAt K H4 D2 ps (1 + 1) v) ∧ Same H3 H4) ⟨[], upd_same, Nat.le_refl _, (fun v hv => nomatch hv), same_new fD2⟩ (fun k H4 _ hP => by obtain ⟨_, _, _, _, s4⟩ := hP; exact SqL.of (s4 _ _ (s03 _ _ el))) (fun k x H4 hx4 hP => ?_) (fun H4 hP => ?_)
        · obtain ⟨es, eD4, le_, rows4, s4⟩ := hP
          have pP3 := pP.same s03
          obtain ⟨t, ht, pt, rfl, qt⟩ := Paired.at pP3 hx4
          have hk := (List.getElem?_eq_some_iff.mp hx4).1
          obtain ⟨kvs, vz, kd, z, e1, e2, pz⟩ := row_last pR ne
          have lrv := pR.len
          walk_at "rd"
          refine d_ixLm (s4 _ _ er) (by rw [e1]; exact L2.atI_last _ _) ?_
          refine ⟨t, z, ⟨pt, rfl, Same.sqt s4 qt⟩, pz.same s4, ?_⟩
          walk_at "rd"
          refine ite2 (fun c => ?_) (fun c => ?_)
          · have lt := pltB_iff.mp c
            walk_at "rd"
            refine ⟨sz (by show 1 ≤ 100000; decide), fun p1 f1 => ?_⟩
            have s5 := same_new (o := .lst [V.ref pt]) f1
            have eb := upd_same (H := H4) (a := p1) (o := .lst [V.ref pt])
            generalize upd H4 p1 (.lst [V.ref pt]) = H5 at s5 eb ⊢
            have eD5 := s5 _ _ eD4
            walk_at "rd"
            refine ⟨r, p1, rvs, [.ref pt], rfl, rfl, s5 _ _ (s4 _ _ er), eb, sz (by show rvs.length + 1 ≤ 100000; omega), fun p2 f2 => ?_⟩
            have s6 := same_new (o := .lst (rvs ++ [V.ref pt])) f2
            have e6 := upd_same (H := H5) (a := p2) (o := .lst (rvs ++ [V.ref pt]))
            have n2 : p2 ≠ D2 := (ne_of_none eD5 f2).symm
            generalize upd H5 p2 (.lst (rvs ++ [V.ref pt])) = H6 at s6 e6 ⊢
            have eD6 := s6 _ _ eD5
            have s46 := Same.trans s5 s6
            have s36 := Same.trans s4 s46
            refine ⟨es, eD6, szl (by omega), es ++ [.ref p2], upd_same, by rw [List.length_append]; show es.length + 1 ≤ k + 1; omega, fun v hv => ?_, same_upd s36 fD2⟩
            rcases List.mem_append.mp hv with hv | hv
            · exact ((rows4 v hv).same s46).put eD6
            · rw [List.mem_singleton.mp hv]
              have one : RowAt K H6 D2 ps (1 + 1) (.ref p2) := ⟨p2, rvs ++ [.ref pt], ld ++ [t], rfl, n2, e6, Paired.snoc (pR.same s36) ⟨pt, rfl, Same.sqt s36 qt⟩, last_lt so (by rw [e2]; simp) lt, fun x hx => (List.mem_append.mp hx).elim (sub x) fun h => by rw [List.mem_singleton.mp h]; exact List.mem_of_getElem? ht, by simp, by rw [List.length_append]; show ld.length + 1 ≤ _; omega⟩
              exact one.put eD6
          · exact ⟨es, eD4, by omega, rows4, s4⟩
        · obtain ⟨es, eD4, le_, rows4, s4⟩ := hP
          have eF4 := s4 _ _ eF
          refine ⟨F, D2, gs, es, rfl, rfl, eF4, eD4, sz (by omega), fun p2 f2 => ?_⟩
          walk_at "rd"
          have s5 := same_new (o := .lst (gs ++ es)) f2
          refine ⟨_, _, _, gs ++ es, rfl, Same.trans s3 (Same.trans s4 s5), upd_same, by rw [List.length_append]; omega, fun v hv => ?_⟩
          rcases List.mem_append.mp hv with hv | hv
          · have x1 := ((rowsF v hv).same s4).move f2
            obtain ⟨r1, rvs1, ld1, e0, n, q0, p0, rr⟩ := x1
            exact ⟨r1, rvs1, ld1, e0, n, s5 _ _ q0, p0.same s5, rr⟩
          · have x1 := (rows4 v hv).move f2
            obtain ⟨r1, rvs1, ld1, e0, n, q0, p0, rr⟩ := x1
            exact ⟨r1, rvs1, ld1, e0, n, s5 _ _ q0, p0.same s5, rr⟩
      · obtain ⟨F, y2, y3, gs, rfl, s3, eF, lg, rowsF⟩ := hP
        have s03' := Same.trans s02 s3
        walk_at "rd"
        refine d_iLe (SqL.of eF) ?_
        intro G fG
        refine lc_list (K := K) (a := F) (xs := gs) (fun i H4 => ∃ hs, H4 G = some (.lst hs) ∧ hs.length ≤ i ∧ (∀ v ∈ hs, RowAt K H4 G ps 2 v) ∧ Same H3 H4) ⟨[], upd_same, Nat.le_refl _, (fun v hv => nomatch hv), same_new fG⟩ (fun i H4 _ hP => by obtain ⟨_, _, _, _, s4⟩ := hP; exact SqL.of (s4 _ _ eF)) (fun i x H4 hx hP => ?_) (fun H4 hP => ?_)
        · obtain ⟨hs, eG, lh, rowsG, s4⟩ := hP
          have hi := (List.getElem?_eq_some_iff.mp hx).1
          have row := ((rowsF x (List.mem_of_getElem? hx)).move fG).same s4
          obtain ⟨r, rvs, ld, rfl, nr, er, rr⟩ := id row
          walk_at "rd"
          refine d_lenL (SqL.of er) ?_
          walk_at "rd"
          refine ite2 (fun c => ?_) (fun c => ?_)
          · walk_at "rd"
            refine ⟨hs, eG, szl (by omega), hs ++ [.ref r], upd_same, by rw [List.length_append]; show hs.length + 1 ≤ i + 1; omega, fun v hv => ?_, same_upd s4 fG⟩
            rcases List.mem_append.mp hv with hv | hv
            · exact (rowsG v hv).put eG
            · rw [List.mem_singleton.mp hv]; exact row.put eG
          · exact ⟨hs, eG, by omega, rowsG, s4⟩
        · obtain ⟨hs, eG, lh, rowsG, s4⟩ := hP
          have s04 := Same.trans s03' s4
          have rowsF4 : ∀ v ∈ gs, RowAt K H4 F ps 3 v := fun v hv => ((rowsF v hv).same s4).mono (by decide)
          have eF4 := s4 _ _ eF
          walk_at "rd"
          refine d_iLe (SqL.of (by first | exact s04 _ _ eG | exact eG)) ?_
          refine for_it (walk_list (K := K) (xs := hs)) (fun i σ H5 => ∃ F y2 y3 gs, σ = [some (.ref l), some (.ref F), y2, y3] ∧ Same H4 H5 ∧ H5 F = some (.lst gs) ∧ gs.length ≤ 1000 + 16 * i ∧ ∀ v ∈ gs, RowAt K H5 F ps 3 v)
            ⟨F, _, _, gs, rfl, Same.refl _, eF4, by omega, rowsF4⟩ (fun i σ H5 _ hP => ?_) (fun i x σ H5' H5 hi hP hy => ?_) (fun σ H5 hP => ?_)
          · obtain ⟨_, _, _, _, _, s5, _⟩ := hP
            exact SqL.of (s5 _ _ eG)
          · obtain ⟨F, y2, y3, gs, rfl, s3, eF, lg, rowsF⟩ := hP
            obtain ⟨rfl, hx⟩ := hy
            obtain ⟨r, rvs, ld, rfl, nr, er, pR, so, sub, ne, lm⟩ := (rowsG x (List.mem_of_getElem? hx)).same s3
            have s03 := Same.trans s04 s3
            generalize hH3 : H5 = H3 at s3 eF rowsF er pR s03 ⊢
            walk_at "rd"
            refine d_iLe (SqL.of (s03 _ _ el)) ?_
            intro D2 fD2
            refine lc_list (K := K) (a := l) (xs := pvs) (fun k H4 => ∃ es, H4 D2 = some (.lst es) ∧ es.length ≤ k ∧ (∀ v ∈ es, RowAt K H4 D2 ps (2 + 1) v) ∧ Same H3 H4) ⟨[], upd_same, Nat.le_refl _, (fun v hv => nomatch hv), same_new fD2⟩ (fun k H4 _ hP => by obtain ⟨_, _, _, _, s4⟩ := hP; exact SqL.of (s4 _ _ (s03 _ _ el))) (fun k x H4 hx4 hP => ?_) (fun H4 hP => ?_)
            · obtain ⟨es, eD4, le_, rows4, s4⟩ := hP
              have pP3 := pP.same s03
              obtain ⟨t, ht, pt, rfl, qt⟩ := Paired.at pP3 hx4
              have hk := (List.getElem?_eq_some_iff.mp hx4).1
              obtain ⟨kvs, vz, kd, z, e1, e2, pz⟩ := row_last pR ne
              have lrv := pR.len
              walk_at "rd"
              refine d_ixLm (s4 _ _ er) (by rw [e1]; exact L2.atI_last _ _) ?_
              refine ⟨t, z, ⟨pt, rfl, Same.sqt s4 qt⟩, pz.same s4, ?_⟩
              walk_at "rd"
              refine ite2 (fun c => ?_) (fun c => ?_)
              · have lt := pltB_iff.mp c
                walk_at "rd"
                refine ⟨sz (by show 1 ≤ 100000; decide), fun p1 f1 => ?_⟩
                have s5 := same_new (o := .lst [V.ref pt]) f1
                have eb := upd_same (H := H4) (a := p1) (o := .lst [V.ref pt])
                generalize upd H4 p1 (.lst [V.ref pt]) = H5 at s5 eb ⊢
                have eD5 := s5 _ _ eD4
                walk_at "rd"
                refine ⟨r, p1, rvs, [.ref pt], rfl, rfl, s5 _ _ (s4 _ _ er), eb, sz (by show rvs.length + 1 ≤ 100000; omega), fun p2 f2 => ?_⟩
                have s6 := same_new (o := .lst (rvs ++ [V.ref pt])) f2
                have e6 := upd_same (H := H5) (a := p2) (o := .lst (rvs ++ [V.ref pt]))
                have n2 : p2 ≠ D2 := (ne_of_none eD5 f2).symm
                generalize upd H5 p2 (.lst (rvs ++ [V.ref pt])) = H6 at s6 e6 ⊢
                have eD6 := s6 _ _ eD5
                have s46 := Same.trans s5 s6
                have s36 := Same.trans s4 s46
                refine ⟨es, eD6, szl (by omega), es ++ [.ref p2], upd_same, by rw [List.length_append]; show es.length + 1 ≤ k + 1; omega, fun v hv => ?_, same_upd s36 fD2⟩
                rcases List.mem_append.mp hv with hv | hv
                · exact ((rows4 v hv).same s46).put eD6
                · rw [List.mem_singleton.mp hv]
                  have one : RowAt K H6 D2 ps (2 + 1) (.ref p2) := ⟨p2, rvs ++ [.ref pt], ld ++ [t], rfl, n2, e6, Paired.snoc (pR.same s36) ⟨pt, rfl, Same.sqt s36 qt⟩, last_lt so (by rw [e2]; simp) lt, fun x hx => (List.mem_append.mp hx).elim (sub x) fun h => by rw [List.mem_singleton.mp h]; exact List.mem_of_getElem? ht, by simp, by rw [List.length_append]; show ld.length + 1 ≤ _; omega⟩
                  exact one.put eD6
              · exact ⟨es, eD4, by omega, rows4, s4⟩
            · obtain ⟨es, eD4, le_, rows4, s4'⟩ := hP
              have eF4' := s4' _ _ eF
              refine ⟨F, D2, gs, es, rfl, rfl, eF4', eD4, sz (by omega), fun p2 f2 => ?_⟩
              walk_at "rd"
              have s5 := same_new (o := .lst (gs ++ es)) f2
              refine ⟨_, _, _, gs ++ es, rfl, Same.trans s3 (Same.trans s4' s5), upd_same, by rw [List.length_append]; omega, fun v hv => ?_⟩
              rcases List.mem_append.mp hv with hv | hv
              · have x1 := ((rowsF v hv).same s4').move f2
                obtain ⟨r1, rvs1, ld1, e0, n, q0, p0, rr⟩ := x1
                exact ⟨r1, rvs1, ld1, e0, n, s5 _ _ q0, p0.same s5, rr⟩
              · have x1 := (rows4 v hv).move f2
                obtain ⟨r1, rvs1, ld1, e0, n, q0, p0, rr⟩ := x1
                exact ⟨r1, rvs1, ld1, e0, n, s5 _ _ q0, p0.same s5, rr⟩
          · obtain ⟨F, y2, y3, gs, rfl, s5, eF, lg, rowsF⟩ := hP
            walk_at "rd"
            exact q _ F gs (Same.trans s04 s5) eF rowsF
theorem ite_val {c b : Bool} {t : TE} {σ : L2.St} {H H3 : Hp} {Q : VK} (go : ∀ H4, Same H H4 → Q (.bl b) H4) (h1 : c = true → ∀ Q : VK, (∀ H4, Same H H4 → Q (.bl b) H4) → t σ H3 Q) (h2 : c = false → b = false ∧ Same H H3) : if c = true then t σ H3 Q else Q (.bl false) H3 := by
  cases c with
  | true => rw [if_pos rfl]; exact h1 rfl Q go
  | false =>
    rw [if_neg (by decide)]
    obtain ⟨e, s⟩ := h2 rfl
    have := go _ s
    rw [e] at this
    exact this
/-- a row is let by as a lead just where its places are unlike, and lies just where its pairs fit -/
def spRowR (K : PySem.W.Frag) (P : Addr) : Sp := fun vs H Q _ => ∃ v u v' u' r rvs ld, vs = [v, v', .ref r] ∧ H P = some (TbX P) ∧ WebAt K H v u ∧ WOk u ∧ WebAt K H v' u' ∧ WOk u' ∧ H r = some (.lst rvs) ∧ Pairs K H rvs ld ∧ ld.Pairwise plt ∧ LikeP u u' ld ∧ ld.length ≤ 3 ∧ ∀ H', Same H H' → Q (.bl true) H'
theorem ok_right (T : Tx K mg base) : FnOk P w K mg base CX0 5 T.right.f T.right.fd ["one", "other", "row"] (spRowR K T.P_is_lead) := by
  refine T.right.F.ok sc_right (fun vs H Q E h => ?_) (fun cdv A outer s H vs Q E hr h => ?_)
  · obtain ⟨_, _, _, _, _, _, _, rfl, _⟩ := h; rfl
  · obtain ⟨v, u, v', u', r, rvs, ld, rfl, tab, hw, W, hw', W', er, pR, so, like, l3, q⟩ := h
    have lrv := pR.len
    refine ⟨_, (pss_cons (ps_set (i := 3) sc_right.nd rfl (.inl rfl) (pe_and (pe_cmpR op_eq (pe_callB (cr_lenSO (wd := w) rfl) (by rfl) T.m_len (by decide +kernel) (pa_cons (pe_callTy (cr_setLw (wd := w) rfl rfl) (by rfl) T.m_set (by decide +kernel) (pa_cons (pe_lc (own := [("pair", 6)]) (g := gName 6) (tt := tYes) (te := tOp (rIxT K) (tVar 6) (tC (.int 0))) rfl sc_right.nd (pi_list (pv 2)) (blkOk_by (N := ["one", "other", "row", "unlike", "two", "at", "pair", "beside"]) (sc := defScope s_right) (by decide +kernel)) (fun _ _ _ _ _ => (pg_name (i := 6) sc_right.nd rfl (.inl rfl))) (fun _ _ _ _ _ => pts_nil) (fun _ _ _ _ _ => (pe_ix ix_tup (pv 6) pe_int (fun _ _ => rfl)))) pa_nil)) pa_nil)) (pe_callB call_len_seq (by rfl) T.m_len (by decide +kernel) (pa_cons (pv 2) pa_nil)) (nomark _)) (pe_one (pe_cmpR op_eq (pe_callB (cr_lenSO (wd := w) rfl) (by rfl) T.m_len (by decide +kernel) (pa_cons (pe_callTy (cr_setLw (wd := w) rfl rfl) (by rfl) T.m_set (by decide +kernel) (pa_cons (pe_lc (own := [("pair", 6)]) (g := gName 6) (tt := tYes) (te := tOp (rIxT K) (tVar 6) (tC (.int 1))) rfl sc_right.nd (pi_list (pv 2)) (blkOk_by (N := ["one", "other", "row", "unlike", "two", "at", "pair", "beside"]) (sc := defScope s_right) (by decide +kernel)) (fun _ _ _ _ _ => (pg_name (i := 6) sc_right.nd rfl (.inl rfl))) (fun _ _ _ _ _ => pts_nil) (fun _ _ _ _ _ => (pe_ix ix_tup (pv 6) pe_int (fun _ _ => rfl)))) pa_nil)) pa_nil)) (pe_callB call_len_seq (by rfl) T.m_len (by decide +kernel) (pa_cons (pv 2) pa_nil)) (nomark _)))))
      (pss_cons (ps_set (i := 4) sc_right.nd rfl (.inl rfl) pe_bl)
      (pss_cons (ps_for PassesOwn.never rfl (pi_enum (by rfl) T.m_enumerate (pa_cons (pv 2) pa_nil)) (pg_tup rfl (pgs_cons (pg_name (i := 5) sc_right.nd rfl (.inl rfl)) (pgs_cons (pg_name (i := 6) sc_right.nd rfl (.inr rfl)) pgs_nil)))
        (pss_one (ps_if (pt_cmpR (op_neD (hr.units)) (pe_lc (own := [("beside", 7)]) (g := gName 7) (tt := tNot (tB (tCall (spFit K) [] E0 (tCons (tVar 0) (tCons (tVar 1) (tCons (tVar 6) (tCons (tVar 7) tNil))))))) rfl sc_right.nd (pi_list (pe_slice sl_list (pv 2) (po_some (pe_op op_add (pv 5) pe_int)) po_none)) (blkOk_by (N := ["one", "other", "row", "unlike", "two", "at", "pair", "beside"]) (sc := defScope s_right) (by decide +kernel)) (fun _ _ _ _ _ => (pg_name (i := 7) sc_right.nd rfl (.inl rfl))) (fun _ _ _ _ _ => pts_one (pt_not (pt_val (pe_call (ok_fit T) (hr.mono (by decide)) (by rfl) T.fit.g T.fit.F.kp T.fit.b .nil pass0 (pa_cons (pv 0) (pa_cons (pv 1) (pa_cons (pv 6) (pa_cons (pv 7) pa_nil)))))))) (fun _ _ _ _ _ => (pv 7))) (pe_lst pa_nil) (nomark _))
          (pss_one (ps_set (i := 4) sc_right.nd rfl (.inl rfl) pe_bl))
          pss_nil)))
      (pss_cons (ps_if (PW.pt (pw_or (pt_cmpR op_ne (pe_call (ok_is_lead T) (hr.mono (by decide)) (by rfl) T.is_lead.g T.is_lead.F.kp T.is_lead.b .nil pass0 (pa_cons (pv 0) (pa_cons (pv 1) (pa_cons (pe_callTy call_list_of (by rfl) T.m_list (by decide +kernel) (pa_cons (pv 2) pa_nil)) pa_nil)))) (pv 3) (nomark _)) (pw_or1 (PW.pt (pw_and (pt_not (pt_val (pv 3))) (pw_and1 (pt_val (pv 4))))))))
        (pss_one (ps_ret pe_bl))
        pss_nil)
      (pss_cons (ps_if (pt_not (pt_val (pv 3)))
        (pss_one (ps_ret pe_bl))
        pss_nil)
      (pss_cons (ps_if (pt_cmpR op_ne (pe_call (ok_lies T) (hr.mono (by decide)) (by rfl) T.lies.g T.lies.F.kp T.lies.b .nil pass0 (pa_cons (pv 0) (pa_cons (pv 1) (pa_cons (pe_callTy call_list_of (by rfl) T.m_list (by decide +kernel) (pa_cons (pv 2) pa_nil)) pa_nil)))) (pv 4) (nomark _))
        (pss_one (ps_ret pe_bl))
        pss_nil)
      (pss_one (ps_ret (pe_or (pe_not (pv 4)) (pe_one (pe_cmpR op_eq (pe_call (ok_size_of T) (hr.mono (by decide)) (by rfl) T.size_of.g T.size_of.F.kp T.size_of.b .nil pass0 (pa_cons (pv 0) (pa_cons (pv 1) (pa_cons (pe_callTy call_list_of (by rfl) T.m_list (by decide +kernel) (pa_cons (pv 2) pa_nil)) (pa_cons pe_str pa_nil))))) (pe_callB call_len_seq (by rfl) T.m_len (by decide +kernel) (pa_cons (pv 2) pa_nil)) (nomark _)))))))))))), ?_⟩
    walk_at "rd"
    refine d_iLe (SqL.of er) ?_
    intro D fD
    refine lc_list (K := K) (a := r) (xs := rvs) (fun m H2 => H2 D = some (.lst (((ld.map (·.1)).take m).map fun z => V.int (z : Nat))) ∧ Same H H2) ⟨by rw [List.take_zero]; exact upd_same, same_new fD⟩ (fun m H2 _ hP => SqL.of (hP.2 _ _ er)) (fun m x H2 hx hP => ?_) (fun H2 hP => ?_)
    · obtain ⟨eD, s2⟩ := hP
      obtain ⟨t, ht, pt, rfl, qt⟩ := Paired.at pR hx
      walk_at "rd"
      refine d_ixT (Same.sqt s2 qt) rfl ?_
      have ht2 : (ld.map (·.1))[m]? = some t.1 := by rw [List.getElem?_map, ht]; rfl
      refine ⟨_, eD, szl (by rw [List.length_map, List.length_take, List.length_map]; omega), ?_, same_upd s2 fD⟩
      rw [upd_same, take_snoc ht2, List.map_append]
      rfl
    obtain ⟨eD, s2⟩ := hP
    rw [lrv, show (ld.map (·.1)).take ld.length = ld.map (·.1) by rw [← List.length_map (f := fun x : Nat × Nat => x.1) (as := ld), List.take_length]] at eD
    walk_at "rd"
    refine ⟨D, zs (ld.map (·.1)), rfl, SqL.of (by rw [← ints_map]; exact eD), by rw [zs_len, List.length_map]; omega, fun S n le fS => ?_⟩
    have s3 := same_new (o := SetO w S (fun k => decide (k ∈ zs (ld.map (·.1)))) n) fS
    walk_at "rd"
    refine ⟨S, _, n, rfl, upd_same, fun ks nd mem len => ?_⟩
    walk_at "rd"
    have s03 := Same.trans s2 s3
    refine d_lenL (SqL.of (s03 _ _ er)) ?_
    refine ⟨rfl, ?_⟩
    have e1 : decide (V.int (n : Nat) = V.int (rvs.length : Nat)) = decide (ld.map (·.1)).Nodup := by
      refine decide_eq_decide.mpr ?_
      rw [V.int.injEq]
      have z := len_nodup nd (ns := zs (ld.map (·.1))) fun k => by rw [← mem, decide_eq_true_eq]
      rw [len, zs_len, zs_nodup, List.length_map] at z
      exact ⟨fun h => z.mp (by omega), fun h => by have := z.mpr h; omega⟩
    rw [e1]
    generalize upd H2 S _ = H3 at s3 s03 ⊢
    clear mem len ks nd le e1 eD
    walk_at "rd"
    refine ite_val (H := H) (b := leadB ld) ?go (fun c QQ qq => ?h1) (fun c => ?h2)
    case h2 => exact ⟨by rw [lead_unlike so, c]; rfl, s03⟩
    case h1 =>
      walk_at "rd"
      refine d_iLe (SqL.of (s03 _ _ er)) ?_
      intro D fD
      refine lc_list (K := K) (a := r) (xs := rvs) (fun m H4 => H4 D = some (.lst (((ld.map (·.2)).take m).map fun z => V.int (z : Nat))) ∧ Same H3 H4) ⟨by rw [List.take_zero]; exact upd_same, same_new fD⟩ (fun m H4 _ hP => SqL.of (hP.2 _ _ (s03 _ _ er))) (fun m x H4 hx hP => ?_) (fun H4 hP => ?_)
      · obtain ⟨eD, s4⟩ := hP
        obtain ⟨t, ht, pt, rfl, qt⟩ := Paired.at pR hx
        walk_at "rd"
        refine d_ixT (Same.sqt (Same.trans s03 s4) qt) rfl ?_
        have ht2 : (ld.map (·.2))[m]? = some t.2 := by rw [List.getElem?_map, ht]; rfl
        refine ⟨_, eD, szl (by rw [List.length_map, List.length_take, List.length_map]; omega), ?_, same_upd s4 fD⟩
        rw [upd_same, take_snoc ht2, List.map_append]
        rfl
      · obtain ⟨eD, s4⟩ := hP
        rw [lrv, show (ld.map (·.2)).take ld.length = ld.map (·.2) by rw [← List.length_map (f := fun x : Nat × Nat => x.2) (as := ld), List.take_length]] at eD
        walk_at "rd"
        refine ⟨D, zs (ld.map (·.2)), rfl, SqL.of (by rw [← ints_map]; exact eD), by rw [zs_len, List.length_map]; omega, fun S n le fS => ?_⟩
        have s5 := same_new (o := SetO w S (fun k => decide (k ∈ zs (ld.map (·.2)))) n) fS
        walk_at "rd"
        refine ⟨S, _, n, rfl, upd_same, fun ks nd mem len => ?_⟩
        walk_at "rd"
        have s05 := Same.trans s03 (Same.trans s4 s5)
        refine d_lenL (SqL.of (s05 _ _ er)) ?_
        refine ⟨rfl, ?_⟩
        have e1 : decide (V.int (n : Nat) = V.int (rvs.length : Nat)) = leadB ld := by
          rw [lead_unlike so, c, Bool.true_and]
          refine decide_eq_decide.mpr ?_
          rw [V.int.injEq]
          have z := len_nodup nd (ns := zs (ld.map (·.2))) fun k => by rw [← mem, decide_eq_true_eq]
          rw [len, zs_len, zs_nodup, List.length_map] at z
          exact ⟨fun h => z.mp (by omega), fun h => by have := z.mpr h; omega⟩
        rw [e1]
        exact qq _ s05
    intro H4 s04
    clear s03 s3 fS
    have tab4 := s04 _ _ tab
    walk_at "rd"
    refine ⟨r, rvs, rfl, SqL.of (s04 _ _ er), ?_⟩
    refine for_it (walk_enum (K := K) (a := r) (xs := rvs)) (fun i σ H5 => ∃ b y5 y6 y7, σ = [some v, some v', some (.ref r), some (.bl (leadB ld)), some (.bl b), y5, y6, y7] ∧ Same H4 H5 ∧ (b = true ↔ ∀ (k m : Nat) p q, k < i → k < m → ld[k]? = some p → ld[m]? = some q → fitB u u' p q = true))
      ⟨true, _, _, _, rfl, Same.refl _, ⟨fun _ k m p q h => by omega, fun _ => rfl⟩⟩ (fun i σ H5 _ hP => ?_) (fun i x σ H5 H5' hi hP hy => ?_) (fun σ H5 hP => ?_)
    · obtain ⟨_, _, _, _, _, s5, _⟩ := hP
      exact SqL.of (s5 _ _ (s04 _ _ er))
    · obtain ⟨b, y5, y6, y7, rfl, s5, ib⟩ := hP
      obtain ⟨T', x', y', rfl, fT, rfl, ex, ey⟩ := hy
      cases ex
      obtain ⟨p, hp, pa, rfl, qp⟩ := Paired.at pR ey
      have s45 := Same.trans s5 (same_new (o := .tup [V.int (i : Nat), V.ref pa]) fT)
      refine d_gtupm upd_same rfl ?_
      generalize upd H5 T' (.tup [V.int (i : Nat), V.ref pa]) = H6 at s45 ⊢
      have s06 := Same.trans s04 s45
      have hil : i < ld.length := (List.getElem?_eq_some_iff.mp hp).1
      walk_at "rd"
      refine d_slL (SqL.of (s06 _ _ er)) fun p1 f1 => ?_
      rw [show ((i : Nat) : Int) + 1 = ((i + 1 : Nat) : Int) from rfl, cut_drop _ _ (by omega)]
      have s7 := same_new (o := .lst (rvs.drop (i + 1))) f1
      have ep1 := upd_same (H := H6) (a := p1) (o := .lst (rvs.drop (i + 1)))
      generalize upd H6 p1 (.lst (rvs.drop (i + 1))) = H7 at s7 ep1 ⊢
      have s07 := Same.trans s06 s7
      have pD : Pairs K H7 (rvs.drop (i + 1)) (ld.drop (i + 1)) := paired_drop (i + 1) (pR.same s07)
      walk_at "rd"
      refine d_iLe (SqL.of ep1) ?_
      intro E fE
      refine lc_list (K := K) (a := p1) (xs := rvs.drop (i + 1)) (fun j H8 => ∃ es kd, H8 E = some (.lst es) ∧ Pairs K H8 es kd ∧ kd.length ≤ j ∧ (kd = [] ↔ ∀ q ∈ (ld.drop (i + 1)).take j, fitB u u' p q = true) ∧ Same H7 H8) ⟨[], [], upd_same, .nil, Nat.le_refl _, by simp, same_new fE⟩ (fun j H8 _ hP => by obtain ⟨_, _, _, _, _, _, s8⟩ := hP; exact SqL.of (s8 _ _ ep1)) (fun j x H8 hx hP => ?_) (fun H8 hP => ?_)
      · obtain ⟨es, kd, eE, pE, lk, ik, s8⟩ := hP
        have s08 := Same.trans s07 s8
        obtain ⟨q0, hq, qa0, rfl, qq⟩ := Paired.at pD hx
        have hj := (List.getElem?_eq_some_iff.mp hx).1
        rw [List.length_drop] at hj
        have les := pE.len
        rw [take_snoc hq]
        walk_at "rd"
        refine ⟨v, u, v', u', _, p, _, q0, rfl, hw.same s08, W, hw'.same s08, W', ⟨pa, rfl, Same.sqt s08 qp⟩, ⟨qa0, rfl, Same.sqt s8 qq⟩, fun H9 s9 => ?_⟩
        have s89 := Same.trans s8 s9
        walk_at "rd"
        cases ef : fitB u u' p q0 with
        | false =>
          walk_at "rd"
          refine ⟨es, s9 _ _ eE, szl (by omega), es ++ [.ref qa0], kd ++ [q0], upd_same, ?_, by rw [List.length_append]; show kd.length + 1 ≤ j + 1; omega, ?_, same_upd s89 fE⟩
          · exact Paired.snoc ((pE.same s9).put (.inr ⟨_, s9 _ _ eE⟩)) ⟨qa0, rfl, sqt_upd (.inr ⟨_, s9 _ _ eE⟩) (Same.sqt s89 qq)⟩
          · refine ⟨fun h => by simp at h, fun h => ?_⟩
            have := h q0 (List.mem_append_right _ (List.mem_singleton.mpr rfl))
            rw [ef] at this; cases this
        | true =>
          walk_at "rd"
          refine ⟨es, kd, s9 _ _ eE, pE.same s9, by omega, ?_, s89⟩
          rw [ik]
          refine ⟨fun h q1 h1 => (List.mem_append.mp h1).elim (h q1) fun h2 => by rw [List.mem_singleton.mp h2]; exact ef, fun h q1 h1 => h q1 (List.mem_append_left _ h1)⟩
      · obtain ⟨es, kd, eE, pE, lk, ik, s8⟩ := hP
        rw [show (ld.drop (i + 1)).take (rvs.drop (i + 1)).length = ld.drop (i + 1) by rw [List.length_drop, lrv, ← List.length_drop, List.take_length]] at ik
        walk_at "rd"
        refine ⟨sz (by decide), fun p2 f2 => ?_⟩
        have s9 := same_new (o := .lst []) f2
        have s49 := Same.trans s45 (Same.trans s7 (Same.trans s8 s9))
        refine ⟨_, .list [], (pE.same s9).dp (s9 _ _ eE), .lst (SqL.of upd_same) .nil, pairsD_good _, by decide, ?_⟩
        have ed : PyData.eqv (pairsD kd) (.list []) = decide (kd = []) := by
          unfold pairsD
          rw [eqv_nil]
          cases kd <;> simp
        rw [ed]
        generalize upd H8 p2 (.lst []) = H9 at s9 s49 ⊢
        have step : ∀ c : Bool, (c = true ↔ (b = true ∧ kd = [])) → (c = true ↔ ∀ (k m : Nat) p q, k < i + 1 → k < m → ld[k]? = some p → ld[m]? = some q → fitB u u' p q = true) := fun c hc => by
          rw [hc, ib, ik]
          constructor
          · rintro ⟨h1, h2⟩ k m p1 q1 hk hm hp1 hq1
            by_cases e : k = i
            · subst e
              rw [hp] at hp1
              cases hp1
              refine h2 q1 (List.mem_of_getElem? (i := m - (k + 1)) ?_)
              rw [List.getElem?_drop]
              rw [show k + 1 + (m - (k + 1)) = m by omega]
              exact hq1
            · exact h1 k m p1 q1 (by omega) hm hp1 hq1
          · intro h
            refine ⟨fun k m p1 q1 hk hm => h k m p1 q1 (by omega) hm, fun q1 h1 => ?_⟩
            obtain ⟨m, hm⟩ := List.getElem?_of_mem h1
            rw [List.getElem?_drop] at hm
            exact h i (i + 1 + m) p q1 (by omega) (by omega) hp hm
        walk_at "rd"
        by_cases ek : kd = []
        · rw [decide_eq_true ek]
          walk_at "rd"
          exact ⟨b, _, _, _, rfl, s49, step b ⟨fun h => ⟨h, ek⟩, fun h => h.1⟩⟩
        · rw [decide_eq_false ek]
          walk_at "rd"
          exact ⟨false, _, _, _, rfl, s49, step false ⟨(fun h => by cases h), fun h => absurd h.2 ek⟩⟩
    · obtain ⟨b, y5, y6, y7, rfl, s5, ib⟩ := hP
      have s05 := Same.trans s04 s5
      have fb : b = decide (fitsB u u' ld) := by
        rw [Bool.eq_iff_iff, ib, decide_eq_true_eq]
        constructor
        · intro h
          refine List.pairwise_iff_getElem.mpr fun k m hk hm km => ?_
          exact h k m _ _ (by rw [lrv]; exact hk) km (List.getElem?_eq_getElem hk) (List.getElem?_eq_getElem hm)
        · intro h k m p q _ km hp hq
          obtain ⟨hk, rfl⟩ := List.getElem?_eq_some_iff.mp hp
          obtain ⟨hm, rfl⟩ := List.getElem?_eq_some_iff.mp hq
          exact List.pairwise_iff_getElem.mp h k m hk hm km
      clear ib
      walk_at "rd"
      have go : ∀ (c : Bool), c = true → c = true := fun _ h => h
      refine ⟨r, rvs, rfl, .inl (SqL.of (s05 _ _ er)), fun p1 f1 => ?_⟩
      have s6 := same_new (o := .lst rvs) f1
      have e1 := upd_same (H := H5) (a := p1) (o := .lst rvs)
      generalize upd H5 p1 (.lst rvs) = H6 at s6 e1 ⊢
      have s06 := Same.trans s05 s6
      walk_at "rd"
      refine ⟨v, u, v', u', p1, rvs, ld, rfl, s06 _ _ tab, hw.same s06, W, hw'.same s06, W', SqL.of e1, pR.same s06, like, by omega, fun H7 s7 => ?_⟩
      have s07 := Same.trans s06 s7
      walk_at "rd"
      refine ⟨rfl, ?_⟩
      walk_at "rd"
      refine iteNS rfl ?_
      have pR7 := pR.same s07
      have er7 := s07 _ _ er
      cases el : leadB ld with
      | false =>
        have nb : b = false := by
          rw [fb]
          refine decide_eq_false fun h => ?_
          rw [fits_lead so h] at el; cases el
        subst nb
        walk_at "rd"
        exact q _ s07
      | true =>
        have lb := fits_lies W W' el
        rw [← fb] at lb
        walk_at "rd"
        refine ⟨r, rvs, rfl, .inl (SqL.of er7), fun p2 f2 => ?_⟩
        have s8 := same_new (o := .lst rvs) f2
        have e2 := upd_same (H := H7) (a := p2) (o := .lst rvs)
        generalize upd H7 p2 (.lst rvs) = H8 at s8 e2 ⊢
        have s08 := Same.trans s07 s8
        walk_at "rd"
        refine ⟨v, v', p2, u, u', rvs, ld, rfl, hw.same s08, W, hw'.same s08, W', e2, pR.same s08, by omega, fun H9 s9 => ?_⟩
        rw [lb]
        have s09 := Same.trans s08 s9
        walk_at "rd"
        refine ⟨rfl, ?_⟩
        walk_at "rd"
        refine iteNS rfl ?_
        walk_at "rd"
        cases b with
        | false => exact ⟨.bl false, rfl, false, rfl, true, rfl, iteT (q _ s09)⟩
        | true =>
          refine ⟨.bl true, rfl, true, rfl, false, rfl, iteF ?_⟩
          walk_at "rd"
          refine ⟨r, rvs, rfl, .inl (SqL.of (s09 _ _ er)), fun p3 f3 => ?_⟩
          have s10 := same_new (o := .lst rvs) f3
          walk_at "rd"
          refine ⟨v, v', p3, rvs, rfl, upd_same, fun H11 s11 => ?_⟩
          have s0B := Same.trans s09 (Same.trans s10 s11)
          walk_at "rd"
          refine d_lenL (SqL.of (s0B _ _ er)) ?_
          walk_at "rd"
          rw [decide_eq_true rfl]
          exact q _ s0B
theorem ok_law (T : Tx K mg base) : FnOk P w K mg base CX0 6 T.law.f T.law.fd ["script"] (spLawT K T.cs) := by
  refine T.law.F.ok sc_law (fun vs H Q E h => ?_) (fun cdv A outer s H vs Q E hr h => ?_)
  · obtain ⟨_, _, rfl, _⟩ := h; rfl
  · obtain ⟨a, ns, rfl, hS, hl, tabs, q⟩ := h
    refine ⟨_, (pss_cons (ps_for PassesOwn.never rfl (pi_range1 (by rfl) T.m_range (pa_cons pe_int pa_nil)) (pg_name (i := 1) sc_law.nd rfl (.inl rfl))
        (pss_cons (ps_set (i := 2) sc_law.nd rfl (.inl rfl) (pe_call (ok_purse T) (hr.mono (by decide)) (by rfl) T.purse.g T.purse.F.kp T.purse.b .nil pass0 (pa_cons (pv 0) (pa_cons (pv 1) (pa_cons pe_int (pa_cons pe_int pa_nil))))))
        (pss_cons (ps_asg (pe_call (ok_two T) (hr.mono (by decide)) (by rfl) T.two.g T.two.F.kp T.two.b .nil pass0 (pa_cons (pv 2) (pa_cons pe_int pa_nil))) (pg_tup rfl (pgs_cons (pg_name (i := 3) sc_law.nd rfl (.inl rfl)) (pgs_cons (pg_name (i := 4) sc_law.nd rfl (.inl rfl)) pgs_nil))))
        (pss_cons (ps_set (i := 5) sc_law.nd rfl (.inl rfl) (pe_call (ok_pairs T) (hr.mono (by decide)) (by rfl) T.pairs.g T.pairs.F.kp T.pairs.b .nil pass0 (pa_cons (pv 3) (pa_cons (pv 4) pa_nil))))
        (pss_cons (ps_for PassesOwn.never rfl (pi_list (pe_call (ok_rows T) (hr.mono (by decide)) (by rfl) T.rows.g T.rows.F.kp T.rows.b .nil pass0 (pa_cons (pv 5) pa_nil))) (pg_name (i := 6) sc_law.nd rfl (.inl rfl))
          (pss_one (ps_if (pt_not (pt_val (pe_call (ok_right T) (hr.mono (by decide)) (by rfl) T.right.g T.right.F.kp T.right.b .nil pass0 (pa_cons (pv 3) (pa_cons (pv 4) (pa_cons (pv 6) pa_nil))))))
            (pss_one (ps_ret pe_bl))
            pss_nil)))
        (pss_one (ps_if (PW.pt (pw_or (pt_cmpR op_notBl (pe_call (ok_is_lead T) (hr.mono (by decide)) (by rfl) T.is_lead.g T.is_lead.F.kp T.is_lead.b .nil pass0 (pa_cons (pv 3) (pa_cons (pv 4) (pa_cons (pe_lst pa_nil) pa_nil)))) pe_bl (nomark _)) (pw_or1 (pt_cmpR op_notBl (pe_call (ok_lies T) (hr.mono (by decide)) (by rfl) T.lies.g T.lies.F.kp T.lies.b .nil pass0 (pa_cons (pv 3) (pa_cons (pv 4) (pa_cons (pe_lst pa_nil) pa_nil)))) pe_bl (nomark _)))))
          (pss_one (ps_ret pe_bl))
          pss_nil)))))))
      (pss_one (ps_ret pe_bl))), ?_⟩
    walk_at "rd"
    refine for_range (fun i σ H0 => ∃ y1 y2 y3 y4 y5 y6, σ = [some (.ref a), y1, y2, y3, y4, y5, y6] ∧ Same H H0) ⟨_, _, _, _, _, _, rfl, Same.refl _⟩ (fun i σ H0 hi hP => ?_) (fun σ H0 hP => ?_)
    · obtain ⟨y1, y2, y3, y4, y5, y6, rfl, s0⟩ := hP
      walk_at "rd"
      refine ⟨a, ns, _, 2, 120, rfl, Same.seq s0 hS, hl, by decide, by decide, by decide, fun H1 p s1 fp hh => ?_⟩
      walk_at "rd"
      refine ⟨p, 4, rfl, by decide, by decide, hh, fun H2 p2 v u v' u' k2 hh2 qp hw W hw' W' lu lu' => ?_⟩
      refine d_gtup qp rfl ?_
      have s02 : Same H H2 := Same.trans s0 (Keep.out s1 k2 fp)
      have few : (pairsL u u').length ≤ 16 := by
        have key : ∀ n, (preL u u' n).length ≤ 4 * n := fun n => by
          induction n with
          | zero => simp [preL]
          | succ n ih =>
            rw [preL_succ, List.length_append]
            have := rowL_len u u' n u'.1.length
            omega
        have := key u.1.length
        unfold pairsL
        omega
      walk_at "rd"
      refine ⟨v, u, v', u', rfl, hw, W, hw', W', fun H3 L pvs s3 fL eL pP => ?_⟩
      walk_at "rd"
      refine ⟨L, pvs, _, rfl, eL, pP, few, fun H4 R fs s4 eR rows => ?_⟩
      walk_at "rd"
      refine d_iLe (SqL.of eR) ?_
      have s24 := Same.trans s3 s4
      refine for_it (walk_list (K := K) (xs := fs)) (fun j σ H5 => ∃ y6, σ = [some (.ref a), some (.int (0 + (i : Nat))), some (.ref p), some v, some v', some (.ref L), y6] ∧ Same H4 H5) ⟨_, rfl, Same.refl _⟩ (fun j σ H5 _ hP => ?_) (fun j x σ H5' H5 hj hP hy => ?_) (fun σ H5 hP => ?_)
      · obtain ⟨_, _, s5⟩ := hP
        exact SqL.of (s5 _ _ eR)
      · obtain ⟨y6, rfl, s5⟩ := hP
        obtain ⟨rfl, hx⟩ := hy
        obtain ⟨r, rvs, ld, rfl, _, er, pR, so, sub, _, lm⟩ := (rows x (List.mem_of_getElem? hx)).same s5
        have s25 := Same.trans s24 s5
        have tab := (Same.trans s02 s25) _ _ (tabs _ List.mem_cons_self)
        walk_at "rd"
        refine ⟨v, u, v', u', r, rvs, ld, rfl, tab, hw.same s25, W, hw'.same s25, W', er, pR, so, fun x hx => mem_pairsL.mp (sub x hx), lm, fun H6 s6 => ?_⟩
        walk_at "rd"
        exact ⟨_, rfl, Same.trans s5 s6⟩
      · obtain ⟨y6, rfl, s5⟩ := hP
        have s25 := Same.trans s24 s5
        have s05 := Same.trans s02 s25
        walk_at "rd"
        refine ⟨sz (by decide), fun p1 f1 => ?_⟩
        have s6 := same_new (o := .lst []) f1
        have e6 := upd_same (H := H5) (a := p1) (o := .lst [])
        generalize upd H5 p1 (.lst []) = H6 at s6 e6 ⊢
        have s06 := Same.trans s05 s6
        have s26 := Same.trans s25 s6
        walk_at "rd"
        refine ⟨v, u, v', u', p1, [], [], rfl, s06 _ _ (tabs _ List.mem_cons_self), hw.same s26, W, hw'.same s26, W', SqL.of e6, .nil, (fun x hx => nomatch hx), by decide, fun H7 s7 => ?_⟩
        rw [show leadB [] = true by decide]
        walk_at "rd"
        refine ⟨true, true, rfl, rfl, ?_⟩
        walk_at "rd"
        refine iteNS rfl ?_
        walk_at "rd"
        refine ⟨sz (by decide), fun p2 f2 => ?_⟩
        have s8 := same_new (o := .lst []) f2
        have e8 := upd_same (H := H7) (a := p2) (o := .lst [])
        generalize upd H7 p2 (.lst []) = H8 at s8 e8 ⊢
        have s28 := Same.trans s26 (Same.trans s7 s8)
        walk_at "rd"
        refine ⟨v, v', p2, u, u', [], [], rfl, hw.same s28, W, hw'.same s28, W', e8, .nil, by decide, fun H9 s9 => ?_⟩
        rw [show lieB u u' [] = true from rfl]
        walk_at "rd"
        refine ⟨true, true, rfl, rfl, ?_⟩
        walk_at "rd"
        refine iteNS rfl ?_
        walk_at "rd"
        exact ⟨_, _, _, _, _, _, rfl, Same.trans s06 (Same.trans s7 (Same.trans s8 s9))⟩
    · obtain ⟨y1, y2, y3, y4, y5, y6, rfl, s0⟩ := hP
      walk_at "rd"
      exact q _ fun p hp => s0 _ _ (tabs p hp)

end
theorem all_mk {l : PySem.W.OpenLaw} {w : World} {K : PySem.W.Frag} {h : Heap} {mg : Str → Option Value} {fa f_2 f_3 f_4 f_5 f_7 f_8 f_10 f_11 f_12 f_13 f_14 f_16 f_17 f_18 f_19 f_20 f_21 f_22 f_23 f_24 f_25 f_26 cc10 PP10 : Addr} (X : K.In h) (G : h.Ns mainGlobals mg) (hfa : mg "law" = some (.ref fa))
    {tc10 : Value} {td10 : Option Addr} {tv10 : Array Value} {ts10 : Array (Option Value)}
    (facts : ∀ x ∈ [("is_lead" : Str)], TabFact mg h x)
    {od2 an2 od3 an3 od4 an4 od5 an5 od7 an7 od8 an8 od10 an10 od11 an11 od12 an12 od13 an13 od14 an14 od16 an16 od17 an17 od18 an18 od19 an19 od20 an20 od21 an21 od22 an22 od23 an23 od24 an24 od25 an25 od26 an26 : Option Addr} {sl2 sl3 sl4 sl5 sl7 sl8 sl10 sl11 sl12 sl13 sl14 sl16 sl17 sl18 sl19 sl20 sl21 sl22 sl23 sl24 sl25 sl26 : Array (Option Value)} {oc2 kV2 dc2 pm2 ct2 cd2 oc3 kV3 dc3 pm3 ct3 cd3 oc4 kV4 dc4 pm4 ct4 cd4 oc5 kV5 dc5 pm5 ct5 cd5 oc7 kV7 dc7 pm7 ct7 cd7 oc8 kV8 dc8 pm8 ct8 cd8 oc10 kV10 dc10 pm10 ct10 oc11 kV11 dc11 pm11 ct11 cd11 oc12 kV12 dc12 pm12 ct12 cd12 oc13 kV13 dc13 pm13 ct13 cd13 oc14 kV14 dc14 pm14 ct14 cd14 oc16 kV16 dc16 pm16 ct16 cd16 oc17 kV17 dc17 pm17 ct17 cd17 oc18 kV18 dc18 pm18 ct18 cd18 oc19 kV19 dc19 pm19 ct19 cd19 oc20 kV20 dc20 pm20 ct20 cd20 oc21 kV21 dc21 pm21 ct21 cd21 oc22 kV22 dc22 pm22 ct22 cd22 oc23 kV23 dc23 pm23 ct23 cd23 oc24 kV24 dc24 pm24 ct24 cd24 oc25 kV25 dc25 pm25 ct25 cd25 oc26 kV26 dc26 pm26 ct26 cd26 : Value}
    (a2 : PySem.W.nsIn K mainGlobals "is_place" = some (some (.ref f_2))) (l2 : K.lookup f_2 = some ⟨oc2, od2, .func (PySem.W.fnOf "is_place" "is_place" (defArgs s_is_place) (defBody s_is_place) (defScope s_is_place) .none kV2 dc2 pm2 an2 cd2 ct2), sl2⟩) (c2 : PySem.W.codeIn K cd2 "is_place" = true) (k2 : PySem.W.keepIn K (.ref f_2) = true)
    (a3 : PySem.W.nsIn K mainGlobals "rises" = some (some (.ref f_3))) (l3 : K.lookup f_3 = some ⟨oc3, od3, .func (PySem.W.fnOf "rises" "rises" (defArgs s_rises) (defBody s_rises) (defScope s_rises) .none kV3 dc3 pm3 an3 cd3 ct3), sl3⟩) (c3 : PySem.W.codeIn K cd3 "rises" = true) (k3 : PySem.W.keepIn K (.ref f_3) = true)
    (a4 : PySem.W.nsIn K mainGlobals "tie_of" = some (some (.ref f_4))) (l4 : K.lookup f_4 = some ⟨oc4, od4, .func (PySem.W.fnOf "tie_of" "tie_of" (defArgs s_tie_of) (defBody s_tie_of) (defScope s_tie_of) .none kV4 dc4 pm4 an4 cd4 ct4), sl4⟩) (c4 : PySem.W.codeIn K cd4 "tie_of" = true) (k4 : PySem.W.keepIn K (.ref f_4) = true)
    (a5 : PySem.W.nsIn K mainGlobals "kinds_by_ends" = some (some (.ref f_5))) (l5 : K.lookup f_5 = some ⟨oc5, od5, .func (PySem.W.fnOf "kinds_by_ends" "kinds_by_ends" (defArgs s_kinds_by_ends) (defBody s_kinds_by_ends) (defScope s_kinds_by_ends) .none kV5 dc5 pm5 an5 cd5 ct5), sl5⟩) (c5 : PySem.W.codeIn K cd5 "kinds_by_ends" = true) (k5 : PySem.W.keepIn K (.ref f_5) = true)
    (a7 : PySem.W.nsIn K mainGlobals "pairs" = some (some (.ref f_7))) (l7 : K.lookup f_7 = some ⟨oc7, od7, .func (PySem.W.fnOf "pairs" "pairs" (defArgs s_pairs) (defBody s_pairs) (defScope s_pairs) .none kV7 dc7 pm7 an7 cd7 ct7), sl7⟩) (c7 : PySem.W.codeIn K cd7 "pairs" = true) (k7 : PySem.W.keepIn K (.ref f_7) = true)
    (a8 : PySem.W.nsIn K mainGlobals "fit" = some (some (.ref f_8))) (l8 : K.lookup f_8 = some ⟨oc8, od8, .func (PySem.W.fnOf "fit" "fit" (defArgs s_fit) (defBody s_fit) (defScope s_fit) .none kV8 dc8 pm8 an8 cd8 ct8), sl8⟩) (c8 : PySem.W.codeIn K cd8 "fit" = true) (k8 : PySem.W.keepIn K (.ref f_8) = true)
    (a10 : PySem.W.nsIn K mainGlobals "is_lead" = some (some (.ref f_10))) (l10 : K.lookup f_10 = some ⟨oc10, od10, .func (PySem.W.fnOf "is_lead" "is_lead" (defArgs s_is_lead) (defBody s_is_lead) (defScope s_is_lead) .none kV10 dc10 pm10 an10 (.ref cc10) ct10), sl10⟩) (c10 : PySem.W.codeIn K (.ref cc10) "is_lead" = true) (k10 : PySem.W.keepIn K (.ref f_10) = true)
    (t10 : K.lookup cc10 = some ⟨tc10, td10, .fields tv10, ts10⟩) (u10 : tv10[11]? = some (.ref PP10)) (n10 : K.lookup PP10 = none)
    (a11 : PySem.W.nsIn K mainGlobals "is_pair" = some (some (.ref f_11))) (l11 : K.lookup f_11 = some ⟨oc11, od11, .func (PySem.W.fnOf "is_pair" "is_pair" (defArgs s_is_pair) (defBody s_is_pair) (defScope s_is_pair) .none kV11 dc11 pm11 an11 cd11 ct11), sl11⟩) (c11 : PySem.W.codeIn K cd11 "is_pair" = true) (k11 : PySem.W.keepIn K (.ref f_11) = true)
    (a12 : PySem.W.nsIn K mainGlobals "lies" = some (some (.ref f_12))) (l12 : K.lookup f_12 = some ⟨oc12, od12, .func (PySem.W.fnOf "lies" "lies" (defArgs s_lies) (defBody s_lies) (defScope s_lies) .none kV12 dc12 pm12 an12 cd12 ct12), sl12⟩) (c12 : PySem.W.codeIn K cd12 "lies" = true) (k12 : PySem.W.keepIn K (.ref f_12) = true)
    (a13 : PySem.W.nsIn K mainGlobals "led_ties" = some (some (.ref f_13))) (l13 : K.lookup f_13 = some ⟨oc13, od13, .func (PySem.W.fnOf "led_ties" "led_ties" (defArgs s_led_ties) (defBody s_led_ties) (defScope s_led_ties) .none kV13 dc13 pm13 an13 cd13 ct13), sl13⟩) (c13 : PySem.W.codeIn K cd13 "led_ties" = true) (k13 : PySem.W.keepIn K (.ref f_13) = true)
    (a14 : PySem.W.nsIn K mainGlobals "size_of" = some (some (.ref f_14))) (l14 : K.lookup f_14 = some ⟨oc14, od14, .func (PySem.W.fnOf "size_of" "size_of" (defArgs s_size_of) (defBody s_size_of) (defScope s_size_of) .none kV14 dc14 pm14 an14 cd14 ct14), sl14⟩) (c14 : PySem.W.codeIn K cd14 "size_of" = true) (k14 : PySem.W.keepIn K (.ref f_14) = true)
    (a16 : PySem.W.nsIn K mainGlobals "_law_mixed" = some (some (.ref f_16))) (l16 : K.lookup f_16 = some ⟨oc16, od16, .func (PySem.W.fnOf "_law_mixed" "_law_mixed" (defArgs s_mixed) (defBody s_mixed) (defScope s_mixed) .none kV16 dc16 pm16 an16 cd16 ct16), sl16⟩) (c16 : PySem.W.codeIn K cd16 "_law_mixed" = true) (k16 : PySem.W.keepIn K (.ref f_16) = true)
    (a17 : PySem.W.nsIn K mainGlobals "_law_purse" = some (some (.ref f_17))) (l17 : K.lookup f_17 = some ⟨oc17, od17, .func (PySem.W.fnOf "_law_purse" "_law_purse" (defArgs s_purse) (defBody s_purse) (defScope s_purse) .none kV17 dc17 pm17 an17 cd17 ct17), sl17⟩) (c17 : PySem.W.codeIn K cd17 "_law_purse" = true) (k17 : PySem.W.keepIn K (.ref f_17) = true)
    (a18 : PySem.W.nsIn K mainGlobals "_law_next" = some (some (.ref f_18))) (l18 : K.lookup f_18 = some ⟨oc18, od18, .func (PySem.W.fnOf "_law_next" "_law_next" (defArgs s_next) (defBody s_next) (defScope s_next) .none kV18 dc18 pm18 an18 cd18 ct18), sl18⟩) (c18 : PySem.W.codeIn K cd18 "_law_next" = true) (k18 : PySem.W.keepIn K (.ref f_18) = true)
    (a19 : PySem.W.nsIn K mainGlobals "_law_web" = some (some (.ref f_19))) (l19 : K.lookup f_19 = some ⟨oc19, od19, .func (PySem.W.fnOf "_law_web" "_law_web" (defArgs s_web) (defBody s_web) (defScope s_web) .none kV19 dc19 pm19 an19 cd19 ct19), sl19⟩) (c19 : PySem.W.codeIn K cd19 "_law_web" = true) (k19 : PySem.W.keepIn K (.ref f_19) = true)
    (a20 : PySem.W.nsIn K mainGlobals "_law_order" = some (some (.ref f_20))) (l20 : K.lookup f_20 = some ⟨oc20, od20, .func (PySem.W.fnOf "_law_order" "_law_order" (defArgs s_order) (defBody s_order) (defScope s_order) .none kV20 dc20 pm20 an20 cd20 ct20), sl20⟩) (c20 : PySem.W.codeIn K cd20 "_law_order" = true) (k20 : PySem.W.keepIn K (.ref f_20) = true)
    (a21 : PySem.W.nsIn K mainGlobals "_law_turned" = some (some (.ref f_21))) (l21 : K.lookup f_21 = some ⟨oc21, od21, .func (PySem.W.fnOf "_law_turned" "_law_turned" (defArgs s_turned) (defBody s_turned) (defScope s_turned) .none kV21 dc21 pm21 an21 cd21 ct21), sl21⟩) (c21 : PySem.W.codeIn K cd21 "_law_turned" = true) (k21 : PySem.W.keepIn K (.ref f_21) = true)
    (a22 : PySem.W.nsIn K mainGlobals "_law_near" = some (some (.ref f_22))) (l22 : K.lookup f_22 = some ⟨oc22, od22, .func (PySem.W.fnOf "_law_near" "_law_near" (defArgs s_near) (defBody s_near) (defScope s_near) .none kV22 dc22 pm22 an22 cd22 ct22), sl22⟩) (c22 : PySem.W.codeIn K cd22 "_law_near" = true) (k22 : PySem.W.keepIn K (.ref f_22) = true)
    (a23 : PySem.W.nsIn K mainGlobals "_law_two" = some (some (.ref f_23))) (l23 : K.lookup f_23 = some ⟨oc23, od23, .func (PySem.W.fnOf "_law_two" "_law_two" (defArgs s_two) (defBody s_two) (defScope s_two) .none kV23 dc23 pm23 an23 cd23 ct23), sl23⟩) (c23 : PySem.W.codeIn K cd23 "_law_two" = true) (k23 : PySem.W.keepIn K (.ref f_23) = true)
    (a24 : PySem.W.nsIn K mainGlobals "_law_rows" = some (some (.ref f_24))) (l24 : K.lookup f_24 = some ⟨oc24, od24, .func (PySem.W.fnOf "_law_rows" "_law_rows" (defArgs s_rows) (defBody s_rows) (defScope s_rows) .none kV24 dc24 pm24 an24 cd24 ct24), sl24⟩) (c24 : PySem.W.codeIn K cd24 "_law_rows" = true) (k24 : PySem.W.keepIn K (.ref f_24) = true)
    (a25 : PySem.W.nsIn K mainGlobals "_law_right" = some (some (.ref f_25))) (l25 : K.lookup f_25 = some ⟨oc25, od25, .func (PySem.W.fnOf "_law_right" "_law_right" (defArgs s_right) (defBody s_right) (defScope s_right) .none kV25 dc25 pm25 an25 cd25 ct25), sl25⟩) (c25 : PySem.W.codeIn K cd25 "_law_right" = true) (k25 : PySem.W.keepIn K (.ref f_25) = true)
    (a26 : PySem.W.nsIn K mainGlobals "law" = some (some (.ref f_26))) (l26 : K.lookup f_26 = some ⟨oc26, od26, .func (PySem.W.fnOf "law" "law" (defArgs s_law) (defBody s_law) (defScope s_law) .none kV26 dc26 pm26 an26 cd26 ct26), sl26⟩) (c26 : PySem.W.codeIn K cd26 "law" = true) (k26 : PySem.W.keepIn K (.ref f_26) = true)
    (z0 : PySem.W.nsIn K mainGlobals "abs" = some none)
    (z1 : PySem.W.nsIn K mainGlobals "all" = some none)
    (z2 : PySem.W.nsIn K mainGlobals "dict" = some none)
    (z3 : PySem.W.nsIn K mainGlobals "enumerate" = some none)
    (z4 : PySem.W.nsIn K mainGlobals "int" = some none)
    (z5 : PySem.W.nsIn K mainGlobals "len" = some none)
    (z6 : PySem.W.nsIn K mainGlobals "list" = some none)
    (z7 : PySem.W.nsIn K mainGlobals "max" = some none)
    (z8 : PySem.W.nsIn K mainGlobals "min" = some none)
    (z9 : PySem.W.nsIn K mainGlobals "range" = some none)
    (z10 : PySem.W.nsIn K mainGlobals "reversed" = some none)
    (z11 : PySem.W.nsIn K mainGlobals "set" = some none)
    (z12 : PySem.W.nsIn K mainGlobals "sorted" = some none)
    (z13 : PySem.W.nsIn K mainGlobals "tuple" = some none)
    (z14 : PySem.W.nsIn K mainGlobals "type" = some none)
    (y0 : PySem.W.nsIn K mainGlobals "combinations" = some (some (.type "itertools.combinations"))) :
    LawX l w K mg fa h := by
  have e := hfa.symm.trans (PySem.W.mg_of X G a26)
  cases e
  have F2 := fun_mk (st := s_is_place) l2 c2 k2
  have b2 := F2.binds (ps := ["kinds", "thing"]) fun _ _ _ _ _ _ us hl => match us, hl with | [_, _], _ => rfl
  have F3 := fun_mk (st := s_rises) l3 c3 k3
  have b3 := F3.binds (ps := ["numbers"]) fun _ _ _ _ _ _ us hl => match us, hl with | [_], _ => rfl
  have F4 := fun_mk (st := s_tie_of) l4 c4 k4
  have b4 := F4.binds (ps := ["web", "one", "other"]) fun _ _ _ _ _ _ us hl => match us, hl with | [_, _, _], _ => rfl
  have F5 := fun_mk (st := s_kinds_by_ends) l5 c5 k5
  have b5 := F5.binds (ps := ["web"]) fun _ _ _ _ _ _ us hl => match us, hl with | [_], _ => rfl
  have F7 := fun_mk (st := s_pairs) l7 c7 k7
  have b7 := F7.binds (ps := ["one", "other"]) fun _ _ _ _ _ _ us hl => match us, hl with | [_, _], _ => rfl
  have F8 := fun_mk (st := s_fit) l8 c8 k8
  have b8 := F8.binds (ps := ["one", "other", "pair", "beside"]) fun _ _ _ _ _ _ us hl => match us, hl with | [_, _, _, _], _ => rfl
  have F10 := fun_mk (st := s_is_lead) l10 c10 k10
  have b10 := F10.binds (ps := ["one", "other", "thing"]) fun _ _ _ _ _ _ us hl => match us, hl with | [_, _, _], _ => rfl
  have F11 := fun_mk (st := s_is_pair) l11 c11 k11
  have b11 := F11.binds (ps := ["kinds", "others", "thing"]) fun _ _ _ _ _ _ us hl => match us, hl with | [_, _, _], _ => rfl
  have F12 := fun_mk (st := s_lies) l12 c12 k12
  have b12 := F12.binds (ps := ["one", "other", "lead"]) fun _ _ _ _ _ _ us hl => match us, hl with | [_, _, _], _ => rfl
  have F13 := fun_mk (st := s_led_ties) l13 c13 k13
  have b13 := F13.binds (ps := ["one", "other", "lead"]) fun _ _ _ _ _ _ us hl => match us, hl with | [_, _, _], _ => rfl
  have F14 := fun_mk (st := s_size_of) l14 c14 k14
  have b14 := F14.binds (ps := ["one", "other", "lead", "how"]) fun _ _ _ _ _ _ us hl => match us, hl with | [_, _, _, _], _ => rfl
  have F16 := fun_mk (st := s_mixed) l16 c16 k16
  have b16 := F16.binds (ps := ["cell", "k"]) fun _ _ _ _ _ _ us hl => match us, hl with | [_, _], _ => rfl
  have F17 := fun_mk (st := s_purse) l17 c17 k17
  have b17 := F17.binds (ps := ["script", "at", "step", "many"]) fun _ _ _ _ _ _ us hl => match us, hl with | [_, _, _, _], _ => rfl
  have F18 := fun_mk (st := s_next) l18 c18 k18
  have b18 := F18.binds (ps := ["purse"]) fun _ _ _ _ _ _ us hl => match us, hl with | [_], _ => rfl
  have F19 := fun_mk (st := s_web) l19 c19 k19
  have b19 := F19.binds (ps := ["purse", "least", "most"]) fun _ _ _ _ _ _ us hl => match us, hl with | [_, _, _], _ => rfl
  have F20 := fun_mk (st := s_order) l20 c20 k20
  have b20 := F20.binds (ps := ["purse", "many"]) fun _ _ _ _ _ _ us hl => match us, hl with | [_, _], _ => rfl
  have F21 := fun_mk (st := s_turned) l21 c21 k21
  have b21 := F21.binds (ps := ["web", "order"]) fun _ _ _ _ _ _ us hl => match us, hl with | [_, _], _ => rfl
  have F22 := fun_mk (st := s_near) l22 c22 k22
  have b22 := F22.binds (ps := ["purse", "web"]) fun _ _ _ _ _ _ us hl => match us, hl with | [_, _], _ => rfl
  have F23 := fun_mk (st := s_two) l23 c23 k23
  have b23 := F23.binds (ps := ["purse", "most"]) fun _ _ _ _ _ _ us hl => match us, hl with | [_, _], _ => rfl
  have F24 := fun_mk (st := s_rows) l24 c24 k24
  have b24 := F24.binds (ps := ["some"]) fun _ _ _ _ _ _ us hl => match us, hl with | [_], _ => rfl
  have F25 := fun_mk (st := s_right) l25 c25 k25
  have b25 := F25.binds (ps := ["one", "other", "row"]) fun _ _ _ _ _ _ us hl => match us, hl with | [_, _, _], _ => rfl
  have F26 := fun_mk (st := s_law) l26 c26 k26
  have b26 := F26.binds (ps := ["script"]) fun _ _ _ _ _ _ us hl => match us, hl with | [_], _ => rfl
  have q10 := tab_of X (PySem.W.mg_of X G a10) l10 rfl t10 u10 (facts _ (by simp))
  exact ⟨_, [(cc10, PP10)], fun s v => .of_eq rfl, List.forall_mem_cons.mpr ⟨q10.1, List.forall_mem_nil _⟩, List.forall_mem_cons.mpr ⟨n10, List.forall_mem_nil _⟩, List.forall_mem_cons.mpr ⟨q10.2, List.forall_mem_nil _⟩, fun base _ _ TB => let T : Tx K mg base := ⟨⟨_, _, F2, b2, PySem.W.mg_of X G a2⟩, ⟨_, _, F3, b3, PySem.W.mg_of X G a3⟩, ⟨_, _, F4, b4, PySem.W.mg_of X G a4⟩, ⟨_, _, F5, b5, PySem.W.mg_of X G a5⟩, ⟨_, _, F7, b7, PySem.W.mg_of X G a7⟩, ⟨_, _, F8, b8, PySem.W.mg_of X G a8⟩, ⟨_, _, F10, b10, PySem.W.mg_of X G a10⟩, ⟨_, _, F11, b11, PySem.W.mg_of X G a11⟩, ⟨_, _, F12, b12, PySem.W.mg_of X G a12⟩, ⟨_, _, F13, b13, PySem.W.mg_of X G a13⟩, ⟨_, _, F14, b14, PySem.W.mg_of X G a14⟩, ⟨_, _, F16, b16, PySem.W.mg_of X G a16⟩, ⟨_, _, F17, b17, PySem.W.mg_of X G a17⟩, ⟨_, _, F18, b18, PySem.W.mg_of X G a18⟩, ⟨_, _, F19, b19, PySem.W.mg_of X G a19⟩, ⟨_, _, F20, b20, PySem.W.mg_of X G a20⟩, ⟨_, _, F21, b21, PySem.W.mg_of X G a21⟩, ⟨_, _, F22, b22, PySem.W.mg_of X G a22⟩, ⟨_, _, F23, b23, PySem.W.mg_of X G a23⟩, ⟨_, _, F24, b24, PySem.W.mg_of X G a24⟩, ⟨_, _, F25, b25, PySem.W.mg_of X G a25⟩, ⟨_, _, F26, b26, PySem.W.mg_of X G a26⟩, PySem.W.mg_none_of X G z0, PySem.W.mg_none_of X G z1, PySem.W.mg_none_of X G z2, PySem.W.mg_none_of X G z3, PySem.W.mg_none_of X G z4, PySem.W.mg_none_of X G z5, PySem.W.mg_none_of X G z6, PySem.W.mg_none_of X G z7, PySem.W.mg_none_of X G z8, PySem.W.mg_none_of X G z9, PySem.W.mg_none_of X G z10, PySem.W.mg_none_of X G z11, PySem.W.mg_none_of X G z12, PySem.W.mg_none_of X G z13, PySem.W.mg_none_of X G z14, PySem.W.mg_of X G y0, cc10, PP10, rfl, TB (cc10, PP10) List.mem_cons_self⟩; .of (ok_law T) ⟨rfl, by decide, by decide⟩⟩
end Cw
open PySem PySem.W PyProof.Rows
set_option maxHeartbeats 0 in
theorem PySem.Challenge.cw_commonweb_k17_whole_leads_and_pairs_holds : PySem.Challenge.rw_commonweb_k17_whole_leads_and_pairs.Holds := by
  w_on; o_law; k_head; (case hw => w_witness2)
  k_fill
  refine Cw.walk_ofX (l := PySem.Challenge.rw_commonweb_k17_whole_leads_and_pairs) ["is_lead"] rfl rfl (by decide +kernel) (fun w h Y => PySem.W.kIn_of Y) ?F
  case F =>
    intro w mg fa h KX G hmg facts
    refine' Cw.all_mk KX G hmg facts ?a2 ?l2 ?c2 ?k2 ?a3 ?l3 ?c3 ?k3 ?a4 ?l4 ?c4 ?k4 ?a5 ?l5 ?c5 ?k5 ?a7 ?l7 ?c7 ?k7 ?a8 ?l8 ?c8 ?k8 ?a10 ?l10 ?c10 ?k10 ?t10 ?u10 ?n10 ?a11 ?l11 ?c11 ?k11 ?a12 ?l12 ?c12 ?k12 ?a13 ?l13 ?c13 ?k13 ?a14 ?l14 ?c14 ?k14 ?a16 ?l16 ?c16 ?k16 ?a17 ?l17 ?c17 ?k17 ?a18 ?l18 ?c18 ?k18 ?a19 ?l19 ?c19 ?k19 ?a20 ?l20 ?c20 ?k20 ?a21 ?l21 ?c21 ?k21 ?a22 ?l22 ?c22 ?k22 ?a23 ?l23 ?c23 ?k23 ?a24 ?l24 ?c24 ?k24 ?a25 ?l25 ?c25 ?k25 ?a26 ?l26 ?c26 ?k26 ?z0 ?z1 ?z2 ?z3 ?z4 ?z5 ?z6 ?z7 ?z8 ?z9 ?z10 ?z11 ?z12 ?z13 ?z14 ?y0
    (case a2 => k_is); (case l2 => k_is); (case c2 => k_is); (case k2 => k_is); (case a3 => k_is); (case l3 => k_is); (case c3 => k_is); (case k3 => k_is); (case a4 => k_is); (case l4 => k_is); (case c4 => k_is); (case k4 => k_is); (case a5 => k_is); (case l5 => k_is); (case c5 => k_is); (case k5 => k_is); (case a7 => k_is); (case l7 => k_is); (case c7 => k_is); (case k7 => k_is); (case a8 => k_is); (case l8 => k_is); (case c8 => k_is); (case k8 => k_is); (case a10 => k_is); (case l10 => k_is); (case c10 => k_is); (case k10 => k_is); (case t10 => k_is); (case u10 => rfl); (case n10 => rfl); (case a11 => k_is); (case l11 => k_is); (case c11 => k_is); (case k11 => k_is); (case a12 => k_is); (case l12 => k_is); (case c12 => k_is); (case k12 => k_is); (case a13 => k_is); (case l13 => k_is); (case c13 => k_is); (case k13 => k_is); (case a14 => k_is); (case l14 => k_is); (case c14 => k_is); (case k14 => k_is); (case a16 => k_is); (case l16 => k_is); (case c16 => k_is); (case k16 => k_is); (case a17 => k_is); (case l17 => k_is); (case c17 => k_is); (case k17 => k_is); (case a18 => k_is); (case l18 => k_is); (case c18 => k_is); (case k18 => k_is); (case a19 => k_is); (case l19 => k_is); (case c19 => k_is); (case k19 => k_is); (case a20 => k_is); (case l20 => k_is); (case c20 => k_is); (case k20 => k_is); (case a21 => k_is); (case l21 => k_is); (case c21 => k_is); (case k21 => k_is); (case a22 => k_is); (case l22 => k_is); (case c22 => k_is); (case k22 => k_is); (case a23 => k_is); (case l23 => k_is); (case c23 => k_is); (case k23 => k_is); (case a24 => k_is); (case l24 => k_is); (case c24 => k_is); (case k24 => k_is); (case a25 => k_is); (case l25 => k_is); (case c25 => k_is); (case k25 => k_is); (case a26 => k_is); (case l26 => k_is); (case c26 => k_is); (case k26 => k_is); (case z0 => k_is); (case z1 => k_is); (case z2 => k_is); (case z3 => k_is); (case z4 => k_is); (case z5 => k_is); (case z6 => k_is); (case z7 => k_is); (case z8 => k_is); (case z9 => k_is); (case z10 => k_is); (case z11 => k_is); (case z12 => k_is); (case z13 => k_is); (case z14 => k_is); (case y0 => k_is)
