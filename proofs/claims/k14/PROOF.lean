import PyProof.Rows.All
import Wide.All
import OpenK.AllK
import Wide.FinOn
import PySem.Challenge.RW_commonweb_k14_whole_pieces_by_cuts
import HandS.ForMost
import HandS.Conv
import KE.KItemsList
import KE.KDictZip
import HandS.Deep
import HandS.Evl
import HandS.IsInst
import HandS.Zip
import HandS.Walk
import KE.KEqSeq
import KE.KEqDeep
import PyProof.ZipIter
import PyProof.CallType
import PyProof.Walk
import PyProof.WalkLemmas
import PyProof.RangeIter
import PyProof.RulesTry
import PyProof.TupleOfSeq
import HandS.RepeatKit
import PyProof.CodeObj
import HandS.SortRule
import HandS.DictTup
import KE.KDictSum
import PyProof.Draws
import HandS.SetFor
import PyProof.P3Eq
import HandS.NoneIn
import HandS.Style
import HandS.DictComp
import HandS.SortInts
import HandS.Strs
import KE.KSetDisp
import HandS.TupAny
import HandS.AnyAll
import HandS.GenOver
import PyProof.ConsumeWalk
import HandS.EndTab
import HandS.More
import HandS.SetBool
set_option Elab.async false
set_option linter.all false
set_option maxRecDepth 100000
set_option maxHeartbeats 4000000
/-! list(enumerate(xs)) -/
namespace Cw
open PySem PySem.Spec PySem.Calls PyProof.Rows L2

theorem en_nolen : typeLookup (.type "enumerate") "__len__" = pure none := am_miss_of_fast (by decide +kernel)
theorem en_nohint : typeLookup (.type "enumerate") "__length_hint__" = pure none := am_miss_of_fast (by decide +kernel)

/-- how the iterator stands ahead of turn i -/
def EnSt (h : Heap) (e it l S : Addr) (items : Array Value) (i : Nat) : Prop :=
  h.IsListIter it l i ∧ h.IsList l items ∧ ((∃ old, IsEnum h e it i old) ∨ ∃ old T f oT, IsEnumHeld h e it i old T f ∧ h.get? T = some oT ∧ T ≠ e ∧ T ≠ it ∧ T ≠ S)

theorem EnSt.keep {h h' : Heap} {e it l S : Addr} {items : Array Value} {i : Nat} (x : EnSt h e it l S items i) (hk : ∀ b o, b ≠ S → h.get? b = some o → h'.get? b = some o) (h1 : e ≠ S) (h2 : it ≠ S) (h3 : l ≠ S) : EnSt h' e it l S items i := by
  obtain ⟨a, b, c⟩ := x
  refine ⟨a.at fun o q => hk it o h2 q, b.at fun o q => hk l o h3 q, ?_⟩
  rcases c with ⟨old, c⟩ | ⟨old, T, f, oT, c, hT, r1, r2, r3⟩
  · exact .inl ⟨old, hk _ _ h1 c⟩
  · exact .inr ⟨old, T, f, oT, hk _ _ h1 c, hk _ _ r3 hT, r1, r2, r3⟩

section
variable {prog : Program} {w : World} {A : Around} {E : Value → Shared → Prop} {s : Shared} {e it l S : Addr} {items : Array Value}

theorem en_item {i : Nat} {x : Value} {Q : Option Value → Shared → Prop} (st : EnSt s.heap e it l S items i) (hei : e ≠ it) (hle : l ≠ e) (hli : l ≠ it) (hS : S < s.heap.objs.size) (hx : items[i]? = some x)
    (hQ : ∀ h' t, EnSt h' e it l S items (i + 1) → h'.get? s.heap.objs.size = some { cls := .type "tuple", data := .seq #[.int i t, x] } → h'.objs.size = s.heap.objs.size + 1 →
      (∀ b o, b ≠ e → b ≠ it → s.heap.get? b = some o → h'.get? b = some o) → ∀ tk, Q (some (.ref s.heap.objs.size)) { s with heap := h', toks := tk }) : wpAny (model prog w) A (pyNext (.ref e)) Q E s := by
  obtain ⟨a, b, c⟩ := st
  have ec : ((i + 1 : Nat) : Int) = (i : Int) + 1 := by omega
  have nit : s.heap.objs.size ≠ it := let ⟨_, q, _⟩ := a; Nat.ne_of_gt (Heap.lt_size q)
  rcases c with ⟨old, c⟩ | ⟨old, T, f, oT, c, hT, r1, r2, r3⟩
  · refine wpAny_pyNext_enum_item c a b hx hei fun h' ho hit' hT hsz hk => hQ h' _ ⟨hit', b.at fun o q => hk l o hle hli q, .inr ⟨_, s.heap.objs.size, false, _, (by rw [ec]; exact ho), hT, Nat.ne_of_gt (Heap.lt_size c), nit, Nat.ne_of_gt hS⟩⟩ hT hsz hk _
  · refine wpAny_pyNext_enum_item_held c hT r1 r2 a b hx hei fun h' ho hit' hT' hsz hk => hQ h' _ ⟨hit', b.at fun o q => hk l o hle hli q, .inr ⟨old, T, true, oT, (by rw [ec]; exact ho), hk _ _ r1 r2 hT, r1, r2, r3⟩⟩ hT' hsz hk _

theorem en_done {i : Nat} {Q : Option Value → Shared → Prop} (hh : A.handled = none) (st : EnSt s.heap e it l S items i) (hx : items[i]? = none)
    (hQ : ∀ h', Heap.ExtBut it s.heap h' → Q none { s with heap := h' }) : wpAny (model prog w) A (pyNext (.ref e)) Q E s := by
  obtain ⟨a, b, c⟩ := st
  rcases c with ⟨old, c⟩ | ⟨old, T, f, oT, c, hT, r1, r2, r3⟩
  · exact wpAny_pyNext_enum_end hh c a b hx hQ
  · exact wpAny_pyNext_enum_end_held hh c a b hx hQ

/-- the tuples made so far -/
structure EnG (items : Array Value) (lo : Addr) (h : Heap) (as : List Addr) : Prop where
  rise : as.Pairwise (· < ·)
  above : ∀ a ∈ as, lo < a
  pairs : ∀ (j : Nat) (a : Addr), as[j]? = some a → ∃ t x, items[j]? = some x ∧ h.get? a = some { cls := .type "tuple", data := .seq #[.int j t, x] }
theorem EnG.there {lo : Addr} {h : Heap} {as : List Addr} (g : EnG items lo h as) {a : Addr} (ha : a ∈ as) : a < h.objs.size := by
  obtain ⟨j, hj⟩ := List.mem_iff_getElem?.mp ha
  obtain ⟨_, _, _, z⟩ := g.pairs j a hj
  exact Heap.lt_size z

theorem en_loop {R : Result → Shared → Prop} (hh : A.handled = none) (hei : e ≠ it) (hle : l ≠ e) (hli : l ≠ it) (heS : e < S) (hiS : it < S) (hlS : l < S) (hn : items.size ≤ sizeLine) (res : Value) {h₁ : Heap}
    (hR : ∀ h' tk acc c as, (∀ b o, b ≠ S → b ≠ e → b ≠ it → h₁.get? b = some o → h'.get? b = some o) → h'.get? S = some { cls := .type "list", dict := none, data := .seq acc c, slots := #[] } → as.length = items.size → EnG items S h' as →
      acc.toList = as.map Value.ref → R (.ok (.ret res)) { s with heap := h', toks := tk }) :
    ∀ (k i : Nat) (h : Heap) (tk c : Nat) (acc : Array Value) (as : List Addr), items.size - i = k → i ≤ items.size → EnSt h e it l S items i → (∀ b o, b ≠ S → b ≠ e → b ≠ it → h₁.get? b = some o → h.get? b = some o) →
      h.get? S = some { cls := .type "list", dict := none, data := .seq acc c, slots := #[] } → acc.toList = as.map Value.ref → as.length = i → EnG items S h as →
      codeAny (model prog w) A (.builtin "list.extend.loop" ⟨[.ref S, .ref e, res], []⟩) R { s with heap := h, toks := tk } := by
  have neS : e ≠ S := Nat.ne_of_lt heS
  have niS : it ≠ S := Nat.ne_of_lt hiS
  have nlS : l ≠ S := Nat.ne_of_lt hlS
  intro k
  induction k with
  | zero =>
    intro i h tk c acc as hk hi hst hkeep hS hacc hal hG
    refine codeAny_builtin (prog := prog) (w := w) PySem.F.entry_extend_loop ?_
    rw [Around.under_plainId (A := A) PySem.F.plain_extend_loop _]
    show wpAny _ A.in1 (pyNext (.ref e) >>= _) _ _ _
    refine wpAny_bind (en_done (s := { s with heap := h, toks := tk }) (A := A.in1) hh hst (Array.getElem?_eq_none (by omega)) fun h' he => ?_)
    refine wpAny_pure (hR h' tk acc c as (fun b o h1 h2 h3 q => he b o h3 (hkeep b o h1 h2 h3 q)) (he S _ niS.symm hS) (by omega) ⟨hG.rise, hG.above, fun j a hj => ?_⟩ hacc)
    obtain ⟨t, x, z1, z2⟩ := hG.pairs j a hj
    exact ⟨t, x, z1, he a _ (Nat.ne_of_gt (Nat.lt_trans hiS (hG.above a (List.mem_of_getElem? hj)))) z2⟩
  | succ k ih =>
    intro i h tk c acc as hk hi hst hkeep hS hacc hal hG
    have hlt : i < items.size := by omega
    have hx : items[i]? = some items[i] := Array.getElem?_eq_getElem hlt
    have hsz : acc.size = i := by rw [← Array.length_toList, hacc, List.length_map, hal]
    refine codeAny_builtin (prog := prog) (w := w) PySem.F.entry_extend_loop ?_
    rw [Around.under_plainId (A := A) PySem.F.plain_extend_loop _]
    show wpAny _ A.in1 (pyNext (.ref e) >>= _) _ _ _
    refine wpAny_bind (en_item (s := { s with heap := h, toks := tk }) (S := S) hst hei hle hli (Heap.lt_size hS) hx fun h' t hst' ht hz hkp tk' => ?_)
    dsimp only at ht hz hkp ⊢
    have hS' := hkp S _ neS.symm niS.symm hS
    have up : ∀ b o, b ≠ S → h'.get? b = some o → (h'.update S (Obj.mapSeq (·.push (Value.ref h.objs.size)))).get? b = some o := fun b o hb q => (Heap.get?_update_other _ _ (Ne.symm hb)).trans q
    have hSl : S < h.objs.size := Heap.lt_size hS
    show wpAny _ A.in1 (updateSeq S (·.push (Value.ref h.objs.size)) >>= _) _ _ _
    refine wpAny_bind (wpAny_updateSeq hS' rfl (wpAny_pure ⟨plainId_quiet PySem.F.plain_extend_loop _, ih (i + 1) _ tk' _ (acc.push (Value.ref h.objs.size)) (as ++ [h.objs.size]) (by omega) hlt (hst'.keep up neS niS nlS)
      (fun b o h1 h2 h3 q => up b o h1 (hkp b o h2 h3 (hkeep b o h1 h2 h3 q))) (Heap.get?_update_self _ hS' rfl) (by rw [Array.toList_push, hacc, List.map_append]; rfl) (by rw [List.length_append, hal]; rfl) ⟨?_, ?_, ?_⟩⟩) (by rw [hsz]; omega) (by show (acc.push (Value.ref h.objs.size)).size ≤ sizeLine + 1; rw [Array.size_push, hsz]; omega))
    · refine List.pairwise_append.mpr ⟨hG.rise, List.pairwise_singleton _ _, fun a ha b hb => ?_⟩
      rw [List.mem_singleton.mp hb]; exact hG.there ha
    · intro a ha
      rcases List.mem_append.mp ha with ha | ha
      · exact hG.above a ha
      · rw [List.mem_singleton.mp ha]; exact hSl
    · intro j b hj
      rcases Nat.lt_trichotomy j as.length with h1 | h1 | h1
      · rw [List.getElem?_append_left h1] at hj
        obtain ⟨t', x', z1, z2⟩ := hG.pairs j b hj
        have hb := hG.above b (List.mem_of_getElem? hj)
        exact ⟨t', x', z1, up b _ (Nat.ne_of_gt hb) (hkp b _ (Nat.ne_of_gt (Nat.lt_trans heS hb)) (Nat.ne_of_gt (Nat.lt_trans hiS hb)) z2)⟩
      · subst h1
        have hb : h.objs.size = b := by simpa using hj
        subst hb
        exact ⟨t, _, by rw [hal]; exact hx, by rw [hal]; exact up _ _ (Nat.ne_of_gt hSl) ht⟩
      · have hnone : (as ++ [h.objs.size])[j]? = none := List.getElem?_eq_none (by rw [List.length_append, List.length_singleton]; omega)
        rw [hnone] at hj; cases hj

theorem en_hint (hT : s.TypeIs (.ref e) "enumerate") {Q : Bool → Shared → Prop} (h : Q true s) : wpAny (model prog w) A (Builtin.List.listLengthHint (.ref e)) Q E s := by
  unfold Builtin.List.listLengthHint
  refine wpAny_bind (wpAny_specialOf hT en_nolen ?_)
  show wpAny _ _ (specialOf (Value.ref e) (Str.ofString "__length_hint__") >>= _) _ _ _
  refine wpAny_bind (wpAny_specialOf hT en_nohint ?_)
  exact wpAny_pure h

theorem en_extend {R : Result → Shared → Prop} (hh : A.handled = none) (he : IsEnum s.heap e it 0 .none) (hit : s.heap.IsListIter it l 0) (hl : s.heap.IsList l items) (hei : e ≠ it) (hle : l ≠ e) (hli : l ≠ it) (heS : e < S) (hiS : it < S) (hlS : l < S) (res : Value) (c₀ : Nat) (hS : s.heap.get? S = some { cls := .type "list", data := .seq #[] c₀ })
    (hR : ∀ h' tk acc c as, (∀ b o, b ≠ S → b ≠ e → b ≠ it → s.heap.get? b = some o → h'.get? b = some o) → h'.get? S = some { cls := .type "list", dict := none, data := .seq acc c, slots := #[] } → as.length = items.size → EnG items S h' as →
      acc.toList = as.map Value.ref → R (.ok (.ret res)) { s with heap := h', toks := tk }) (hn : items.size ≤ sizeLine) :
    wpAny (model prog w) A.in1 (Builtin.List.listExtendWith (.ref S) (.ref e) res)
      (fun fin s' => match fin with | .done f => R (.ok f) s' | .again c' => c'.quiet = true ∧ codeAny (model prog w) A c' R s') (fun e s' => R (.error e) s') s := by
  have hSr : S ≠ e := Nat.ne_of_gt heS
  have hTy : s.TypeIs (.ref e) "enumerate" := ⟨_, he, rfl⟩
  have key : ∀ (h : Heap) (c₁ tk : Nat), (∀ b o, b ≠ S → s.heap.get? b = some o → h.get? b = some o) → h.get? S = some { cls := .type "list", data := .seq #[] c₁ } → codeAny (model prog w) A (.builtin "list.extend.loop" ⟨[.ref S, .ref e, res], []⟩) R { s with heap := h, toks := tk } := by
    intro h c₁ tk hk hS₁
    refine en_loop (s := s) (h₁ := s.heap) hh hei hle hli heS hiS hlS hn res hR items.size 0 h tk c₁ #[] [] (Nat.sub_zero _) (Nat.zero_le _) ⟨hit.at fun o q => hk it o (Nat.ne_of_lt hiS) q, hl.at fun o q => hk l o (Nat.ne_of_lt hlS) q, .inl ⟨_, hk _ _ (Nat.ne_of_lt heS) he⟩⟩
      (fun b o h1 _ _ q => hk b o h1 q) hS₁ rfl rfl ⟨List.Pairwise.nil, (fun _ ha => nomatch ha), (fun j a hj => by simp at hj)⟩
  unfold Builtin.List.listExtendWith
  refine wpAny_bind (wpAny_typeOf (T := "enumerate") hTy ?_)
  have h1 : Builtin.List.listSameRef (.ref S) (.ref e) = false := by simp [Builtin.List.listSameRef, hSr]
  have h2 : (Value.type "enumerate" == Value.type "list") = false := by decide
  have h3 : (Value.type "enumerate" == Value.type "tuple") = false := by decide
  simp only [h1, h2, h3, Bool.or_false, Bool.false_eq_true, if_false]
  refine wpAny_bind (wpAny_pyIter_enum he ?_)
  refine wpAny_bind (wpAny_holding (en_hint hTy ?_))
  refine wpAny_ite_split (fun _ => ?_) (fun _ => wpAny_pure ⟨plainId_quiet PySem.F.plain_extend_loop _, key _ c₀ _ (fun b o _ q => q) hS⟩)
  refine wpAny_bind (wpAny_rule (wpAny_bind ?_))
  · show wpAny _ _ (updateSeq S (·.push .none) >>= fun _ => updateSeq S (·.pop)) _ _ _
    refine wpAny_bind (wpAny_updateSeq hS rfl ?_)
    have hS₂ := Heap.get?_update_self (Obj.mapSeq (·.push Value.none)) hS rfl
    refine wpAny_updateSeq (hz := by seq_fits) hS₂ rfl ?_
    have hS₃ := Heap.get?_update_self (Obj.mapSeq (·.pop)) hS₂ rfl
    refine wpAny_pure ⟨plainId_quiet PySem.F.plain_extend_loop _, key _ _ _ (fun b o hb q => ?_) hS₃⟩
    exact (Heap.get?_update_other _ _ (Ne.symm hb)).trans ((Heap.get?_update_other _ _ (Ne.symm hb)).trans q)

theorem EnG.low {lo lo' : Addr} {h : Heap} {as : List Addr} (g : EnG items lo h as) (hl : lo' ≤ lo) : EnG items lo' h as := ⟨g.rise, fun a ha => Nat.lt_of_le_of_lt hl (g.above a ha), g.pairs⟩

/-- list(e), e an enumerate that nobody has asked yet -/
theorem en_call {Q : Value → Shared → Prop} (hh : A.handled = none) (he : IsEnum s.heap e it 0 .none) (hit : s.heap.IsListIter it l 0) (hl : s.heap.IsList l items) (hei : e ≠ it) (hle : l ≠ e) (hli : l ≠ it) (hn : items.size ≤ sizeLine)
    (hQ : ∀ h' tk acc c as, (∀ b o, b ≠ e → b ≠ it → s.heap.get? b = some o → h'.get? b = some o) → h'.get? s.heap.objs.size = some { cls := .type "list", dict := none, data := .seq acc c, slots := #[] } → as.length = items.size → EnG items s.heap.objs.size h' as →
      acc.toList = as.map Value.ref → Q (.ref s.heap.objs.size) { s with heap := h', toks := tk }) : wpAny (model prog w) A (call (.type "list") [.ref e]) Q E s := by
  refine callType_codes (Q₁ := fun obj s₁ => obj = .ref s.heap.objs.size ∧ s₁ = { s with heap := s.heap.push { cls := .type "list", data := .seq #[] } }) PySem.F.called_list (PySem.F.typeCall_list_1 _) PySem.F.entry_list_init (code_list_new _ ⟨rfl, rfl⟩) fun obj s₁ h₁ => ?_
  obtain ⟨rfl, rfl⟩ := h₁
  have hS : (s.heap.push { cls := .type "list", data := .seq #[] }).get? s.heap.objs.size = some { cls := .type "list", data := .seq #[] } := Heap.get?_push_size _ rfl
  have k1 : ∀ b o, s.heap.get? b = some o → (s.heap.push { cls := .type "list", data := .seq #[] }).get? b = some o := fun b o q => Heap.get?_push_of_some _ q
  have heS : e < s.heap.objs.size := Heap.lt_size he
  have hiS : it < s.heap.objs.size := by obtain ⟨_, q, _⟩ := hit; exact Heap.lt_size q
  have hlS : l < s.heap.objs.size := by obtain ⟨_, q, _⟩ := hl; exact Heap.lt_size q
  refine ⟨⟨_, hS, rfl⟩, PySem.F.args_list_init_2 _ _, ?_⟩
  show wpAny _ _ (do let old ← Builtin.List.listItems (.ref s.heap.objs.size); Builtin.List.listUpdate (.ref s.heap.objs.size) (fun _ => #[]); letGo old.toList.reverse; Builtin.List.listExtendWith (.ref s.heap.objs.size) (.ref e) .none) _ _ _
  refine wpAny_bind ?_; unfold Builtin.List.listItems; refine wpAny_bind (wpAny_seqItems hS rfl (wpAny_pure ?_))
  show wpAny _ _ (updateSeq s.heap.objs.size (fun _ => #[]) >>= fun _ => letGo (#[] : Array Value).toList.reverse >>= fun _ => Builtin.List.listExtendWith (.ref s.heap.objs.size) (.ref e) .none) _ _ _
  refine wpAny_bind (wpAny_updateSeq hS rfl (wpAny_bind (wpAny_letGo ?_)))
  have hS₂ := Heap.get?_update_self (Obj.mapSeq (fun _ => (#[] : Array Value))) hS rfl
  have k2 : ∀ b o, b ≠ s.heap.objs.size → s.heap.get? b = some o → ((s.heap.push { cls := .type "list", data := .seq #[] }).update s.heap.objs.size (Obj.mapSeq (fun _ => (#[] : Array Value)))).get? b = some o := fun b o hb q => (Heap.get?_update_other _ _ (Ne.symm hb)).trans (k1 b o q)
  refine en_extend (A := A.in1) (s := { s with heap := (s.heap.push { cls := .type "list", data := .seq #[] }).update s.heap.objs.size (Obj.mapSeq (fun _ => (#[] : Array Value))) }) hh (k2 _ _ (Nat.ne_of_lt heS) he) (hit.at fun o q => k2 it o (Nat.ne_of_lt hiS) q) (hl.at fun o q => k2 l o (Nat.ne_of_lt hlS) q) hei hle hli heS hiS hlS .none _ hS₂ (fun h' tk acc c as hk hS' hl' hG hacc => ?_) hn
  exact ⟨rfl, hQ h' tk acc c as (fun b o h1 h2 q => hk b o (Nat.ne_of_lt (Heap.lt_size q)) h1 h2 (k2 b o (Nat.ne_of_lt (Heap.lt_size q)) q)) hS' hl' hG hacc⟩
end

/-- the tuples tracked at their addresses -/
def putE : Hp → List Addr → List V → Nat → Hp
  | H, a :: as, x :: xs, j => putE (upd H a (.tup [.int j, x])) as xs (j + 1)
  | H, _, _, _ => H
theorem putE_off {b : Addr} : ∀ (as : List Addr) (xs : List V) (j : Nat) (H : Hp), b ∉ as → putE H as xs j b = H b
  | [], _, _, _, _ => rfl
  | _ :: _, [], _, _, _ => rfl
  | a :: as, x :: xs, j, H, h => by
    show putE (upd H a (.tup [.int j, x])) as xs (j + 1) b = H b
    rw [putE_off as xs _ _ (fun z => h (List.mem_cons_of_mem _ z)), upd_ne (fun z => h (by rw [z]; exact List.mem_cons_self))]
theorem putE_at : ∀ (as : List Addr) (xs : List V) (j : Nat) (H : Hp), as.Nodup → ∀ i t x, as[i]? = some t → xs[i]? = some x → putE H as xs j t = some (.tup [.int ((j + i : Nat) : Int), x])
  | [], _, _, _, _, _, _, _, h, _ => by simp at h
  | _ :: _, [], _, _, _, _, _, _, _, h => by simp at h
  | a :: as, y :: xs, j, H, hn, 0, t, x, h1, h2 => by
    have e1 : a = t := Option.some.inj h1
    have e2 : y = x := Option.some.inj h2
    subst e1; subst e2
    show putE (upd H a (.tup [.int j, y])) as xs (j + 1) a = _
    rw [putE_off as xs _ _ (List.nodup_cons.mp hn).1, upd_same]; rfl
  | a :: as, y :: xs, j, H, hn, i + 1, t, x, h1, h2 => by
    have ih := putE_at as xs (j + 1) (upd H a (.tup [.int j, y])) (List.nodup_cons.mp hn).2 i t x h1 h2
    show putE (upd H a (.tup [.int j, y])) as xs (j + 1) t = _
    rw [ih, show j + 1 + i = j + (i + 1) by omega]
theorem refs_vals : ∀ as : List Addr, Vals (as.map V.ref) (as.map Value.ref)
  | [] => .nil
  | _ :: as => .cons rfl (refs_vals as)
def rLstEn (K : PySem.W.Frag) : List V → Hp → VK → Prop := fun vs H Q => ∃ (a : Addr) (xs : List V), vs = [.ref a] ∧ SqL K H a xs ∧
  ∀ (H' : Hp) (p : Addr) (ts : List Addr), Same H H' → H p = none → (∀ t ∈ ts, H t = none) → p ∉ ts → H' p = some (.lst (ts.map V.ref)) → ts.length = xs.length → (∀ j t x, ts[j]? = some t → xs[j]? = some x → H' t = some (.tup [.int (j : Nat), x])) → Q (.ref p) H'
def tLstEn (K : PySem.W.Frag) (ta : TA) : TE := fun σ H Q => ta σ H fun vs H1 => rLstEn K vs H1 Q
section
variable {X : Cx} {e : Expr} {ta : TA} {p1 p2 pos pos2 : Pos}
theorem enum_laid {pins : List (Addr × Obj)} {σ : L2.St} {H : Hp} {s : Shared} {h' : Heap} {tk S : Nat} {xs : List V} {its : List Value} {acc : Array Value} {c : Nat} {as : List Addr} (I : Inv X pins σ H s) (hz : xs.length ≤ sizeLine) (rv : Vals xs its)
    (hk : ∀ b o, s.heap.get? b = some o → h'.get? b = some o) (hS0 : s.heap.objs.size ≤ S) (hS : h'.get? S = some { cls := .type "list", dict := none, data := .seq acc c, slots := #[] }) (hl : as.length = its.toArray.size) (hG : EnG its.toArray S h' as) (hacc : acc.toList = as.map Value.ref) :
    ∃ H' : Hp, Same H H' ∧ H S = none ∧ (∀ t ∈ as, H t = none) ∧ S ∉ as ∧ H' S = some (.lst (as.map V.ref)) ∧ (∀ j t x, as[j]? = some t → xs[j]? = some x → H' t = some (.tup [.int (j : Nat), x])) ∧ Inv X pins σ H' { s with heap := h', toks := tk } := by
  have lk : xs.length = its.length := Vals.length rv
  have hl' : as.length = xs.length := by rw [hl, List.size_toArray, lk]
  have hSn : S ∉ as := fun z => Nat.lt_irrefl _ (hG.above _ z)
  have nd : as.Nodup := List.Pairwise.imp (fun {a b} (h : a < b) => Nat.ne_of_lt h) hG.rise
  have new : ∀ t ∈ as, H t = none := fun t ht => I.hok.fresh (Nat.le_trans hS0 (Nat.le_of_lt (hG.above t ht)))
  have newS : H S = none := I.hok.fresh hS0
  have off : ∀ b, b ∉ as → b ≠ S → putE (upd H S (.lst (as.map V.ref))) as xs 0 b = H b := fun b h1 h2 => by rw [putE_off as xs _ _ h1, upd_ne h2]
  have low : ∀ b o, s.heap.get? b = some o → b ∉ as ∧ b ≠ S := fun b o q => ⟨fun z => absurd (Heap.lt_size q) (Nat.not_lt.mpr (Nat.le_trans hS0 (Nat.le_of_lt (hG.above b z)))), Nat.ne_of_lt (Nat.lt_of_lt_of_le (Heap.lt_size q) hS0)⟩
  have kp : Same H (putE (upd H S (.lst (as.map V.ref))) as xs 0) := fun b u q => by
    rw [off b (fun z => by rw [new b z] at q; cases q) (fun z => by rw [z, newS] at q; cases q)]
    exact q
  have eS : putE (upd H S (.lst (as.map V.ref))) as xs 0 S = some (.lst (as.map V.ref)) := by rw [putE_off as xs _ _ hSn, upd_same]
  have atP : ∀ j t x, as[j]? = some t → xs[j]? = some x → putE (upd H S (.lst (as.map V.ref))) as xs 0 t = some (.tup [.int (j : Nat), x]) := fun j t x h1 h2 => by
    rw [putE_at as xs 0 _ nd j t x h1 h2, Nat.zero_add]
  refine ⟨_, kp, newS, new, hSn, eS, atP, ?_⟩
  refine I.call' (ch := []) rfl ⟨fun b o q _ _ _ => hk b o q, fun b o q _ _ _ => ⟨o.slots, hk b o q⟩, fun b o q n _ => (off b (low b o q).1 (low b o q).2).trans n, fun b o q _ => ⟨o, hk b o q⟩, fun b xs q => kp b _ q, fun b o u q => kp b _ q, fun b ps q => ⟨#[], by rw [kp b _ q]; simp⟩⟩ (fun b u q => ?_) I.bare fun b z => by simp at z
  by_cases hb : b ∈ as
  · obtain ⟨j, e1⟩ := List.mem_iff_getElem?.mp hb
    have hj : j < xs.length := by
      have := (List.getElem?_eq_some_iff.mp e1).1
      omega
    have e2 : xs[j]? = some xs[j] := List.getElem?_eq_getElem hj
    rw [atP j b _ e1 e2] at q
    cases q
    obtain ⟨t, x, f1, f2⟩ := hG.pairs j b e1
    obtain ⟨u, g1, g2⟩ := rv.get e2
    have f1' : its[j]? = some x := by simpa using f1
    rw [g1] at f1'
    cases f1'
    exact ⟨by show 2 ≤ sizeLine; decide, [.int j t, x], .cons ⟨t, rfl⟩ (.cons g2 .nil), ⟨_, f2, rfl, _, rfl⟩⟩
  · by_cases hb2 : b = S
    · rw [hb2] at q ⊢
      rw [eS] at q
      cases q
      refine ⟨by rw [List.length_map]; omega, acc.toList, c, by rw [hacc]; exact refs_vals as, ?_⟩
      rw [Array.toArray_toList]; exact hS
    · rw [off b hb hb2] at q
      exact (I.hok b u q).stay (fun d v _ y => hk d v y) (fun d y => kp d _ y) fun d xs y => kp d _ y
/-- list(enumerate(e)) -/
theorem pe_listEnum (hc : X.calm = true) (hg : Gl X "list") (hm : X.mg "list" = none) (hg2 : Gl X "enumerate") (hm2 : X.mg "enumerate" = none) (ha : PA X [e] ta)
    (hs : starEach [.Call (.Name "enumerate" p2) [e] [] pos2] X.env = [(false, eval (.Call (.Name "enumerate" p2) [e] [] pos2) X.env)] := by rfl) (hs2 : starEach [e] X.env = [(false, eval e X.env)] := by rfl) :
    PE X (.Call (.Name "list" p1) [.Call (.Name "enumerate" p2) [e] [] pos2] [] pos) (tLstEn X.K ta) := by
  refine ⟨fun pins s σ H Q I hq => ?_⟩
  refine Call_ (ld_blt I hg hm boot_list (PyProof.Rows.callWith_type1 ?_ hs rfl))
  rw [hs]
  show wpAny _ _ (spliced ((false, eval (.Call (.Name "enumerate" p2) [e] [] pos2) X.env) :: backTo pos [])) _ _ s
  refine Calls.spliced_cons (Call_ (ld_blt I hg2 hm2 boot_enumerate (PyProof.Rows.callWith_type1 (thn (ha.run pos2 pins s σ H _ I hq) fun us s1 ⟨vs, H1, I1, r1, q1⟩ => ?_) hs2 rfl)))
  obtain ⟨a, xs, ex, hq, q⟩ := q1
  subst ex
  cases r1 with
  | cons r rr =>
    cases rr; cases r
    obtain ⟨its, rv, p', hz⟩ := I1.list hq
    have hl0 : a < s1.heap.objs.size := by obtain ⟨_, z, _⟩ := p'.isList; exact Heap.lt_size z
    refine call_enumerate_list p'.isList fun h' he hit hsz hk => ?_
    have I2 : Inv X pins σ H1 { s1 with heap := h' } := I1.kept (t' := s1.toks) hk
    refine Calls.spliced_nil ?_
    refine en_call (s := { s1 with heap := h' }) (I1.ok.hd hc) he hit (p'.isList.at fun o z => hk a o z) (Nat.succ_ne_self _) (Nat.ne_of_lt (Nat.lt_succ_of_lt hl0)) (Nat.ne_of_lt hl0) (by rw [List.size_toArray, ← rv.length]; exact hz) fun h'' tk acc c as hk2 hS hl hG hacc => ?_
    have hk3 : ∀ b o, s1.heap.get? b = some o → h''.get? b = some o := fun b o z => hk2 b o (Nat.ne_of_lt (Nat.lt_succ_of_lt (Heap.lt_size z))) (Nat.ne_of_lt (Heap.lt_size z)) (hk b o z)
    obtain ⟨H', k1, k2, k3, k4, k5, k6, J⟩ := enum_laid (tk := tk) I1 hz rv hk3 (by show s1.heap.objs.size ≤ h'.objs.size; omega) hS hl hG hacc
    exact ⟨.ref _, H', J, rfl, q H' _ as k1 k2 k3 k4 k5 (by rw [hl, List.size_toArray, rv.length]) k6⟩
end
end Cw

namespace Cw
open PySem PySem.Spec PyProof.Rows L2

/-! ### a def of the text, called by its name -/
structure Df (K : PySem.W.Frag) (mg : Str → Option Value) (x : Str) (st : Stmt) (ps : List Str) where
  f : Addr
  fd : FuncData
  F : Fun K x x st f fd
  b : Binds K fd ps []
  g : mg x = some (.ref f)

theorem units1 {k : Nat} {A : Around} (r : Room k A) : A.units + 65 < cLine := by have := r.un; omega
theorem blkOk_in {N : List Str} {sc scO scope : Scope} {own : List (Str × Nat)} {cl : List (Str × Addr)} {C : Addr} {env : Env} (he : env.scope = sc) (h : blkC N (relS scO sc) scope own = true) : BlkOk N (compEnvC scO cl C env).scope scope own := by
  subst he
  exact blkOk_by h
/-! ### heaps -/
/-- all but h is as it was -/
def Keep (h : Addr) (H H' : Hp) : Prop := ∀ b o, b ≠ h → H b = some o → H' b = some o
theorem Keep.refl (h : Addr) (H : Hp) : Keep h H H := fun _ _ _ e => e
theorem Keep.trans {h : Addr} {H H1 H2 : Hp} (a : Keep h H H1) (b : Keep h H1 H2) : Keep h H H2 := fun c o n e => b c o n (a c o n e)
theorem Keep.same {h : Addr} {H H1 H2 : Hp} (a : Keep h H H1) (b : Same H1 H2) : Keep h H H2 := fun c o n e => b c o (a c o n e)
theorem Same.keep {h : Addr} {H H1 : Hp} (a : Same H H1) : Keep h H H1 := fun c o _ e => a c o e
theorem Keep.put {h : Addr} {H : Hp} {o : HO} : Keep h H (upd H h o) := fun c u n e => by rw [upd_ne n]; exact e
/-- what was new ahead of it is not told -/
theorem Keep.out {h : Addr} {H0 H H1 : Hp} (s : Same H0 H) (k : Keep h H H1) (n : H0 h = none) : Same H0 H1 := fun c o e => k c o (ne_of_none e n) (s c o e)
theorem same_new {H : Hp} {p : Addr} {o : HO} (h : H p = none) : Same H (upd H p o) := fun b x e => by rw [upd_ne (ne_of_none e h)]; exact e
theorem same_upd {H H' : Hp} {p : Addr} {o : HO} (s : Same H H') (h : H p = none) : Same H (upd H' p o) := fun b x e => by rw [upd_ne (ne_of_none e h)]; exact s b x e
theorem Same.sqt {K : PySem.W.Frag} {H H' : Hp} {a : Addr} {xs : List V} (e : Same H H') (h : SqT K H a xs) : SqT K H' a xs := by
  rcases h with (h | ⟨o, h⟩) | h
  · exact .inl (.inl (e _ _ h))
  · exact .inl (.inr ⟨o, e _ _ h⟩)
  · exact .inr h
theorem at_upd {H : Hp} {a b : Addr} {o u : HO} (h : H a = some o) (n : H b = none) : upd H b u a = some o := by rw [upd_ne (ne_of_none h n)]; exact h

theorem Keep.new {h p : Addr} {H H' : Hp} {o : HO} (k : Keep h H H') (n : H p = none) : Keep h H (upd H' p o) := fun b u nb e => by rw [upd_ne (ne_of_none e n)]; exact k b u nb e
theorem Keep.free {h p : Addr} {H H' : Hp} (k : Keep h H H') (ne : p ≠ h) (n : H' p = none) : H p = none := by
  cases q : H p with
  | none => rfl
  | some o => rw [k p o ne q] at n; cases n
theorem Keep.self {h : Addr} {H H' : Hp} {o : HO} (k : Keep h H H') : Keep h H (upd H' h o) := fun b u nb e => by rw [upd_ne nb]; exact k b u nb e
theorem Keep.seqN {K : PySem.W.Frag} {H H' : Hp} {a h : Addr} {xs : List V} (k : Keep h H H') (n : H h = none) (q : SqL K H a xs) : SqL K H' a xs := by
  rcases q with (q | ⟨o, q⟩) | q
  · exact .inl (.inl (k _ _ (ne_of_none q n) q))
  · exact .inl (.inr ⟨o, k _ _ (ne_of_none q n) q⟩)
  · exact .inr q
/-- a tuple stands behind a store at a new place, at a list -/
theorem sqt_upd {K : PySem.W.Frag} {H : Hp} {a b : Addr} {xs : List V} {o : HO} (n : H b = none ∨ ∃ ys, H b = some (.lst ys)) (q : SqT K H a xs) : SqT K (upd H b o) a xs := by
  have ne : ∀ u, H a = some u → (∀ ys, u ≠ .lst ys) → a ≠ b := fun u e hu z => by
    subst z
    rcases n with n | ⟨ys, n⟩
    · rw [n] at e; cases e
    · rw [n] at e; exact hu ys (Option.some.inj e).symm
  rcases q with (q | ⟨o', q⟩) | q
  · exact .inl (.inl (by rw [upd_ne (ne _ q (by intro ys z; cases z))]; exact q))
  · exact .inl (.inr ⟨o', by rw [upd_ne (ne _ q (by intro ys z; cases z))]; exact q⟩)
  · exact .inr q
/-- x in (a, b, ..), data at any depth -/
def rInT (K : PySem.W.Frag) (neg : Bool) : R2 := fun x y H Q => ∃ d ds, Dp K H x d ∧ Dp K H y (.tuple ds) ∧ SeqAt.shaped d = true ∧ SeqAt.shaped (.tuple ds) = true ∧ Q (.bl (if neg then !(ds.any fun z => PyData.eqv z d) else ds.any fun z => PyData.eqv z d)) H
theorem op_inT {X : Cx} (hu : X.A.units + 65 < cLine) : OpR X (compareOp .In) (rInT X.K false) := by
  intro pins s σ H x y v u Q I rx ry h
  obtain ⟨d, ds, hd, he, sd, se, q⟩ := h
  obtain ⟨as, r1⟩ := Dp.reads I d x v hd rx
  obtain ⟨bs, r2⟩ := Dp.reads I (.tuple ds) y u he ry
  exact SeqAt.in_tuple_reads r2 r1 (SeqAt.canLay_of_shaped se) (SeqAt.canLay_of_shaped sd) (room_in_shaped sd hu) ⟨.bl _, H, I, rfl, q⟩
/-! ### readings, step by step -/
section
variable {K : PySem.W.Frag} {σ : L2.St} {H : Hp} {Q : VK} {QA : List V → Hp → Prop} {QT : Bool → Hp → Prop} {D : Ends} {ta tb tc te : TE} {tr t1 : TA} {tt tu : TT} {t u : TS} {r r' : R2} {v x y : V} {i j : Int} {n : Nat} {p : Addr} {xs : List V}
theorem d_var {i : Nat} (e : σ[i]? = some (some v)) (h : Q v H) : tVar i σ H Q := ⟨v, e, h⟩
theorem d_c (h : Q v H) : tC v σ H Q := h
theorem d_op (h : ta σ H fun x H1 => tb σ H1 fun y H2 => r x y H2 Q) : tOp r ta tb σ H Q := h
theorem d_un {r : V → Hp → VK → Prop} (h : ta σ H fun x H1 => r x H1 Q) : tUn r ta σ H Q := h
theorem d_cons (h : ta σ H fun x H1 => tr σ H1 fun xs H2 => QA (x :: xs) H2) : tCons ta tr σ H QA := h
theorem d_nil (h : QA [] H) : tNil σ H QA := h
theorem d_cb {r : List V → Hp → VK → Prop} (h : tr σ H fun vs H1 => r vs H1 Q) : tCB r tr σ H Q := h
theorem d_call {sp : Sp} {dvs : List V} {E : XK} (h : tr σ H fun vs H1 => sp (vs ++ dvs) H1 Q E) : tCall sp dvs E tr σ H Q := h
theorem d_tup (h : tr σ H fun xs H1 => xs.length ≤ sizeLine ∧ ∀ p, H1 p = none → Q (.ref p) (upd H1 p (.tup xs))) : tTup tr σ H Q := h
theorem d_lst (h : tr σ H fun xs H1 => xs.length ≤ sizeLine ∧ ∀ p, H1 p = none → Q (.ref p) (upd H1 p (.lst xs))) : tLst tr σ H Q := h
theorem d_rI {C : Int → Int → Prop} {g : Int → Int → V} (hc : C i j) (h : Q (g i j) H) : rI C g (.int i) (.int j) H Q := ⟨i, j, rfl, rfl, hc, h⟩
theorem d_rI0 {g : Int → Int → V} (h : Q (g i j) H) : rI0 g (.int i) (.int j) H Q := ⟨i, j, rfl, rfl, h⟩
theorem d_rU {g : Int → V} (h : Q (g i) H) : rU g (.int i) H Q := ⟨i, rfl, h⟩
theorem d_eqI (h : Q (.bl (decide (i = j))) H) : rEq (.int i) (.int j) H Q := ⟨rfl, by
  rw [show decide (V.int i = V.int j) = decide (i = j) by rw [Bool.eq_iff_iff]; simp]; exact h⟩
theorem d_neI (h : Q (.bl (!decide (i = j))) H) : rNe (.int i) (.int j) H Q := ⟨rfl, by
  rw [show decide (V.int i = V.int j) = decide (i = j) by rw [Bool.eq_iff_iff]; simp]; exact h⟩
theorem d_ixL (h : SqL K H p xs) (e : atI xs i = some v) (q : Q v H) : rIxL K (.ref p) (.int i) H Q := ⟨p, xs, i, v, rfl, rfl, h, e, q⟩
theorem d_ixLm (h : H p = some (.lst xs)) (e : atI xs i = some v) (q : Q v H) : rIxL K (.ref p) (.int i) H Q := ⟨p, xs, i, v, rfl, rfl, SqL.of h, e, q⟩
theorem d_ixT (h : SqT K H p xs) (e : atI xs i = some v) (q : Q v H) : rIxT K (.ref p) (.int i) H Q := ⟨p, xs, i, v, rfl, rfl, h, e, q⟩
theorem d_ixTm (h : H p = some (.tup xs)) (e : atI xs i = some v) (q : Q v H) : rIxT K (.ref p) (.int i) H Q := ⟨p, xs, i, v, rfl, rfl, SqT.of h, e, q⟩
theorem d_test (h : te σ H fun x H' => ∃ k, x = .bl k ∧ QT k H') : tTest te σ H QT := h
theorem d_tB (h : te σ H fun x H' => ∃ k, x = .bl k ∧ QT k H') : tB te σ H QT := h
theorem d_bl {b : Bool} {C : Bool → Prop} (h : C b) : ∃ k, V.bl b = .bl k ∧ C k := ⟨b, rfl, h⟩
theorem d_not (h : tt σ H fun c H1 => QT (!c) H1) : tNot tt σ H QT := h
theorem d_and (h : tt σ H fun c H1 => if c = true then tu σ H1 QT else QT false H1) : tAnd tt tu σ H QT := h
theorem d_or (h : tt σ H fun c H1 => if c = true then QT true H1 else tu σ H1 QT) : tOr tt tu σ H QT := h
theorem d_if (h : tt σ H fun c H1 => if c = true then ta σ H1 Q else tb σ H1 Q) : tIf tt ta tb σ H Q := h
theorem d_andV (h : ta σ H fun x H1 => ∃ c, x = .bl c ∧ if c = true then tb σ H1 Q else Q (.bl false) H1) : tAndV ta tb σ H Q := h
theorem d_sl {r : V → Option Int → Option Int → Hp → VK → Prop} {tl th : TO} (h : te σ H fun x H1 => tl σ H1 fun l H2 => th σ H2 fun u H3 => r x l u H3 Q) : tSl r te tl th σ H Q := h
theorem d_nop {QO : Option Int → Hp → Prop} (h : QO none H) : tNoPart σ H QO := h
theorem d_part {QO : Option Int → Hp → Prop} (h : te σ H fun x H1 => ∃ i, x = .int i ∧ QO (some i) H1) : tPart te σ H QO := h
theorem d_in {C : Int → Prop} (h : C i) : ∃ k, V.int i = .int k ∧ C k := ⟨i, rfl, h⟩
theorem d_bm {T : String} {r : V → List V → Hp → VK → Prop} (h : te σ H fun x H1 => tyV K T x H1 ∧ tr σ H1 fun xs H2 => r x xs H2 Q) : tBM K T r te tr σ H Q := h
theorem d_bm0 {T : String} {r : V → List V → Hp → VK → Prop} (h : te σ H fun x H1 => tyV K T x H1 ∧ r x [] H1 Q) : tBM0 K T r te σ H Q := h
theorem d_m1 {r : V → List V → Hp → VK → Prop} (h : ta σ H fun x H1 => (∃ a, x = .str a) ∧ te σ H1 fun y H2 => r x [y] H2 Q) : tM1 r ta te σ H Q := h
theorem d_exs {A : Str} {C : Prop} (h : C) : (∃ a, V.str A = .str a) ∧ C := ⟨⟨_, rfl⟩, h⟩
theorem d_app {l : Addr} {ys : List V} (h : H l = some (.lst ys)) (q : tr σ H fun zs H2 => rAppend (.ref l) zs H2 Q) : tyV K "list" (.ref l) H ∧ tr σ H fun zs H2 => rAppend (.ref l) zs H2 Q := ⟨.inl ⟨rfl, _, SqL.of h⟩, q⟩
theorem d_append {l : Addr} {ys : List V} (h : H l = some (.lst ys)) (hl : ys.length < sizeLine) (q : Q .non (upd H l (.lst (ys ++ [y])))) : rAppend (.ref l) [y] H Q := ⟨l, ys, y, rfl, rfl, h, hl, q⟩
theorem d_setL {QU : Hp → Prop} {l : Addr} {ys : List V} {j : Nat} (h : H l = some (.lst ys)) (e : ixN ys.length i = some j) (q : QU (upd H l (.lst (ys.set j v)))) : rSetL (.ref l) (.int i) v H QU := ⟨l, ys, i, j, rfl, rfl, h, e, q⟩
theorem d_lenL {C : List V → Prop} (h : SqL K H p xs) (q : C xs) : ∃ p' ys, [V.ref p] = [.ref p'] ∧ (SqL K H p' ys ∨ SqT K H p' ys) ∧ C ys := ⟨p, xs, rfl, .inl h, q⟩
theorem d_lenT {C : List V → Prop} (h : SqT K H p xs) (q : C xs) : ∃ p' ys, [V.ref p] = [.ref p'] ∧ (SqL K H p' ys ∨ SqT K H p' ys) ∧ C ys := ⟨p, xs, rfl, .inr h, q⟩
theorem d_lenS {C : Str → Prop} {z : Str} (h : z.length ≤ sizeLine) (q : C z) : ∃ z', [V.str z] = [.str z'] ∧ z'.length ≤ sizeLine ∧ C z' := ⟨z, rfl, h, q⟩
theorem d_isN {C : Prop} (q : C) : V.non = .non ∧ C := ⟨rfl, q⟩
-- statements
theorem d_next (h : D.nx σ H) : tNext D σ H := h
theorem d_seq (h : t { D with nx := u D } σ H) : tSeq t u D σ H := h
theorem d_asg {g : TG} (h : te σ H fun x H1 => g x σ H1 D.nx) : tAsg te g D σ H := h
theorem d_drop (h : te σ H fun _ H1 => D.nx σ H1) : tDrop te D σ H := h
theorem d_ret (h : te σ H D.rt) : tRet te D σ H := h
theorem d_retN (h : D.rt .non H) : tRetN D σ H := h
theorem d_ifS (h : tt σ H fun b H1 => if b = true then t D σ H1 else u D σ H1) : tIfS tt t u D σ H := h
theorem d_brk (h : D.bk σ H) : tBreak D σ H := h
theorem d_ct (h : D.ct σ H) : tCont D σ H := h
theorem d_aug {i : Nat} {ti : TIp} (e : σ[i]? = some (some x)) (h : te σ H fun y H1 => ti x y H1 fun z H2 => D.nx (σ.set i (some z)) H2) : tAug i te ti D σ H := ⟨x, e, h⟩
theorem d_gname {i : Nat} {QS : L2.St → Hp → Prop} (h : QS (σ.set i (some v)) H) : gName i v σ H QS := h
theorem d_gnil {QS : L2.St → Hp → Prop} (h : QS σ H) : gNil [] σ H QS := ⟨rfl, h⟩
theorem d_gcons {t : TG} {u : TGs} {vs : List V} {QS : L2.St → Hp → Prop} (h : t v σ H fun σ' H' => u vs σ' H' QS) : gCons t u (v :: vs) σ H QS := ⟨v, vs, rfl, h⟩
theorem d_gtup {t : TGs} {QS : L2.St → Hp → Prop} (h : SqT K H p xs) (hl : xs.length = n) (q : t xs σ H QS) : gTup K n t (.ref p) σ H QS := ⟨p, xs, rfl, h, hl, q⟩
theorem d_gtupm {t : TGs} {QS : L2.St → Hp → Prop} (h : H p = some (.tup xs)) (hl : xs.length = n) (q : t xs σ H QS) : gTup K n t (.ref p) σ H QS := ⟨p, xs, rfl, SqT.of h, hl, q⟩
theorem d_gsub {ti : TE} {s : TSet} {QS : L2.St → Hp → Prop} (h : ta σ H fun o H1 => ti σ H1 fun i H2 => s o i v H2 fun H3 => QS σ H3) : gSub ta ti s v σ H QS := h
-- what is walked
theorem d_for {wi : TI} {g : TG} (h : wi σ H fun J H1 => ∃ W : Nat → Nat → L2.St → Hp → Prop, (∃ m, W 0 m σ H1) ∧ ∀ i m σ H, W i m σ H →
  (J.stop i H ∧ D.nx σ H) ∨ (J.go i H ∧ ∃ N : L2.St → Hp → Prop, (∀ σ' H', N σ' H' → ∃ m', m' < m ∧ W (i + 1) m' σ' H') ∧ ∀ x H', J.yld i H x H' → g x σ H' fun σ2 H2 => t { D with nx := N, ct := N, bk := D.nx } σ2 H2)) : tFor wi g t D σ H := h
theorem d_lc {wi : TI} {g : TG} {vs : List Nat} (h : wi σ H fun J H1 => ∀ D, H1 D = none → ∃ W : Nat → Nat → Hp → Prop, (∃ m, W 0 m (upd H1 D (.lst []))) ∧ ∀ i m H, W i m H →
  (J.stop i H ∧ Q (.ref D) H) ∨ (J.go i H ∧ ∃ Nx : Hp → Prop, (∀ H', Nx H' → ∃ m', m' < m ∧ W (i + 1) m' H') ∧ ∀ x H', J.yld i H x H' → g x (wipe σ vs) H' fun σ2 H2 => wipe σ2 vs = wipe σ vs ∧ tt σ2 H2 fun b H3 =>
    if b = true then te σ2 H3 fun y H4 => ∃ acc, H4 D = some (.lst acc) ∧ acc.length < sizeLine ∧ Nx (upd H4 D (.lst (acc ++ [y]))) else Nx H3)) : tLc wi g tt te vs σ H Q := h
theorem d_iR1 {R : It → Hp → Prop} (h : tr σ H fun vs H1 => ∃ j : Int, vs = [.int j] ∧ -(2 ^ 62) ≤ j ∧ j < 2 ^ 62 ∧ R (Itr 0 j.toNat) H1) : iRng1 tr σ H R := h
theorem d_iR2 {R : It → Hp → Prop} (h : tr σ H fun vs H1 => ∃ i j : Int, vs = [.int i, .int j] ∧ (-(2 ^ 62) ≤ i ∧ i < 2 ^ 62 ∧ -(2 ^ 62) ≤ j ∧ j < 2 ^ 62) ∧ R (Itr i (j - i).toNat) H1) : iRng2 tr σ H R := h
theorem d_iR1e {C : Int → Prop} (h1 : -(2 ^ 62) ≤ j) (h2 : j < 2 ^ 62) (h : C j) : ∃ k : Int, [V.int j] = [.int k] ∧ -(2 ^ 62) ≤ k ∧ k < 2 ^ 62 ∧ C k := ⟨j, rfl, h1, h2, h⟩
theorem d_iR2e {C : Int → Int → Prop} (h1 : -(2 ^ 62) ≤ i ∧ i < 2 ^ 62 ∧ -(2 ^ 62) ≤ j ∧ j < 2 ^ 62) (h : C i j) : ∃ k l : Int, [V.int i, V.int j] = [.int k, .int l] ∧ (-(2 ^ 62) ≤ k ∧ k < 2 ^ 62 ∧ -(2 ^ 62) ≤ l ∧ l < 2 ^ 62) ∧ C k l := ⟨i, j, rfl, h1, h⟩
theorem d_iL {R : It → Hp → Prop} (h : te σ H fun x H1 => ∃ a, x = .ref a ∧ (∃ xs, SqL K H1 a xs) ∧ R (Itl K a) H1) : iList K te σ H R := h
theorem d_iT {R : It → Hp → Prop} (h : te σ H fun x H1 => ∃ a, x = .ref a ∧ (∃ xs, SqT K H1 a xs) ∧ R (Itt K a) H1) : iTup K te σ H R := h
theorem d_iTe {C : Addr → Prop} {a : Addr} (h : SqT K H a xs) (q : C a) : ∃ a', V.ref a = .ref a' ∧ (∃ xs, SqT K H a' xs) ∧ C a' := ⟨a, rfl, ⟨xs, h⟩, q⟩
theorem d_iLe {C : Addr → Prop} {a : Addr} (h : SqL K H a xs) (q : C a) : ∃ a', V.ref a = .ref a' ∧ (∃ xs, SqL K H a' xs) ∧ C a' := ⟨a, rfl, ⟨xs, h⟩, q⟩
theorem d_iS {R : It → Hp → Prop} (h : te σ H fun v H1 => ∃ x, v = .str x ∧ R (Its x) H1) : iStr te σ H R := h
theorem d_iSe {C : Str → Prop} {z : Str} (q : C z) : ∃ x, V.str z = .str x ∧ C x := ⟨z, rfl, q⟩
theorem d_yes (h : QT true H) : tYes σ H QT := h
theorem d_dget1 {td ty : TE} (h : td σ H fun x H1 => ∃ a, x = .ref a ∧ IsD H1 a ∧ ty σ H1 fun y H2 => ∃ o, DGet H2 a y o ∧ Q (o.getD .non) H2) : tDGet1 td ty σ H Q := h
theorem d_dget2 {td ty tx : TE} (h : td σ H fun x H1 => ∃ a, x = .ref a ∧ IsD H1 a ∧ ty σ H1 fun y H2 => tx σ H2 fun z H3 => ∃ o, DGet H3 a y o ∧ Q (o.getD z) H3) : tDGet2 td ty tx σ H Q := h
theorem d_daug {td ty tv : TE} {rd : V → V → Hp → VK → Prop} (h : td σ H fun x H1 => ty σ H1 fun y H2 => ∃ a v, x = .ref a ∧ DGet H2 a y (some v) ∧ tv σ H2 fun y2 H3 => rd v y2 H3 fun z H4 => ∃ H5, DPut H4 a y z H5 ∧ D.nx σ H5) : sDAug td ty tv rd D σ H := h
theorem d_notV (h : ta σ H fun x H1 => ∃ c, x = .bl c ∧ Q (.bl (!c)) H1) : tNotV ta σ H Q := h
theorem d_par {i j : Nat} (h : tr σ H fun vs H1 => ∃ v w, vs = [v, w] ∧ D.nx ((σ.set i (some v)).set j (some w)) H1) : tPar i j tr D σ H := h
theorem d_par2 {C : V → V → Prop} (h : C x y) : ∃ v w, [x, y] = [v, w] ∧ C v w := ⟨x, y, rfl, h⟩
theorem d_dget {td ty : TE} (h : td σ H fun x H1 => ty σ H1 fun y H2 => ∃ a v, x = .ref a ∧ DGet H2 a y (some v) ∧ Q v H2) : tDGet td ty σ H Q := h
theorem d_dput {td ty tv : TE} (h : tv σ H fun v H1 => td σ H1 fun x H2 => ty σ H2 fun y H3 => ∃ a H4, x = .ref a ∧ DPut H3 a y v H4 ∧ D.nx σ H4) : sDPut td ty tv D σ H := h
theorem d_din {td ty : TE} (h : ty σ H fun y H1 => td σ H1 fun x H2 => ∃ a o, x = .ref a ∧ DGet H2 a y o ∧ Q (.bl o.isSome) H2) : tDIn ty td σ H Q := h
theorem d_dnewT (h : ∀ p, H p = none → Q (.ref p) (upd H p (.dT []))) : tDNewT σ H Q := h
theorem d_dnewK (h : ∀ p, H p = none → Q (.ref p) (upd H p (.dK []))) : tDNewK σ H Q := h
theorem iteNT {A B : Prop} (h : B) : if (!true) = true then A else B := h
theorem iteNF {A B : Prop} (h : A) : if (!false) = true then A else B := h
theorem d_cut (M : L2.St → Hp → Prop) (h : t { D with nx := M } σ H) (k : ∀ σ' H', M σ' H' → u D σ' H') : Evl.tCut t u D σ H := ⟨M, h, k⟩
/-- a and b where b only looks -/
theorem if_any {c : Bool} {tb : TE} (hb : ∀ Q' : VK, (∀ b H', Same H H' → Q' (.bl b) H') → tb σ H Q') (q : ∀ b H', Same H H' → Q (.bl b) H') : if c = true then tb σ H Q else Q (.bl false) H := by
  cases c with
  | true => exact iteT (hb Q q)
  | false => exact iteF (q _ _ (Same.refl _))
theorem d_wipe {σ2 σ3 : L2.St} {vs : List Nat} {C : Prop} (e : wipe σ2 vs = wipe σ3 vs) (h : C) : wipe σ2 vs = wipe σ3 vs ∧ C := ⟨e, h⟩
theorem d_lsten (h : tr σ H fun vs H1 => rLstEn K vs H1 Q) : tLstEn K tr σ H Q := h
theorem d_slL {a : Addr} {lo hi : Option Int} (h : SqL K H a xs) (q : ∀ p, H p = none → Q (.ref p) (upd H p (.lst (cutV xs lo hi)))) : rSlL K (.ref a) lo hi H Q := ⟨a, xs, rfl, h, q⟩
theorem d_lrg {tg : L2.St → Hp → (Int → Int → Hp → Prop) → Prop} (h : tg σ H fun a b H1 => RgOk a b ∧ ∀ q, H1 q = none → Q (.ref q) (upd H1 q (.lst (rgV a b)))) : tLstRg tg σ H Q := h
theorem d_rg1 {R : Int → Int → Hp → Prop} (h : te σ H fun x H1 => ∃ n, x = .int n ∧ R 0 n H1) : tRg1 te σ H R := h
end
/-- the law's hand: two whole numbers -/
def Hand (H : Hp) (h : Addr) : Prop := ∃ d m : Int, H h = some (.lst [.int d, .int m]) ∧ 0 ≤ d ∧ 0 ≤ m ∧ m < 2147483587
theorem Hand.same {H H' : Hp} {h : Addr} (x : Hand H h) (s : Same H H') : Hand H' h := by
  obtain ⟨d, m, e, r⟩ := x
  exact ⟨d, m, s _ _ e, r⟩
theorem Hand.ne {H : Hp} {h p : Addr} (x : Hand H h) (n : H p = none) : p ≠ h := by
  obtain ⟨d, m, e, r⟩ := x
  exact (ne_of_none e n).symm
theorem Hand.put {H : Hp} {h p : Addr} {o : HO} (x : Hand H h) (n : p ≠ h) : Hand (upd H p o) h := by
  obtain ⟨d, m, e, r⟩ := x
  exact ⟨d, m, by rw [upd_ne n.symm]; exact e, r⟩
/-- a tuple stays where a list changes -/
theorem Keep.sqt {K : PySem.W.Frag} {h : Addr} {H H' : Hp} {a : Addr} {xs ys : List V} (k : Keep h H H') (e : H h = some (.lst ys)) (q : SqT K H a xs) : SqT K H' a xs := by
  rcases q with (q | ⟨o, q⟩) | q
  · exact .inl (.inl (k _ _ (ne_of q e (by intro z; cases z)) q))
  · exact .inl (.inr ⟨o, k _ _ (ne_of q e (by intro z; cases z)) q⟩)
  · exact .inr q
mutual
theorem dp_same {K : PySem.W.Frag} {H H' : Hp} (s : Same H H') : ∀ (d : PyData) (v : V), Dp K H v d → Dp K H' v d
  | .none, _, h => by cases h; exact .non
  | .bool b, _, h => by cases h; exact .bl b
  | .int i, _, h => by cases h; exact .int i
  | .str x, _, h => by cases h; exact .str x
  | .list ds, _, h => by
    cases h with
    | lst hs ha => exact .lst (Same.seq s hs) (dpa_same s ds _ ha)
  | .tuple ds, _, h => by
    cases h with
    | tup hs ha => exact .tup (Same.sqt s hs) (dpa_same s ds _ ha)
  | .dict _, _, h => by cases h
theorem dpa_same {K : PySem.W.Frag} {H H' : Hp} (s : Same H H') : ∀ (ds : List PyData) (vs : List V), DpAll K H vs ds → DpAll K H' vs ds
  | [], _, h => by cases h; exact .nil
  | d :: ds, _, h => by
    cases h with
    | cons a b => exact .cons (dp_same s d _ a) (dpa_same s ds _ b)
end
theorem dpa_ints {K : PySem.W.Frag} {H : Hp} : ∀ ns : List Int, DpAll K H (ns.map V.int) (ns.map PyData.int)
  | [] => .nil
  | n :: r => .cons (.int n) (dpa_ints r)
theorem shaped_ints (ns : List Int) : SeqAt.shaped (.list (ns.map PyData.int)) = true := PySem.W.ke_shaped_ints ns
/-- one sign -/
abbrev sg (c : Nat) : Str := ⟨#[c]⟩
def Ltr (c : Nat) : Prop := 97 ≤ c ∧ c ≤ 122
abbrev Tie := Nat × Nat × Nat
/-- places' kinds, ties -/
abbrev Web := List Nat × List Tie
def TieAt (K : PySem.W.Frag) (H : Hp) (v : V) (t : Tie) : Prop := ∃ a, v = .ref a ∧ SqT K H a [.int (t.1 : Nat), .int (t.2.1 : Nat), .str (sg t.2.2)]
def WebAt (K : PySem.W.Frag) (H : Hp) (v : V) (w : Web) : Prop := ∃ a b tvs, v = .ref a ∧ SqT K H a [.str ⟨w.1.toArray⟩, .ref b] ∧ SqT K H b tvs ∧ Paired (TieAt K H) tvs w.2
def tlt (s t : Tie) : Prop := s.1 < t.1 ∨ (s.1 = t.1 ∧ s.2.1 < t.2.1)
structure WOk (w : Web) : Prop where
  few : w.1.length ≤ 40
  most : w.2.length ≤ 1600
  kinds : ∀ c ∈ w.1, Ltr c
  rise : w.2.Pairwise tlt
  ends : ∀ t ∈ w.2, t.1 < t.2.1 ∧ t.2.1 < w.1.length ∧ Ltr t.2.2
theorem Paired.imp {α β : Type} {F G : α → β → Prop} {xs : List α} {ys : List β} (p : Paired F xs ys) (h : ∀ a b, F a b → G a b) : Paired G xs ys := by
  induction p with
  | nil => exact .nil
  | cons a _ ih => exact .cons (h _ _ a) ih
theorem TieAt.same {K : PySem.W.Frag} {H H' : Hp} {v : V} {t : Tie} (x : TieAt K H v t) (s : Same H H') : TieAt K H' v t := by
  obtain ⟨a, e, q⟩ := x
  exact ⟨a, e, Same.sqt s q⟩
theorem TieAt.keep {K : PySem.W.Frag} {H H' : Hp} {v : V} {t : Tie} {h : Addr} {ys : List V} (x : TieAt K H v t) (k : Keep h H H') (e : H h = some (.lst ys)) : TieAt K H' v t := by
  obtain ⟨a, e', q⟩ := x
  exact ⟨a, e', k.sqt e q⟩
theorem WebAt.same {K : PySem.W.Frag} {H H' : Hp} {v : V} {w : Web} (x : WebAt K H v w) (s : Same H H') : WebAt K H' v w := by
  obtain ⟨a, b, tvs, e, q1, q2, q3⟩ := x
  exact ⟨a, b, tvs, e, Same.sqt s q1, Same.sqt s q2, Paired.imp q3 fun _ _ z => z.same s⟩
theorem WebAt.keep {K : PySem.W.Frag} {H H' : Hp} {v : V} {w : Web} {h : Addr} {ys : List V} (x : WebAt K H v w) (k : Keep h H H') (e : H h = some (.lst ys)) : WebAt K H' v w := by
  obtain ⟨a, b, tvs, e', q1, q2, q3⟩ := x
  exact ⟨a, b, tvs, e', k.sqt e q1, k.sqt e q2, Paired.imp q3 fun _ _ z => z.keep k e⟩
theorem TieAt.put {K : PySem.W.Frag} {H : Hp} {v : V} {t : Tie} {b : Addr} {o : HO} (x : TieAt K H v t) (n : H b = none ∨ ∃ ys, H b = some (.lst ys)) : TieAt K (upd H b o) v t := by
  obtain ⟨a, e, q⟩ := x
  exact ⟨a, e, sqt_upd n q⟩
theorem WebAt.put {K : PySem.W.Frag} {H : Hp} {v : V} {w : Web} {b : Addr} {o : HO} (x : WebAt K H v w) (n : H b = none ∨ ∃ ys, H b = some (.lst ys)) : WebAt K (upd H b o) v w := by
  obtain ⟨a, b, tvs, e', q1, q2, q3⟩ := x
  exact ⟨a, b, tvs, e', sqt_upd n q1, sqt_upd n q2, Paired.imp q3 fun _ _ z => z.put n⟩
theorem Paired.at {α β : Type} {F : α → β → Prop} : ∀ {xs : List α} {ys : List β}, Paired F xs ys → ∀ {i : Nat} {x : α}, xs[i]? = some x → ∃ y, ys[i]? = some y ∧ F x y
  | _, _, .nil, i, x, h => by cases h
  | _, _, .cons r t, 0, x, h => by
    cases h
    exact ⟨_, rfl, r⟩
  | _, _, .cons r t, i + 1, x, h => Paired.at t h
open TL in
theorem joinL_nil : ∀ ps : List (List Nat), joinL [] ps = ps.flatten
  | [] => rfl
  | [p] => by show p = [p].flatten; simp
  | p :: q :: r => by
    show p ++ ([] ++ joinL [] (q :: r)) = (p :: q :: r).flatten
    rw [joinL_nil (q :: r)]; simp
theorem str_ext {x y : Str} (h : x.cps.toList = y.cps.toList) : x = y := by
  cases x; cases y
  simpa using h
open TL in
theorem join_signs (cs : List Nat) : Txt.join (Str.ofString "") (cs.map sg) = ⟨cs.toArray⟩ := by
  rw [join_eq]
  apply str_ext
  show tl (Str.join (Str.ofString "") (cs.map sg)) = cs
  rw [tl_join, show tl (Str.ofString "") = [] from by decide +kernel, joinL_nil, List.map_map]
  induction cs with
  | nil => rfl
  | cons c r ih =>
    rw [List.map_cons, List.flatten_cons, ih]
    rfl
theorem sum_const {α : Type} (f : α → Nat) (n : Nat) : ∀ l : List α, (∀ x ∈ l, f x = n) → (l.map f).sum = l.length * n
  | [], _ => by simp
  | a :: r, h => by
    rw [List.map_cons, List.sum_cons, sum_const f n r fun x hx => h x (List.mem_cons_of_mem _ hx), h a List.mem_cons_self, List.length_cons, Nat.succ_mul]
    omega
theorem sz {n : Nat} (h : n ≤ 100000) : n ≤ sizeLine := Nat.le_trans h (by decide)
theorem szl {n : Nat} (h : n ≤ 100000) : n < sizeLine := Nat.lt_of_le_of_lt h (by decide)
end Cw

/-! itertools.combinations(xs, 2), at the library's level -/
namespace CwCmb
open PySem PySem.Spec
abbrev cwT : String := "itertools.combinations"
theorem mro_cmb : mroOf (.type cwT) = pure [.type cwT, .type "object"] := by (rw [mroOf_type]); kernel_rfl
theorem lookup_cmb_new : typeLookup (.type cwT) "__new__" = pure (some (.builtin "itertools.combinations.__new__")) := (by (rw [typeLookup_type]; rw [builtinLookup_eq_fast]); kernel_rfl)
theorem sub_cmb : isSubtype (.type cwT) (.type cwT) = pure true := by (rw [isSubtype_type]); kernel_rfl
theorem noDict_cmb : typeHasDict (.type cwT) = false := (by decide +kernel)
theorem slot_cmb_init : Slot cwT "__init__" "object.__init__" :=
  Slot.of (n := "__init__") (owner := "object") (by (rw [typeLookup_type]; rw [builtinLookup_eq_fast]); kernel_rfl) (by decide +kernel) (by decide +kernel) (by decide +kernel) (by first | exact Or.inl (by decide +kernel) | exact Or.inr (by decide +kernel)) (by (rw [isSubtype_type]); kernel_rfl)
theorem called_cmb : TypeCalled cwT "itertools.combinations.__new__" "object.__init__" :=
  have made := madeBy_type mro_cmb lookup_cmb_new (by decide +kernel)
  ⟨(by decide +kernel), (by decide +kernel), ⟨_, _, mro_cmb⟩, made, (by decide +kernel), sub_cmb, slot_cmb_init⟩
theorem typeCall_cmb_2 (a b : Value) : checkTypeCall cwT ⟨[a, b], []⟩ = pure () := by kernel_rfl
theorem newCall_cmb_2 (a b : Value) : checkBuiltinCall "itertools.combinations.__new__" ⟨[.type cwT, a, b], []⟩ = pure () := by kernel_rfl
theorem entry_cmb_new : entryFor table "itertools.combinations.__new__" = some Builtin.«itertools.combinations.__new__» := entryFor_of_tree (by kernel_rfl)
theorem slot_cmb_iter : Slot cwT "__iter__" "itertools.combinations.__iter__" := Slot.of (n := "__iter__") (owner := cwT) (by (rw [typeLookup_type]; rw [builtinLookup_eq_fast]); kernel_rfl) (by decide +kernel) (by decide +kernel) (by decide +kernel) (by first | exact Or.inl (by decide +kernel) | exact Or.inr (by decide +kernel)) sub_cmb
theorem slot_cmb_next : Slot cwT "__next__" "itertools.combinations.__next__" := Slot.of (n := "__next__") (owner := cwT) (by (rw [typeLookup_type]; rw [builtinLookup_eq_fast]); kernel_rfl) (by decide +kernel) (by decide +kernel) (by decide +kernel) (by first | exact Or.inl (by decide +kernel) | exact Or.inr (by decide +kernel)) sub_cmb
theorem entry_cmb_iter : entryFor table "itertools.combinations.__iter__" = some Builtin.«dict_keyiterator.__iter__» :=
  entryFor_alias (by kernel_rfl) (by first | decide +kernel | rfl) (by decide +kernel) (id' := "dict_keyiterator.__iter__") (by kernel_rfl)
theorem entry_cmb_next : entryFor table "itertools.combinations.__next__" = some Builtin.«itertools.combinations.__next__» := entryFor_of_tree (by kernel_rfl)
theorem owner_cmb : Manifest.owners.lookup (String.ofList ['s', 'n', 'o', 'i', 't', 'a', 'n', 'i', 'b', 'm', 'o', 'c', '.', 's', 'l', 'o', 'o', 't', 'r', 'e', 't', 'i'].reverse) = some Manifest.sig_itertools_combinations := by kernel_rfl
theorem args_cmb_iter (a : Value) : argsOk "itertools.combinations.__iter__" ⟨[a], []⟩ := by
  unfold argsOk
  rw [signature?_of (id := "itertools.combinations.__iter__") (o := ['s', 'n', 'o', 'i', 't', 'a', 'n', 'i', 'b', 'm', 'o', 'c', '.', 's', 'l', 'o', 'o', 't', 'r', 'e', 't', 'i']) (n := ['_', '_', 'r', 'e', 't', 'i', '_', '_']) (by kernel_rfl) owner_cmb]
  kernel_rfl
theorem args_cmb_next (a : Value) : argsOk "itertools.combinations.__next__" ⟨[a], []⟩ := by
  unfold argsOk
  rw [signature?_of (id := "itertools.combinations.__next__") (o := ['s', 'n', 'o', 'i', 't', 'a', 'n', 'i', 'b', 'm', 'o', 'c', '.', 's', 'l', 'o', 'o', 't', 'r', 'e', 't', 'i']) (n := ['_', '_', 't', 'x', 'e', 'n', '_', '_']) (by kernel_rfl) owner_cmb]
  kernel_rfl

/-- a tuple's object -/
abbrev IsPool (h : Heap) (p : Addr) (xs : Array Value) : Prop := ∃ n, h.get? p = some { cls := .type "tuple", dict := none, data := .seq xs n, slots := #[] }
/-- a combinations object, of two: its pool, where it is, its last, its places -/
abbrev IsCmb (h : Heap) (it p : Addr) (st : Int) (last : Value) (i j : Nat) : Prop := h.get? it = some { cls := .type "itertools.combinations", dict := none, data := .fields #[.ref p, .int st 0, last, .int i 0, .int j 0], slots := #[] }

section
variable {prog : Program} {w : World} {A : Around} {E : Value → Shared → Prop} {s : Shared}
theorem iter_cmb {it p : Addr} {st : Int} {last : Value} {i j : Nat} {Q : Value → Shared → Prop} (hit : IsCmb s.heap it p st last i j) (h : Q (.ref it) s) : wpAny (model prog w) A (pyIter (.ref it)) Q E s := by
  have hT : s.TypeIs (.ref it) "itertools.combinations" := ⟨_, hit, rfl⟩
  have said := args_cmb_iter (.ref it)
  refine wpAny_pyIter_slot hT slot_cmb_iter (wpAny_call_entry slot_cmb_iter hT entry_cmb_iter ?_ said)
  have nx := slot_cmb_next.lookup
  exact wpAny_pure ⟨_, rfl, cwT, _, hT, nx, h⟩
end
end CwCmb

namespace CwCmb
open PySem PySem.Spec
open Sem (wp)
def poolO (items : List Value) : Obj := { cls := .type "tuple", data := .seq items.toArray }
def cmbO (p : Addr) (n : Nat) : Obj := { cls := .type "itertools.combinations", data := .fields #[.ref p, .int (if 2 > n then 2 else 0) 0, .none, .int (0 : Nat) 0, .int (1 : Nat) 0] }
theorem meets_cmb_new (l : Addr) (t : Tok) :
    Meets (Builtin.«itertools.combinations.__new__» ⟨[.type "itertools.combinations", .ref l, .int 2 t], []⟩)
      (fun A R s => ∃ (o : Obj) (items : Array Value) (n : Nat), s.heap.get? l = some o ∧ o.cls = .type "list" ∧ o.data = .seq items n ∧ items.size ≤ 100000 ∧ ∀ h' : Heap, (∀ b o', s.heap.get? b = some o' → h'.get? b = some o') →
        R (.ok (.ret (.ref (h'.objs.size + 1)))) { s with heap := (h'.push (poolO items.toList)).push (cmbO h'.objs.size items.size) }) :=
  .of_wp fun prog w A R s h => by
    obtain ⟨o, items, n, ho, hc, hd, hz, h⟩ := h
    obtain ⟨hp, g, dd, tk, os⟩ := s
    have hsub := sub_cmb
    have hd' := noDict_cmb
    repeat (first
      | wp_step
      | simp only [List.head?_cons, Option.some_or, List.getElem?_cons_succ, List.getElem?_cons_zero, List.length_cons, List.length_nil, List.forIn_nil])
    refine wpAny_of_eq (a := true) (by rw [show ("itertools." ++ "combinations" : String) = "itertools.combinations" by decide +kernel]; exact hsub) ?_
    repeat (first
      | (refine wpAny_bind (wpAny_collect_seq l (.inl rfl) ho hc hd (fun h' k => ?_) (Nat.le_trans hz (by decide))))
      | (refine wpAny_bind (wpAny_newTuple (items := items.toList) ?_ (by rw [Array.length_toList]; exact Nat.le_trans hz (by decide))))
      | wp_step
      | simp only [List.head?_cons, Option.some_or, List.getElem?_cons_succ, List.getElem?_cons_zero, List.length_cons, List.length_nil, List.forIn_nil])
    refine ⟨_, rfl, ?_⟩
    have z := h h' k
    rw [← Array.length_toList] at z
    rw [Heap.size_push]
    exact z
end CwCmb

namespace CwCmb
open PySem PySem.Spec
open Sem (wp)
/-- the first of two places that is not at its end -/
theorem pick_two (p : Nat → Bool) (g : Nat → List Nat) : (match ([1, 0] : List Nat).find? p with
    | none => none
    | some k => some (g k)) = if p 1 = true then some (g 1) else if p 0 = true then some (g 0) else none := by
  by_cases h1 : p 1 = true
  · rw [if_pos h1, List.find?_cons_of_pos h1]
  · rw [if_neg h1, List.find?_cons_of_neg h1]
    by_cases h0 : p 0 = true
    · rw [if_pos h0, List.find?_cons_of_pos h0]
    · rw [if_neg h0, List.find?_cons_of_neg h0]; rfl
/-- the pair behind (i, j), of n things -/
def nextC (n i j : Nat) : Option (Nat × Nat) := if j ≠ n - 1 then some (i, j + 1) else if i ≠ n - 2 then some (i + 1, i + 2) else none
theorem two_next {n i j : Nat} (hn : 2 ≤ n) : (if (j != 1 + n - 2) = true then some [i, j + 1 + 0] else if (i != 0 + n - 2) = true then some [i + 1 + 0, i + 1 + 1] else none) = (nextC n i j).map fun q => [q.1, q.2] := by
  have e1 : 1 + n - 2 = n - 1 := by omega
  have e0 : 0 + n - 2 = n - 2 := by omega
  rw [e1, e0]
  unfold nextC
  by_cases hj : j = n - 1
  · rw [if_neg (c := (j != n - 1) = true) (by simp [hj]), if_neg (c := j ≠ n - 1) (fun z => z hj)]
    by_cases hi : i = n - 2
    · rw [if_neg (c := (i != n - 2) = true) (by simp [hi]), if_neg (c := i ≠ n - 2) (fun z => z hi)]; rfl
    · rw [if_pos (c := (i != n - 2) = true) (by simp [hi]), if_pos (c := i ≠ n - 2) hi]; rfl
  · rw [if_pos (c := (j != n - 1) = true) (by simp [hj]), if_pos (c := j ≠ n - 1) hj]; rfl
section
variable {prog : Program} {w : World} {A : Around} {E : Value → Shared → Prop} {s : Shared}
theorem pool_ok {p : Addr} {xs : Array Value} {Q : Array Value → Shared → Prop} (hp : IsPool s.heap p xs) (h : Q xs s) : wpAny (model prog w) A (Builtin.Itertools.itPoolItems (.ref p)) Q E s := by
  obtain ⟨n, hp⟩ := hp
  simp only [Builtin.Itertools.itPoolItems]
  exact wpAny_bind (wpAny_seqItems hp rfl (wpAny_pure h))
theorem numbers_ok {it p : Addr} {st : Int} {last : Value} {i j : Nat} {Q : List Nat → Shared → Prop} (hit : IsCmb s.heap it p st last i j) (h : Q [i, j] s) : wpAny (model prog w) A (Builtin.Itertools.itNumbersFrom (.ref it) 3) Q E s := by
  simp only [Builtin.Itertools.itNumbersFrom]
  refine wpAny_bind (wpAny_load hit ?_)
  exact wpAny_pure h
theorem int_ok {it p : Addr} {st : Int} {last : Value} {i j : Nat} {Q : Int → Shared → Prop} (hit : IsCmb s.heap it p st last i j) (h : Q st s) : wpAny (model prog w) A (Builtin.Itertools.itIntField (.ref it) 1) Q E s := by
  simp only [Builtin.Itertools.itIntField]
  exact wpAny_bind (wpAny_field hit rfl (x := .int st 0) rfl (wpAny_pure h))
theorem hand_ok {it p : Addr} {st : Int} {last : Value} {i j a b : Nat} {xs : Array Value} {Q : PySem.Fin → Shared → Prop} (hit : IsCmb s.heap it p st last i j) (hp : IsPool s.heap p xs)
    (hQ : ∀ h' : Heap, IsCmb h' it p st (.ref s.heap.objs.size) i j → h'.get? s.heap.objs.size = some { cls := .type "tuple", data := .seq #[xs.getD a .none, xs.getD b .none] } → (∀ c o, c ≠ it → s.heap.get? c = some o → h'.get? c = some o) → Q (.done (.ret (.ref s.heap.objs.size))) { s with heap := h' }) :
    wpAny (model prog w) A ((Builtin.Itertools.itPoolItems (.ref p) >>= fun us => newTuple [us.getD a .none, us.getD b .none]) >>= fun T => field (.ref it) 2 >>= fun v => setField (.ref it) 2 T >>= fun _ => letGo [v] [T] >>= fun _ => ret T) Q E s := by
  refine wpAny_bind (wpAny_bind (pool_ok hp (wpAny_newTuple ?_ (by show 2 ≤ sizeLine; decide))))
  have hit1 : IsCmb (s.heap.push { cls := .type "tuple", data := .seq #[xs.getD a .none, xs.getD b .none] }) it p st last i j := Heap.get?_push_of_some _ hit
  have hT1 : (s.heap.push { cls := .type "tuple", data := .seq #[xs.getD a .none, xs.getD b .none] }).get? s.heap.objs.size = some { cls := .type "tuple", data := .seq #[xs.getD a .none, xs.getD b .none] } := Heap.get?_push_size _ rfl
  have ne : s.heap.objs.size ≠ it := Nat.ne_of_gt (Heap.lt_size hit)
  refine wpAny_bind (wpAny_field hit1 rfl (x := last) rfl ?_)
  refine wpAny_bind (wpAny_setField hit1 rfl (by show 2 < 5; decide) ?_)
  refine wpAny_bind (wpAny_letGo ?_)
  have sb := Heap.SameBut.update (a := it) (h := s.heap.push { cls := .type "tuple", data := .seq #[xs.getD a .none, xs.getD b .none] }) (f := Obj.mapFields fun x => x.setIfInBounds 2 (.ref s.heap.objs.size))
  refine wpAny_pure (hQ _ (Heap.get?_update_self _ hit1 rfl) ((sb.2 _ ne).trans hT1) fun c o hc e => (sb.2 c hc).trans (Heap.get?_push_of_some _ e))
/-- the first pair -/
theorem cmb_first {it p : Addr} {xs : Array Value} {last : Value} {i j : Nat} {Q : Option Value → Shared → Prop} (hit : IsCmb s.heap it p 0 last i j) (hp : IsPool s.heap p xs) (hpi : p ≠ it)
    (hQ : ∀ h' : Heap, IsCmb h' it p 1 (.ref s.heap.objs.size) i j → h'.get? s.heap.objs.size = some { cls := .type "tuple", data := .seq #[xs.getD i .none, xs.getD j .none] } → (∀ b o, b ≠ it → s.heap.get? b = some o → h'.get? b = some o) → Q (some (.ref s.heap.objs.size)) { s with heap := h' }) : wpAny (model prog w) A (pyNext (.ref it)) Q E s := by
  have hT : s.TypeIs (.ref it) "itertools.combinations" := ⟨_, hit, rfl⟩
  unfold pyNext
  refine wpAny_bind (wpAny_attempt (wpAny_callSpecial?_slot (name := Str.ofString "__next__") hT slot_cmb_next (wpAny_call_entry slot_cmb_next hT entry_cmb_next ?_ (args_cmb_next _))))
  show wpAny _ _ ((field (.ref it) 0 >>= _)) _ _ s
  refine wpAny_bind (wpAny_field hit rfl (x := .ref p) rfl ?_)
  show wpAny _ _ (Builtin.Itertools.itNumbersFrom (.ref it) 3 >>= _) _ _ s
  refine wpAny_bind (numbers_ok hit ?_)
  show wpAny _ _ (Builtin.Itertools.itIntField (.ref it) 1 >>= _) _ _ s
  refine wpAny_bind (int_ok hit ?_)
  show wpAny _ _ (setField (.ref it) 1 (rawInt 1) >>= _) _ _ s
  refine wpAny_bind (wpAny_setField hit rfl (by show 1 < 5; decide) ?_)
  have hit1 : IsCmb (s.heap.update it (Obj.mapFields fun x => x.setIfInBounds 1 (rawInt 1))) it p 1 last i j := Heap.get?_update_self _ hit rfl
  have sb := Heap.SameBut.update (a := it) (h := s.heap) (f := Obj.mapFields fun x => x.setIfInBounds 1 (rawInt 1))
  have hp1 : IsPool (s.heap.update it (Obj.mapFields fun x => x.setIfInBounds 1 (rawInt 1))) p xs := by
    obtain ⟨n, hp⟩ := hp
    exact ⟨n, (sb.2 p hpi).trans hp⟩
  refine hand_ok hit1 hp1 fun h' z1 z2 z3 => ?_
  rw [show ({ s with heap := s.heap.update it (Obj.mapFields fun x => x.setIfInBounds 1 (rawInt 1)) } : Shared).heap.objs.size = s.heap.objs.size from sb.1] at z1 z2 ⊢
  exact ⟨_, rfl, wpAny_pure (hQ h' z1 z2 fun b o nb e => z3 b o nb ((sb.2 b nb).trans e))⟩
/-- the next pair -/
theorem cmb_next {it p : Addr} {xs : Array Value} {last : Value} {i j i' j' : Nat} {Q : Option Value → Shared → Prop} (hit : IsCmb s.heap it p 1 last i j) (hp : IsPool s.heap p xs) (hpi : p ≠ it) (h2 : 2 ≤ xs.size) (hn : nextC xs.size i j = some (i', j'))
    (hQ : ∀ h' : Heap, IsCmb h' it p 1 (.ref s.heap.objs.size) i' j' → h'.get? s.heap.objs.size = some { cls := .type "tuple", data := .seq #[xs.getD i' .none, xs.getD j' .none] } → (∀ b o, b ≠ it → s.heap.get? b = some o → h'.get? b = some o) → Q (some (.ref s.heap.objs.size)) { s with heap := h' }) : wpAny (model prog w) A (pyNext (.ref it)) Q E s := by
  have hT : s.TypeIs (.ref it) "itertools.combinations" := ⟨_, hit, rfl⟩
  unfold pyNext
  refine wpAny_bind (wpAny_attempt (wpAny_callSpecial?_slot (name := Str.ofString "__next__") hT slot_cmb_next (wpAny_call_entry slot_cmb_next hT entry_cmb_next ?_ (args_cmb_next _))))
  show wpAny _ _ ((field (.ref it) 0 >>= _)) _ _ s
  refine wpAny_bind (wpAny_field hit rfl (x := .ref p) rfl ?_)
  show wpAny _ _ (Builtin.Itertools.itNumbersFrom (.ref it) 3 >>= _) _ _ s
  refine wpAny_bind (numbers_ok hit ?_)
  show wpAny _ _ (Builtin.Itertools.itIntField (.ref it) 1 >>= _) _ _ s
  refine wpAny_bind (int_ok hit ?_)
  show wpAny _ _ (Builtin.Itertools.itPoolItems (.ref p) >>= _) _ _ s
  refine wpAny_bind (pool_ok hp ?_)
  have key := (two_next (i := i) (j := j) h2).trans (congrArg (Option.map fun q : Nat × Nat => [q.1, q.2]) hn)
  split
  rotate_left
  · rename_i heq
    have e2 : none = some [i', j'] := heq.symm.trans ((pick_two _ _).trans key)
    cases e2
  rename_i nx heq
  have e2 : some nx = some [i', j'] := heq.symm.trans ((pick_two _ _).trans key)
  cases e2
  show wpAny _ _ (updateFields it _ >>= _) _ _ s
  refine wpAny_bind (wpAny_updateFields hit rfl ?_ (by show 5 ≤ sizeLine + 3; decide))
  have sb := Heap.SameBut.update (a := it) (h := s.heap) (f := Obj.mapFields fun fs => fs.extract 0 3 ++ ([i', j'].map fun (n : Nat) => rawInt n).toArray)
  have hit1 : IsCmb (s.heap.update it (Obj.mapFields fun fs => fs.extract 0 3 ++ ([i', j'].map fun (n : Nat) => rawInt n).toArray)) it p 1 last i' j' := Heap.get?_update_self _ hit rfl
  have hp1 : IsPool (s.heap.update it (Obj.mapFields fun fs => fs.extract 0 3 ++ ([i', j'].map fun (n : Nat) => rawInt n).toArray)) p xs := by
    obtain ⟨n, hp⟩ := hp
    exact ⟨n, (sb.2 p hpi).trans hp⟩
  refine hand_ok hit1 hp1 fun h' z1 z2 z3 => ?_
  rw [show ({ s with heap := s.heap.update it (Obj.mapFields fun fs => fs.extract 0 3 ++ ([i', j'].map fun (n : Nat) => rawInt n).toArray) } : Shared).heap.objs.size = s.heap.objs.size from sb.1] at z1 z2 ⊢
  exact ⟨_, rfl, wpAny_pure (hQ h' z1 z2 fun b o nb e => z3 b o nb ((sb.2 b nb).trans e))⟩
/-- the stop's exception is raised -/
theorem stopped {α : Type} {Q : α → Shared → Prop} (hh : A.handled = none)
    (hQ : ∀ (e : Value) (h' : Heap), ({ s with heap := h' } : Shared).TypeIs e "StopIteration" → (∀ b o, s.heap.get? b = some o → h'.get? b = some o) → E e { s with heap := h' }) :
    wpAny (model prog w) A.in1 (Builtin.Itertools.itStop (α := α)) Q E s := by
  unfold Builtin.Itertools.itStop
  apply wpAny_bind
  simp only [newExc, newTuple]
  apply wpAny_bind
  refine wpAny_newObj_type ?_ (by size_fits)
  apply wpAny_bind (m := firstArgMember _ _)
  refine wpAny_of_eq (by first | rfl | (simp only [firstArgMember]; rfl)) (a := Value.none) ?_
  refine wpAny_newObj_type ?_ (by size_fits)
  simp only [raiseNew]
  apply wpAny_bind
  apply wpAny_handled
  rw [show A.in1.handled = none from hh]
  refine wpAny_throw (hQ _ _ ⟨_, Heap.get?_push_size _ rfl, rfl⟩ fun b o e => ?_)
  exact Heap.get?_push_of_some _ (Heap.get?_push_of_some _ e)
theorem cmb_end1 {it p : Addr} {xs : Array Value} {last : Value} {i j : Nat} {Q : Option Value → Shared → Prop} (hh : A.handled = none) (hit : IsCmb s.heap it p 1 last i j) (hp : IsPool s.heap p xs) (hpi : p ≠ it) (h2 : 2 ≤ xs.size) (hn : nextC xs.size i j = none)
    (hQ : ∀ h' : Heap, Heap.ExtBut it s.heap h' → Q none { s with heap := h' }) : wpAny (model prog w) A (pyNext (.ref it)) Q E s := by
  have hT : s.TypeIs (.ref it) "itertools.combinations" := ⟨_, hit, rfl⟩
  unfold pyNext
  refine wpAny_bind (wpAny_attempt (wpAny_callSpecial?_slot (name := Str.ofString "__next__") hT slot_cmb_next (wpAny_call_entry slot_cmb_next hT entry_cmb_next ?_ (args_cmb_next _))))
  show wpAny _ _ ((field (.ref it) 0 >>= _)) _ _ s
  refine wpAny_bind (wpAny_field hit rfl (x := .ref p) rfl ?_)
  show wpAny _ _ (Builtin.Itertools.itNumbersFrom (.ref it) 3 >>= _) _ _ s
  refine wpAny_bind (numbers_ok hit ?_)
  show wpAny _ _ (Builtin.Itertools.itIntField (.ref it) 1 >>= _) _ _ s
  refine wpAny_bind (int_ok hit ?_)
  show wpAny _ _ (Builtin.Itertools.itPoolItems (.ref p) >>= _) _ _ s
  refine wpAny_bind (pool_ok hp ?_)
  have key := (two_next (i := i) (j := j) h2).trans (congrArg (Option.map fun q : Nat × Nat => [q.1, q.2]) hn)
  split
  · rename_i nx heq
    have e2 : some nx = none := heq.symm.trans ((pick_two _ _).trans key)
    cases e2
  show wpAny _ _ (setField (.ref it) 1 (rawInt 2) >>= _) _ _ s
  refine wpAny_bind (wpAny_setField hit rfl (by show 1 < 5; decide) ?_)
  refine stopped (A := A) hh fun e h' ht hk => ?_
  refine wpAny_bind (wpAny_isInstance (b := true) (T := "StopIteration") ht isSubtype_stop ?_)
  exact wpAny_pure (hQ _ fun b o nb e => hk b o ((Heap.SameBut.extBut (Heap.SameBut.update ..)) b o nb e))
theorem cmb_end2 {it p : Addr} {last : Value} {i j : Nat} {Q : Option Value → Shared → Prop} (hh : A.handled = none) (hit : IsCmb s.heap it p 2 last i j)
    (hQ : ∀ h' : Heap, Heap.ExtBut it s.heap h' → Q none { s with heap := h' }) : wpAny (model prog w) A (pyNext (.ref it)) Q E s := by
  have hT : s.TypeIs (.ref it) "itertools.combinations" := ⟨_, hit, rfl⟩
  unfold pyNext
  refine wpAny_bind (wpAny_attempt (wpAny_callSpecial?_slot (name := Str.ofString "__next__") hT slot_cmb_next (wpAny_call_entry slot_cmb_next hT entry_cmb_next ?_ (args_cmb_next _))))
  show wpAny _ _ ((field (.ref it) 0 >>= _)) _ _ s
  refine wpAny_bind (wpAny_field hit rfl (x := .ref p) rfl ?_)
  show wpAny _ _ (Builtin.Itertools.itNumbersFrom (.ref it) 3 >>= _) _ _ s
  refine wpAny_bind (numbers_ok hit ?_)
  show wpAny _ _ (Builtin.Itertools.itIntField (.ref it) 1 >>= _) _ _ s
  refine wpAny_bind (int_ok hit ?_)
  show wpAny _ _ (rule "itertools.combinations.ended" >>= fun _ => Builtin.Itertools.itStop) _ _ s
  refine wpAny_bind (wpAny_rule ?_)
  refine stopped (A := A) hh fun e h' ht hk => ?_
  refine wpAny_bind (wpAny_isInstance (b := true) (T := "StopIteration") ht isSubtype_stop ?_)
  exact wpAny_pure (hQ _ fun b o _ e => hk b o e)
end
end CwCmb

namespace CwCmb
open PySem PySem.Spec
section
variable {prog : Program} {w : World} {A : Around} {E : Value → Shared → Prop} {s : Shared}
theorem call_cmb {l : Addr} {t : Tok} {items : Array Value} {Q : Value → Shared → Prop} (hl : s.heap.IsList l items) (hz : items.size ≤ 100000)
    (h : ∀ h0 h' : Heap, (∀ b o, s.heap.get? b = some o → h0.get? b = some o) → (∀ b o, h0.get? b = some o → h'.get? b = some o) → IsCmb h' (h0.objs.size + 1) h0.objs.size (if 2 > items.size then 2 else 0) .none 0 1 → IsPool h' h0.objs.size items → Q (.ref (h0.objs.size + 1)) { s with heap := h' }) :
    wpAny (model prog w) A (call (.type "itertools.combinations") [.ref l, .int 2 t]) Q E s := by
  obtain ⟨o, ho, hc, n, hd⟩ := hl
  refine callType_new called_cmb (by decide +kernel) (typeCall_cmb_2 _ _) (newCall_cmb_2 _ _) (fun obj => F.args_object_init_3 obj _ _) entry_cmb_new (meets_cmb_new l t) ?_
  refine ⟨o, items, n, ho, hc, hd, hz, fun h' k => ?_⟩
  have sz1 : (h'.push (poolO items.toList)).objs.size = h'.objs.size + 1 := Heap.size_push ..
  have e1 : ((h'.push (poolO items.toList)).push (cmbO h'.objs.size items.size)).get? (h'.objs.size + 1) = some (cmbO h'.objs.size items.size) := by
    have := Heap.get?_push_size (h'.push (poolO items.toList)) (o := cmbO h'.objs.size items.size) rfl
    rwa [sz1] at this
  have e2 : ((h'.push (poolO items.toList)).push (cmbO h'.objs.size items.size)).get? h'.objs.size = some (poolO items.toList) := Heap.get?_push_of_some _ (Heap.get?_push_size _ rfl)
  show _ ∧ _
  exact ⟨⟨_, e1, rfl⟩, h h' _ k (fun b o' e => Heap.get?_push_of_some _ (Heap.get?_push_of_some _ e)) e1 ⟨_, e2⟩⟩
end
/-! ### the pairs in their order -/
def stepC (n : Nat) (p : Nat × Nat) : Option (Nat × Nat) := if p.2 ≠ n - 1 then some (p.1, p.2 + 1) else if p.1 ≠ n - 2 then some (p.1 + 1, p.1 + 2) else none
def cmb (n : Nat) : Nat → Option (Nat × Nat)
  | 0 => if 2 ≤ n then some (0, 1) else none
  | k + 1 => (cmb n k).bind (stepC n)
theorem cmb_lt {n : Nat} : ∀ {k i j : Nat}, cmb n k = some (i, j) → i < j ∧ j < n ∧ 2 ≤ n
  | 0, i, j, h => by
    unfold cmb at h
    by_cases c : 2 ≤ n
    · rw [if_pos c] at h; cases h; omega
    · rw [if_neg c] at h; cases h
  | k + 1, i, j, h => by
    unfold cmb at h
    obtain ⟨q, hq, h⟩ := Option.bind_eq_some_iff.mp h
    obtain ⟨h1, h2, h3⟩ := cmb_lt (i := q.1) (j := q.2) hq
    unfold stepC at h
    by_cases c : q.2 ≠ n - 1
    · rw [if_pos c] at h; cases h; omega
    · rw [if_neg c] at h
      by_cases c2 : q.1 ≠ n - 2
      · rw [if_pos c2] at h; cases h; omega
      · rw [if_neg c2] at h; cases h
/-- all pairs come -/
theorem cmb_row {n i k : Nat} (h : cmb n k = some (i, i + 1)) : ∀ d, i + 1 + d < n → cmb n (k + d) = some (i, i + 1 + d)
  | 0, _ => h
  | d + 1, hd => by
    show (cmb n (k + d)).bind (stepC n) = _
    rw [cmb_row h d (by omega)]
    show stepC n (i, i + 1 + d) = _
    unfold stepC
    rw [if_pos (by show i + 1 + d ≠ n - 1; omega)]; rfl
theorem cmb_head {n : Nat} : ∀ i, i + 1 < n → ∃ k, cmb n k = some (i, i + 1)
  | 0, h => ⟨0, by unfold cmb; rw [if_pos (by omega)]⟩
  | i + 1, h => by
    obtain ⟨k, hk⟩ := cmb_head (n := n) i (by omega)
    have z := cmb_row hk (n - 2 - i) (by omega)
    refine ⟨k + (n - 2 - i) + 1, ?_⟩
    show (cmb n (k + (n - 2 - i))).bind (stepC n) = _
    rw [z]
    show stepC n (i, i + 1 + (n - 2 - i)) = _
    unfold stepC
    rw [if_neg (by show ¬ (i + 1 + (n - 2 - i) ≠ n - 1); omega), if_pos (by show i ≠ n - 2; omega)]
theorem cmb_all {n i j : Nat} (h1 : i < j) (h2 : j < n) : ∃ k, cmb n k = some (i, j) := by
  obtain ⟨k, hk⟩ := cmb_head (n := n) i (by omega)
  refine ⟨k + (j - i - 1), ?_⟩
  rw [cmb_row hk (j - i - 1) (by omega)]
  congr 2; omega
theorem cmb_none {n k : Nat} (h : cmb n k = none) : ∀ d, cmb n (k + d) = none
  | 0 => h
  | d + 1 => by
    show (cmb n (k + d)).bind (stepC n) = none
    rw [cmb_none h d]; rfl
/-- how much is left -/
def leftC (n : Nat) : Option (Nat × Nat) → Nat
  | none => 0
  | some p => (n - p.1) * (n + 1) + (n - p.2) + 1
theorem leftC_lt {n k : Nat} {p : Nat × Nat} (h : cmb n k = some p) : leftC n (cmb n (k + 1)) < leftC n (cmb n k) := by
  obtain ⟨h1, h2, h3⟩ := cmb_lt (i := p.1) (j := p.2) h
  show leftC n ((cmb n k).bind (stepC n)) < _
  rw [h]
  show leftC n (stepC n p) < (n - p.1) * (n + 1) + (n - p.2) + 1
  unfold stepC
  split
  · show (n - p.1) * (n + 1) + (n - (p.2 + 1)) + 1 < _
    omega
  · split
    · show (n - (p.1 + 1)) * (n + 1) + (n - (p.1 + 2)) + 1 < _
      have e : n - p.1 = (n - (p.1 + 1)) + 1 := by omega
      rw [e, Nat.succ_mul]
      omega
    · exact Nat.succ_pos _
end CwCmb
namespace Cw
open PySem PySem.Spec PyProof.Rows L2 CwCmb
def Itcb (xs : List V) : It := ⟨fun k _ => ∃ p, cmb xs.length k = some p, fun k H v H' => ∃ T i j x y, v = .ref T ∧ H T = none ∧ H' = upd H T (.tup [x, y]) ∧ cmb xs.length k = some (i, j) ∧ xs[i]? = some x ∧ xs[j]? = some y, fun k _ => cmb xs.length k = none⟩
theorem vals_at {xs : List V} {us : List Value} (r : Vals xs us) {i : Nat} {x : V} (h : xs[i]? = some x) : ∃ u, us[i]? = some u ∧ RelV x u := by
  obtain ⟨u, h1, h2⟩ := Paired.at r h
  exact ⟨u, h1, h2⟩
theorem turn_cmb {P : Program} {w : World} {K : PySem.W.Frag} {tg : Expr} (it p : Addr) (xs : List V) (us : List Value) (r : Vals xs us) :
    Turn P w K tg (Itcb xs) [it, p] it (fun k h => IsPool h p us.toArray ∧ p ≠ it ∧ ((k = 0 ∧ IsCmb h it p (if 2 > us.toArray.size then 2 else 0) .none 0 1) ∨ ∃ k' i j last, k = k' + 1 ∧ cmb xs.length k' = some (i, j) ∧ IsCmb h it p 1 last i j)) where
  mem := by simp
  obj := fun k h st b hb => by
    obtain ⟨⟨n, hp⟩, _, st⟩ := st
    have e' : b = it ∨ b = p := by simpa using hb
    rcases e' with z | z
    · rcases st with ⟨_, st⟩ | ⟨_, _, _, _, _, _, st⟩
      · rw [z]; exact ⟨_, st, fun v q => nomatch q⟩
      · rw [z]; exact ⟨_, st, fun v q => nomatch q⟩
    · rw [z]; exact ⟨_, hp, fun v q => nomatch q⟩
  keep := fun k h h' st kp => by
    obtain ⟨⟨n, hp⟩, ne, st⟩ := st
    refine ⟨⟨n, kp p (by simp) _ hp⟩, ne, ?_⟩
    rcases st with ⟨e, st⟩ | ⟨k', i, j, l, e, e2, st⟩
    · exact .inl ⟨e, kp it (by simp) _ st⟩
    · exact .inr ⟨k', i, j, l, e, e2, kp it (by simp) _ st⟩
  item := by
    intro X hP hw hK hc k pins s σ H E I hf st hg
    subst hP hw hK
    obtain ⟨hp, ne, st⟩ := st
    obtain ⟨⟨i, j⟩, hg⟩ := hg
    obtain ⟨lij, ljn, l2⟩ := cmb_lt hg
    have lu : us.length = xs.length := (Paired.length r).symm
    obtain ⟨x, hx⟩ : ∃ x, xs[i]? = some x := ⟨_, List.getElem?_eq_getElem (by omega)⟩
    obtain ⟨y, hy⟩ : ∃ y, xs[j]? = some y := ⟨_, List.getElem?_eq_getElem (by omega)⟩
    obtain ⟨u, hu, ru⟩ := vals_at r hx
    obtain ⟨v, hv, rv⟩ := vals_at r hy
    have gu : us.toArray.getD i .none = u := by simp [hu]
    have gv : us.toArray.getD j .none = v := by simp [hv]
    have fin : ∀ h' : Heap, IsCmb h' it p 1 (.ref s.heap.objs.size) i j → h'.get? s.heap.objs.size = some { cls := .type "tuple", data := .seq #[us.toArray.getD i .none, us.toArray.getD j .none] } → (∀ b o, b ≠ it → s.heap.get? b = some o → h'.get? b = some o) →
        (fun r s1 => ∃ u, r = some u ∧ wpAny (model X.prog X.w) X.A (letOwnedTupleGo tg (.ref it) u) (fun _ s2 => ∃ x H', Inv X pins σ H' s2 ∧ RelV x u ∧ (Itcb xs).yld k H x H' ∧ (IsPool s2.heap p us.toArray ∧ p ≠ it ∧ ((k + 1 = 0 ∧ IsCmb s2.heap it p (if 2 > us.toArray.size then 2 else 0) .none 0 1) ∨ ∃ k' i j last, k + 1 = k' + 1 ∧ cmb xs.length k' = some (i, j) ∧ IsCmb s2.heap it p 1 last i j)) ∧ ∀ b ∈ [it, p], H' b = none) E s1) (some (Value.ref s.heap.objs.size)) { s with heap := h' } := fun h' hit' hT kp => by
      rw [gu, gv] at hT
      refine ⟨_, rfl, go_of (n := "itertools.combinations") hit' rfl rfl (by decide) ?_⟩
      have new : ObjOk X.prog X.w (upd H s.heap.objs.size (.tup [x, y])) h' s.heap.objs.size (.tup [x, y]) :=
        ⟨(by show 2 ≤ sizeLine; decide), [u, v], .cons ru (.cons rv .nil), ⟨_, hT, rfl, _, rfl⟩⟩
      have I1 : Inv X pins σ (upd H s.heap.objs.size (.tup [x, y])) { s with heap := h' } :=
        I.turnedNew (t' := s.toks) (ch := [it, p]) (fun b ob hb q => kp b ob (fun z => hb (by simp [z])) q) hf (Nat.le_refl _) new
      obtain ⟨n, hp⟩ := hp
      refine ⟨.ref s.heap.objs.size, _, I1, rfl, ⟨_, i, j, x, y, rfl, I.hok.fresh (Nat.le_refl _), rfl, hg, hx, hy⟩, ⟨⟨n, kp p _ ne hp⟩, ne, .inr ⟨k, i, j, _, rfl, hg, hit'⟩⟩, fun b hb => ?_⟩
      have hb' : b < s.heap.objs.size := by
        have z : b = it ∨ b = p := by simpa using hb
        rcases z with z | z
        · subst z
          rcases st with ⟨_, st⟩ | ⟨_, _, _, _, _, _, st⟩
          · exact Heap.lt_size st
          · exact Heap.lt_size st
        · subst z; exact Heap.lt_size hp
      rw [upd_ne (Nat.ne_of_lt hb')]; exact (hf b hb).1
    rcases st with ⟨rfl, st⟩ | ⟨k', i0, j0, last, rfl, e0, st⟩
    · have e : i = 0 ∧ j = 1 := by
        unfold cmb at hg
        rw [if_pos l2] at hg
        cases hg; exact ⟨rfl, rfl⟩
      obtain ⟨rfl, rfl⟩ := e
      rw [if_neg (by rw [List.size_toArray]; omega)] at st
      exact cmb_first st hp ne fin
    · have hs : stepC xs.length (i0, j0) = some (i, j) := by
        have z : (cmb xs.length k').bind (stepC xs.length) = some (i, j) := hg
        rw [e0] at z; exact z
      exact cmb_next st hp ne (by rw [List.size_toArray, lu]; exact l2) (by rw [List.size_toArray, lu]; exact hs) fin
  done := by
    intro X hP hw hK hc k pins s σ H E I hf st hg
    subst hP hw hK
    obtain ⟨hp, ne, st⟩ := st
    have hg : cmb xs.length k = none := hg
    have lu : us.length = xs.length := (Paired.length r).symm
    obtain ⟨f0, f1, f2, f3, f4, f5⟩ := hf it (by simp)
    have fin : ∀ h' : Heap, Heap.ExtBut it s.heap h' → (fun r s1 => r = none ∧ Inv X pins σ H s1) (none : Option Value) { s with heap := h' } := fun h' eb => ⟨rfl, I.turned (t' := s.toks) (fun b o hb q => eb b o hb q) f0 f1 f3 f4 f5⟩
    rcases st with ⟨rfl, st⟩ | ⟨k', i0, j0, last, rfl, e0, st⟩
    · have l2 : ¬ 2 ≤ xs.length := fun z => by
        unfold cmb at hg
        rw [if_pos z] at hg; cases hg
      rw [if_pos (by rw [List.size_toArray]; omega)] at st
      exact cmb_end2 (I.ok.hd hc) st fin
    · obtain ⟨_, _, l2⟩ := cmb_lt e0
      have hs : stepC xs.length (i0, j0) = none := by
        have z : (cmb xs.length k').bind (stepC xs.length) = none := hg
        rw [e0] at z; exact z
      exact cmb_end1 (I.ok.hd hc) st hp ne (by rw [List.size_toArray, lu]; exact l2) (by rw [List.size_toArray, lu]; exact hs) fin
  self := fun A k s Q E st h => by
    obtain ⟨_, _, st⟩ := st
    rcases st with ⟨_, st⟩ | ⟨_, _, _, _, _, _, st⟩
    · exact iter_cmb st h
    · exact iter_cmb st h
def iCmb (K : PySem.W.Frag) (ta : TA) : TI := fun σ H R => ta σ H fun vs H1 => ∃ a xs, vs = [.ref a, .int 2] ∧ SqL K H1 a xs ∧ xs.length ≤ 100000 ∧ R (Itcb xs) H1
theorem pi_cmb {X : Cx} {e : Expr} {ta : TA} {p pos tp : Pos} {c : Nat} {tg : Expr} (hg : Gl X "combinations") (hm : X.mg "combinations" = some (.type "itertools.combinations")) (ha : PA X [e, .Constant (.int 2) c tp] ta)
    (hs : starEach [e, .Constant (.int 2) c tp] X.env = (false, eval e X.env) :: starEach [.Constant (.int 2) c tp] X.env := by rfl) :
    PI X tg (.Call (.Name "combinations" p) [e, .Constant (.int 2) c tp] [] pos) (iCmb X.K ta) := by
  refine ⟨fun pins s σ H R I h => Call_ (ld_glob I hg hm (PyProof.Rows.callWith_type1 (thn (ha.run pos pins s σ H _ I h) fun us s1 ⟨vs, H1, I1, r1, q1⟩ => ?_) hs rfl))⟩
  obtain ⟨a, xs, ex, hq, hl, q⟩ := q1
  subst ex
  obtain ⟨u1, u2, rfl, ra, ⟨t, rfl⟩⟩ := vals2 r1
  cases ra
  obtain ⟨its, rv, pl, hz⟩ := I1.list hq
  refine call_cmb pl.isList (by rw [List.size_toArray, ← Paired.length rv]; exact hl) fun h0 h' k0 k1 hit hp => ?_
  refine iter_cmb (s := { s1 with heap := h' }) hit ?_
  have I0 : Inv X pins σ H1 { s1 with heap := h0 } := I1.kept (t' := s1.toks) k0
  have I2 : Inv X pins σ H1 { s1 with heap := h' } := I0.kept (t' := s1.toks) k1
  refine ⟨h0.objs.size + 1, [h0.objs.size + 1, h0.objs.size], _, _, H1, rfl, I2, turn_cmb (h0.objs.size + 1) h0.objs.size xs its rv, ⟨hp, Nat.ne_of_lt (Nat.lt_succ_self _), .inl ⟨rfl, hit⟩⟩, fun b hb => ?_, q⟩
  have hle : h0.objs.size ≤ b := by
    have z : b = h0.objs.size + 1 ∨ b = h0.objs.size := by simpa using hb
    rcases z with z | z
    · rw [z]; exact Nat.le_add_right _ _
    · rw [z]; exact Nat.le_refl _
  exact I0.fpOk hle (I0.hok.fresh hle)
/-- a loop over all pairs -/
theorem for_cmb {xs : List V} {g : TG} {tb : TS} {D : Ends} {σ : L2.St} {H : Hp} (Pv : Nat → L2.St → Hp → Prop) (h0 : Pv 0 σ H)
    (hs : ∀ k i j x y T σ H, cmb xs.length k = some (i, j) → xs[i]? = some x → xs[j]? = some y → Pv k σ H → H T = none → g (.ref T) σ (upd H T (.tup [x, y])) fun σ2 H2 => tb { D with nx := Pv (k + 1), ct := Pv (k + 1), bk := D.nx } σ2 H2)
    (hd : ∀ k σ H, cmb xs.length k = none → Pv k σ H → D.nx σ H) :
    ∃ W : Nat → Nat → L2.St → Hp → Prop, (∃ m, W 0 m σ H) ∧ ∀ i m σ H, W i m σ H →
      ((Itcb xs).stop i H ∧ D.nx σ H) ∨ ((Itcb xs).go i H ∧ ∃ N : L2.St → Hp → Prop, (∀ σ' H', N σ' H' → ∃ m', m' < m ∧ W (i + 1) m' σ' H') ∧ ∀ x H', (Itcb xs).yld i H x H' → g x σ H' fun σ2 H2 => tb { D with nx := N, ct := N, bk := D.nx } σ2 H2) := by
  refine ⟨fun k m σ H => m = leftC xs.length (cmb xs.length k) ∧ Pv k σ H, ⟨_, rfl, h0⟩, ?_⟩
  rintro k m σ H ⟨rfl, p⟩
  cases e : cmb xs.length k with
  | none => exact .inl ⟨e, hd k σ H e p⟩
  | some q =>
    refine .inr ⟨⟨q, e⟩, Pv (k + 1), fun σ' H' h' => ⟨_, by rw [← e]; exact leftC_lt e, rfl, h'⟩, ?_⟩
    rintro v H' ⟨T, i, j, x, y, rfl, fT, rfl, e2, hx, hy⟩
    exact hs k i j x y T σ H e2 hx hy p fT
end Cw

namespace Cw
open PySem PySem.Spec PyProof.Rows L2
/-! ### ties -/
def at2 (a b : Nat) (t : Tie) : Bool := (t.1 == a && t.2.1 == b) || (t.1 == b && t.2.1 == a)
def tieL (ts : List Tie) (a b : Nat) : Option Nat := (ts.find? (at2 a b)).map (·.2.2)
def beside (p : Nat) (t : Tie) : Option Nat := if t.1 = p then some t.2.1 else if t.2.1 = p then some t.1 else none
def nb (ts : List Tie) (p : Nat) : List Nat := ts.filterMap (beside p)
theorem at2_iff {a b : Nat} {t : Tie} : at2 a b t = true ↔ (t.1 = a ∧ t.2.1 = b) ∨ (t.1 = b ∧ t.2.1 = a) := by
  simp [at2]
theorem at2_swap (a b : Nat) (t : Tie) : at2 a b t = at2 b a t := by
  unfold at2; rw [Bool.or_comm]
theorem tieL_swap (ts : List Tie) (a b : Nat) : tieL ts a b = tieL ts b a := by
  unfold tieL
  rw [show at2 a b = at2 b a from funext (at2_swap a b)]
theorem tieL_isSome {ts : List Tie} {a b : Nat} : (tieL ts a b).isSome = true ↔ ∃ t ∈ ts, at2 a b t = true := by
  unfold tieL
  rw [Option.isSome_map, List.find?_isSome]
theorem tieL_none {ts : List Tie} {a b : Nat} (h : ∀ t ∈ ts, at2 a b t = false) : tieL ts a b = none := by
  unfold tieL
  rw [List.find?_eq_none.mpr (fun t ht => by rw [h t ht]; simp)]; rfl
theorem tieL_snoc (l : List Tie) (t : Tie) (a b : Nat) : tieL (l ++ [t]) a b = (tieL l a b).or (if at2 a b t = true then some t.2.2 else none) := by
  unfold tieL
  rw [List.find?_append]
  cases l.find? (at2 a b) with
  | some x => rfl
  | none =>
    show ((none : Option Tie).or ([t].find? (at2 a b))).map (·.2.2) = (none : Option Nat).or _
    rw [Option.none_or, Option.none_or]
    by_cases h : at2 a b t = true
    · rw [if_pos h, List.find?_cons_of_pos h]; rfl
    · rw [if_neg h, List.find?_cons_of_neg h]; rfl
theorem nb_snoc (l : List Tie) (t : Tie) (p : Nat) : nb (l ++ [t]) p = nb l p ++ (if t.1 = p then [t.2.1] else if t.2.1 = p then [t.1] else []) := by
  unfold nb
  rw [List.filterMap_append]
  congr 1
  by_cases h1 : t.1 = p
  · rw [if_pos h1]; simp [beside, h1]
  · by_cases h2 : t.2.1 = p
    · rw [if_neg h1, if_pos h2]; simp [beside, h1, h2]
    · rw [if_neg h1, if_neg h2]; simp [beside, h1, h2]
theorem nb_len (l : List Tie) (p : Nat) : (nb l p).length ≤ l.length := List.length_filterMap_le _ _
theorem take_snoc {α : Type} {l : List α} {i : Nat} {x : α} (h : l[i]? = some x) : l.take (i + 1) = l.take i ++ [x] := by
  rw [List.take_add_one, h]; rfl
/-- no tie stands twice -/
theorem tieL_new {ts : List Tie} (s : ts.Pairwise tlt) (e : ∀ t ∈ ts, t.1 < t.2.1) {i : Nat} {t : Tie} (h : ts[i]? = some t) : tieL (ts.take i) t.1 t.2.1 = none := by
  refine tieL_none fun u hu => ?_
  have hl : (ts.take i ++ [t]).Pairwise tlt := by rw [← take_snoc h]; exact s.sublist (List.take_sublist _ _)
  have lt := (List.pairwise_append.mp hl).2.2 u hu t List.mem_cons_self
  have e1 := e u (List.mem_of_mem_take hu)
  have e2 := e t (List.mem_of_getElem? h)
  cases q : at2 t.1 t.2.1 u with
  | false => rfl
  | true =>
    rcases at2_iff.mp q with ⟨a, b⟩ | ⟨a, b⟩
    · rcases lt with z | ⟨_, z⟩ <;> omega
    · omega
theorem sorted_ext : ∀ {l m : List Nat}, l.Pairwise (· < ·) → m.Pairwise (· < ·) → (∀ x, x ∈ l ↔ x ∈ m) → l = m
  | [], [], _, _, _ => rfl
  | [], y :: m, _, _, h => absurd ((h y).mpr List.mem_cons_self) (by simp)
  | x :: l, [], _, _, h => absurd ((h x).mp List.mem_cons_self) (by simp)
  | x :: l, y :: m, hl, hm, h => by
    obtain ⟨l1, l2⟩ := List.pairwise_cons.mp hl
    obtain ⟨m1, m2⟩ := List.pairwise_cons.mp hm
    have hx : x = y := by
      rcases List.mem_cons.mp ((h x).mp List.mem_cons_self) with z | z
      · exact z
      · rcases List.mem_cons.mp ((h y).mpr List.mem_cons_self) with z' | z'
        · exact z'.symm
        · have a := m1 x z
          have b := l1 y z'
          omega
    subst hx
    congr 1
    refine sorted_ext l2 m2 fun z => ⟨fun hz => ?_, fun hz => ?_⟩
    · rcases List.mem_cons.mp ((h z).mp (List.mem_cons_of_mem _ hz)) with q | q
      · have := l1 z hz; omega
      · exact q
    · rcases List.mem_cons.mp ((h z).mpr (List.mem_cons_of_mem _ hz)) with q | q
      · have := m1 z hz; omega
      · exact q
theorem beside_iff {p o : Nat} {t : Tie} (e : t.1 < t.2.1) : beside p t = some o ↔ at2 p o t = true := by
  rw [at2_iff]
  unfold beside
  by_cases h1 : t.1 = p
  · rw [if_pos h1]
    constructor
    · intro z; exact .inl ⟨h1, Option.some.inj z⟩
    · rintro (⟨_, z⟩ | ⟨z1, z2⟩)
      · rw [z]
      · omega
  · rw [if_neg h1]
    by_cases h2 : t.2.1 = p
    · rw [if_pos h2]
      constructor
      · intro z; exact .inr ⟨Option.some.inj z, h2⟩
      · rintro (⟨z, _⟩ | ⟨z1, z2⟩)
        · exact absurd z h1
        · rw [z1]
    · rw [if_neg h2]
      constructor
      · intro z; cases z
      · rintro (⟨z, _⟩ | ⟨_, z⟩)
        · exact absurd z h1
        · exact absurd z h2
theorem nb_rise {ts : List Tie} (s : ts.Pairwise tlt) (e : ∀ t ∈ ts, t.1 < t.2.1) (p : Nat) : (nb ts p).Pairwise (· < ·) := by
  unfold nb
  rw [List.pairwise_filterMap]
  refine List.Pairwise.imp_of_mem (fun {t u} ht hu lt a ha b hb => ?_) s
  have e1 := e t ht
  have e2 := e u hu
  rcases at2_iff.mp ((beside_iff e1).mp ha) with ⟨a1, a2⟩ | ⟨a1, a2⟩ <;> rcases at2_iff.mp ((beside_iff e2).mp hb) with ⟨b1, b2⟩ | ⟨b1, b2⟩ <;> rcases lt with z | ⟨z1, z2⟩ <;> omega
theorem nb_eq {w : Web} (W : WOk w) (p : Nat) : nb w.2 p = (List.range w.1.length).filter fun o => (tieL w.2 p o).isSome := by
  refine sorted_ext (nb_rise W.rise (fun t ht => (W.ends t ht).1) p) (List.Pairwise.filter _ List.pairwise_lt_range) fun o => ?_
  rw [List.mem_filter, tieL_isSome, List.mem_range]
  unfold nb
  rw [List.mem_filterMap]
  constructor
  · rintro ⟨t, ht, hb⟩
    have q := (beside_iff (W.ends t ht).1).mp hb
    refine ⟨?_, t, ht, q⟩
    have r := W.ends t ht
    rcases at2_iff.mp q with ⟨_, a⟩ | ⟨a, _⟩ <;> omega
  · rintro ⟨_, t, ht, q⟩
    exact ⟨t, ht, (beside_iff (W.ends t ht).1).mpr q⟩
theorem tieL_self {w : Web} (W : WOk w) (p : Nat) : tieL w.2 p p = none := by
  refine tieL_none fun t ht => ?_
  have r := W.ends t ht
  cases q : at2 p p t with
  | false => rfl
  | true => rcases at2_iff.mp q with ⟨a, b⟩ | ⟨a, b⟩ <;> omega
/-- a tie's kind, or None -/
def optV : Option Nat → V
  | some c => .str (sg c)
  | none => .non
theorem optV_non (o : Option Nat) : (!decide (optV o = .non)) = o.isSome := by cases o <;> rfl
theorem optV_scal (o : Option Nat) : scal (optV o) (optV o) = true := by cases o <;> rfl
def zs (l : List Nat) : List Int := l.map fun (o : Nat) => (o : Int)
theorem ints_map (l : List Nat) : (l.map fun o => V.int (o : Nat)) = (zs l).map V.int := by
  unfold zs; rw [List.map_map]; rfl
theorem eqv_ints (l : List Int) : PyData.eqv (.list (l.map PyData.int)) (.list (l.map PyData.int)) = true := by
  show PyData.eqvAll _ _ = true
  rw [PySem.W.ked_eqvAll, decide_eq_true rfl]
theorem dp_nats {K : PySem.W.Frag} {H : Hp} {a : Addr} {l : List Nat} (h : H a = some (.lst (l.map fun o => V.int (o : Nat)))) : Dp K H (.ref a) (.list ((zs l).map PyData.int)) := by
  rw [ints_map] at h
  exact .lst (SqL.of h) (dpa_ints _)
/-- the heap without one object -/
def del (H : Hp) (a : Addr) : Hp := fun b => if b = a then none else H b
theorem del_ne {H : Hp} {a b : Addr} (n : b ≠ a) : del H a b = H b := by unfold del; rw [if_neg n]
theorem del_at {H : Hp} {a b : Addr} {o : HO} (n : b ≠ a) (h : H b = some o) : del H a b = some o := by rw [del_ne n]; exact h
theorem del_same (H : Hp) (a : Addr) : Same (del H a) H := fun b o e => by
  by_cases n : b = a
  · unfold del at e; rw [if_pos n] at e; cases e
  · rw [del_ne n] at e; exact e
theorem Keep.del {h : Addr} {H H' : Hp} (k : Keep h H H') : Same (del H h) (del H' h) := fun b o e => by
  by_cases n : b = h
  · unfold Cw.del at e; rw [if_pos n] at e; cases e
  · rw [del_ne n] at e ⊢; exact k b o n e
theorem dpa_snoc {K : PySem.W.Frag} {H : Hp} : ∀ {vs : List V} {ds : List PyData} {v : V} {d : PyData}, DpAll K H vs ds → Dp K H v d → DpAll K H (vs ++ [v]) (ds ++ [d])
  | [], [], _, _, _, h => .cons h .nil
  | _ :: _, _ :: _, _, _, .cons a b, h => .cons a (dpa_snoc b h)
/-- what is held: pairs of equal lists of whole numbers -/
def hD (x : List Int) : PyData := .list [.list (x.map PyData.int), .list (x.map PyData.int)]
def Held (K : PySem.W.Frag) (H : Hp) (hd : Addr) (m : Nat) : Prop := ∃ (hs : List V) (xs : List (List Int)), H hd = some (.lst hs) ∧ hs.length ≤ m ∧ DpAll K (del H hd) hs (xs.map hD)
theorem Held.same {K : PySem.W.Frag} {H H' : Hp} {hd : Addr} {m : Nat} (x : Held K H hd m) (s : Same H H') : Held K H' hd m := by
  obtain ⟨hs, xs, e, l, a⟩ := x
  exact ⟨hs, xs, s _ _ e, l, dpa_same (Keep.del (Same.keep s)) _ _ a⟩
theorem Held.mono {K : PySem.W.Frag} {H : Hp} {hd : Addr} {m n : Nat} (x : Held K H hd m) (h : m ≤ n) : Held K H hd n := by
  obtain ⟨hs, xs, e, l, a⟩ := x
  exact ⟨hs, xs, e, Nat.le_trans l h, a⟩
theorem dpa_at {K : PySem.W.Frag} {H : Hp} : ∀ {vs : List V} {ds : List PyData} (i : Nat) {v : V}, DpAll K H vs ds → vs[i]? = some v → ∃ d, ds[i]? = some d ∧ Dp K H v d
  | [], _, _, _, _, h => by simp at h
  | _ :: _, _ :: _, 0, _, .cons a b, h => by
    cases h
    exact ⟨_, rfl, a⟩
  | _ :: _, _ :: _, i + 1, _, .cons a b, h => dpa_at i b (by simpa using h)
theorem rgV_nats (n : Int) : rgV 0 n = (List.range n.toNat).map fun q => V.int (q : Nat) := by
  unfold rgV
  rw [Int.sub_zero]
  congr 1
  funext i
  rw [Int.zero_add]
end Cw

namespace Cw
open PySem PySem.Spec PyProof.Rows L2 Srt

/-! ### triples (whole number, whole number, one sign), by all three -/
abbrev Tri := Int × Int × Nat
def lexT (p q : Tri) : Bool := if p.1 = q.1 then (if p.2.1 = q.2.1 then decide (p.2.2 < q.2.2) else decide (p.2.1 < q.2.1)) else decide (p.1 < q.1)
theorem lexT_iff {p q : Tri} : lexT p q = true ↔ p.1 < q.1 ∨ (p.1 = q.1 ∧ (p.2.1 < q.2.1 ∨ (p.2.1 = q.2.1 ∧ p.2.2 < q.2.2))) := by
  unfold lexT
  by_cases e : p.1 = q.1
  · rw [if_pos e]
    by_cases e2 : p.2.1 = q.2.1
    · rw [if_pos e2, decide_eq_true_eq]; omega
    · rw [if_neg e2, decide_eq_true_eq]; omega
  · rw [if_neg e, decide_eq_true_eq]; omega
theorem lexT_no {p q : Tri} : lexT p q = false ↔ ¬ (p.1 < q.1 ∨ (p.1 = q.1 ∧ (p.2.1 < q.2.1 ∨ (p.2.1 = q.2.1 ∧ p.2.2 < q.2.2)))) := by
  rw [← lexT_iff]
  cases lexT p q <;> simp
theorem swo_T {α : Type} (k : α → Tri) : SrtO.Swo fun v u => lexT (k v) (k u) := by
  refine ⟨fun x y h => ?_, fun x y z h1 h2 => ?_⟩
  · have a := lexT_iff.mp h
    exact lexT_no.mpr (by omega)
  · have a := lexT_no.mp h1
    have b := lexT_no.mp h2
    exact lexT_no.mpr (by omega)
def IsTri (h : Heap) (v : Value) (p : Tri) : Prop := ∃ a o t u t3 n, v = .ref a ∧ h.get? a = some o ∧ o.cls = .type "tuple" ∧ o.data = .seq #[.int p.1 t, .int p.2.1 u, .str (sg p.2.2) t3] n
theorem IsTri.keeps {h h' : Heap} {v : Value} {p : Tri} (x : IsTri h v p) (k : ∀ b o, h.get? b = some o → o.cls = .type "tuple" → h'.get? b = some o) : IsTri h' v p := by
  obtain ⟨a, o, t, u, t3, n, e, ho, hc, hd⟩ := x
  exact ⟨a, o, t, u, t3, n, e, k _ _ ho hc, hc, hd⟩
theorem sg_lt (c d : Nat) : decide ((sg c).cps.toList < (sg d).cps.toList) = decide (c < d) := by
  rw [Bool.eq_iff_iff, decide_eq_true_eq, decide_eq_true_eq]
  show ([c] : List Nat) < [d] ↔ c < d
  rw [List.cons_lt_cons_iff]
  constructor
  · rintro (h | ⟨_, h⟩)
    · exact h
    · exact absurd h (List.not_lt_nil _)
  · intro h; exact .inl h
theorem sg_inj {c d : Nat} : sg c = sg d ↔ c = d := by
  constructor
  · intro h
    have e : (sg c).cps.toList = (sg d).cps.toList := by rw [h]
    simpa using e
  · rintro rfl; rfl
section
variable {prog : Program} {w : World} {A : Around} {E : Value → Shared → Prop} {s : Shared}
theorem tri_cmp {vs : List Value} {k : Value → Tri} (hp : ∀ v ∈ vs, IsTri s.heap v (k v)) : SrtO.Cmp prog w A s (tuples' true) (fun p => p.1 ∈ vs) (SrtO.lt2 fun v u => lexT (k v) (k u)) := by
  intro p q hm hm'
  have h1 := hp _ hm
  have h2 := hp _ hm'
  show wpAny (model prog w) A (keyLt' (tuples' true) p.1 q.1) (fun r s' => s' = s ∧ r = lexT (k p.1) (k q.1)) (fun _ _ => False) s
  generalize k p.1 = P at h1 ⊢
  generalize k q.1 = R at h2 ⊢
  obtain ⟨x, y, c⟩ := P
  obtain ⟨x', y', c'⟩ := R
  obtain ⟨a, o, t, u, t3, n, e, ho, hc, hd⟩ := h1
  obtain ⟨a', o', t', u', t3', n', e', ho', hc', hd'⟩ := h2
  dsimp only at hd hd'
  rw [e, e']
  refine PySem.W.kat_lt ho hd ho' hd' ?_
  show PySem.W.KatLex prog w A true (decide (3 < 3)) _ [(.int x t, .int x' t'), (.int y u, .int y' u'), (.str (sg c) t3, .str (sg c') t3')] 0 s
  refine PySem.W.kat_cons (SeqAt.EqAt.int_int x t x' t' prog w _ _ (PySem.W.kat_go (fun e1 => ?_) (fun e1 => ?_)))
  · have ex : x = x' := by simpa using e1
    subst ex
    refine PySem.W.kat_yes (PySem.W.kat_cons (SeqAt.EqAt.int_int y u y' u' prog w _ _ (PySem.W.kat_go (fun e2 => ?_) (fun e2 => ?_))))
    · have ey : y = y' := by simpa using e2
      subst ey
      refine PySem.W.kat_yes (PySem.W.kat_cons (wpAny_eqBool_str (PySem.W.kat_go (fun e3 => ?_) (fun e3 => ?_))))
      · have ec : c = c' := sg_inj.mp (by simpa using e3)
        subst ec
        exact PySem.W.kat_yes (PySem.W.kat_nil ⟨rfl, (lexT_no.mpr (by show ¬ (x < x ∨ (x = x ∧ (y < y ∨ (y = y ∧ c < c)))); omega)).symm⟩)
      · refine PySem.W.kat_no (PySem.W.kat_one _ _ (PyProof.Rows.lt_str ?_))
        refine (show s = s ∧ decide ((sg c).cps.toList < (sg c').cps.toList) = lexT (x, y, c) (x, y, c') from ⟨rfl, ?_⟩)
        rw [sg_lt]
        unfold lexT
        rw [if_pos rfl, if_pos rfl]
    · have ey : ¬ y = y' := by simpa using e2
      refine PySem.W.kat_no (PySem.W.kat_one _ _ (PyProof.Rows.lt_int ?_))
      refine (show s = s ∧ decide (y < y') = lexT (x, y, c) (x, y', c') from ⟨rfl, ?_⟩)
      unfold lexT
      rw [if_pos rfl, if_neg ey]
  · have ex : ¬ x = x' := by simpa using e1
    refine PySem.W.kat_no (oneLt_int ⟨rfl, ?_⟩)
    unfold lexT
    rw [if_neg ex]
theorem tri_firsts {h : Heap} : ∀ {vs : List Value}, (∀ v ∈ vs, ∃ p, IsTri h v p) → ∃ fs : List Value, PySem.W.KatTups h vs fs ∧ fs.length = vs.length ∧ ∀ f ∈ fs, ∃ x t, f = Value.int x t
  | [], _ => ⟨[], PySem.W.KatTups.nil, rfl, fun _ hm => by simp at hm⟩
  | v :: vs, hp => by
    obtain ⟨fs, h1, h2, h3⟩ := tri_firsts (vs := vs) fun v' hm => hp v' (List.mem_cons_of_mem _ hm)
    obtain ⟨p, a, o, t, u, t3, n, e, ho, hc, hd⟩ := hp v List.mem_cons_self
    subst e
    refine ⟨.int p.1 t :: fs, PySem.W.KatTups.cons ho hc hd rfl h1, by rw [List.length_cons, List.length_cons, h2], fun f hm => ?_⟩
    rcases List.mem_cons.mp hm with rfl | hm
    · exact ⟨_, t, rfl⟩
    · exact h3 f hm
theorem tri_sortable {a : Addr} {vs : List Value} {k : Value → Tri} (h0 : 0 < vs.length) (hp : ∀ v ∈ vs, IsTri s.heap v (k v)) (ha : ∀ o, s.heap.get? a = some o → o.cls ≠ .type "tuple") : SrtO.SortableO prog w A s a vs fun v u => lexT (k v) (k u) := by
  intro h' keep
  have hp' : ∀ v ∈ vs, IsTri h' v (k v) := fun v hm => (hp v hm).keeps fun b o e c => keep b o (fun z => by subst z; exact ha o e c) e
  obtain ⟨fs, h1, h2, h3⟩ := tri_firsts fun v hm => ⟨_, hp' v hm⟩
  refine ⟨tuples' true, fun Q E hq => PySem.W.kat_kind (T := .type "int") h1 (by omega) (fun f hm => ?_) (by rfl) ?_, tri_cmp hp'⟩
  · obtain ⟨x, t, rfl⟩ := h3 f hm
    exact PySem.W.Looks.now
  · rw [show (Value.type "int" != Value.type "tuple") = true by decide +kernel]; exact hq
theorem sorted_tris {l : Addr} {vs : List Value} {k : Value → Tri} {Q : Value → Shared → Prop} (hl : s.heap.IsList l vs.toArray) (hz : vs.length ≤ sizeLine) (hp : ∀ v ∈ vs, IsTri s.heap v (k v))
    (h : ∀ (h' : Heap) (d : Addr) (out : List Value), SrtO.Srtd (fun v u => lexT (k v) (k u)) out → out.Perm vs → (∀ b o, s.heap.get? b = some o → h'.get? b = some o) → s.heap.objs.size ≤ d → (∃ n, h'.get? d = some (seqObj "list" out.toArray n)) → Q (.ref d) { s with heap := h' }) :
    wpAny (model prog w) A (call (.builtin "sorted") [.ref l]) Q E s := by
  refine SrtO.sorted_ord (swo_T k) hl hz (fun h2 h₁ a ha kk => tri_sortable (s := { s with heap := h₁ }) (by omega) (fun v hm => (hp v hm).keeps fun b o e _ => (kk b o e).2) fun o e c => ?_) fun out hs hb => ?_
  · have e' : some o = some (seqObj "list" vs.toArray 0) := e.symm.trans ha
    cases e'
    exact absurd (Value.type.inj c) (by decide)
  · exact h _ _ out hs hb.perm (fun b o e => sortedAll_old e) (Nat.le_succ _) (sortedAll_at s.heap vs out.toArray)
end
def triV (p : Tri) : List V := [.int p.1, .int p.2.1, .str (sg p.2.2)]
/-- sorted(ties): the same tuples, by their three -/
def rSorted3 (K : PySem.W.Frag) : List V → Hp → VK → Prop := fun vs H Q => ∃ (a : Addr) (es : List (Addr × Tri)), vs = [V.ref a] ∧ SqL K H a (es.map fun e => V.ref e.1) ∧ (∀ e ∈ es, H e.1 = some (.tup (triV e.2))) ∧
  ∀ (es' : List (Addr × Tri)) p, es'.Perm es → (es'.map (·.2)).Pairwise (fun x y => lexT y x = false) → H p = none → Q (.ref p) (upd H p (.lst (es'.map fun e => V.ref e.1)))
section
variable {X : Cx}
theorem cr_sorted3 : CallR X (.builtin "sorted") (rSorted3 X.K) := by
  intro pins s σ H vs us Q I r h
  obtain ⟨a, es, rfl, hs, hx, q⟩ := h
  obtain ⟨its, rv, hl, hz⟩ := I.list hs
  obtain ⟨u, rfl, ru⟩ := vals1 r
  obtain rfl : u = Value.ref a := ru
  -- the items, by their addresses
  have eits : its = es.map fun e => Value.ref e.1 := by
    have : ∀ {xs : List (Addr × Tri)} {us : List Value}, Vals (xs.map fun e => V.ref e.1) us → us = xs.map fun e => Value.ref e.1 := by
      intro xs
      induction xs with
      | nil => intro us r; cases r; rfl
      | cons x xs ih =>
        intro us r
        cases r with
        | cons r1 r2 => rw [ih r2, (show _ = Value.ref x.1 from r1)]; rfl
    exact this rv
  -- the key, read off the heap
  let kA : Addr → Tri := fun b => match H b with
    | some (.tup [.int x, .int y, .str z]) => (x, y, (z.cps.toList.headD 0))
    | _ => (0, 0, 0)
  have kA_eq : ∀ e ∈ es, kA e.1 = e.2 := fun e he => by
    show (match H e.1 with
      | some (.tup [.int x, .int y, .str z]) => (x, y, (z.cps.toList.headD 0))
      | _ => (0, 0, 0)) = e.2
    rw [hx e he]; rfl
  let kV' : Value → Tri := fun v => match v with
    | .ref b => kA b
    | _ => (0, 0, 0)
  refine sorted_tris (k := kV') hl.isList (by rw [← rv.length]; exact hz) (fun v hv => ?_) fun h' d out h1 h2 kp hd hn => ?_
  · rw [eits] at hv
    obtain ⟨e, he, rfl⟩ := List.mem_map.mp hv
    obtain ⟨_, its2, r2, o, ho, hc, n, hd⟩ := I.hok _ _ (hx e he)
    have ek : kV' (Value.ref e.1) = e.2 := kA_eq e he
    rw [ek]
    cases r2 with
    | cons ra rr =>
      cases rr with
      | cons rb rr =>
        cases rr with
        | cons rc rr =>
          cases rr
          obtain ⟨t1, rfl⟩ := ra
          obtain ⟨t2, rfl⟩ := rb
          obtain ⟨t3, rfl⟩ := rc
          exact ⟨e.1, o, t1, t2, t3, n, rfl, ho, hc, hd⟩
  · obtain ⟨n, hn⟩ := hn
    rw [eits] at h2
    have hmem : ∀ v ∈ out, ∃ e ∈ es, v = Value.ref e.1 := fun v hv => by
      obtain ⟨e, he, e'⟩ := List.mem_map.mp (h2.mem_iff.mp hv)
      exact ⟨e, he, e'.symm⟩
    -- back to pairs
    let back : Value → Addr × Tri := fun v => match v with
      | .ref b => (b, kA b)
      | _ => (0, (0, 0, 0))
    have p1 : (out.map back).Perm es := by
      have z := h2.map back
      rw [List.map_map] at z
      have e2 : es.map (back ∘ fun e => Value.ref e.1) = es := by
        conv => rhs; rw [← List.map_id es]
        refine List.map_congr_left fun e he => ?_
        show (e.1, kA e.1) = e
        rw [kA_eq e he]
      rw [e2] at z
      exact z
    have e3 : (out.map back).map (fun e => V.ref e.1) = out.map backV := by
      rw [List.map_map]
      refine List.map_congr_left fun v hv => ?_
      obtain ⟨e, he, rfl⟩ := hmem v hv
      rfl
    have srt : ((out.map back).map (·.2)).Pairwise (fun x y => lexT y x = false) := by
      rw [List.map_map, List.pairwise_map]
      refine h1.imp_of_mem fun {x y} hx' hy' hxy => ?_
      obtain ⟨e, he, rfl⟩ := hmem x hx'
      obtain ⟨e', he', rfl⟩ := hmem y hy'
      exact hxy
    have g := q (out.map back) d p1 srt (I.hok.fresh hd)
    rw [e3] at g
    have hzo : (out.map backV).length ≤ sizeLine := by
      rw [List.length_map, h2.length_eq, List.length_map]
      rw [List.length_map] at hz
      exact hz
    have hvb : Vals (out.map backV) out := vals_back fun u hu => by
      obtain ⟨e, he, rfl⟩ := hmem u hu
      exact ⟨_, rfl⟩
    exact ⟨.ref d, upd H d (.lst (out.map backV)), I.laid (t' := s.toks) kp hd (show ObjOk X.prog X.w _ _ _ (.lst (out.map backV)) from ⟨hzo, out, n, hvb, hn⟩), rfl, g⟩

/-- sorted(d), the keys pairs of whole numbers -/
def rSortedD : List V → Hp → VK → Prop := fun vs H Q => ∃ (d : Addr) (kvs : List (List Key × V)), vs = [V.ref d] ∧ H d = some (.dT kvs) ∧ (∀ p ∈ kvs, ∃ i j : Int, p.1 = [.inl i, .inl j]) ∧
  ∀ (es : List (Addr × Int × Int)) p, (es.map fun e => ([.inl e.2.1, .inl e.2.2] : List Key)).Perm (kvs.map (·.1)) → (∀ e ∈ es, H e.1 = some (.tup [.int e.2.1, .int e.2.2])) → (es.map (·.2)).Pairwise (fun x y => SrtO.lexB y x = false) → H p = none → Q (.ref p) (upd H p (.lst (es.map fun e => V.ref e.1)))
theorem cr_sortedD (hc : X.calm = true) : CallR X (.builtin "sorted") rSortedD := by
  intro pins s σ H vs us Q I r h
  obtain ⟨d, kvs, rfl, hd, hk, q⟩ := h
  obtain ⟨u, rfl, ru⟩ := vals1 r
  obtain rfl : u = Value.ref d := ru
  obtain ⟨z, lo, ks, pr, o, es0, ep, ho, hx, hdt, he, hn⟩ := (show ObjOk X.prog X.w H s.heap d (.dT kvs) from I.hok d _ hd)
  have l1 : es0.size = ks.length := size_of_entries he
  have l2 : kvs.length = ks.length := Paired.length pr
  refine Calls.call_function_entry PyProof.Rows.kind_sorted PyProof.Rows.plain_sorted PyProof.Rows.entry_sorted (PyProof.Rows.args_sorted1 _) ?_; unfold Builtin.«sorted»
  refine wpAny_bind (m := checkCount "sorted" 1 1 _) (wpAny_pure (wpAny_bind (PySem.W.kdu_collect (A := X.A.in1) (kdl_raw lo hx hdt) (I.ok.hd hc) ho (by omega) fun h' tk acc hk' hacc => ?_)))
  -- the collected keys
  have ea : acc.toList = ks.map fun x => Value.ref x.2.1 := by
    have hl : acc.toList.length = ks.length := by rw [Array.length_toList, hacc.1]; exact l1
    refine List.ext_getElem? fun j => ?_
    rw [List.getElem?_map]
    cases hj : acc.toList[j]? with
    | none => rw [List.getElem?_eq_none (by have := List.getElem?_eq_none_iff.mp hj; omega)]; rfl
    | some v =>
      obtain ⟨en, hen, hv⟩ := hacc.2 j v (by rw [← Array.getElem?_toList]; exact hj)
      have qe := entry_at he j
      rw [hen] at qe
      cases hb : ks[j]? with
      | none => rw [hb] at qe; cases qe
      | some b =>
        rw [hb] at qe
        have e2 : en = entryOfKey (tupleKind (mixKind X.prog X.w)) b := Option.some.inj qe
        rw [hv, e2]; rfl
  have pk : ∀ x ∈ ks, ∃ i j : Int, x.1 = [.inl i, .inl j] ∧ H x.2.1 = some (.tup [.int i, .int j]) := by
    have go : ∀ {kvs : List (List Key × V)} {ks : List (List Key × Addr × Value)}, Paired (fun (p : List Key × V) (q : List Key × Addr × Value) => p.1 = q.1 ∧ H q.2.1 = some (.tup (p.1.map kV)) ∧ RelV p.2 q.2.2) kvs ks → (∀ p ∈ kvs, ∃ i j : Int, p.1 = [.inl i, .inl j]) → ∀ x ∈ ks, ∃ i j : Int, x.1 = [.inl i, .inl j] ∧ H x.2.1 = some (.tup [.int i, .int j]) := by
      intro kvs ks pr
      induction pr with
      | nil => intro _ x hx; simp at hx
      | cons a _ ih =>
        intro hk x hx
        rcases List.mem_cons.mp hx with rfl | hx
        · obtain ⟨i, j, e⟩ := hk _ List.mem_cons_self
          refine ⟨i, j, a.1.symm.trans e, ?_⟩
          have := a.2.1
          rw [e] at this
          exact this
        · exact ih (fun p hp => hk p (List.mem_cons_of_mem _ hp)) x hx
    exact go pr hk
  have ek : ks.map (·.1) = kvs.map (·.1) := by
    have go : ∀ {kvs : List (List Key × V)} {ks : List (List Key × Addr × Value)}, Paired (fun (p : List Key × V) (q : List Key × Addr × Value) => p.1 = q.1 ∧ H q.2.1 = some (.tup (p.1.map kV)) ∧ RelV p.2 q.2.2) kvs ks → ks.map (·.1) = kvs.map (·.1) := by
      intro kvs ks pr
      induction pr with
      | nil => rfl
      | cons a _ ih => rw [List.map_cons, List.map_cons, ih, a.1]
    exact go pr
  let kA : Addr → Int × Int := fun b => match H b with
    | some (.tup [.int x, .int y]) => (x, y)
    | _ => (0, 0)
  have kA_eq : ∀ {b : Addr} {i j : Int}, H b = some (.tup [.int i, .int j]) → kA b = (i, j) := fun {b i j} e => by
    show (match H b with
      | some (.tup [.int x, .int y]) => (x, y)
      | _ => (0, 0)) = (i, j)
    rw [e]
  let kW : Value → Int × Int := fun v => match v with
    | .ref b => kA b
    | _ => (0, 0)
  have I1 : Inv X pins σ H { s with heap := h', toks := tk } := I.kept hk'
  have hal : acc.toList.length ≤ sizeLine := by rw [ea, List.length_map]; omega
  refine wpAny_bind (wpAny_newList ?_ hal)
  have hoL : (h'.push (seqObj "list" acc.toList.toArray 0)).get? h'.objs.size = some (seqObj "list" acc.toList.toArray 0) := Heap.get?_push_size _ rfl
  have hpair : ∀ v ∈ acc.toList, Srt.IsPair (h'.push (seqObj "list" acc.toList.toArray 0)) v (kW v).1 (kW v).2 := fun v hv => by
    rw [ea] at hv
    obtain ⟨x, hx', rfl⟩ := List.mem_map.mp hv
    obtain ⟨i, j, _, e⟩ := pk x hx'
    obtain ⟨_, its2, r2, o', ho', hc', n', hd'⟩ := I1.hok _ _ e
    have e2 : kW (Value.ref x.2.1) = (i, j) := kA_eq e
    rw [e2]
    obtain ⟨u1, u2, rfl, ⟨t1, rfl⟩, ⟨t2, rfl⟩⟩ := vals2 r2
    exact ⟨x.2.1, o', t1, t2, n', rfl, Heap.get?_push_of_some _ ho', hc', hd'⟩
  show wpAny _ _ _ _ _ { s with heap := h'.push (seqObj "list" acc.toList.toArray 0), toks := tk }
  refine wpAny_bind (wpAny_holding (wpAny_call_entry PyProof.Rows.slot_list_sort ⟨_, hoL, rfl⟩ PyProof.Rows.entry_list_sort
    (SrtO.list_sort_ord (s := { s with heap := h'.push (seqObj "list" acc.toList.toArray 0), toks := tk }) (SrtO.swo_lex kW) hoL hal (fun h2 => SrtO.pairs_sortableO (by omega) hpair fun o e c => ?_) fun out hs hb => ⟨_, rfl, ?_⟩) (PyProof.Rows.args_list_sort _)))
  · have e' : some o = some (seqObj "list" acc.toList.toArray 0) := e.symm.trans hoL
    cases e'
    exact absurd (Value.type.inj c) (by decide)
  obtain ⟨n, hn2⟩ := PyProof.Rows.sortedHeap_at (vs := acc.toList) (out := out.toArray) hoL
  have h2 := hb.perm
  rw [ea] at h2
  have hmem : ∀ v ∈ out, ∃ x ∈ ks, v = Value.ref x.2.1 := fun v hv => by
    obtain ⟨x, hx', e'⟩ := List.mem_map.mp (h2.mem_iff.mp hv)
    exact ⟨x, hx', e'.symm⟩
  let back : Value → Addr × Int × Int := fun v => match v with
    | .ref b => (b, kA b)
    | _ => (0, (0, 0))
  have g := q (out.map back) h'.objs.size (by
      have z := h2.map fun v => ([.inl (back v).2.1, .inl (back v).2.2] : List Key)
      rw [List.map_map] at z
      have e2 : ks.map ((fun v => ([.inl (back v).2.1, .inl (back v).2.2] : List Key)) ∘ fun x => Value.ref x.2.1) = ks.map (·.1) := by
        refine List.map_congr_left fun x hx' => ?_
        obtain ⟨i, j, e3, e4⟩ := pk x hx'
        show ([.inl (kA x.2.1).1, .inl (kA x.2.1).2] : List Key) = x.1
        rw [kA_eq e4, e3]
      rw [e2, ek] at z
      rw [List.map_map]
      exact z) (fun e he' => by
      obtain ⟨v, hv, rfl⟩ := List.mem_map.mp he'
      obtain ⟨x, hx', rfl⟩ := hmem v hv
      obtain ⟨i, j, e3, e4⟩ := pk x hx'
      show H x.2.1 = some (.tup [.int (kA x.2.1).1, .int (kA x.2.1).2])
      rw [kA_eq e4, e4]) (by
      rw [List.map_map, List.pairwise_map]
      refine hs.imp_of_mem fun {x y} hx' hy' hxy => ?_
      obtain ⟨e1, _, rfl⟩ := hmem x hx'
      obtain ⟨e2, _, rfl⟩ := hmem y hy'
      exact hxy) (I1.hok.fresh (Nat.le_refl _))
  have e3 : (out.map back).map (fun e => V.ref e.1) = out.map backV := by
    rw [List.map_map]
    refine List.map_congr_left fun v hv => ?_
    obtain ⟨e, he', rfl⟩ := hmem v hv
    rfl
  rw [e3] at g
  have hzo : (out.map backV).length ≤ sizeLine := by
    rw [List.length_map, h2.length_eq, List.length_map]; omega
  have hvb : Vals (out.map backV) out := vals_back fun u hu => by
    obtain ⟨e, _, rfl⟩ := hmem u hu
    exact ⟨_, rfl⟩
  refine wpAny_pure ⟨_, rfl, .ref h'.objs.size, upd H h'.objs.size (.lst (out.map backV)), I1.laid (t' := tk) (fun b u e => ?_) (Nat.le_refl _) (show ObjOk X.prog X.w _ _ _ (.lst (out.map backV)) from ⟨hzo, out, n, hvb, hn2⟩), rfl, g⟩
  have hb' : b < h'.objs.size := Heap.lt_size e
  rw [PyProof.Rows.sortedHeap_old (Nat.ne_of_lt hb') (by rw [size_push']; exact Nat.lt_succ_of_lt hb')]; exact Heap.get?_push_of_some _ e

/-- d.pop(k), k a tuple that is there -/
def rPop1 : V → List V → Hp → VK → Prop := fun x xs H Q => ∃ (a : Addr) (kvs : List (List Key × V)) (k : List Key) (b : Addr) (v : V), x = .ref a ∧ xs = [.ref b] ∧ H a = some (.dT kvs) ∧ H b = some (.tup (k.map kV)) ∧ valV kvs k = some v ∧ Q v (upd H a (.dT (dropK kvs k)))
end
section
variable {prog : Program} {w : World} {K : Type} [DecidableEq K] {knd : HeapKind prog w K}
theorem meets_pop1 {d b : Addr} {k : K} (hd : (d == sysModules) = false) :
    MeetsIn prog w (Builtin.«dict.pop» ⟨[.ref d, .ref b], []⟩) (fun A R s => ∃ xs p0, knd.room A.in1 ∧ knd.is s.heap k b ∧ s.heap.DictOfH knd d xs ∧ xs.length ≤ sizeLine ∧ atKey xs k = some p0 ∧
      ∀ p, atKey xs k = some p → ∀ h' tk, h'.DictOfH knd d (DT.dropH xs k) → Heap.SameBut d s.heap h' → R (.ok (.ret p.2)) { s with heap := h', toks := tk }) :=
  .of_wp fun A R s ⟨xs, p0, hu, hkey, hm, hsz, hp0, hsome⟩ => by
    obtain ⟨o, es, ep, ho, hc, hdat, he, his, hn⟩ := id hm
    have hes : es.size = xs.length := size_of_entries he
    have hne : xs ≠ [] := fun z => by rw [z] at hp0; cases hp0
    have hem : es.isEmpty = false := by
      cases q : es.isEmpty with
      | false => rfl
      | true =>
        have z : es.size = 0 := by simpa using q
        exact absurd (List.length_eq_zero_iff.mp (by omega)) hne
    unfold Builtin.«dict.pop»
    refine wpAny_bind ?_; unfold Builtin.Dict.keyAndDefault
    refine wpAny_bind (wpAny_notOrdered_dict hm.typeIs ?_)
    show wpAny _ _ (pure (d, Value.ref b, (none : Option Value))) _ _ s
    refine wpAny_pure ?_
    simp only [show (keyPart (Value.ref b)).isSome = false from rfl, Bool.false_eq_true, if_false]
    refine wpAny_bind (wpAny_dictEntries ho hdat (wpAny_bind (wpAny_pure ?_)))
    simp only [hem, Bool.false_eq_true, if_false]
    refine wpAny_bind (DT.takeH hu hkey hm hsz (fun hno => ?_) fun p e hp hev h' hm' hs' => ?_)
    · rw [hno] at hp0; cases hp0
    · simp only [Option.isNone_some, Bool.false_eq_true, if_false]
      exact wpAny_bind (wpAny_letGo (wpAny_pure ⟨e.val, rfl, by rw [hev]; exact hsome p hp h' _ hm' hs'⟩))
end
section
variable {X : Cx}
theorem mt_pop1T (hu : X.A.units + 1 < cLine) : MtR X "dict.pop" rPop1 := by
  intro pins s σ H x xs v us Q I rx rxs h
  obtain ⟨a, kvs, k, b, v0, rfl, rfl, ha, hb, hv0, q⟩ := h
  cases rx
  obtain ⟨u1, rfl, r1⟩ := vals1 rxs
  cases r1
  obtain ⟨z, hd, xs', rel, dd⟩ := dt_of I.hok ha
  have hz : xs'.length ≤ sizeLine := by rw [← Paired.length rel]; exact z
  have r := rel.val k
  rw [hv0] at r
  obtain ⟨p0, hp0, rv⟩ : ∃ p0, atKey xs' k = some p0 ∧ RelV v0 p0.2 := by
    cases ev : atKey xs' k with
    | none => rw [ev] at r; exact (show False from r).elim
    | some p0 => rw [ev] at r; exact ⟨p0, rfl, r⟩
  refine call_meetsIn PySem.F.slot_dict_pop dd.typeIs PySem.F.entry_dict_pop (PySem.F.args_dict_pop_2 _ _) (meets_pop1 (knd := tupleKind (mixKind X.prog X.w)) (k := k) hd) ⟨xs', p0, tupleKind_room_in1 hu, key_of I.hok hb, dd, hz, hp0, fun p hp h' tk dd' hs => ?_⟩
  rw [hp0] at hp
  cases hp
  obtain ⟨o, es, ep, hq, h2, h3, h4, _, h5⟩ := dd'
  have I2 : Inv X pins σ (upd H a (.dT (dropK kvs k))) { s with heap := h', toks := tk } :=
    d_write I (by rw [ha]; exact True.intro) hs ⟨o, hq⟩ ⟨Nat.le_trans (dropK_le kvs k) z, hd, _, (L2.DX.KT_drop k rel).keeps (fun c ys ec => (by rw [upd_ne (ne_of ec ha (fun z => nomatch z))]; exact ec)), o, es, ep, hq, h2, h3, h4, h5⟩
  show EP X pins σ Q p0.2 _
  exact ⟨v0, _, I2, rv, q⟩
end
/-- a text's signs with their places -/
def Itse (x : Str) : It := ⟨fun i _ => i < x.cps.size, fun i H v H' => ∃ T c, v = .ref T ∧ H T = none ∧ H' = upd H T (.tup [.int (i : Nat), .str ⟨#[c]⟩]) ∧ x.cps[i]? = some c, fun i _ => x.cps.size ≤ i⟩
theorem turn_enumS {P : Program} {w : World} {K : PySem.W.Frag} {elts : List Expr} {kk : Nat} {tpos : Pos} (e it : Addr) (x : Str) (t : Tok) (ty : String) (hty : ty = "str_ascii_iterator" ∨ ty = "str_iterator") :
    Turn P w K (.Tuple elts kk tpos) (Itse x) [e, it] e (fun i h => (∃ old, IsEnum h e it i old) ∧ h.IsStrIter it ty x t i ∧ e ≠ it ∧ i ≤ x.cps.size) where
  mem := by simp
  obj := fun i h st b hb => by
    obtain ⟨⟨old, he⟩, ⟨o, ho, hc, hd⟩, _⟩ := st
    have e' : b = e ∨ b = it := by simpa using hb
    rcases e' with z | z
    · rw [z]; exact ⟨_, he, fun v q => nomatch q⟩
    · rw [z]; exact ⟨o, ho, fun v q => by rw [hd] at q; cases q⟩
  keep := fun i h h' st k => by
    obtain ⟨⟨old, he⟩, ⟨o, ho, r⟩, hne⟩ := st
    exact ⟨⟨old, k e (by simp) _ he⟩, ⟨o, k it (by simp) o ho, r⟩, hne⟩
  item := by
    intro X hP hw hK hc i pins s σ H E I hf st hg
    subst hP hw hK
    obtain ⟨⟨old, he⟩, hit, hne, hi⟩ := st
    have hg' : i < x.cps.size := hg
    have hel : e < s.heap.objs.size := Heap.lt_size he
    have hil : it < s.heap.objs.size := by obtain ⟨_, q, _⟩ := hit; exact Heap.lt_size q
    have D : Draws X.prog X.w X.A.in1 it [it] x.cps.size (fun i v => ∃ c u, x.cps[i]? = some c ∧ v = .str ⟨#[c]⟩ u) (fun i h => h.IsStrIter it ty x t i) := by
      rcases hty with z | z
      · rw [z]; exact Draws.strAscii (A := X.A.in1) (I.ok.hd hc) it x t
      · rw [z]; exact Draws.strWide (A := X.A.in1) (I.ok.hd hc) it x t
    refine wpAny_pyNext_enum_itemD D he hit hg hne (by simpa using hne) fun v h' tk hv ho hit' hT hsz hk => ?_
    obtain ⟨c, u, hcx, rfl⟩ := hv
    refine ⟨_, rfl, wpAny_letOwnedTupleGo_enum (s := { s with heap := h', toks := tk + 1 }) ho fun h'' he' sb => ?_⟩
    have hT2 : h''.get? s.heap.objs.size = some { cls := .type "tuple", data := .seq #[.int i tk, .str ⟨#[c]⟩ u] } := (sb.2 _ (Nat.ne_of_gt hel)).trans hT
    have new : ObjOk X.prog X.w (upd H s.heap.objs.size (.tup [.int (i : Nat), .str ⟨#[c]⟩])) h'' s.heap.objs.size (.tup [.int (i : Nat), .str ⟨#[c]⟩]) :=
      ⟨(by show 2 ≤ sizeLine; decide), [.int i tk, .str ⟨#[c]⟩ u], .cons ⟨_, rfl⟩ (.cons ⟨u, rfl⟩ .nil), ⟨_, hT2, rfl, _, rfl⟩⟩
    have I1 : Inv X pins σ (upd H s.heap.objs.size (.tup [.int (i : Nat), .str ⟨#[c]⟩])) { s with heap := h'', toks := tk + 1 } :=
      I.turnedNew (ch := [e, it]) (fun b ob hb q => (sb.2 b (fun z => hb (by simp [z]))).trans (hk b ob (fun z => hb (by simp [z])) (fun z => hb (by simp [z])) q)) hf (Nat.le_refl _) new
    refine ⟨.ref s.heap.objs.size, _, I1, rfl, ⟨_, c, rfl, I.hok.fresh (Nat.le_refl _), rfl, hcx⟩, ⟨⟨.str ⟨#[c]⟩ u, ?_⟩, (by obtain ⟨o, a, b⟩ := hit'; exact ⟨o, (sb.2 it (Ne.symm hne)).trans a, b⟩), hne, hg'⟩, fun b hb => ?_⟩
    · rw [show ((i + 1 : Nat) : Int) = (i : Int) + 1 by omega]; exact he'
    · have hb' : b < s.heap.objs.size := by
        have z : b = e ∨ b = it := by simpa using hb
        rcases z with z | z
        · rw [z]; exact hel
        · rw [z]; exact hil
      rw [upd_ne (Nat.ne_of_lt hb')]; exact (hf b hb).1
  done := by
    intro X hP hw hK hc i pins s σ H E I hf st hg
    subst hP hw hK
    obtain ⟨⟨old, he⟩, hit, hne, hi⟩ := st
    have hg' : x.cps.size ≤ i := hg
    obtain rfl : i = x.cps.size := by omega
    have D : Draws X.prog X.w X.A.in1 it [it] x.cps.size (fun i v => ∃ c u, x.cps[i]? = some c ∧ v = .str ⟨#[c]⟩ u) (fun i h => h.IsStrIter it ty x t i) := by
      rcases hty with z | z
      · rw [z]; exact Draws.strAscii (A := X.A.in1) (I.ok.hd hc) it x t
      · rw [z]; exact Draws.strWide (A := X.A.in1) (I.ok.hd hc) it x t
    obtain ⟨f0, f1, f2, f3, f4, f5⟩ := hf it (by simp)
    exact wpAny_pyNext_enum_endD D he hit fun h' eb => ⟨rfl, I.turned (t' := s.toks) (fun b o hb q => eb b o hb q) f0 f1 f3 f4 f5⟩
  self := fun A i s Q E st h => by
    obtain ⟨⟨old, he⟩, _, _⟩ := st
    exact wpAny_pyIter_enum he h
def iEnumS (ta : TA) : TI := fun σ H R => ta σ H fun vs H1 => ∃ x, vs = [.str x] ∧ R (Itse x) H1
theorem strIter_ty (x : Str) : strIterType x = "str_ascii_iterator" ∨ strIterType x = "str_iterator" := by
  unfold strIterType
  cases x.cps.all (· < 128)
  · exact .inr rfl
  · exact .inl rfl
theorem pi_enumS {X : Cx} {e : Expr} {ta : TA} {p pos tpos : Pos} {elts : List Expr} {kk : Nat} (hg : Gl X "enumerate") (hm : X.mg "enumerate" = none) (ha : PA X [e] ta) (hs : starEach [e] X.env = [(false, eval e X.env)] := by rfl) :
    PI X (.Tuple elts kk tpos) (.Call (.Name "enumerate" p) [e] [] pos) (iEnumS ta) := by
  refine ⟨fun pins s σ H R I h => Call_ (ld_blt I hg hm boot_enumerate (PyProof.Rows.callWith_type1 (thn (ha.run pos pins s σ H _ I h) fun us s1 ⟨vs, H1, I1, r1, q1⟩ => ?_) hs rfl))⟩
  obtain ⟨x, ex, q⟩ := q1
  subst ex
  cases r1 with
  | cons r rr =>
    cases rr
    obtain ⟨t, rfl⟩ := r
    refine call_enumerate_str fun h' he hit hsz hk => wpAny_pyIter_enum he ?_
    have I2 : Inv X pins σ H1 { s1 with heap := h' } := I1.kept (t' := s1.toks) hk
    refine ⟨s1.heap.objs.size + 1, [s1.heap.objs.size + 1, s1.heap.objs.size], _, _, H1, rfl, I2, turn_enumS (s1.heap.objs.size + 1) s1.heap.objs.size x t (strIterType x) (strIter_ty x), ⟨⟨.none, he⟩, hit, Nat.succ_ne_self _, Nat.zero_le _⟩, fun b hb => ?_, q⟩
    have hle : s1.heap.objs.size ≤ b := by
      have z : b = s1.heap.objs.size + 1 ∨ b = s1.heap.objs.size := by simpa using hb
      rcases z with z | z
      · rw [z]; exact Nat.le_add_right _ _
      · rw [z]; exact Nat.le_refl _
    exact I1.fpOk hle (I1.hok.fresh hle)
theorem walk_enumS {z : Str} : Walk (Itse z) z.cps.size (fun _ => True) (YPair (fun i => some (.int (i : Nat))) (fun i => z.cps[i]?.map fun c => V.str ⟨#[c]⟩)) := by
  refine ⟨fun _ _ hi _ => hi, fun _ _ => Nat.le_refl _, fun i H v H' _ _ y => ?_⟩
  obtain ⟨T, c, h1, h2, h3, h4⟩ := y
  exact ⟨T, .int (i : Nat), .str ⟨#[c]⟩, h1, h2, h3, rfl, by show (z.cps[i]?).map _ = _; rw [h4]; rfl⟩
theorem d_iEnS {ta : TA} {σ : L2.St} {H : Hp} {R : It → Hp → Prop} (h : ta σ H fun vs H1 => ∃ x, vs = [.str x] ∧ R (Itse x) H1) : iEnumS ta σ H R := h
theorem d_iEnSe {C : Str → Prop} {z : Str} (q : C z) : ∃ x, [V.str z] = [.str x] ∧ C x := ⟨z, rfl, q⟩
theorem d_iEn {K : PySem.W.Frag} {ta : TA} {σ : L2.St} {H : Hp} {R : It → Hp → Prop} (h : ta σ H fun vs H1 => ∃ a xs, vs = [.ref a] ∧ SqL K H1 a xs ∧ R (Ite K a) H1) : iEnum K ta σ H R := h
end Cw

namespace Cw
open PySem PySem.Spec PyProof.Rows L2
theorem erase_map {α β : Type} (f : α → β) : ∀ (l : List α) (m : Nat), (l.map f).eraseIdx m = (l.eraseIdx m).map f
  | [], m => by simp
  | _ :: _, 0 => rfl
  | x :: l, m + 1 => by
    show f x :: (l.map f).eraseIdx m = f x :: (l.eraseIdx m).map f
    rw [erase_map f l m]
theorem erase_perm {α : Type} : ∀ (l : List α) (m : Nat) (h : m < l.length), (l[m] :: l.eraseIdx m).Perm l
  | [], m, h => absurd h (Nat.not_lt_zero _)
  | x :: l, 0, _ => List.Perm.refl _
  | x :: l, m + 1, h => by
    have hm : m < l.length := Nat.lt_of_succ_lt_succ h
    have ih := erase_perm l m hm
    exact (List.Perm.swap x l[m] _).trans (ih.cons x)
/-- as many different numbers below n as there are, at most -/
theorem nodup_len : ∀ (n : Nat) (l : List Nat), l.Nodup → (∀ x ∈ l, x < n) → l.length ≤ n
  | 0, l, _, h => by
    cases l with
    | nil => exact Nat.le_refl _
    | cons x r => exact absurd (h x List.mem_cons_self) (Nat.not_lt_zero _)
  | n + 1, l, hn, h => by
    by_cases hm : n ∈ l
    · have ih := nodup_len n (l.erase n) (hn.erase n) fun x hx => by
        have h1 := h x (List.mem_of_mem_erase hx)
        have h2 : x ≠ n := fun z => by
          subst z
          exact absurd hx (List.Nodup.not_mem_erase hn)
        omega
      rw [List.length_erase_of_mem hm] at ih
      omega
    · have ih := nodup_len n l hn fun x hx => by
        have h1 := h x hx
        have h2 : x ≠ n := fun z => hm (z ▸ hx)
        omega
      omega
/-! ### places called otherwise -/
def qa (qs : List Nat) (p : Nat) : Nat := qs.getD p 0
def mapTie (qs : List Nat) (t : Tie) : Tie := (min (qa qs t.1) (qa qs t.2.1), max (qa qs t.1) (qa qs t.2.1), t.2.2)
theorem qa_at {qs : List Nat} {p : Nat} (h : p < qs.length) : qs[p]? = some (qa qs p) := by
  unfold qa
  rw [List.getD_eq_getElem?_getD, List.getElem?_eq_getElem h]; rfl
structure Ord (qs : List Nat) (n : Nat) : Prop where
  len : qs.length = n
  nd : qs.Nodup
  lt : ∀ q ∈ qs, q < n
  all : ∀ j, j < n → j ∈ qs
theorem Ord.of {qs : List Nat} {n : Nat} (p : qs.Perm (List.range n)) : Ord qs n :=
  ⟨by rw [p.length_eq, List.length_range], p.nodup_iff.mpr List.nodup_range, fun q hq => List.mem_range.mp (p.mem_iff.mp hq), fun j hj => p.mem_iff.mpr (List.mem_range.mpr hj)⟩
theorem Ord.inj {qs : List Nat} {n p r : Nat} (o : Ord qs n) (hp : p < n) (hr : r < n) (h : qa qs p = qa qs r) : p = r := by
  have h1 : p < qs.length := by rw [o.len]; exact hp
  have h2 : r < qs.length := by rw [o.len]; exact hr
  have e1 := qa_at h1
  have e2 := qa_at h2
  rw [List.getElem?_eq_getElem h1] at e1
  rw [List.getElem?_eq_getElem h2] at e2
  exact (List.getElem_inj o.nd).mp ((Option.some.inj e1).trans (h.trans (Option.some.inj e2).symm))
theorem Ord.lt' {qs : List Nat} {n p : Nat} (o : Ord qs n) (hp : p < n) : qa qs p < n := o.lt _ (List.mem_of_getElem? (qa_at (by rw [o.len]; exact hp)))
theorem Ord.onto {qs : List Nat} {n j : Nat} (o : Ord qs n) (hj : j < n) : ∃ p, p < n ∧ qa qs p = j := by
  obtain ⟨p, hp⟩ := List.mem_iff_getElem?.mp (o.all j hj)
  have h1 : p < qs.length := (List.getElem?_eq_some_iff.mp hp).1
  rw [qa_at h1] at hp
  exact ⟨p, by rw [← o.len]; exact h1, Option.some.inj hp⟩
def ends (t : Tie) : Nat × Nat := (t.1, t.2.1)
structure Named (w : Web) (qs : List Nat) (w' : Web) : Prop where
  len : w'.1.length = w.1.length
  kinds : ∀ p, p < w.1.length → w'.1[qa qs p]? = w.1[p]?
  ties : w'.2.Perm (w.2.map (mapTie qs))
theorem mapTie_ends {w : Web} {qs : List Nat} (W : WOk w) (o : Ord qs w.1.length) : (w.2.map (mapTie qs)).Pairwise (fun x y => ends x ≠ ends y) := by
  rw [List.pairwise_map]
  refine List.Pairwise.imp_of_mem (fun {t u} ht hu lt e => ?_) W.rise
  have r1 := W.ends t ht
  have r2 := W.ends u hu
  unfold ends mapTie at e
  simp only [Prod.mk.injEq] at e
  obtain ⟨e1, e2⟩ := e
  by_cases c : qa qs t.1 = qa qs u.1
  · have a := o.inj (by omega) (by omega) c
    have c2 : qa qs t.2.1 = qa qs u.2.1 := by omega
    have b := o.inj (by omega) (by omega) c2
    rcases lt with z | ⟨_, z⟩ <;> omega
  · have c1 : qa qs t.1 = qa qs u.2.1 := by omega
    have c2 : qa qs t.2.1 = qa qs u.1 := by omega
    have a := o.inj (by omega) (by omega) c1
    have b := o.inj (by omega) (by omega) c2
    omega
/-- sorted ties of different ends rise -/
theorem rise_of {ts : List Tie} (s : ts.Pairwise (fun x y => lexT ((y.1 : Int), (y.2.1 : Int), y.2.2) ((x.1 : Int), (x.2.1 : Int), x.2.2) = false)) (d : ts.Pairwise (fun x y => ends x ≠ ends y)) : ts.Pairwise tlt := by
  refine (s.and d).imp fun {x y} h => ?_
  obtain ⟨h1, h2⟩ := h
  have a := lexT_no.mp h1
  unfold ends at h2
  simp only [ne_eq, Prod.mk.injEq, not_and] at h2
  dsimp only at a
  unfold tlt
  by_cases c : x.1 = y.1
  · have := h2 c
    right
    omega
  · left
    omega
theorem named_ok {w w' : Web} {qs : List Nat} (W : WOk w) (o : Ord qs w.1.length) (N : Named w qs w') (s : w'.2.Pairwise (fun x y => lexT ((y.1 : Int), (y.2.1 : Int), y.2.2) ((x.1 : Int), (x.2.1 : Int), x.2.2) = false)) : WOk w' := by
  refine ⟨by rw [N.len]; exact W.few, by rw [N.ties.length_eq, List.length_map]; exact W.most, fun c hc => ?_, rise_of s ?_, fun t ht => ?_⟩
  · obtain ⟨j, hj⟩ := List.mem_iff_getElem?.mp hc
    have hj' : j < w.1.length := by rw [← N.len]; exact (List.getElem?_eq_some_iff.mp hj).1
    obtain ⟨p, hp, rfl⟩ := o.onto hj'
    rw [N.kinds p hp] at hj
    exact W.kinds c (List.mem_of_getElem? hj)
  · exact (List.Perm.pairwise_iff (fun {x y} h => h.symm) N.ties).mpr (mapTie_ends W o)
  · obtain ⟨u, hu, rfl⟩ := List.mem_map.mp (N.ties.mem_iff.mp ht)
    have r := W.ends u hu
    have a := o.lt' (p := u.1) (by omega)
    have b := o.lt' (p := u.2.1) (by omega)
    have n : qa qs u.1 ≠ qa qs u.2.1 := fun z => by
      have := o.inj (by omega) (by omega) z
      omega
    refine ⟨?_, ?_, r.2.2⟩
    · show min _ _ < max _ _; omega
    · show max _ _ < w'.1.length; rw [N.len]; omega
theorem flat_rep (n : Nat) (x : V) : (List.replicate n [x]).flatten = List.replicate n x := by
  induction n with
  | zero => rfl
  | succ n ih => rw [List.replicate_succ, List.flatten_cons, ih, List.replicate_succ]; rfl
end Cw

namespace Cw
open PySem PySem.Spec PyProof.Rows L2
/-! ### a dict of ties by their ends -/
def kE (a b : Int) : List Key := [.inl a, .inl b]
structure DictOk (n : Nat) (kvs : List (List Key × V)) : Prop where
  nd : (kvs.map (·.1)).Nodup
  ok : ∀ p ∈ kvs, ∃ a b c : Nat, p = (kE a b, V.str (sg c)) ∧ a < b ∧ b < n ∧ Ltr c
theorem DictOk.nil (n : Nat) : DictOk n [] := ⟨List.nodup_nil, fun p hp => by simp at hp⟩
theorem valV_mem {kvs : List (List Key × V)} {k : List Key} {v : V} (h : valV kvs k = some v) : (k, v) ∈ kvs := by
  unfold valV at h
  obtain ⟨p, hp, rfl⟩ := Option.map_eq_some_iff.mp h
  have h1 := List.find?_some hp
  have h2 := List.mem_of_find?_eq_some hp
  have e : p.1 = k := of_decide_eq_true h1
  subst e
  exact h2
theorem DictOk.at {n : Nat} {kvs : List (List Key × V)} (d : DictOk n kvs) {k : List Key} {v : V} (h : valV kvs k = some v) : ∃ a b c : Nat, k = kE a b ∧ v = V.str (sg c) ∧ a < b ∧ b < n ∧ Ltr c := by
  obtain ⟨a, b, c, e, r⟩ := d.ok _ (valV_mem h)
  cases e
  exact ⟨a, b, c, rfl, rfl, r⟩
theorem DictOk.put {n : Nat} {kvs : List (List Key × V)} (d : DictOk n kvs) {a b c : Nat} (h1 : a < b) (h2 : b < n) (h3 : Ltr c) : DictOk n (putK kvs (kE a b) (.str (sg c))) := by
  unfold putK
  by_cases h : (kvs.any fun kv => decide (kv.1 = kE a b)) = true
  · rw [if_pos h]
    refine ⟨?_, fun p hp => ?_⟩
    · rw [List.map_map]
      have e : kvs.map ((·.1) ∘ fun kv => if kv.1 = kE a b then (kv.1, V.str (sg c)) else kv) = kvs.map (·.1) := by
        refine List.map_congr_left fun x _ => ?_
        show (if x.1 = kE a b then (x.1, V.str (sg c)) else x).1 = x.1
        split <;> rfl
      rw [e]
      exact d.nd
    · obtain ⟨x, hx, rfl⟩ := List.mem_map.mp hp
      by_cases e : x.1 = kE a b
      · rw [if_pos e, e]
        exact ⟨a, b, c, rfl, h1, h2, h3⟩
      · rw [if_neg e]
        exact d.ok x hx
  · rw [if_neg h]
    have hno : kE a b ∉ kvs.map (·.1) := fun hm => by
      obtain ⟨x, hx, e⟩ := List.mem_map.mp hm
      exact h (List.any_eq_true.mpr ⟨x, hx, decide_eq_true e⟩)
    refine ⟨?_, fun p hp => ?_⟩
    · rw [List.map_append]
      exact List.nodup_append.mpr ⟨d.nd, by simp, fun x hx y hy => by rw [List.mem_singleton.mp hy]; intro z; exact hno (by rw [← (show x = kE a b from z)]; exact hx)⟩
    · rcases List.mem_append.mp hp with hp | hp
      · exact d.ok p hp
      · rw [List.mem_singleton.mp hp]
        exact ⟨a, b, c, rfl, h1, h2, h3⟩
theorem DictOk.drop {n : Nat} {kvs : List (List Key × V)} (d : DictOk n kvs) (k : List Key) : DictOk n (dropK kvs k) :=
  ⟨d.nd.sublist ((List.filter_sublist).map _), fun p hp => d.ok p (List.mem_filter.mp hp).1⟩
theorem valV_drop {kvs : List (List Key × V)} {k j : List Key} (h : j ≠ k) : valV (dropK kvs k) j = valV kvs j := by
  unfold valV dropK
  congr 1
  induction kvs with
  | nil => rfl
  | cons x kvs ih =>
    by_cases e : x.1 = k
    · have e2 : ¬ x.1 = j := fun z => h (z.symm.trans e)
      rw [List.filter_cons_of_neg (by simp [e]), List.find?_cons_of_neg (by simp [e2])]
      exact ih
    · rw [List.filter_cons_of_pos (by simp [e])]
      by_cases e2 : x.1 = j
      · rw [List.find?_cons_of_pos (by simp [e2]), List.find?_cons_of_pos (by simp [e2])]
      · rw [List.find?_cons_of_neg (by simp [e2]), List.find?_cons_of_neg (by simp [e2])]
        exact ih
theorem DictOk.has {n : Nat} {kvs : List (List Key × V)} {k : List Key} (d : DictOk n kvs) (h : k ∈ kvs.map (·.1)) : ∃ v, valV kvs k = some v := by
  obtain ⟨x, hx, rfl⟩ := List.mem_map.mp h
  cases e : valV kvs x.1 with
  | some v => exact ⟨v, rfl⟩
  | none => exact absurd (List.mem_map.mpr ⟨x, hx, rfl⟩) (valV_not e)
theorem DictOk.len {n : Nat} {kvs : List (List Key × V)} (d : DictOk n kvs) (hn : n ≤ 40) : kvs.length ≤ 1600 := by
  let code : List Key × V → Nat := fun p => match p.1 with
    | [.inl a, .inl b] => a.toNat * 40 + b.toNat
    | _ => 0
  have hc : ∀ p ∈ kvs, ∃ a b : Nat, p.1 = kE a b ∧ code p = a * 40 + b ∧ a < 40 ∧ b < 40 := fun p hp => by
    obtain ⟨a, b, c, rfl, h1, h2, _⟩ := d.ok p hp
    exact ⟨a, b, rfl, rfl, by omega, by omega⟩
  have l := nodup_len 1600 (kvs.map code) (by
    have z := d.nd
    unfold List.Nodup at z ⊢
    rw [List.pairwise_map] at z ⊢
    refine List.Pairwise.imp_of_mem (fun {x y} hx hy hne e => ?_) z
    obtain ⟨a, b, e1, e2, b1, b2⟩ := hc x hx
    obtain ⟨a', b', e1', e2', b1', b2'⟩ := hc y hy
    rw [e2, e2'] at e
    have : a = a' ∧ b = b' := by omega
    rw [e1, e1', this.1, this.2] at hne
    exact hne rfl) (fun x hx => by
    obtain ⟨p, hp, rfl⟩ := List.mem_map.mp hx
    obtain ⟨a, b, _, e2, b1, b2⟩ := hc p hp
    rw [e2]; omega)
  rw [List.length_map] at l
  exact l
theorem DictOk.pairs {n : Nat} {kvs : List (List Key × V)} (d : DictOk n kvs) : ∀ p ∈ kvs, ∃ i j : Int, p.1 = [.inl i, .inl j] := fun p hp => by
  obtain ⟨a, b, c, rfl, _⟩ := d.ok p hp
  exact ⟨a, b, rfl⟩
/-- the web's other, in the making -/
def OI (h d : Addr) (H3 : Hp) (N : Nat) (kvs : List (List Key × V)) (H' : Hp) : Prop := H' d = some (.dT kvs) ∧ Keep h H3 H' ∧ Hand H' h ∧ DictOk N kvs
section
variable {h d p : Addr} {H3 H' H'' : Hp} {N : Nat} {kvs : List (List Key × V)} {o : HO}
theorem OI.new (x : OI h d H3 N kvs H') (f : H' p = none) : OI h d H3 N kvs (upd H' p o) := by
  obtain ⟨e, k, hh, dk⟩ := x
  exact ⟨at_upd e f, Keep.new k (Keep.free k (hh.ne f) f), hh.put (hh.ne f), dk⟩
theorem OI.draw (x : OI h d H3 N kvs H') (k' : Keep h H' H'') (hh' : Hand H'' h) : OI h d H3 N kvs H'' := by
  obtain ⟨e, k, hh, dk⟩ := x
  obtain ⟨_, _, eh, _⟩ := hh
  exact ⟨k' d _ (ne_of e eh (by intro z; cases z)) e, Keep.trans k k', hh', dk⟩
theorem OI.same (x : OI h d H3 N kvs H') (s : Same H' H'') : OI h d H3 N kvs H'' := x.draw (Same.keep s) (x.2.2.1.same s)
theorem OI.set (x : OI h d H3 N kvs H') (f : H3 d = none) {kvs' : List (List Key × V)} (dk' : DictOk N kvs') : OI h d H3 N kvs' (upd H' d (.dT kvs')) := by
  obtain ⟨e, k, hh, dk⟩ := x
  obtain ⟨_, _, eh, _⟩ := id hh
  exact ⟨upd_same, Keep.new k f, hh.put (ne_of e eh (by intro z; cases z)), dk'⟩
end
theorem putK_keys {kvs : List (List Key × V)} {k j : List Key} {v : V} (h : j ∈ kvs.map (·.1)) : j ∈ (putK kvs k v).map (·.1) := by
  obtain ⟨x, hx, rfl⟩ := List.mem_map.mp h
  unfold putK
  split
  · refine List.mem_map.mpr ⟨_, List.mem_map.mpr ⟨x, hx, rfl⟩, ?_⟩
    split <;> rfl
  · exact List.mem_map.mpr ⟨x, List.mem_append_left _ hx, rfl⟩
theorem dropK_keys {kvs : List (List Key × V)} {k j : List Key} (h : j ∈ kvs.map (·.1)) (n : j ≠ k) : j ∈ (dropK kvs k).map (·.1) := by
  obtain ⟨x, hx, rfl⟩ := List.mem_map.mp h
  exact List.mem_map.mpr ⟨x, List.mem_filter.mpr ⟨hx, decide_eq_true n⟩, rfl⟩
/-- the web's other, its keys being gone through -/
def OL (h d : Addr) (H3 : Hp) (N : Nat) (p : Addr) (es : List (Addr × Int × Int)) (i : Nat) (kvs : List (List Key × V)) (H' : Hp) : Prop :=
  OI h d H3 N kvs H' ∧ H' p = some (.lst (es.map fun e => V.ref e.1)) ∧ p ≠ h ∧ (∀ e ∈ es, H' e.1 = some (.tup [.int e.2.1, .int e.2.2])) ∧ (∀ j e, i ≤ j → es[j]? = some e → kE e.2.1 e.2.2 ∈ kvs.map (·.1)) ∧ (es.map fun e => kE e.2.1 e.2.2).Nodup
section
variable {h d p b : Addr} {H3 H' H'' : Hp} {N i : Nat} {kvs : List (List Key × V)} {o : HO} {es : List (Addr × Int × Int)}
theorem OL.start (x : OI h d H3 N kvs H') (f : H' p = none) (pm : (es.map fun e => kE e.2.1 e.2.2).Perm (kvs.map (·.1))) (he : ∀ e ∈ es, H' e.1 = some (.tup [.int e.2.1, .int e.2.2])) : OL h d H3 N p es 0 kvs (upd H' p (.lst (es.map fun e => V.ref e.1))) :=
  ⟨x.new f, upd_same, x.2.2.1.ne f, fun e h => at_upd (he e h) f, fun j e _ h => pm.mem_iff.mp (List.mem_map.mpr ⟨e, List.mem_of_getElem? h, rfl⟩), pm.nodup_iff.mpr x.2.2.2.nd⟩
theorem OL.next (x : OL h d H3 N p es i kvs H') : OL h d H3 N p es (i + 1) kvs H' := ⟨x.1, x.2.1, x.2.2.1, x.2.2.2.1, fun j e hj => x.2.2.2.2.1 j e (by omega), x.2.2.2.2.2⟩
theorem OL.new (x : OL h d H3 N p es i kvs H') (f : H' b = none) : OL h d H3 N p es i kvs (upd H' b o) := ⟨x.1.new f, at_upd x.2.1 f, x.2.2.1, fun e h => at_upd (x.2.2.2.1 e h) f, x.2.2.2.2⟩
theorem OL.list (x : OL h d H3 N p es i kvs H') {ys ys' : List V} (e : H' b = some (.lst ys)) (np : b ≠ p) (nh : b ≠ h) (f : H3 b = none) : OL h d H3 N p es i kvs (upd H' b (.lst ys')) := by
  obtain ⟨⟨ed, k, hh, dk⟩, ep, n, he, r⟩ := x
  exact ⟨⟨by rw [upd_ne (ne_of ed e (by intro z; cases z))]; exact ed, Keep.new k f, hh.put nh, dk⟩, by rw [upd_ne np.symm]; exact ep, n, fun t h => by rw [upd_ne (ne_of (he t h) e (by intro z; cases z))]; exact he t h, r⟩
theorem OL.draw (x : OL h d H3 N p es i kvs H') (k' : Keep h H' H'') (hh' : Hand H'' h) : OL h d H3 N p es i kvs H'' := by
  obtain ⟨O, ep, np, he, r⟩ := x
  obtain ⟨_, _, eh, _⟩ := id O.2.2.1
  exact ⟨O.draw k' hh', k' p _ np ep, np, fun e h => k' _ _ (ne_of (he e h) eh (by intro z; cases z)) (he e h), r⟩
theorem OL.set (x : OL h d H3 N p es i kvs H') (f : H3 d = none) {c c2 t : Nat} (h1 : c < c2) (h2 : c2 < N) (h3 : Ltr t) : OL h d H3 N p es i (putK kvs (kE c c2) (.str (sg t))) (upd H' d (.dT (putK kvs (kE c c2) (.str (sg t))))) := by
  obtain ⟨O, ep, np, he, hk, nd⟩ := x
  exact ⟨O.set f (O.2.2.2.put h1 h2 h3), by rw [upd_ne (ne_of ep O.1 (by intro z; cases z))]; exact ep, np, fun e h => by rw [upd_ne (ne_of (he e h) O.1 (by intro z; cases z))]; exact he e h, fun j e hj h => putK_keys (hk j e hj h), nd⟩
theorem OL.pop (x : OL h d H3 N p es i kvs H') (f : H3 d = none) {e : Addr × Int × Int} (h0 : es[i]? = some e) : OL h d H3 N p es (i + 1) (dropK kvs (kE e.2.1 e.2.2)) (upd H' d (.dT (dropK kvs (kE e.2.1 e.2.2)))) := by
  obtain ⟨O, ep, np, he, hk, nd⟩ := x
  refine ⟨O.set f (O.2.2.2.drop _), by rw [upd_ne (ne_of ep O.1 (by intro z; cases z))]; exact ep, np, fun e h => by rw [upd_ne (ne_of (he e h) O.1 (by intro z; cases z))]; exact he e h, fun j e' hj h => dropK_keys (hk j e' (by omega) h) fun z => ?_, nd⟩
  have li : i < es.length := (List.getElem?_eq_some_iff.mp h0).1
  have lj : j < es.length := (List.getElem?_eq_some_iff.mp h).1
  have e1 := (List.getElem?_eq_some_iff.mp h0).2
  have e2 := (List.getElem?_eq_some_iff.mp h).2
  have ne := List.pairwise_iff_getElem.mp nd i j (by rw [List.length_map]; exact li) (by rw [List.length_map]; exact lj) (by omega)
  simp only [List.getElem_map, e1, e2] at ne
  exact ne z.symm
end
theorem valV_mem' {kvs : List (List Key × V)} {n : Nat} (d : DictOk n kvs) {k : List Key} (h : k ∈ kvs.map (·.1)) : ∃ a b c : Nat, k = kE a b ∧ valV kvs k = some (V.str (sg c)) ∧ a < b ∧ b < n ∧ Ltr c := by
  obtain ⟨v, e⟩ := d.has h
  obtain ⟨a, b, c, e1, rfl, r⟩ := d.at e
  exact ⟨a, b, c, e1, e, r⟩
theorem kE_inj {a b c d : Int} (h : kE a b = kE c d) : a = c ∧ b = d := by
  unfold kE at h
  injection h with h1 h2
  injection h1 with h1
  injection h2 with h2
  injection h2 with h2
  exact ⟨h1, h2⟩
theorem rise_keys {es : List (Addr × Int × Int)} {ts : List Tie} (e : ts.map (fun t => ((t.1 : Int), (t.2.1 : Int))) = es.map (·.2)) (nd : (es.map fun e => kE e.2.1 e.2.2).Nodup)
    (s : (es.map (·.2)).Pairwise (fun x y => SrtO.lexB y x = false)) : ts.Pairwise tlt := by
  rw [← e, List.pairwise_map] at s
  have e2 : (es.map fun e => kE e.2.1 e.2.2) = ts.map fun t => kE t.1 t.2.1 := by
    have z := congrArg (List.map fun q : Int × Int => kE q.1 q.2) e
    rw [List.map_map, List.map_map] at z
    exact z.symm
  rw [e2] at nd
  have nd' := List.pairwise_map.mp nd
  refine (List.Pairwise.and s nd').imp fun {x y} ⟨h1, h2⟩ => ?_
  have h3 : ¬ ((y.1 : Int) < x.1 ∨ ((y.1 : Int) = x.1 ∧ (y.2.1 : Int) < x.2.1)) := fun z => by
    rw [← SrtO.lexB_iff (p := ((y.1 : Int), (y.2.1 : Int))) (q := ((x.1 : Int), (x.2.1 : Int)))] at z
    rw [z] at h1; cases h1
  have h4 : ¬ (x.1 = y.1 ∧ x.2.1 = y.2.1) := fun z => h2 (by rw [z.1, z.2])
  unfold tlt
  omega
/-- names that lead each place of the one to a like place of the other -/
structure NamesOk (w w' : Web) (ns : List Nat) : Prop where
  len : ns.length = w.1.length
  nd : ns.Nodup
  like : ∀ p q : Nat, ns[p]? = some q → q < w'.1.length ∧ w'.1[q]? = w.1[p]?
theorem cut_take (xs : List V) (n : Nat) (h : n ≤ xs.length) : cutV xs none (some (n : Nat)) = xs.take n := by
  unfold cutV
  have e : HT.sIx xs.length xs.length (some ((n : Nat) : Int)) = min n xs.length := HT.sIx_nat xs.length xs.length n
  rw [HT.sIx_none, e, List.drop_zero, Nat.sub_zero, Nat.min_eq_left h]
end Cw

namespace Cw
open PySem PySem.Spec PyProof.Rows L2
/-! ### leads -/
abbrev Lead := List (Nat × Nat)
structure LOk (w w' : Web) (ld : Lead) : Prop where
  rise : ld.Pairwise (fun x y => x.1 < y.1)
  ends : (ld.map (·.2)).Nodup
  like : ∀ p ∈ ld, p.1 < w.1.length ∧ p.2 < w'.1.length ∧ w'.1[p.2]? = w.1[p.1]?
def PairAt (K : PySem.W.Frag) (H : Hp) (v : V) (p : Nat × Nat) : Prop := ∃ a, v = .ref a ∧ SqT K H a [.int (p.1 : Nat), .int (p.2 : Nat)]
theorem PairAt.same {K : PySem.W.Frag} {H H' : Hp} {v : V} {p : Nat × Nat} (x : PairAt K H v p) (s : Same H H') : PairAt K H' v p := by
  obtain ⟨a, e, q⟩ := x
  exact ⟨a, e, Same.sqt s q⟩
theorem PairAt.keep {K : PySem.W.Frag} {H H' : Hp} {v : V} {p : Nat × Nat} {h : Addr} {ys : List V} (x : PairAt K H v p) (k : Keep h H H') (e : H h = some (.lst ys)) : PairAt K H' v p := by
  obtain ⟨a, e', q⟩ := x
  exact ⟨a, e', k.sqt e q⟩
theorem PairAt.put {K : PySem.W.Frag} {H : Hp} {v : V} {p : Nat × Nat} {b : Addr} {o : HO} (x : PairAt K H v p) (n : H b = none ∨ ∃ ys, H b = some (.lst ys)) : PairAt K (upd H b o) v p := by
  obtain ⟨a, e, q⟩ := x
  exact ⟨a, e, sqt_upd n q⟩
def Pairs (K : PySem.W.Frag) (H : Hp) (pvs : List V) (ld : Lead) : Prop := Paired (PairAt K H) pvs ld
section
variable {K : PySem.W.Frag} {H H' : Hp} {pvs : List V} {ld : Lead} {h b : Addr} {ys : List V} {o : HO}
theorem Pairs.same (x : Pairs K H pvs ld) (s : Same H H') : Pairs K H' pvs ld := Paired.imp x fun _ _ z => z.same s
theorem Pairs.keep (x : Pairs K H pvs ld) (k : Keep h H H') (e : H h = some (.lst ys)) : Pairs K H' pvs ld := Paired.imp x fun _ _ z => z.keep k e
theorem Pairs.put (x : Pairs K H pvs ld) (n : H b = none ∨ ∃ ys, H b = some (.lst ys)) : Pairs K (upd H b o) pvs ld := Paired.imp x fun _ _ z => z.put n
/-- one more pair, at a new place, and the list itself -/
theorem Pairs.more {p q : Nat} {l : Addr} {zs : List V} (x : Pairs K H pvs ld) (e : H l = some (.lst ys)) (f : H b = none) : Pairs K (upd (upd H b (.tup [.int (p : Nat), .int (q : Nat)])) l (.lst zs)) (pvs ++ [.ref b]) (ld ++ [(p, q)]) := by
  have el : (upd H b (.tup [.int (p : Nat), .int (q : Nat)])) l = some (.lst ys) := at_upd e f
  exact Paired.snoc ((x.put (.inl f)).put (.inr ⟨_, el⟩)) ⟨b, rfl, sqt_upd (.inr ⟨_, el⟩) (SqT.of upd_same)⟩
theorem Pairs.len (x : Pairs K H pvs ld) : pvs.length = ld.length := Paired.length x
end
theorem LOk.few {w w' : Web} {ld : Lead} (l : LOk w w' ld) : ld.length ≤ w'.1.length := by
  have := nodup_len w'.1.length (ld.map (·.2)) l.ends fun x hx => by
    obtain ⟨p, hp, rfl⟩ := List.mem_map.mp hx
    exact (l.like p hp).2.1
  rwa [List.length_map] at this
theorem eqv_nil (ds : List PyData) : PyData.eqv (.list ds) (.list []) = ds.isEmpty := by
  cases ds <;> simp [PyData.eqv, PyData.eqvAll]
theorem erase_zs (ls : List Nat) (j : Nat) : (zs ls).eraseIdx j = zs (ls.eraseIdx j) := erase_map _ _ _
theorem zs_at {ls : List Nat} {j x : Nat} : (zs ls)[j]? = some (x : Int) ↔ ls[j]? = some x := by
  unfold zs
  rw [List.getElem?_map, Option.map_eq_some_iff]
  constructor
  · rintro ⟨a, ha, e⟩
    rw [ha]; congr 1; omega
  · intro h
    exact ⟨x, h, rfl⟩
theorem nodup_at {ls : List Nat} (nd : ls.Nodup) {i j x : Nat} (h1 : ls[i]? = some x) (h2 : ls[j]? = some x) : i = j := by
  obtain ⟨l1, e1⟩ := List.getElem?_eq_some_iff.mp h1
  obtain ⟨l2, e2⟩ := List.getElem?_eq_some_iff.mp h2
  rcases Nat.lt_trichotomy i j with z | z | z
  · exact absurd (e1.trans e2.symm) (List.pairwise_iff_getElem.mp nd i j l1 l2 z)
  · exact z
  · exact absurd (e2.trans e1.symm) (List.pairwise_iff_getElem.mp nd j i l2 l1 z)
theorem nodup_erase {ls : List Nat} (nd : ls.Nodup) {j x : Nat} (h : ls[j]? = some x) : ∀ y, y ∈ ls.eraseIdx j ↔ y ∈ ls ∧ y ≠ x := by
  intro y
  obtain ⟨l1, e1⟩ := List.getElem?_eq_some_iff.mp h
  have p := erase_perm ls j l1
  rw [e1] at p
  have nd2 := p.nodup_iff.mpr nd
  rw [List.nodup_cons] at nd2
  have m := p.mem_iff (a := y)
  rw [List.mem_cons] at m
  constructor
  · intro hy
    exact ⟨m.mp (.inr hy), fun z => nd2.1 (z ▸ hy)⟩
  · rintro ⟨hy, ne⟩
    rcases m.mpr hy with z | z
    · exact absurd z ne
    · exact z
/-! ### led ties -/
def ldAt (ld : Lead) (p : Nat) : Option Nat := (ld.find? fun q => q.1 == p).map (·.2)
def isLed (w' : Web) (ld : Lead) (t : Tie) : Bool := match ldAt ld t.1, ldAt ld t.2.1 with
  | some a, some b => decide (tieL w'.2 a b = some t.2.2)
  | _, _ => false
def dueL (w w' : Web) (ld : Lead) : List Tie := w.2.filter (isLed w' ld)
theorem ldAt_nil (p : Nat) : ldAt [] p = none := rfl
theorem ldAt_pos {x : Nat × Nat} {r : Lead} {p : Nat} (e : x.1 = p) : ldAt (x :: r) p = some x.2 := by
  unfold ldAt; rw [List.find?_cons_of_pos (by simp [e])]; rfl
theorem ldAt_neg {x : Nat × Nat} {r : Lead} {p : Nat} (e : x.1 ≠ p) : ldAt (x :: r) p = ldAt r p := by
  unfold ldAt; rw [List.find?_cons_of_neg (by simp [e])]
theorem ldAt_none {ld : Lead} {p : Nat} (h : ∀ q ∈ ld, q.1 ≠ p) : ldAt ld p = none := by
  unfold ldAt
  rw [List.find?_eq_none.mpr fun q hq => by simp [h q hq]]; rfl
theorem filt_at (p : Nat) : ∀ ld : Lead, ld.Pairwise (fun x y => x.1 < y.1) → (ld.filter fun q => q.1 == p).map (·.2) = (ldAt ld p).toList
  | [], _ => rfl
  | x :: r, s => by
    obtain ⟨h, t⟩ := List.pairwise_cons.mp s
    by_cases e : x.1 = p
    · rw [ldAt_pos e, List.filter_cons_of_pos (by simp [e]), List.map_cons, filt_at p r t, ldAt_none fun q hq => by have := h q hq; omega]; rfl
    · rw [ldAt_neg e, List.filter_cons_of_neg (by simp [e])]; exact filt_at p r t
theorem ldAt_mem {ld : Lead} {p q : Nat} (h : ldAt ld p = some q) : (p, q) ∈ ld := by
  unfold ldAt at h
  obtain ⟨x, hx, rfl⟩ := Option.map_eq_some_iff.mp h
  have e : x.1 = p := by simpa using List.find?_some hx
  subst e
  exact List.mem_of_find?_eq_some hx
theorem led_merge (k : Nat) : ∀ (ld : Lead) (acc : List (Key × V)), ld.Pairwise (fun x y => x.1 < y.1) → valV (mergeK acc (ld.map fun p => ((.inl (p.1 : Int) : Key), V.int (p.2 : Nat)))) (.inl (k : Int)) = ((ldAt ld k).map fun q => V.int (q : Nat)).or (valV acc (.inl (k : Int)))
  | [], acc, _ => rfl
  | x :: r, acc, s => by
    obtain ⟨h, t⟩ := List.pairwise_cons.mp s
    show valV (mergeK (putK acc (.inl (x.1 : Int)) (V.int (x.2 : Nat))) (r.map _)) _ = _
    rw [led_merge k r _ t, valV_put]
    by_cases e : x.1 = k
    · rw [ldAt_pos e, ldAt_none fun q hq => by have := h q hq; omega, e, if_pos rfl]; rfl
    · rw [ldAt_neg e, if_neg (by intro z; injection z with z; omega)]
theorem led_dict (ld : Lead) (s : ld.Pairwise (fun x y => x.1 < y.1)) (k : Nat) : valV (mergeK [] (ld.map fun p => ((.inl (p.1 : Int) : Key), V.int (p.2 : Nat)))) (.inl (k : Int)) = (ldAt ld k).map fun q => V.int (q : Nat) := by
  rw [led_merge k ld [] s]
  show Option.or _ none = _
  rw [Option.or_none]
theorem optV_get (o : Option Nat) : (o.map fun c => V.str (sg c)).getD .non = optV o := by cases o <;> rfl
theorem optV_str (o : Option Nat) (c : Nat) : scal (optV o) (.str (sg c)) = true := by cases o <;> rfl
theorem optV_eq (o : Option Nat) (c : Nat) : decide (optV o = .str (sg c)) = decide (o = some c) := by
  cases o with
  | none => rfl
  | some d =>
    rw [Bool.eq_iff_iff, decide_eq_true_eq, decide_eq_true_eq]
    constructor
    · intro z
      injection z with z
      rw [sg_inj.mp z]
    · intro z
      cases z; rfl
theorem due_snoc {w' : Web} {ld : Lead} {ts : List Tie} {i : Nat} {t : Tie} (h : ts[i]? = some t) : (ts.take (i + 1)).filter (isLed w' ld) = (ts.take i).filter (isLed w' ld) ++ if isLed w' ld t = true then [t] else [] := by
  rw [take_snoc h, List.filter_append]
  congr 1
  by_cases c : isLed w' ld t = true
  · rw [if_pos c, List.filter_cons_of_pos c]; rfl
  · rw [if_neg c, List.filter_cons_of_neg c]; rfl
def Ties (K : PySem.W.Frag) (H : Hp) (xs : List V) (ts : List Tie) : Prop := Paired (TieAt K H) xs ts
section
variable {K : PySem.W.Frag} {H H' : Hp} {xs : List V} {ts : List Tie} {h b : Addr} {ys : List V} {o : HO}
theorem Ties.same (x : Ties K H xs ts) (s : Same H H') : Ties K H' xs ts := Paired.imp x fun _ _ z => z.same s
theorem Ties.keep (x : Ties K H xs ts) (k : Keep h H H') (e : H h = some (.lst ys)) : Ties K H' xs ts := Paired.imp x fun _ _ z => z.keep k e
theorem Ties.put (x : Ties K H xs ts) (n : H b = none ∨ ∃ ys, H b = some (.lst ys)) : Ties K (upd H b o) xs ts := Paired.imp x fun _ _ z => z.put n
theorem Ties.more {t : Tie} {l : Addr} {zs : List V} (x : Ties K H xs ts) (e : H l = some (.lst ys)) (f : H b = none) : Ties K (upd (upd H b (.tup [.int (t.1 : Nat), .int (t.2.1 : Nat), .str (sg t.2.2)])) l (.lst zs)) (xs ++ [.ref b]) (ts ++ [t]) := by
  have el : (upd H b (.tup [.int (t.1 : Nat), .int (t.2.1 : Nat), .str (sg t.2.2)])) l = some (.lst ys) := at_upd e f
  exact Paired.snoc ((x.put (.inl f)).put (.inr ⟨_, el⟩)) ⟨b, rfl, sqt_upd (.inr ⟨_, el⟩) (SqT.of upd_same)⟩
theorem Ties.len (x : Ties K H xs ts) : xs.length = ts.length := Paired.length x
end
theorem two_led {ld : Lead} {t : Tie} (h : ((ldAt ld t.1).toList ++ (ldAt ld t.2.1).toList).length = 2) : ∃ x y, ldAt ld t.1 = some x ∧ ldAt ld t.2.1 = some y := by
  cases e1 : ldAt ld t.1 <;> cases e2 : ldAt ld t.2.1 <;> rw [e1, e2] at h <;> simp at h
  exact ⟨_, _, rfl, rfl⟩
theorem not_two {w' : Web} {ld : Lead} {t : Tie} (h : ¬ ((ldAt ld t.1).toList ++ (ldAt ld t.2.1).toList).length = 2) : isLed w' ld t = false := by
  unfold isLed
  cases e1 : ldAt ld t.1 <;> cases e2 : ldAt ld t.2.1 <;> rw [e1, e2] at h <;> simp at h <;> rfl
theorem isLed_at {w' : Web} {ld : Lead} {t : Tie} {x y : Nat} (h1 : ldAt ld t.1 = some x) (h2 : ldAt ld t.2.1 = some y) : isLed w' ld t = decide (tieL w'.2 x y = some t.2.2) := by
  unfold isLed; rw [h1, h2]
theorem isLed_no {w' : Web} {ld : Lead} {t : Tie} (h : ldAt ld t.1 = none ∨ ldAt ld t.2.1 = none) : isLed w' ld t = false := by
  unfold isLed
  rcases h with h | h
  · rw [h]
  · rw [h]; cases ldAt ld t.1 <;> rfl
theorem Pairs.refs {K : PySem.W.Frag} {H : Hp} : ∀ {pvs : List V} {ld : Lead}, Pairs K H pvs ld → ∃ ps : List Addr, pvs = ps.map V.ref ∧ Paired (fun p (kv : Key × V) => SqT K H p [kV kv.1, kv.2]) ps (ld.map fun p => ((.inl (p.1 : Int) : Key), V.int (p.2 : Nat)))
  | _, _, .nil => ⟨[], rfl, .nil⟩
  | _, _, .cons h t => by
    obtain ⟨a, rfl, q⟩ := h
    obtain ⟨ps, rfl, r⟩ := Pairs.refs t
    exact ⟨a :: ps, rfl, .cons q r⟩
end Cw

namespace Cw
open PySem PySem.Spec PyProof.Rows L2
/-! ### data told -/
def tieD (t : Tie) : PyData := .tuple [.int (t.1 : Nat), .int (t.2.1 : Nat), .str (sg t.2.2)]
def pairD (p : Nat × Nat) : PyData := .tuple [.int (p.1 : Nat), .int (p.2 : Nat)]
def tiesD (ts : List Tie) : PyData := .list (ts.map tieD)
def pairsD (ld : Lead) : PyData := .list (ld.map pairD)
theorem Ties.dpa {K : PySem.W.Frag} {H : Hp} : ∀ {xs : List V} {ts : List Tie}, Ties K H xs ts → DpAll K H xs (ts.map tieD)
  | _, _, .nil => .nil
  | _, _, .cons h t => by
    obtain ⟨a, rfl, q⟩ := h
    exact .cons (.tup q (.cons (.int _) (.cons (.int _) (.cons (.str _) .nil)))) (Ties.dpa t)
theorem Pairs.dpa {K : PySem.W.Frag} {H : Hp} : ∀ {xs : List V} {ts : Lead}, Pairs K H xs ts → DpAll K H xs (ts.map pairD)
  | _, _, .nil => .nil
  | _, _, .cons h t => by
    obtain ⟨a, rfl, q⟩ := h
    exact .cons (.tup q (.cons (.int _) (.cons (.int _) .nil))) (Pairs.dpa t)
theorem Ties.dp {K : PySem.W.Frag} {H : Hp} {xs : List V} {ts : List Tie} {l : Addr} (x : Ties K H xs ts) (e : H l = some (.lst xs)) : Dp K H (.ref l) (tiesD ts) := .lst (SqL.of e) x.dpa
theorem Pairs.dp {K : PySem.W.Frag} {H : Hp} {xs : List V} {ts : Lead} {l : Addr} (x : Pairs K H xs ts) (e : H l = some (.lst xs)) : Dp K H (.ref l) (pairsD ts) := .lst (SqL.of e) x.dpa
theorem lay_all : ∀ {ds : List PyData} {k : Nat}, (∀ d ∈ ds, d.canLay0 = true ∧ d.depth ≤ k) → PyData.canLayAll0 ds = true ∧ PyData.depthAll ds ≤ k
  | [], k, _ => ⟨by simp [PyData.canLayAll0], by simp [PyData.depthAll]⟩
  | d :: ds, k, h => by
    obtain ⟨h1, h2⟩ := lay_all (ds := ds) (k := k) fun x hx => h x (List.mem_cons_of_mem _ hx)
    obtain ⟨h3, h4⟩ := h d List.mem_cons_self
    exact ⟨by simp [PyData.canLayAll0, h1, h3], by simp only [PyData.depthAll]; omega⟩
theorem shaped_list {ds : List PyData} {k : Nat} (hk : k ≤ 63) (h : ∀ d ∈ ds, d.canLay0 = true ∧ d.depth ≤ k) : SeqAt.shaped (.list ds) = true := by
  obtain ⟨h1, h2⟩ := lay_all h
  have : PyData.depth (.list ds) ≤ 64 := by simp only [PyData.depth]; omega
  simp [SeqAt.shaped, PyData.canLay0, h1, this]
theorem good_eqv {d : PyData} (h : SeqAt.shaped d = true) : PyData.eqv d d = true := SeqAt.eqv_refl d (SeqAt.canLay_of_shaped h)
theorem str_ok : ∀ c : Nat, c < 123 → PyData.strOk (sg c) = true := fun c h => by
  unfold PyData.strOk sg
  simp; omega
theorem tieD_lay {t : Tie} (h : Ltr t.2.2) : (tieD t).canLay0 = true ∧ (tieD t).depth ≤ 1 := by
  have := str_ok t.2.2 (by unfold Ltr at h; omega)
  unfold tieD
  simp [PyData.canLay0, PyData.canLayAll0, PyData.depth, PyData.depthAll, this]
theorem pairD_lay (p : Nat × Nat) : (pairD p).canLay0 = true ∧ (pairD p).depth ≤ 1 := by
  unfold pairD
  simp [PyData.canLay0, PyData.canLayAll0, PyData.depth, PyData.depthAll]
theorem tiesD_good {ts : List Tie} (h : ∀ t ∈ ts, Ltr t.2.2) : SeqAt.shaped (tiesD ts) = true := shaped_list (k := 1) (by decide) fun d hd => by
  obtain ⟨t, ht, rfl⟩ := List.mem_map.mp hd
  exact tieD_lay (h t ht)
theorem pairsD_good (ld : Lead) : SeqAt.shaped (pairsD ld) = true := shaped_list (k := 1) (by decide) fun d hd => by
  obtain ⟨t, ht, rfl⟩ := List.mem_map.mp hd
  exact pairD_lay t
theorem due_good {w w' : Web} (W : WOk w) (ld : Lead) : SeqAt.shaped (tiesD (dueL w w' ld)) = true := tiesD_good fun t ht => (W.ends t (List.mem_filter.mp ht).1).2.2
/-! ### what is held -/
def HeldG (K : PySem.W.Frag) (H : Hp) (hd : Addr) (m : Nat) : Prop := ∃ (hs : List V) (xs : List PyData), H hd = some (.lst hs) ∧ hs.length ≤ m ∧ DpAll K (del H hd) hs (xs.map fun x => PyData.list [x, x]) ∧ ∀ x ∈ xs, SeqAt.shaped x = true
/-- and nothing of it at h -/
def HeldH (K : PySem.W.Frag) (H : Hp) (hd h : Addr) (m : Nat) : Prop := ∃ (hs : List V) (xs : List PyData), H hd = some (.lst hs) ∧ hs.length ≤ m ∧ DpAll K (del (del H hd) h) hs (xs.map fun x => PyData.list [x, x]) ∧ ∀ x ∈ xs, SeqAt.shaped x = true
section
variable {K : PySem.W.Frag} {H H' : Hp} {hd h : Addr} {m n : Nat}
theorem HeldG.same (x : HeldG K H hd m) (s : Same H H') : HeldG K H' hd m := by
  obtain ⟨hs, xs, e, l, a, g⟩ := x
  exact ⟨hs, xs, s _ _ e, l, dpa_same (Keep.del (Same.keep s)) _ _ a, g⟩
theorem HeldG.mono (x : HeldG K H hd m) (h : m ≤ n) : HeldG K H hd n := by
  obtain ⟨hs, xs, e, l, a, g⟩ := x
  exact ⟨hs, xs, e, Nat.le_trans l h, a, g⟩
theorem HeldG.hand (x : HeldG K H hd m) (s : Same H H') (f : H h = none) : HeldH K H' hd h m := by
  obtain ⟨hs, xs, e, l, a, g⟩ := x
  refine ⟨hs, xs, s _ _ e, l, dpa_same (fun b o hb => ?_) _ _ a, g⟩
  have h1 := del_same _ _ b o hb
  rw [del_ne (ne_of_none h1 f)]
  exact Keep.del (Same.keep s) b o hb
theorem HeldH.out (x : HeldH K H hd h m) : HeldG K H hd m := by
  obtain ⟨hs, xs, e, l, a, g⟩ := x
  exact ⟨hs, xs, e, l, dpa_same (del_same _ _) _ _ a, g⟩
theorem keep_dd (k : Keep h H H') : Same (del (del H hd) h) (del (del H' hd) h) := Keep.del fun b o nb e => by
  have := del_same _ _ b o e
  by_cases n : b = hd
  · unfold del at e; rw [if_pos n] at e; cases e
  · rw [del_ne n]; exact k b o nb this
theorem HeldH.keep (x : HeldH K H hd h m) (k : Keep h H H') (n : hd ≠ h) : HeldH K H' hd h m := by
  obtain ⟨hs, xs, e, l, a, g⟩ := x
  exact ⟨hs, xs, k _ _ n e, l, dpa_same (keep_dd k) _ _ a, g⟩
theorem HeldH.same (x : HeldH K H hd h m) (s : Same H H') (n : hd ≠ h) : HeldH K H' hd h m := x.keep (Same.keep s) n
end
theorem sqt_del {K : PySem.W.Frag} {H : Hp} {a b : Addr} {xs ys : List V} (e : H b = some (.lst ys)) (q : SqT K H a xs) : SqT K (del H b) a xs := by
  rcases q with (q | ⟨o, q⟩) | q
  · exact .inl (.inl (del_at (ne_of q e (by intro z; cases z)) q))
  · exact .inl (.inr ⟨o, del_at (ne_of q e (by intro z; cases z)) q⟩)
  · exact .inr q
theorem Ties.del {K : PySem.W.Frag} {H : Hp} {b : Addr} {xs ys : List V} {ts : List Tie} (x : Ties K H xs ts) (e : H b = some (.lst ys)) : Ties K (Cw.del H b) xs ts := Paired.imp x fun _ _ ⟨a, r, q⟩ => ⟨a, r, sqt_del e q⟩
/-- a pair of lists of ties, held -/
theorem dp_two {K : PySem.W.Frag} {H : Hp} {hd h r t f : Addr} {hs hv tv fv : List V} {ts : List Tie} (ehd : H hd = some (.lst hs)) (eh : H h = some (.lst hv)) (er : H r = some (.lst [.ref t, .ref f])) (et : H t = some (.lst tv)) (ef : H f = some (.lst fv)) (x : Ties K H tv ts) (y : Ties K H fv ts)
    (n0 : h ≠ hd) (n1 : r ≠ hd) (n2 : t ≠ hd) (n3 : f ≠ hd) (m1 : r ≠ h) (m2 : t ≠ h) (m3 : f ≠ h) : Dp K (del (del H hd) h) (.ref r) (.list [tiesD ts, tiesD ts]) := by
  have eh' := del_at n0 eh
  refine .lst (SqL.of (del_at m1 (del_at n1 er))) (.cons ?_ (.cons ?_ .nil))
  · exact ((x.del ehd).del eh').dp (del_at m2 (del_at n2 et))
  · exact ((y.del ehd).del eh').dp (del_at m3 (del_at n3 ef))
end Cw

namespace Cw
open PySem PySem.Spec PyProof.Rows L2
theorem LOk.sub {w w' : Web} {ld kd : Lead} (L : LOk w w' ld) (s : kd.Sublist ld) : LOk w w' kd := ⟨L.rise.sublist s, L.ends.sublist (s.map _), fun p hp => L.like p (s.subset hp)⟩
theorem ldAt_iff {ld : Lead} (s : ld.Pairwise (fun x y => x.1 < y.1)) {p q : Nat} : ldAt ld p = some q ↔ (p, q) ∈ ld := by
  refine ⟨ldAt_mem, fun h => ?_⟩
  cases e : ldAt ld p with
  | none =>
    have : ld.find? (fun q => q.1 == p) = none := by
      unfold ldAt at e
      exact Option.map_eq_none_iff.mp e
    have := List.find?_eq_none.mp this _ h
    simp at this
  | some r =>
    have h2 := ldAt_mem e
    obtain ⟨i, hi, e1⟩ := List.getElem_of_mem h
    obtain ⟨j, hj, e2⟩ := List.getElem_of_mem h2
    have pw := List.pairwise_iff_getElem.mp s
    rcases Nat.lt_trichotomy i j with z | z | z
    · have := pw i j hi hj z
      rw [e1, e2] at this
      exact absurd this (Nat.lt_irrefl _)
    · subst z
      rw [e1] at e2
      injection e2 with _ e2
      rw [e2]
    · have := pw j i hj hi z
      rw [e1, e2] at this
      exact absurd this (Nat.lt_irrefl _)
theorem isLed_iff {w' : Web} {ld : Lead} (s : ld.Pairwise (fun x y => x.1 < y.1)) {t : Tie} : isLed w' ld t = true ↔ ∃ a b, (t.1, a) ∈ ld ∧ (t.2.1, b) ∈ ld ∧ tieL w'.2 a b = some t.2.2 := by
  constructor
  · intro h
    cases e1 : ldAt ld t.1 with
    | none => rw [isLed_no (.inl e1)] at h; cases h
    | some a =>
      cases e2 : ldAt ld t.2.1 with
      | none => rw [isLed_no (.inr e2)] at h; cases h
      | some b =>
        rw [isLed_at e1 e2] at h
        exact ⟨a, b, ldAt_mem e1, ldAt_mem e2, of_decide_eq_true h⟩
  · rintro ⟨a, b, h1, h2, h3⟩
    rw [isLed_at ((ldAt_iff s).mpr h1) ((ldAt_iff s).mpr h2)]
    exact decide_eq_true h3
def onT (p : Nat) (t : Tie) : Bool := t.1 == p || t.2.1 == p
/-- the pairs on some ties -/
def tiedL (ts : List Tie) (ld : Lead) : Lead := ld.filter fun p => ts.any (onT p.1)
theorem due_tied {w w' : Web} {ld : Lead} (L : LOk w w' ld) : dueL w w' (tiedL (dueL w w' ld) ld) = dueL w w' ld := by
  have sub : (tiedL (dueL w w' ld) ld).Sublist ld := List.filter_sublist
  refine List.filter_congr fun t ht => ?_
  rw [Bool.eq_iff_iff, isLed_iff (L.rise.sublist sub), isLed_iff L.rise]
  constructor
  · rintro ⟨a, b, h1, h2, h3⟩
    exact ⟨a, b, sub.subset h1, sub.subset h2, h3⟩
  · rintro ⟨a, b, h1, h2, h3⟩
    have hd : t ∈ dueL w w' ld := List.mem_filter.mpr ⟨ht, (isLed_iff L.rise).mpr ⟨a, b, h1, h2, h3⟩⟩
    exact ⟨a, b, List.mem_filter.mpr ⟨h1, List.any_eq_true.mpr ⟨t, hd, by simp [onT]⟩⟩, List.mem_filter.mpr ⟨h2, List.any_eq_true.mpr ⟨t, hd, by simp [onT]⟩⟩, h3⟩
theorem optV_scal2 (a b : Option Nat) : scal (optV a) (optV b) = true := by cases a <;> cases b <;> rfl
theorem optV_inj (a b : Option Nat) : decide (optV a = optV b) = decide (a = b) := by
  rw [Bool.eq_iff_iff, decide_eq_true_eq, decide_eq_true_eq]
  constructor
  · intro z
    cases a <;> cases b
    · rfl
    · cases z
    · cases z
    · injection z with z; rw [sg_inj.mp z]
  · intro z; rw [z]
theorem tiedL_snoc {ts : List Tie} {ld : Lead} {i : Nat} {p : Nat × Nat} (h : ld[i]? = some p) : tiedL ts (ld.take (i + 1)) = tiedL ts (ld.take i) ++ if ts.any (onT p.1) = true then [p] else [] := by
  unfold tiedL
  rw [take_snoc h, List.filter_append]
  congr 1
  by_cases c : ts.any (onT p.1) = true
  · rw [if_pos c, List.filter_cons_of_pos (p := fun p : Nat × Nat => ts.any (onT p.1)) c]; rfl
  · rw [if_neg c, List.filter_cons_of_neg (p := fun p : Nat × Nat => ts.any (onT p.1)) c]; rfl
/-- a block in a block -/
theorem any_ends (ts : List Tie) (p : Nat) : (!(((ts.map ends).filter fun e => e.1 == p || e.2 == p).map pairD).isEmpty) = ts.any (onT p) := by
  induction ts with
  | nil => rfl
  | cons t r ih =>
    rw [List.any_cons, List.map_cons]
    by_cases c : onT p t = true
    · rw [List.filter_cons_of_pos (p := fun e : Nat × Nat => e.1 == p || e.2 == p) (a := ends t) c, c, Bool.true_or]; rfl
    · rw [List.filter_cons_of_neg (p := fun e : Nat × Nat => e.1 == p || e.2 == p) (a := ends t) c, ih, Bool.eq_false_iff.mpr c, Bool.false_or]
theorem sh2 (x y : Int) : SeqAt.shaped (.tuple [.int x, .int y]) = true := by simp [SeqAt.shaped, PyData.canLay0, PyData.canLayAll0, PyData.depth, PyData.depthAll]
theorem two_good (a b : Lead) : SeqAt.shaped (.list [pairsD a, pairsD b]) = true := shaped_list (k := 2) (by decide) fun d hd => by
  have g : ∀ l : Lead, (pairsD l).canLay0 = true ∧ (pairsD l).depth ≤ 2 := fun l => by
    obtain ⟨h1, h2⟩ := lay_all (ds := l.map pairD) (k := 1) fun d hd => by
      obtain ⟨t, ht, rfl⟩ := List.mem_map.mp hd
      exact pairD_lay t
    unfold pairsD
    exact ⟨by simp only [PyData.canLay0]; exact h1, by simp only [PyData.depth]; omega⟩
  rcases List.mem_cons.mp hd with e | hd
  · rw [e]; exact g a
  · rw [List.mem_singleton.mp hd]; exact g b
end Cw

namespace Cw
open PySem PySem.Spec PyProof.Rows L2 CwCmb
theorem d_iCmb {K : PySem.W.Frag} {ta : TA} {σ : L2.St} {H : Hp} {R : It → Hp → Prop} (h : ta σ H fun vs H1 => ∃ a xs, vs = [.ref a, .int 2] ∧ SqL K H1 a xs ∧ xs.length ≤ 100000 ∧ R (Itcb xs) H1) : iCmb K ta σ H R := h
def agr (w w' : Web) (p q : Nat × Nat) : Bool := decide (tieL w.2 p.1 q.1 = tieL w'.2 p.2 q.2)
/-- any two pairs have like ties in both webs, or none in both -/
def lieB (w w' : Web) (ld : Lead) : Bool := ld.all fun p => ld.all fun q => agr w w' p q
theorem agr_swap {w w' : Web} {p q : Nat × Nat} (h : agr w w' p q = true) : agr w w' q p = true := by
  unfold agr at h ⊢
  rw [tieL_swap w.2 q.1 p.1, tieL_swap w'.2 q.2 p.2]
  exact h
theorem agr_self {w w' : Web} (W : WOk w) (W' : WOk w') (p : Nat × Nat) : agr w w' p p = true := by
  unfold agr
  rw [tieL_self W, tieL_self W']; rfl
theorem lieB_of {w w' : Web} (W : WOk w) (W' : WOk w') {ld : Lead} (h : ∀ (i j : Nat) p q, i < j → ld[i]? = some p → ld[j]? = some q → agr w w' p q = true) : lieB w w' ld = true := by
  refine List.all_eq_true.mpr fun p hp => List.all_eq_true.mpr fun q hq => ?_
  obtain ⟨i, hi, e1⟩ := List.getElem_of_mem hp
  obtain ⟨j, hj, e2⟩ := List.getElem_of_mem hq
  have g1 : ld[i]? = some p := by rw [List.getElem?_eq_getElem hi, e1]
  have g2 : ld[j]? = some q := by rw [List.getElem?_eq_getElem hj, e2]
  rcases Nat.lt_trichotomy i j with z | z | z
  · exact h i j p q z g1 g2
  · subst z
    rw [g1] at g2; cases g2
    exact agr_self W W' p
  · exact agr_swap (h j i q p z g2 g1)
theorem lieB_no {w w' : Web} {ld : Lead} {p q : Nat × Nat} (hp : p ∈ ld) (hq : q ∈ ld) (h : ¬ agr w w' p q = true) : lieB w w' ld = false := by
  rw [Bool.eq_false_iff]
  intro z
  exact h (List.all_eq_true.mp (List.all_eq_true.mp z p hp) q hq)
def optS (o : Option Nat) : V := (o.map fun c => V.str (sg c)).getD (.str (Str.ofString ""))
theorem optS_scal (a b : Option Nat) : scal (optS a) (optS b) = true := by cases a <;> cases b <;> rfl
theorem sg_ne (c : Nat) : sg c ≠ Str.ofString "" := by
  intro z
  have := congrArg (fun x : Str => x.cps.size) z
  have e : (Str.ofString "").cps.size = 0 := by decide +kernel
  simp only [e] at this
  exact absurd this (by show ¬ 1 = 0; decide)
theorem optS_inj (a b : Option Nat) : decide (optS a = optS b) = decide (a = b) := by
  rw [Bool.eq_iff_iff, decide_eq_true_eq, decide_eq_true_eq]
  constructor
  · intro z
    cases a <;> cases b
    · rfl
    · injection z with z; exact absurd z.symm (sg_ne _)
    · injection z with z; exact absurd z (sg_ne _)
    · injection z with z; rw [sg_inj.mp z]
  · intro z; rw [z]
theorem Paired.drop {α β : Type} {F : α → β → Prop} : ∀ {xs : List α} {ys : List β} (n : Nat), Paired F xs ys → Paired F (xs.drop n) (ys.drop n)
  | _, _, 0, h => h
  | _, _, n + 1, .nil => .nil
  | _, _, n + 1, .cons _ t => Paired.drop n t
theorem Paired.take {α β : Type} {F : α → β → Prop} : ∀ {xs : List α} {ys : List β} (n : Nat), Paired F xs ys → Paired F (xs.take n) (ys.take n)
  | _, _, 0, h => .nil
  | _, _, n + 1, .nil => .nil
  | _, _, n + 1, .cons a t => .cons a (Paired.take n t)
theorem Pairs.cut {K : PySem.W.Frag} {H : Hp} {pvs : List V} {ld : Lead} (x : Pairs K H pvs ld) (lo hi : Option Int) : ∃ kd, kd.Sublist ld ∧ Pairs K H (cutV pvs lo hi) kd :=
  ⟨_, (List.take_sublist _ _).trans (List.drop_sublist _ _), Paired.take _ (Paired.drop _ x)⟩
end Cw

namespace Cw
open PySem PySem.Spec PyProof.Rows L2
theorem d_dc {σ : L2.St} {H : Hp} {Q : VK} {wi : TI} {g : TG} {tt : TT} {tk tv : TE} {vs : List Nat} (h : wi σ H fun J H1 => ∀ D, H1 D = none → ∃ W : Nat → Nat → Hp → Prop, (∃ m, W 0 m (upd H1 D (.dK []))) ∧ ∀ i m H, W i m H →
  (J.stop i H ∧ Q (.ref D) H) ∨ (J.go i H ∧ ∃ Nx : Hp → Prop, (∀ H', Nx H' → ∃ m', m' < m ∧ W (i + 1) m' H') ∧ ∀ x H', J.yld i H x H' → g x (wipe σ vs) H' fun σ2 H2 => wipe σ2 vs = wipe σ vs ∧ tt σ2 H2 fun b H3 =>
    if b = true then tk σ2 H3 fun y H4 => tv σ2 H4 fun z H5 => ∃ kvs k, y = kV k ∧ H5 D = some (.dK kvs) ∧ kvs.length < sizeLine ∧ Nx (upd H5 D (.dK (putK kvs k z))) else Nx H3)) : tDc wi g tt tk tv vs σ H Q := h
/-- the dict made over what is walked -/
theorem dc_it {J : It} {n : Nat} {G : Hp → Prop} {Y : Nat → Hp → V → Hp → Prop} (w : Walk J n G Y) {g : TG} {tt : TT} {tk tv : TE} {vs : List Nat} {σ : L2.St} {H1 : Hp} {D : Addr} {Qd : Hp → Prop} (Pv : Nat → Hp → Prop) (h0 : Pv 0 (upd H1 D (.dK []))) (hG : ∀ i H, i ≤ n → Pv i H → G H)
    (hs : ∀ i x H H', i < n → Pv i H → Y i H x H' → g x (wipe σ vs) H' fun σ2 H2 => wipe σ2 vs = wipe σ vs ∧ tt σ2 H2 fun b H3 =>
      if b = true then tk σ2 H3 fun y H4 => tv σ2 H4 fun z H5 => ∃ kvs k, y = kV k ∧ H5 D = some (.dK kvs) ∧ kvs.length < sizeLine ∧ Pv (i + 1) (upd H5 D (.dK (putK kvs k z))) else Pv (i + 1) H3) (hd : ∀ H, Pv n H → Qd H) :
    ∃ W : Nat → Nat → Hp → Prop, (∃ m, W 0 m (upd H1 D (.dK []))) ∧ ∀ i m H, W i m H →
      (J.stop i H ∧ Qd H) ∨ (J.go i H ∧ ∃ Nx : Hp → Prop, (∀ H', Nx H' → ∃ m', m' < m ∧ W (i + 1) m' H') ∧ ∀ x H', J.yld i H x H' → g x (wipe σ vs) H' fun σ2 H2 => wipe σ2 vs = wipe σ vs ∧ tt σ2 H2 fun b H3 =>
        if b = true then tk σ2 H3 fun y H4 => tv σ2 H4 fun z H5 => ∃ kvs k, y = kV k ∧ H5 D = some (.dK kvs) ∧ kvs.length < sizeLine ∧ Nx (upd H5 D (.dK (putK kvs k z))) else Nx H3) := by
  refine ⟨fun i m H => m = n - i ∧ i ≤ n ∧ Pv i H, ⟨n, by simp, Nat.zero_le _, h0⟩, ?_⟩
  rintro i m H ⟨rfl, hi, p⟩
  have q := hG i H hi p
  by_cases hlt : i < n
  · refine .inr ⟨w.goes i H hlt q, fun H' => Pv (i + 1) H', fun H' h' => ⟨n - (i + 1), by omega, rfl, by omega, h'⟩, fun x H' hy => ?_⟩
    exact hs i x H H' hlt p (w.yields i H x H' hlt q hy)
  · have e : i = n := by omega
    subst e
    exact .inl ⟨w.stops H q, hd H p⟩
/-- where p stands among some places -/
def posOf (os : List Nat) (p : Nat) : Option Nat := os.findIdx? (· == p)
theorem posOf_snoc (os : List Nat) (q p : Nat) (h : q ∉ os) : posOf (os ++ [q]) p = if p = q then some os.length else posOf os p := by
  unfold posOf
  rw [List.findIdx?_append]
  by_cases e : p = q
  · subst e
    rw [if_pos rfl]
    have n : os.findIdx? (· == p) = none := List.findIdx?_eq_none_iff.mpr fun x hx => by
      simp only [beq_eq_false_iff_ne]
      exact fun z => h (z ▸ hx)
    rw [n]; simp
  · rw [if_neg e]
    have : [q].findIdx? (· == p) = none := by
      rw [List.findIdx?_eq_none_iff]
      intro x hx
      rw [List.mem_singleton.mp hx]
      simp only [beq_eq_false_iff_ne]
      exact fun z => e z.symm
    rw [this]; simp
def cutTie (os : List Nat) (t : Tie) : Option Tie := (posOf os t.1).bind fun a => (posOf os t.2.1).map fun b => (a, b, t.2.2)
/-- the web of some places alone, called by their order -/
def cutL (w : Web) (os : List Nat) : Web := (os.map fun p => w.1.getD p 0, w.2.filterMap (cutTie os))
/-! ### name = {k: v for ..} on one line -/
section
variable {X : Cx}
theorem sw_dict {kx vx : Expr} {gs : List Comprehension} {scope : Scope} {pos py : Pos} {y : Str} {l : Nat} {env : Env} (hk : env.scope.kind = .function) (hy : env.scope.names.lookup y = some .local) (hl : (py.line == pos.line) = true)
    (ha : (scope.names.any fun (n, k) => n == y && (k == .local || k == .cell)) = false) : swapsWith (.DictComp kx vx gs scope pos) (some (.Name y py)) l env = pure true := by
  have e1 : env.blockKind = .function := by rw [Env.blockKind, hk]; rfl
  have e2 : env.kindOf y = some .local := hy
  simp only [swapsWith, e1, e2, ha, Expr.pos, hl]
  rfl
theorem ps_setDc {i : Nat} {y : Str} {py : Pos} {kx vx tg iter : Expr} {ifs : List Expr} {scope : Scope} {own : List (Str × Nat)} {pos spos : Pos} {wi : TI} {g : TG} {tt : TT} {tk tv : TE} (hc : X.calm = true) (hN : X.N.Nodup) (hy : X.N[i]? = some y)
    (hyl : X.env.scope.names.lookup y = some .local) (hsw : swapsWith (.DictComp kx vx [⟨tg, iter, ifs, 0⟩] scope pos) (some (.Name y py)) spos.line X.env = pure true) (hi : PI X tg iter wi) (ok : BlkOk X.N X.env.scope scope own)
    (hg : ∀ (s : Shared) (H : Hp) (C : Addr) (cl : List (Str × Addr)) (fp : List Addr), PG (X.blk s H scope (compEnvC scope cl C X.env) fp) tg g)
    (ht : ∀ (s : Shared) (H : Hp) (C : Addr) (cl : List (Str × Addr)) (fp : List Addr), PTs (X.blk s H scope (compEnvC scope cl C X.env) fp) ifs tt)
    (hkx : ∀ (s : Shared) (H : Hp) (C : Addr) (cl : List (Str × Addr)) (fp : List Addr), PE (X.blk s H scope (compEnvC scope cl C X.env) fp) kx tk)
    (hvx : ∀ (s : Shared) (H : Hp) (C : Addr) (cl : List (Str × Addr)) (fp : List Addr), PE (X.blk s H scope (compEnvC scope cl C X.env) fp) vx tv) (hs : ∀ x, foldedSetIterable iter X.env x = pure x := by intro _; rfl) :
    PS X (.Assign [.Name y py] (.DictComp kx vx [⟨tg, iter, ifs, 0⟩] scope pos) spos) (tAsg (tDc wi g tt tk tv (own.map (·.2))) (gName i)) := by
  refine ⟨fun pins s σ H D I h => ?_⟩
  have h : tDc wi g tt tk tv (own.map (·.2)) σ H (fun x H1 => gName i x σ H1 D.nx) := h
  rw [exec_Assign_Name_used _ _ _ _ hsw]
  refine wpAny_bind (wpAny_standAt (wpAny_bind ?_))
  refine wpAny_bind (thn (dc_core (Qf := fun _ s' => SP X pins D .next s') hc hN I hi ok hg ht hkx hvx hs h fun L C s' m H' I' q hn f => ?_) fun _ s' hq => wpAny_pure (wpAny_pure hq))
  refine wpAny_assign_Name (store_ok2 (v := V.ref L) I' hN hy (.inl hyl) rfl (fun s2 I2 ⟨a, sb, ha⟩ => ?_) (.inr hyl))
  obtain ⟨f0, f1, f2, f3, f4, f5⟩ := f
  have ne : C ≠ a := ha.elim (fun z => z ▸ f1) fun z e => f4 y a z e.symm
  exact ⟨m, hn.sameBut sb ne, fun h3 sb3 => ⟨_, H', I2.turned (t' := s2.toks) (fun b o hb e => (sb3.2 b hb).trans e) f0 f1 f3 f4 f5, q⟩⟩
end
theorem nat_list {ns : List Int} {qs : List Nat} (pm : ns.Perm (zs qs)) : ∃ os : List Nat, ns = zs os ∧ os.Perm qs := by
  have h : ∀ n ∈ ns, ((n.toNat : Nat) : Int) = n := fun n hn => by
    obtain ⟨q, _, rfl⟩ := List.mem_map.mp (pm.mem_iff.mp hn)
    rfl
  have e : ns = zs (ns.map Int.toNat) := by
    unfold zs
    rw [List.map_map]
    exact (List.map_id ns).symm.trans (List.map_congr_left fun n hn => (h n hn).symm)
  refine ⟨ns.map Int.toNat, e, ?_⟩
  have z := pm.map Int.toNat
  have e2 : (zs qs).map Int.toNat = qs := by
    unfold zs
    rw [List.map_map]
    exact (List.map_congr_left fun n _ => (rfl : (Int.toNat ∘ fun o : Nat => (o : Int)) n = id n)).trans (List.map_id qs)
  rwa [e2] at z
theorem cutTie_snoc {os : List Nat} {ts : List Tie} {i : Nat} {t : Tie} (h : ts[i]? = some t) : (ts.take (i + 1)).filterMap (cutTie os) = (ts.take i).filterMap (cutTie os) ++ (cutTie os t).toList := by
  rw [take_snoc h, List.filterMap_append]
  cases e : cutTie os t with
  | none => rw [List.filterMap_cons_none e]; rfl
  | some x => rw [List.filterMap_cons_some e]; rfl
end Cw

/-! sets of whole numbers: set(a list), {one}; a def's code told to its body -/
namespace Cw
open PySem PySem.Spec PySem.Calls PyProof.Rows L2
section
variable {P : Program} {w : World} {A : Around} {E : Value → Shared → Prop} {s : Shared}
abbrev noSet (w : World) : Obj := { cls := .type "set", dict := none, data := .set #[] 0 (.fresh 0 0 (!w.params.followText "set-order")) }
set_option maxHeartbeats 3200000 in
theorem call_set_lstI {l : Addr} {items : Array Value} (ns : List Int) {Q : Value → Shared → Prop} (hh : A.handled = none) (lst : s.heap.IsList l items) (nums : IntsAre items.toList ns) (room : ns.length + 1 < scanBound)
    (h : ∀ (h' : Heap) (tk c : Nat), SetR w h' s.heap.objs.size (fun j => decide (j ∈ ns)) c → c ≤ ns.length → (∀ b o, s.heap.get? b = some o → h'.get? b = some o) → Q (.ref s.heap.objs.size) { s with heap := h', toks := tk }) :
    wpAny (model P w) A (call (.type "set") [.ref l]) Q E s := by
  have many : items.size = ns.length := by
    have z := IntsAre.length nums
    rwa [Array.length_toList] at z
  obtain ⟨c, tl, hmro⟩ := F.called_set.mro
  have hmade := F.called_set.made
  have hsub := F.called_set.sub
  (refine wpAny_call (codeAny_of_tree ?_))
  show wpAny _ _ (callAny (.type "set") _) _ _ _
  (refine wpAny_pure ⟨Code.quiet_builtin _ (by decide +kernel), codeAny_builtin F.entry_type_call ?_⟩)
  (rw [Around.under_plain (weight_type_call_type "set" [.ref l] []) rfl])
  have h1 := F.called_set.notType
  have h2 := F.called_set.canCreate
  have hct := F.typeCall_set_1 (.ref l)
  (repeat (any_goals (first | assumption | wp_step)))
  refine codeAny_mono (code_set_led1 (.ref l) (E := E) (Q₁ := fun obj s₁ => obj = .ref s.heap.objs.size ∧ s₁ = { s with heap := s.heap.push (noSet w) }) ⟨rfl, rfl⟩) fun r s₁ hr => ?_
  match r, hr with
  | .error e, hr => exact hr
  | .ok (.next), hr => exact hr.elim
  | .ok (.brk), hr => exact hr.elim
  | .ok (.cont), hr => exact hr.elim
  | .ok (.ret obj), hr =>
    obtain ⟨rfl, rfl⟩ := hr
    have eS : (s.heap.push (noSet w)).get? s.heap.objs.size = some (noSet w) := Heap.get?_push_size _ rfl
    have tyS : Shared.TypeIs { s with heap := s.heap.push (noSet w) } (.ref s.heap.objs.size) "set" := ⟨_, eS, rfl⟩
    have hli := F.called_set.init.lookup
    have hbi := F.called_set.init.bind (.ref s.heap.objs.size)
    (repeat (any_goals (first | assumption | wp_step)))
    refine codeAny_mono (codeAny_call_builtin (R := wants (fun r s₂ => r = .none ∧ ∃ h' tk c, s₂ = { s with heap := h', toks := tk } ∧ SetR w h' s.heap.objs.size (fun j => decide (j ∈ ns)) c ∧ c ≤ ns.length ∧
        (∀ b o, s.heap.get? b = some o → h'.get? b = some o)) E) F.called_set.init.plain F.entry_set_init (check_set_init_1 tyS ?_)) fun r₂ s₂ hr₂ => ?_
    · obtain ⟨ol, eol, cl, nl, dl⟩ := lst
      obtain ⟨lcls, ldict, ldata, lslots⟩ := ol
      simp only at cl dl
      subst cl
      subst dl
      have eol' : (s.heap.push (noSet w)).get? l = some { cls := .type "list", dict := ldict, data := .seq items nl, slots := lslots } := Heap.get?_push_of_some _ eol
      have hsls := F.sub_list_set
      have hslf := F.sub_list_frozenset
      have hne : (Value.type "list" == Value.type "dict") = false := by decide
      have lst1 : (s.heap.push (noSet w)).IsList l items := ⟨_, eol', rfl, nl, rfl⟩
      (unfold Builtin.«set.__init__» noKeywords; unfold Builtin.Frozenset.updateFrom)
      generalize hPI : pyIter = PI
      wp_walk
      subst hPI
      refine wpAny_pyIter_list lst1 ?_
      refine wpAny_bind (wpAny_runValue ?_)
      have below : l < s.heap.objs.size := Heap.lt_size eol
      have hh3 : A.in1.in1.in1.handled = none := by simp [hh]
      have sz1 : (s.heap.push (noSet w)).objs.size = s.heap.objs.size + 1 := Heap.size_push ..
      have neI : l ≠ (s.heap.push (noSet w)).objs.size := by
        rw [sz1]
        exact Nat.ne_of_lt (Nat.lt_succ_of_lt below)
      have apart : s.heap.objs.size ∉ [(s.heap.push (noSet w)).objs.size, l] := by
        rw [sz1]
        intro z
        rcases List.mem_cons.mp z with z | z
        · exact absurd z (Nat.ne_of_lt (Nat.lt_succ_self _))
        · exact absurd (List.mem_singleton.mp z) (Nat.ne_of_gt below)
      have vals : ∀ (i : Nat) (v : Value), items[i]? = some v → ∃ k t, ns[i]? = some k ∧ v = .int k t := fun i v hv => by
        have hi : i < ns.length := by rw [← many]; exact (Array.getElem?_eq_some_iff.mp hv).1
        obtain ⟨t, e⟩ := PyProof.Rows.IntsAre.int_at nums i v (by rw [Array.getElem?_toList]; exact hv)
        exact ⟨ns[i], t, List.getElem?_eq_getElem hi, by rw [e, List.getD_eq_getElem?_getD, List.getElem?_eq_getElem hi]; rfl⟩
      refine set_update_ints ((Walks.list hh3 _ l neI items).toS) s.heap.objs.size apart ns many room vals (items.size - 0) 0 _ (by omega) (Nat.zero_le _) ⟨⟨_, Heap.get?_push_size _ rfl, rfl, rfl⟩, (lst1.push _)⟩ ⟨0, Nat.le_refl 0, setR_new_at (Heap.get?_push_of_some _ eS)⟩ ?_
      intro s' c' mv le' new
      obtain ⟨h', g2, d', tk', os'⟩ := s'
      have eg : g2 = s.gens := mv.gens
      have ed : d' = s.drawn := mv.drawn
      have eo : os' = s.os := mv.os
      subst eg
      subst ed
      subst eo
      show wpAny _ _ _ _ _ _
      refine wpAny_pure ?_
      show wpAny _ _ (ret Value.none) _ _ _
      rw [many] at le'
      refine wpAny_pure ⟨rfl, h', tk', c', rfl, new, le', fun b o e => ?_⟩
      have b0 : b < s.heap.objs.size := Heap.lt_size e
      refine mv.heap b o (fun z => ?_) (Heap.get?_push_of_some _ (Heap.get?_push_of_some _ e))
      rcases List.mem_cons.mp z with z | z
      · exact absurd z (Nat.ne_of_lt b0)
      · have z := List.mem_singleton.mp z
        rw [sz1] at z
        exact absurd z (Nat.ne_of_lt (Nat.lt_succ_of_lt b0))
    · match r₂, hr₂ with
      | .error e, hr₂ => exact hr₂
      | .ok (.next), hr₂ => exact hr₂.elim
      | .ok (.brk), hr₂ => exact hr₂.elim
      | .ok (.cont), hr₂ => exact hr₂.elim
      | .ok (.ret r), hr₂ =>
        obtain ⟨rfl, h', tk, c', rfl, new, le', kept⟩ := hr₂
        (repeat (any_goals (first | assumption | wp_step)))
        exact h _ _ _ new le' kept
end
section
variable {X : Cx}
/-- set(xs), xs a list of whole numbers -/
def rSetL (K : PySem.W.Frag) (w : World) : List V → Hp → VK → Prop := fun xs H Q => ∃ (a : Addr) (ns : List Int), xs = [.ref a] ∧ SqL K H a (ns.map V.int) ∧ ns.length ≤ 1000 ∧
  ∀ p c, c ≤ ns.length → H p = none → Q (.ref p) (upd H p (SetO w p (fun k => decide (k ∈ ns)) c))
theorem cr_setL (hc : X.calm = true) : CallR X (.type "set") (rSetL X.K X.w) := by
  intro pins s σ H xs us Q I r h
  obtain ⟨a, ns, rfl, hx, few, q⟩ := h
  obtain ⟨u, rfl, ru⟩ := vals1 r
  cases ru
  obtain ⟨its, rel, lst, _⟩ := I.list hx
  refine call_set_lstI ns (I.ok.hd hc) lst.isList (by simpa using intsAre_of rel) (by unfold scanBound; omega) fun h' tk c R le kept => ?_
  exact ⟨.ref _, _, I.laid (t' := tk) kept (Nat.le_refl _) (setO_new R), rfl, q _ c le (I.hok.fresh (Nat.le_refl _))⟩
end
/-! ### {one} -/
theorem codeIn_kds {K : PySem.W.Frag} {cd : Value} {q : Str} (h : PySem.W.codeIn K cd q = true) : PySem.W.kdsCode K cd = true := by
  unfold PySem.W.codeIn at h
  unfold PySem.W.kdsCode
  split at h
  · split at h
    · rename_i e
      simp only [e]
    · cases h
  · cases h
section
variable {P : Program} {w : World} {A : Around} {E : Value → Shared → Prop} {s : Shared}
theorem newSet_led {Q : Value → Shared → Prop} (h : Q (.ref s.heap.objs.size) { s with heap := s.heap.push (noSet w) }) : wpAny (model P w) A (newSet (.type "set")) Q E s := by
  unfold newSet
  refine wpAny_bind (wpAny_byText ?_)
  dsimp only
  exact wpAny_newObj_type h
theorem display_one {b : Bool} {T : Sem Value} {Q : Value → Shared → Prop}
    (h : wpAny (model P w) A T (fun v s1 => wpAny (model P w) A (setAdd s.heap.objs.size v) (fun _ s2 => Q (.ref s.heap.objs.size) s2) E s1) E { s with heap := s.heap.push (noSet w) }) :
    wpAny (model P w) A (setDisplay .oneByOne b [(false, T)]) Q E s := by
  unfold setDisplay
  dsimp only
  rw [if_neg (by decide)]
  refine wpAny_bind (newSet_led ?_)
  dsimp only
  refine wpAny_bind (wpAny_holding ?_)
  refine wpAny_bind ?_
  show wpAny _ _ (T >>= fun v => holding [v] (evalAll []) >>= fun r => pure (v :: r)) _ _ _
  refine wpAny_bind (wpAny_mono h (fun v s1 h1 => ?_) fun _ _ x => x)
  refine wpAny_bind (wpAny_holding (wpAny_pure ?_))
  refine wpAny_pure ?_
  refine wpAny_bind (wpAny_holding ?_)
  rw [List.forIn_cons]
  refine wpAny_bind (wpAny_bind (wpAny_bind (wpAny_mono h1 (fun _ s2 h2 => wpAny_pure ?_) fun _ _ x => x)))
  dsimp only
  rw [List.forIn_nil]
  refine wpAny_pure ?_
  rw [if_neg (by decide)]
  refine wpAny_pure ?_
  refine wpAny_bind ?_
  show wpAny _ _ (forIn ([] : List (Bool × Sem Value)) PUnit.unit _) _ _ s2
  rw [List.forIn_nil]
  exact wpAny_pure (wpAny_pure (wpAny_pure h2))
end
def tSet1 (w : World) (te : TE) : TE := fun σ H Q => ∀ p, H p = none → te σ (upd H p (SetO w p (fun _ => false) 0)) fun x H1 => ∃ k : Int, x = .int k ∧ H1 p = some (SetO w p (fun _ => false) 0) ∧ Q (.ref p) (upd H1 p (SetO w p (fun j => false || decide (j = k)) 1))
theorem pe_set1 {X : Cx} {e : Expr} {te : TE} {pos : Pos} {q : Str} {wd : World} (hw : X.w = wd) (hcd : PySem.W.codeIn X.K X.env.code q = true) (he : PE X e te) (hp : PySem.W.kdsPlain e = true := by rfl) : PE X (.Set [e] 0 pos) (tSet1 wd te) := by
  subst hw
  refine ⟨fun pins s σ H Q I h => ?_⟩
  rw [arm_eval_Set]
  refine wpAny_bind (wpAny_standAt ?_)
  refine wpAny_bind (PySem.W.kds_main I.kIn (codeIn_kds hcd) fun bm => ?_)
  rw [PySem.W.kds_star [e] (by simp [hp]), List.map_map, arm_evalEach_cons]
  refine (show wpAny (model X.prog X.w) X.A (setDisplay .oneByOne bm [(false, do let v ← eval e X.env; standAt pos; pure v)]) (EP X pins σ Q) X.xe s from display_one ?_)
  have R0 : SetR X.w (s.heap.push (noSet X.w)) s.heap.objs.size (fun _ => false) 0 := setR_fresh X.w
  have f0 : H s.heap.objs.size = none := I.hok.fresh (Nat.le_refl _)
  have I1 : Inv X pins σ (upd H s.heap.objs.size (SetO X.w s.heap.objs.size (fun _ => false) 0)) { s with heap := s.heap.push (noSet X.w) } := I.laid (t' := s.toks) (fun b u g => Heap.get?_push_of_some _ g) (Nat.le_refl _) (setO_new R0)
  refine wpAny_bind (thn (he.run pins _ σ _ _ I1 (h _ f0)) fun v s1 ⟨x, H1, I2, r1, k, ex, ep, q1⟩ => ?_)
  subst ex
  obtain ⟨tk, rfl⟩ := r1
  refine wpAny_bind (wpAny_standAt (wpAny_pure ?_))
  have R1 := setO_get I2 ep
  unfold setAdd
  refine wpAny_holding ?_
  refine wpAny_bind ((intKind X.prog X.w).pyHash (k := k) (intKind_is _ _ _ _) ?_)
  refine setR_add_hashed (s := { s1 with toks := s1.toks + 1 }) R1 (by decide) fun h' sb new => ?_
  have he' : ∃ u, h'.get? s.heap.objs.size = some u := let ⟨o, _, _, _, ho, _⟩ := new; ⟨o, ho⟩
  exact ⟨.ref _, _, I2.write (e := s.heap.objs.size) (t' := s1.toks + 1) (by rw [ep]; trivial) (.inl rfl) (fun b u hb hu => (sb.2 b hb).trans hu) he' (setO_new new), rfl, q1⟩
end Cw

/-! what hangs together -/
namespace Cw
open PySem PySem.Spec PyProof.Rows L2
noncomputable def dec (p : Prop) : Bool := @decide p (Classical.propDecidable p)
theorem dec_iff {p : Prop} : dec p = true ↔ p := by unfold dec; exact @decide_eq_true_iff p (Classical.propDecidable p)
theorem dec_true {p : Prop} (h : p) : dec p = true := dec_iff.mpr h
theorem dec_false {p : Prop} (h : ¬ p) : dec p = false := by
  cases e : dec p with
  | false => rfl
  | true => exact absurd (dec_iff.mp e) h
theorem dec_congr {p q : Prop} (h : p ↔ q) : dec p = dec q := by
  rw [Bool.eq_iff_iff, dec_iff, dec_iff]; exact h
theorem mem_nb {w : Web} (W : WOk w) {p q : Nat} : q ∈ nb w.2 p ↔ ∃ t ∈ w.2, at2 p q t = true := by
  unfold nb
  rw [List.mem_filterMap]
  constructor
  · rintro ⟨t, ht, h⟩
    exact ⟨t, ht, (beside_iff (W.ends t ht).1).mp h⟩
  · rintro ⟨t, ht, h⟩
    exact ⟨t, ht, (beside_iff (W.ends t ht).1).mpr h⟩
theorem nb_symm {w : Web} (W : WOk w) {p q : Nat} (h : q ∈ nb w.2 p) : p ∈ nb w.2 q := by
  obtain ⟨t, ht, e⟩ := (mem_nb W).mp h
  exact (mem_nb W).mpr ⟨t, ht, by rw [at2_swap]; exact e⟩
theorem nb_lt {w : Web} (W : WOk w) {p q : Nat} (h : q ∈ nb w.2 p) : p < w.1.length ∧ q < w.1.length := by
  obtain ⟨t, ht, e⟩ := (mem_nb W).mp h
  have r := W.ends t ht
  rcases at2_iff.mp e with ⟨a, b⟩ | ⟨a, b⟩ <;> omega
/-- from a one comes to it -/
inductive Rch (ts : List Tie) (a : Nat) : Nat → Prop
  | base : Rch ts a a
  | step {p q : Nat} : Rch ts a p → q ∈ nb ts p → Rch ts a q
theorem Rch.trans {ts : List Tie} {a b c : Nat} (h : Rch ts a b) (k : Rch ts b c) : Rch ts a c := by
  induction k with
  | base => exact h
  | step _ m ih => exact ih.step m
theorem Rch.symm {w : Web} (W : WOk w) {a b : Nat} (h : Rch w.2 a b) : Rch w.2 b a := by
  induction h with
  | base => exact .base
  | step _ m ih => exact Rch.trans (Rch.base.step (nb_symm W m)) ih
theorem Rch.lt {w : Web} (W : WOk w) {a b : Nat} (h : Rch w.2 a b) (ha : a < w.1.length) : b < w.1.length := by
  cases h with
  | base => exact ha
  | step _ m => exact (nb_lt W m).2
/-- the places that hang together with a -/
noncomputable def partL (w : Web) (a : Nat) : List Nat := (List.range w.1.length).filter fun k => dec (Rch w.2 a k)
theorem mem_partL {w : Web} (W : WOk w) {a k : Nat} (ha : a < w.1.length) : k ∈ partL w a ↔ Rch w.2 a k := by
  unfold partL
  rw [List.mem_filter, dec_iff, List.mem_range]
  exact ⟨fun h => h.2, fun h => ⟨h.lt W ha, h⟩⟩
theorem partL_rise (w : Web) (a : Nat) : (partL w a).Pairwise (· < ·) := List.Pairwise.filter _ List.pairwise_lt_range
theorem partL_len (w : Web) (a : Nat) : (partL w a).length ≤ w.1.length := Nat.le_trans (List.length_filter_le _ _) (by rw [List.length_range]; exact Nat.le_refl _)
/-- no lesser place hangs together with it -/
def Lst (w : Web) (a : Nat) : Prop := ∀ b, Rch w.2 a b → a ≤ b
noncomputable def leastsL (w : Web) (n : Nat) : List Nat := (List.range n).filter fun a => dec (Lst w a)
noncomputable def partsN (w : Web) (n : Nat) : List (List Nat) := (leastsL w n).map (partL w)
noncomputable def partsL (w : Web) : List (List Nat) := partsN w w.1.length
theorem leastsL_succ (w : Web) (n : Nat) : leastsL w (n + 1) = leastsL w n ++ if dec (Lst w n) = true then [n] else [] := by
  unfold leastsL
  rw [List.range_succ, List.filter_append]
  congr 1
  by_cases c : dec (Lst w n) = true
  · rw [if_pos c]; simp [c]
  · rw [if_neg c]; simp [c]
theorem partsN_succ (w : Web) (n : Nat) : partsN w (n + 1) = partsN w n ++ if dec (Lst w n) = true then [partL w n] else [] := by
  unfold partsN
  rw [leastsL_succ, List.map_append]
  congr 1
  split <;> rfl
theorem partsN_len (w : Web) (n : Nat) : (partsN w n).length ≤ n := by
  unfold partsN leastsL
  rw [List.length_map]
  exact Nat.le_trans (List.length_filter_le _ _) (by rw [List.length_range]; exact Nat.le_refl _)
/-- a place that none of the lesser ones comes to is least -/
theorem seen_iff {w : Web} (W : WOk w) {n : Nat} : (∃ a, a < n ∧ Rch w.2 a n) ↔ ¬ Lst w n := by
  constructor
  · rintro ⟨a, h1, h2⟩ l
    have := l a (h2.symm W)
    omega
  · intro h
    unfold Lst at h
    obtain ⟨b, hb⟩ := Classical.not_forall.mp h
    obtain ⟨h1, h2⟩ := Classical.not_imp.mp hb
    exact ⟨b, by omega, h1.symm W⟩
/-! ### the least place that one comes to, by turns -/
def Dn (ts : List Tie) : Nat → Nat → Nat → Prop
  | 0, p, q => p = q
  | k + 1, p, q => Dn ts k p q ∨ ∃ r, r ∈ nb ts p ∧ Dn ts k r q
theorem Dn.mono {ts : List Tie} {k p q : Nat} (h : Dn ts k p q) : ∀ m, Dn ts (k + m) p q
  | 0 => h
  | m + 1 => .inl (Dn.mono h m)
theorem filter_lt {α : Type} {P Q : α → Bool} : ∀ {l : List α}, (∀ x ∈ l, P x = true → Q x = true) → (∃ x ∈ l, Q x = true ∧ P x = false) → (l.filter P).length < (l.filter Q).length
  | [], _, ⟨x, h, _⟩ => absurd h (by simp)
  | y :: l, i, ⟨x, h, h1, h2⟩ => by
    have le : ∀ {l : List α}, (∀ x ∈ l, P x = true → Q x = true) → (l.filter P).length ≤ (l.filter Q).length := fun {l} i => by
      induction l with
      | nil => exact Nat.le_refl _
      | cons a r ih =>
        have ihr := ih fun x hx => i x (List.mem_cons_of_mem _ hx)
        by_cases c : P a = true
        · rw [List.filter_cons_of_pos c, List.filter_cons_of_pos (i a List.mem_cons_self c)]
          exact Nat.succ_le_succ ihr
        · rw [List.filter_cons_of_neg c]
          by_cases d : Q a = true
          · rw [List.filter_cons_of_pos d]; exact Nat.le_succ_of_le ihr
          · rw [List.filter_cons_of_neg d]; exact ihr
    have il : ∀ x ∈ l, P x = true → Q x = true := fun x hx => i x (List.mem_cons_of_mem _ hx)
    rcases List.mem_cons.mp h with z | z
    · subst z
      rw [List.filter_cons_of_neg (by rw [h2]; simp), List.filter_cons_of_pos h1]
      exact Nat.lt_succ_of_le (le il)
    · have ih := filter_lt il ⟨x, z, h1, h2⟩
      by_cases c : P y = true
      · rw [List.filter_cons_of_pos c, List.filter_cons_of_pos (i y List.mem_cons_self c)]
        exact Nat.succ_lt_succ ih
      · rw [List.filter_cons_of_neg c]
        by_cases d : Q y = true
        · rw [List.filter_cons_of_pos d]; exact Nat.lt_succ_of_lt ih
        · rw [List.filter_cons_of_neg d]; exact ih
/-- as many turns as there are places are enough -/
theorem dn_all {w : Web} (W : WOk w) {p q : Nat} (hq : q < w.1.length) (h : Rch w.2 p q) : Dn w.2 w.1.length p q := by
  have grow : ∀ k, (∀ a r, r ∈ nb w.2 a → Dn w.2 k r q → Dn w.2 k a q) ∨ k + 1 ≤ ((List.range w.1.length).filter fun a => dec (Dn w.2 k a q)).length := by
    intro k
    induction k with
    | zero =>
      right
      have : q ∈ (List.range w.1.length).filter fun a => dec (Dn w.2 0 a q) := List.mem_filter.mpr ⟨List.mem_range.mpr hq, dec_true rfl⟩
      exact List.length_pos_of_mem this
    | succ k ih =>
      rcases Classical.em (∀ a r, r ∈ nb w.2 a → Dn w.2 k r q → Dn w.2 k a q) with c | c
      · left
        have back : ∀ a, Dn w.2 (k + 1) a q → Dn w.2 k a q := fun a d => by
          rcases d with d | ⟨r, h1, h2⟩
          · exact d
          · exact c a r h1 h2
        intro a r h1 h2
        exact .inl (c a r h1 (back r h2))
      · right
        rcases ih with ih | ih
        · exact absurd ih c
        obtain ⟨a, ha⟩ := Classical.not_forall.mp c
        obtain ⟨r, hr⟩ := Classical.not_forall.mp ha
        obtain ⟨h1, hr⟩ := Classical.not_imp.mp hr
        obtain ⟨h2, h3⟩ := Classical.not_imp.mp hr
        have lt := filter_lt (l := List.range w.1.length) (P := fun a => dec (Dn w.2 k a q)) (Q := fun a => dec (Dn w.2 (k + 1) a q)) (fun x _ hx => dec_true (.inl (dec_iff.mp hx)))
          ⟨a, List.mem_range.mpr (nb_lt W h1).1, dec_true (.inr ⟨r, h1, h2⟩), dec_false h3⟩
        omega
  have closed : ∀ a r, r ∈ nb w.2 a → Dn w.2 w.1.length r q → Dn w.2 w.1.length a q := by
    rcases grow w.1.length with c | c
    · exact c
    · have := List.length_filter_le (fun a => dec (Dn w.2 w.1.length a q)) (List.range w.1.length)
      rw [List.length_range] at this
      omega
  have d0 : Dn w.2 w.1.length q q := by
    have z := Dn.mono (show Dn w.2 0 q q from rfl) w.1.length
    rw [Nat.zero_add] at z
    exact z
  have go : ∀ x, Rch w.2 p x → Dn w.2 w.1.length x q → Dn w.2 w.1.length p q := by
    intro x hx
    induction hx with
    | base => exact id
    | step _ m ih => exact fun d => ih (closed _ _ m d)
  exact go q h d0
/-- what the labels are while they sink: of its own part, and no greater than what k steps come to -/
structure Lab (w : Web) (k : Nat) (ls : List Nat) : Prop where
  len : ls.length = w.1.length
  own : ∀ (p l : Nat), ls[p]? = some l → Rch w.2 p l
  low : ∀ (p l q : Nat), ls[p]? = some l → Dn w.2 k p q → l ≤ q
/-- within a turn: i ties are done -/
structure LabT (w : Web) (k i : Nat) (old ls : List Nat) : Prop where
  len : ls.length = w.1.length
  own : ∀ (p l : Nat), ls[p]? = some l → Rch w.2 p l
  sink : ∀ (p l m : Nat), ls[p]? = some l → old[p]? = some m → l ≤ m
  done : ∀ t ∈ w.2.take i, ∀ (l m : Nat), (ls[t.1]? = some l → old[t.2.1]? = some m → l ≤ m) ∧ (ls[t.2.1]? = some l → old[t.1]? = some m → l ≤ m)
theorem Lab.start (w : Web) : Lab w 0 (List.range w.1.length) := by
  refine ⟨List.length_range, fun p l h => ?_, fun p l q h d => ?_⟩
  · obtain ⟨h1, h2⟩ := List.getElem?_eq_some_iff.mp h
    rw [List.getElem_range] at h2
    subst h2
    exact .base
  · obtain ⟨h1, h2⟩ := List.getElem?_eq_some_iff.mp h
    rw [List.getElem_range] at h2
    have : p = q := d
    omega
theorem LabT.start {w : Web} {k : Nat} {ls : List Nat} (L : Lab w k ls) : LabT w k 0 ls ls :=
  ⟨L.len, L.own, fun p l m h1 h2 => by rw [h1] at h2; cases h2; exact Nat.le_refl _, fun t ht => by simp at ht⟩
theorem LabT.tie {w : Web} (W : WOk w) {k i : Nat} {old ls : List Nat} (T : LabT w k i old ls) {t : Tie} (ht : w.2[i]? = some t) {l m : Nat} (hl : ls[t.1]? = some l) (hm : ls[t.2.1]? = some m) :
    LabT w k (i + 1) old ((ls.set t.1 (min l m)).set t.2.1 (min l m)) := by
  have r := W.ends t (List.mem_of_getElem? ht)
  have n1 : t.1 < ls.length := by rw [T.len]; omega
  have n2 : t.2.1 < ls.length := by rw [T.len]; omega
  have adj : t.2.1 ∈ nb w.2 t.1 := (mem_nb W).mpr ⟨t, List.mem_of_getElem? ht, at2_iff.mpr (.inl ⟨rfl, rfl⟩)⟩
  have at_ : ∀ p, ((ls.set t.1 (min l m)).set t.2.1 (min l m))[p]? = if p = t.1 ∨ p = t.2.1 then some (min l m) else ls[p]? := fun p => by
    by_cases c2 : t.2.1 = p
    · subst c2
      rw [List.getElem?_set_self (by rw [List.length_set]; exact n2), if_pos (.inr rfl)]
    · rw [List.getElem?_set_ne c2]
      by_cases c1 : t.1 = p
      · subst c1
        rw [List.getElem?_set_self n1, if_pos (.inl rfl)]
      · rw [List.getElem?_set_ne c1, if_neg (by intro z; rcases z with z | z; exact c1 z.symm; exact c2 z.symm)]
  have rl := T.own _ _ hl
  have rm := T.own _ _ hm
  have down : ∀ p x y, ((ls.set t.1 (min l m)).set t.2.1 (min l m))[p]? = some x → ls[p]? = some y → x ≤ y := fun p x y hx hy => by
    rw [at_] at hx
    split at hx
    · rename_i c
      have e := (Option.some.inj hx).symm
      subst e
      rcases c with c | c
      · subst c; rw [hl] at hy; cases hy; exact Nat.min_le_left _ _
      · subst c; rw [hm] at hy; cases hy; exact Nat.min_le_right _ _
    · rw [hx] at hy; cases hy; exact Nat.le_refl _
  have here : ∀ p x, ((ls.set t.1 (min l m)).set t.2.1 (min l m))[p]? = some x → ∃ y, ls[p]? = some y := fun p x hx => by
    have := (List.getElem?_eq_some_iff.mp hx).1
    rw [List.length_set, List.length_set] at this
    exact ⟨_, List.getElem?_eq_getElem this⟩
  refine ⟨by rw [List.length_set, List.length_set]; exact T.len, fun p x hx => ?_, fun p x y hx hy => ?_, fun u hu x y => ⟨fun hx hy => ?_, fun hx hy => ?_⟩⟩
  · rw [at_] at hx
    split at hx
    · rename_i c
      have e := (Option.some.inj hx).symm
      subst e
      have to1 : Rch w.2 t.1 (min l m) := by
        rcases Nat.le_total l m with z | z
        · rw [Nat.min_eq_left z]; exact rl
        · rw [Nat.min_eq_right z]; exact Rch.trans (Rch.base.step adj) rm
      rcases c with c | c
      · subst c; exact to1
      · subst c; exact Rch.trans (Rch.base.step (nb_symm W adj)) to1
    · exact T.own p x hx
  · obtain ⟨z, hz⟩ := here p x hx
    exact Nat.le_trans (down p x z hx hz) (T.sink p z y hz hy)
  · rw [take_snoc ht] at hu
    rcases List.mem_append.mp hu with hu | hu
    · obtain ⟨z, hz⟩ := here _ x hx
      exact Nat.le_trans (down _ x z hx hz) ((T.done u hu z y).1 hz hy)
    · rw [List.mem_singleton.mp hu] at hx hy
      rw [at_, if_pos (.inl rfl)] at hx
      cases hx
      exact Nat.le_trans (Nat.min_le_right _ _) (T.sink _ m y hm hy)
  · rw [take_snoc ht] at hu
    rcases List.mem_append.mp hu with hu | hu
    · obtain ⟨z, hz⟩ := here _ x hx
      exact Nat.le_trans (down _ x z hx hz) ((T.done u hu z y).2 hz hy)
    · rw [List.mem_singleton.mp hu] at hx hy
      rw [at_, if_pos (.inr rfl)] at hx
      cases hx
      exact Nat.le_trans (Nat.min_le_left _ _) (T.sink _ l y hl hy)
theorem LabT.turn {w : Web} (W : WOk w) {k : Nat} {old ls : List Nat} (L : Lab w k old) (T : LabT w k w.2.length old ls) : Lab w (k + 1) ls := by
  refine ⟨T.len, T.own, fun p l q hl d => ?_⟩
  have hp : p < old.length := by rw [L.len, ← T.len]; exact (List.getElem?_eq_some_iff.mp hl).1
  have ho := List.getElem?_eq_getElem hp
  rcases d with d | ⟨r, h1, h2⟩
  · exact Nat.le_trans (T.sink p l _ hl ho) (L.low p _ q ho d)
  · obtain ⟨t, ht, e⟩ := (mem_nb W).mp h1
    have hr : r < old.length := by rw [L.len]; exact (nb_lt W h1).2
    have hr' := List.getElem?_eq_getElem hr
    have tm : t ∈ w.2.take w.2.length := by rw [List.take_length]; exact ht
    have dn := T.done t tm l old[r]
    have le : l ≤ old[r] := by
      rcases at2_iff.mp e with ⟨a, b⟩ | ⟨a, b⟩
      · exact dn.1 (by rw [a]; exact hl) (by rw [b]; exact hr')
      · exact dn.2 (by rw [b]; exact hl) (by rw [a]; exact hr')
    exact Nat.le_trans le (L.low r _ q hr' h2)
/-- at the end: each label is the least place of its part -/
theorem Lab.end_ {w : Web} (W : WOk w) {ls : List Nat} (L : Lab w w.1.length ls) {p l : Nat} (h : ls[p]? = some l) : Rch w.2 p l ∧ Lst w l := by
  have hp : p < w.1.length := by rw [← L.len]; exact (List.getElem?_eq_some_iff.mp h).1
  have r := L.own p l h
  refine ⟨r, fun b hb => ?_⟩
  have rb := r.trans hb
  exact L.low p l b h (dn_all W (rb.lt W hp) rb)
theorem lst_uniq {w : Web} (W : WOk w) {a b : Nat} (ha : Lst w a) (hb : Lst w b) (h : Rch w.2 a b) : a = b := by
  have h1 := ha b h
  have h2 := hb a (h.symm W)
  omega
theorem Lab.is_ {w : Web} (W : WOk w) {ls : List Nat} (L : Lab w w.1.length ls) {p l a : Nat} (h : ls[p]? = some l) (ha : Lst w a) : l = a ↔ Rch w.2 a p := by
  obtain ⟨h1, h2⟩ := L.end_ W h
  constructor
  · rintro rfl
    exact h1.symm W
  · intro z
    exact (lst_uniq W ha h2 (z.trans h1)).symm
theorem labs_mem {w : Web} (W : WOk w) {ls : List Nat} (L : Lab w w.1.length ls) (x : Nat) : x ∈ ls ↔ x ∈ leastsL w w.1.length := by
  unfold leastsL
  rw [List.mem_filter, List.mem_range, dec_iff]
  constructor
  · intro h
    obtain ⟨p, hp⟩ := List.getElem?_of_mem h
    obtain ⟨h1, h2⟩ := L.end_ W hp
    have hp' : p < w.1.length := by rw [← L.len]; exact (List.getElem?_eq_some_iff.mp hp).1
    exact ⟨h1.lt W hp', h2⟩
  · rintro ⟨h1, h2⟩
    have hx : x < ls.length := by rw [L.len]; exact h1
    have g := List.getElem?_eq_getElem hx
    have e := (L.is_ W g h2).mpr .base
    rw [e] at g
    exact List.mem_of_getElem? g
theorem leasts_rise (w : Web) (n : Nat) : (leastsL w n).Pairwise (· < ·) := List.Pairwise.filter _ List.pairwise_lt_range
theorem mem_leasts {w : Web} {n x : Nat} (h : x ∈ leastsL w n) : x < n ∧ Lst w x := by
  unfold leastsL at h
  rw [List.mem_filter, List.mem_range, dec_iff] at h
  exact h
theorem labs_part {w : Web} (W : WOk w) {ls : List Nat} (L : Lab w w.1.length ls) {a : Nat} (ha : Lst w a) : ((List.range w.1.length).filter fun p => decide (ls[p]? = some a)) = partL w a := by
  unfold partL
  refine List.filter_congr fun p hp => ?_
  have hp' : p < ls.length := by rw [L.len]; exact List.mem_range.mp hp
  have g := List.getElem?_eq_getElem hp'
  rw [Bool.eq_iff_iff, dec_iff, decide_eq_true_eq, g, Option.some.injEq]
  exact L.is_ W g ha

/-! ### a def's code told to its body -/
section
variable {P : Program} {w : World} {K : PySem.W.Frag} {mg : Str → Option Value} {base : Heap}
theorem funOkC {x qual : Str} {st : Stmt} {f : Addr} {fd : FuncData} {N ps : List Str} {k : Nat} {sp : Sp} (F : Fun K x qual st f fd) (S : FnScope N ps (defScope st)) (len : ∀ vs H Q E, sp vs H Q E → vs.length = ps.length)
    (hbody : ∀ (cdv : Value), PySem.W.codeIn K cdv qual = true → ∀ (A : Around) (outer : List Env) (s : Shared) (H : Hp) (vs : List V) (Q : VK) (E : XK), Room k (A.deeper (envOfC qual (defScope st) s.heap.objs.size f cdv)) → sp vs H Q E →
      ∃ t, PSs (cxOf CX0 P w K mg base N qual (defScope st) f cdv A outer s H E).nox (defBody st) t ∧ t { nx := fun _ H' => Q .non H', rt := Q } (start N vs) H) : FnOk P w K mg base CX0 (k + 1) f fd ps sp := by
  obtain ⟨oc, od, kV, doc, pm, an, cdv, ct, osl, rfl, lk, hcd⟩ := F.ex
  refine fn_of lk hcd S len fun A outer s H vs Q E hr hsp => ?_
  obtain ⟨t, h, q⟩ := hbody cdv hcd A outer s H vs Q E hr hsp
  exact ⟨t, h.nox, q⟩
end
/-! ### a set of places -/
theorem cr_set0w {X : Cx} {wd : World} (hw : X.w = wd) : CallR X (.type "set") (rSet0 wd) := by
  subst hw
  exact cr_set0
def SetN (wd : World) (H : Hp) (S : Addr) (ms : List Nat) : Prop := ∃ Sx n, H S = some (SetO wd S Sx n) ∧ n ≤ ms.length ∧ (ms.Nodup → n = ms.length) ∧ ∀ k : Int, Sx k = true ↔ ∃ q : Nat, k = (q : Int) ∧ q ∈ ms
section
variable {wd : World} {K : PySem.W.Frag} {H H' : Hp} {S : Addr} {ms : List Nat} {q : Nat} {Q : VK}
theorem SetN.new (h : H S = some (SetO wd S (fun _ => false) 0)) : SetN wd H S [] := ⟨_, 0, h, Nat.le_refl _, fun _ => rfl, fun k => by simp⟩
theorem SetN.same (x : SetN wd H S ms) (s : Same H H') : SetN wd H' S ms := by
  obtain ⟨a, n, e, r⟩ := x
  exact ⟨a, n, s _ _ e, r⟩
theorem SetN.at_ (x : SetN wd H S ms) {b : Addr} {o : HO} (n : b ≠ S) : SetN wd (upd H b o) S ms := by
  obtain ⟨a, m, e, r⟩ := x
  exact ⟨a, m, by rw [upd_ne n.symm]; exact e, r⟩
theorem SetN.ne (x : SetN wd H S ms) {b : Addr} {ys : List V} (e : H b = some (.lst ys)) : b ≠ S := by
  obtain ⟨a, m, e', r⟩ := x
  exact ne_of e e' (by intro z; cases z)
theorem d_snotin (x : SetN wd H S ms) (k : Q (.bl (!decide (q ∈ ms))) H) : rSNotIn wd (.int (q : Nat)) (.ref S) H Q := by
  obtain ⟨Sx, n, e, l, l', m⟩ := x
  refine ⟨q, S, Sx, n, rfl, rfl, e, ?_⟩
  have : Sx (q : Nat) = decide (q ∈ ms) := by
    rw [Bool.eq_iff_iff, decide_eq_true_eq, m]
    constructor
    · rintro ⟨q', h1, h2⟩
      have : q = q' := by omega
      rw [this]; exact h2
    · intro h
      exact ⟨q, rfl, h⟩
  rw [this]
  exact k
theorem d_tsadd {to : TE} {t : TA} {σ : L2.St} (h : to σ H fun x H1 => (∃ a S n, x = V.ref a ∧ H1 a = some (SetO wd a S n)) ∧ t σ H1 fun xs H2 => rSAdd wd x xs H2 Q) : tSAdd wd to t σ H Q := h
theorem d_sadd0 (x : SetN wd H S ms) {C : Prop} (h : C) : (∃ a Sx n, V.ref S = V.ref a ∧ H a = some (SetO wd a Sx n)) ∧ C := by
  obtain ⟨a, n, e, r⟩ := x
  exact ⟨⟨S, a, n, rfl, e⟩, h⟩
theorem d_sadd (x : SetN wd H S ms) (few : ms.length ≤ 4000) (k : ∀ o ms', SetN wd (upd H S o) S ms' → (∀ y, y ∈ ms' ↔ y ∈ ms ∨ y = q) → ms'.length ≤ ms.length + 1 → (q ∉ ms → ms' = ms ++ [q]) → Q .non (upd H S o)) : rSAdd wd (.ref S) [.int (q : Nat)] H Q := by
  obtain ⟨Sx, n, e, l, l', m⟩ := x
  refine ⟨S, q, Sx, n, rfl, rfl, e, by unfold scanBound; omega, ?_⟩
  have mem : ∀ j : Int, (Sx j || decide (j = (q : Int))) = true ↔ ∃ y : Nat, j = (y : Int) ∧ (y ∈ ms ∨ y = q) := fun j => by
    rw [Bool.or_eq_true, m, decide_eq_true_eq]
    constructor
    · rintro (⟨y, h1, h2⟩ | h)
      · exact ⟨y, h1, .inl h2⟩
      · exact ⟨q, h, .inr rfl⟩
    · rintro ⟨y, h1, h2 | h2⟩
      · exact .inl ⟨y, h1, h2⟩
      · exact .inr (by rw [h1, h2])
  by_cases c : q ∈ ms
  · have c' : Sx (q : Nat) = true := (m _).mpr ⟨q, rfl, c⟩
    rw [if_pos c']
    refine k _ ms ⟨_, n, upd_same, l, l', fun j => ?_⟩ (fun y => ⟨.inl, fun h => h.elim id fun z => z ▸ c⟩) (by omega) fun z => absurd c z
    rw [mem]
    exact ⟨fun ⟨y, h1, h2⟩ => ⟨y, h1, h2.elim id fun z => z ▸ c⟩, fun ⟨y, h1, h2⟩ => ⟨y, h1, .inl h2⟩⟩
  · have c' : ¬ Sx (q : Nat) = true := fun z => by
      obtain ⟨y, h1, h2⟩ := (m _).mp z
      have : q = y := by omega
      exact c (this ▸ h2)
    rw [if_neg c']
    refine k _ (ms ++ [q]) ⟨_, n + 1, upd_same, by rw [List.length_append]; show n + 1 ≤ ms.length + 1; omega, fun nd => ?_, fun j => ?_⟩ (fun y => by rw [List.mem_append, List.mem_singleton]) (by rw [List.length_append]; exact Nat.le_refl _) fun _ => rfl
    · rw [List.length_append, l' (List.nodup_append.mp nd).1]; rfl
    · rw [mem]
      exact ⟨fun ⟨y, h1, h2⟩ => ⟨y, h1, by rw [List.mem_append, List.mem_singleton]; exact h2⟩, fun ⟨y, h1, h2⟩ => ⟨y, h1, by rw [List.mem_append, List.mem_singleton] at h2; exact h2⟩⟩
theorem nats_of {ns : List Int} {l : List Nat} (s : ns.Pairwise (· < ·)) (sl : l.Pairwise (· < ·)) (m : ∀ k, k ∈ ns ↔ ∃ q : Nat, k = (q : Int) ∧ q ∈ l) : ns = zs l := by
  have nn : ∀ k ∈ ns, 0 ≤ k := fun k hk => by
    obtain ⟨q, h, _⟩ := (m k).mp hk
    omega
  have e1 : zs (ns.map Int.toNat) = ns := by
    unfold zs
    rw [List.map_map]
    refine (List.map_congr_left fun k hk => ?_).trans (List.map_id _)
    show ((k.toNat : Nat) : Int) = k
    exact Int.toNat_of_nonneg (nn k hk)
  rw [← e1]
  congr 1
  refine sorted_ext ?_ sl fun x => ?_
  · rw [List.pairwise_map]
    refine s.imp_of_mem fun {x y} hx hy h => ?_
    have := nn x hx
    have := nn y hy
    omega
  · rw [List.mem_map]
    constructor
    · rintro ⟨k, h1, h2⟩
      obtain ⟨q, h3, h4⟩ := (m k).mp h1
      have : x = q := by omega
      rw [this]; exact h4
    · intro h
      exact ⟨(x : Int), (m _).mpr ⟨x, rfl, h⟩, by simp⟩
theorem d_ssort (x : SetN wd H S ms) {l : List Nat} (nd : ms.Nodup) (few : ms.length < 64) (sl : l.Pairwise (· < ·)) (m : ∀ y, y ∈ ms ↔ y ∈ l) (k : ∀ p, H p = none → Q (.ref p) (upd H p (.lst (l.map fun y => V.int (y : Nat))))) : rSortedSet wd [.ref S] H Q := by
  obtain ⟨Sx, n, e, l1, l2, m1⟩ := x
  refine ⟨S, Sx, n, rfl, e, by have := l2 nd; omega, fun ns p s mem len fp => ?_⟩
  have : ns = zs l := nats_of s sl fun j => by
    rw [mem, m1]
    exact ⟨fun ⟨y, h1, h2⟩ => ⟨y, h1, (m y).mp h2⟩, fun ⟨y, h1, h2⟩ => ⟨y, h1, (m y).mpr h2⟩⟩
  rw [this, ← ints_map]
  exact k p fp
end
/-! ### lists of lists of places -/
abbrev natsV (p : List Nat) : List V := p.map fun q => V.int (q : Nat)
def PartsAt (H : Hp) (rs : List Addr) (ps : List (List Nat)) : Prop := Paired (fun r p => H r = some (.lst (natsV p))) rs ps
def partsD (ps : List (List Nat)) : PyData := .list (ps.map fun p => .list ((zs p).map PyData.int))
section
variable {K : PySem.W.Frag} {H H' : Hp} {rs : List Addr} {ps : List (List Nat)}
theorem PartsAt.same (x : PartsAt H rs ps) (s : Same H H') : PartsAt H' rs ps := Paired.imp x fun _ _ e => s _ _ e
theorem PartsAt.keep {h : Addr} (x : PartsAt H rs ps) (k : Keep h H H') (n : h ∉ rs) : PartsAt H' rs ps := by
  induction x with
  | nil => exact .nil
  | cons e _ ih =>
    exact .cons (k _ _ (fun z => n (z ▸ List.mem_cons_self)) e) (ih fun z => n (List.mem_cons_of_mem _ z))
theorem PartsAt.dpa : ∀ {rs : List Addr} {ps : List (List Nat)}, PartsAt H rs ps → DpAll K H (rs.map V.ref) (ps.map fun p => PyData.list ((zs p).map PyData.int))
  | _, _, .nil => .nil
  | _, _, .cons e r => .cons (dp_nats e) (PartsAt.dpa r)
theorem PartsAt.dp {T : Addr} (x : PartsAt H rs ps) (e : H T = some (.lst (rs.map V.ref))) : Dp K H (.ref T) (partsD ps) := .lst (SqL.of e) x.dpa
theorem partsD_good (ps : List (List Nat)) : SeqAt.shaped (partsD ps) = true := by
  refine shaped_list (k := 1) (by decide) fun d hd => ?_
  obtain ⟨p, _, rfl⟩ := List.mem_map.mp hd
  have h := shaped_ints (zs p)
  refine ⟨SeqAt.canLay_of_shaped h, ?_⟩
  have : PyData.depthAll ((zs p).map PyData.int) ≤ 0 := by
    generalize zs p = l
    induction l with
    | nil => simp [PyData.depthAll]
    | cons a l ih => simp [PyData.depthAll, PyData.depth]; omega
  simp only [PyData.depth]; omega
end
theorem cr_setLw {X : Cx} {wd : World} (hw : X.w = wd) (hc : X.calm = true) : CallR X (.type "set") (rSetL X.K wd) := by
  subst hw
  exact cr_setL hc
/-! ### webs beside one another; a row -/
def shiftT (n : Nat) (t : Tie) : Tie := (t.1 + n, t.2.1 + n, t.2.2)
def joinW (u v : Web) : Web := (u.1 ++ v.1, u.2 ++ v.2.map (shiftT u.1.length))
def rowW (u : Web) : Web := (u.1, (List.range (u.1.length - 1)).map fun j => (j, j + 1, 115))
theorem ties_few {ts : List Tie} {n : Nat} (s : ts.Pairwise tlt) (e : ∀ t ∈ ts, t.1 < n ∧ t.2.1 < n) : ts.length ≤ n * n := by
  have h := nodup_len (n * n) (ts.map fun t => t.1 * n + t.2.1) ?_ ?_
  · rw [List.length_map] at h; exact h
  · unfold List.Nodup
    rw [List.pairwise_map]
    refine s.imp_of_mem fun {x y} hx hy h z => ?_
    obtain ⟨a1, a2⟩ := e x hx
    obtain ⟨b1, b2⟩ := e y hy
    unfold tlt at h
    have e1 : (x.1 * n + x.2.1) / n = x.1 := by rw [Nat.add_comm, Nat.add_mul_div_right _ _ (by omega), Nat.div_eq_of_lt a2, Nat.zero_add]
    have e2 : (y.1 * n + y.2.1) / n = y.1 := by rw [Nat.add_comm, Nat.add_mul_div_right _ _ (by omega), Nat.div_eq_of_lt b2, Nat.zero_add]
    have : x.1 = y.1 := by rw [← e1, ← e2, z]
    rw [this] at z
    omega
  · intro x hx
    obtain ⟨t, ht, rfl⟩ := List.mem_map.mp hx
    obtain ⟨a1, a2⟩ := e t ht
    calc t.1 * n + t.2.1 < t.1 * n + n := by omega
      _ = (t.1 + 1) * n := by rw [Nat.add_mul, Nat.one_mul]
      _ ≤ n * n := Nat.mul_le_mul_right _ a1
theorem few_most {n m : Nat} (h : n ≤ 40) (k : m ≤ n * n) : m ≤ 1600 := Nat.le_trans k (Nat.le_trans (Nat.mul_le_mul h h) (by decide))
theorem joinW_ok {u v : Web} (U : WOk u) (V : WOk v) (h : u.1.length + v.1.length ≤ 40) : WOk (joinW u v) := by
  have en : ∀ t ∈ (joinW u v).2, t.1 < t.2.1 ∧ t.2.1 < (joinW u v).1.length ∧ Ltr t.2.2 := fun t ht => by
    unfold joinW at ht ⊢
    dsimp only at ht ⊢
    rw [List.length_append]
    rcases List.mem_append.mp ht with ht | ht
    · obtain ⟨a, b, c⟩ := U.ends t ht
      exact ⟨a, by omega, c⟩
    · obtain ⟨s, hs, rfl⟩ := List.mem_map.mp ht
      obtain ⟨a, b, c⟩ := V.ends s hs
      unfold shiftT
      exact ⟨by dsimp only; omega, by dsimp only; omega, c⟩
  have ri : (joinW u v).2.Pairwise tlt := by
    unfold joinW
    refine List.pairwise_append.mpr ⟨U.rise, ?_, fun x hx y hy => ?_⟩
    · rw [List.pairwise_map]
      refine V.rise.imp fun {x y} h => ?_
      unfold tlt shiftT at *
      dsimp only
      omega
    · obtain ⟨s, hs, rfl⟩ := List.mem_map.mp hy
      obtain ⟨a, b, c⟩ := U.ends x hx
      unfold tlt shiftT
      left
      dsimp only
      omega
  have le : (joinW u v).1.length ≤ 40 := by unfold joinW; rw [List.length_append]; exact h
  refine ⟨le, few_most le (ties_few ri fun t ht => ?_), fun c hc => ?_, ri, en⟩
  · obtain ⟨a, b, _⟩ := en t ht
    omega
  · unfold joinW at hc
    rcases List.mem_append.mp hc with hc | hc
    · exact U.kinds c hc
    · exact V.kinds c hc
theorem rowW_ok {u : Web} (U : WOk u) : WOk (rowW u) := by
  refine ⟨U.few, ?_, U.kinds, ?_, fun t ht => ?_⟩
  · unfold rowW
    rw [List.length_map, List.length_range]
    have := U.few
    omega
  · unfold rowW
    rw [List.pairwise_map]
    refine List.pairwise_lt_range.imp fun {x y} h => ?_
    unfold tlt
    left
    exact h
  · unfold rowW at ht ⊢
    obtain ⟨j, hj, rfl⟩ := List.mem_map.mp ht
    rw [List.mem_range] at hj
    exact ⟨Nat.lt_succ_self _, by dsimp only; omega, by unfold Ltr; dsimp only; omega⟩
theorem wok_nil : WOk ([], []) := ⟨by decide, by decide, by simp, .nil, by simp⟩
theorem partsL_nil : partsL ([], []) = [] := rfl
end Cw

/-! cuts: their ties, their neighbours, cuts of cuts -/
namespace Cw
open PySem PySem.Spec PyProof.Rows L2
theorem posOf_iff {os : List Nat} (nd : os.Nodup) {p i : Nat} : posOf os p = some i ↔ os[i]? = some p := by
  unfold posOf
  rw [List.findIdx?_eq_some_iff_getElem]
  constructor
  · rintro ⟨h, e, _⟩
    rw [List.getElem?_eq_getElem h, beq_iff_eq.mp e]
  · intro h
    obtain ⟨h1, h2⟩ := List.getElem?_eq_some_iff.mp h
    refine ⟨h1, beq_iff_eq.mpr h2, fun j hj => ?_⟩
    have : os[j] ≠ p := fun z => by
      have z2 : os[j] = os[i] := z.trans h2.symm
      have := (List.getElem_inj nd).mp z2
      omega
    simpa using this
theorem posOf_none {os : List Nat} {p : Nat} : posOf os p = none ↔ p ∉ os := by
  unfold posOf
  rw [List.findIdx?_eq_none_iff]
  constructor
  · intro h z
    have := h p z
    simp at this
  · intro h x hx
    simp only [beq_eq_false_iff_ne]
    exact fun z => h (z ▸ hx)
theorem rise_nodup {os : List Nat} (s : os.Pairwise (· < ·)) : os.Nodup := s.imp fun h => Nat.ne_of_lt h
theorem cutTie_some {os : List Nat} (nd : os.Nodup) {t s : Tie} : cutTie os t = some s ↔ os[s.1]? = some t.1 ∧ os[s.2.1]? = some t.2.1 ∧ s.2.2 = t.2.2 := by
  unfold cutTie
  rw [Option.bind_eq_some_iff]
  constructor
  · rintro ⟨a, h1, h2⟩
    obtain ⟨b, h3, h4⟩ := Option.map_eq_some_iff.mp h2
    subst h4
    exact ⟨(posOf_iff nd).mp h1, (posOf_iff nd).mp h3, rfl⟩
  · rintro ⟨h1, h2, h3⟩
    refine ⟨s.1, (posOf_iff nd).mpr h1, ?_⟩
    rw [(posOf_iff nd).mpr h2]
    show some (s.1, s.2.1, t.2.2) = some s
    rw [← h3]
theorem cutTie_at {os : List Nat} (nd : os.Nodup) {i j p q : Nat} (hi : os[i]? = some p) (hj : os[j]? = some q) (t : Tie) : ((cutTie os t).any (at2 i j)) = at2 p q t := by
  rw [Bool.eq_iff_iff, at2_iff]
  constructor
  · intro h
    obtain ⟨s, h1, h2⟩ := (Option.any_eq_true _ _).mp h
    obtain ⟨a, b, _⟩ := (cutTie_some nd).mp h1
    rcases at2_iff.mp h2 with ⟨e1, e2⟩ | ⟨e1, e2⟩
    · rw [e1, hi] at a; rw [e2, hj] at b
      exact .inl ⟨(Option.some.inj a).symm, (Option.some.inj b).symm⟩
    · rw [e1, hj] at a; rw [e2, hi] at b
      exact .inr ⟨(Option.some.inj a).symm, (Option.some.inj b).symm⟩
  · rintro (⟨e1, e2⟩ | ⟨e1, e2⟩)
    · exact (Option.any_eq_true _ _).mpr ⟨(i, j, t.2.2), (cutTie_some nd).mpr ⟨by rw [e1]; exact hi, by rw [e2]; exact hj, rfl⟩, at2_iff.mpr (.inl ⟨rfl, rfl⟩)⟩
    · exact (Option.any_eq_true _ _).mpr ⟨(j, i, t.2.2), (cutTie_some nd).mpr ⟨by rw [e1]; exact hj, by rw [e2]; exact hi, rfl⟩, at2_iff.mpr (.inr ⟨rfl, rfl⟩)⟩
theorem tieL_cut {u : Web} {os : List Nat} (nd : os.Nodup) {i j p q : Nat} (hi : os[i]? = some p) (hj : os[j]? = some q) : tieL (cutL u os).2 i j = tieL u.2 p q := by
  unfold tieL cutL
  dsimp only
  rw [List.find?_filterMap]
  have e : (fun a => (cutTie os a).any (at2 i j)) = at2 p q := funext fun t => cutTie_at nd hi hj t
  rw [e]
  cases h : u.2.find? (at2 p q) with
  | none => rfl
  | some t =>
    have h1 : at2 p q t = true := List.find?_some h
    rw [← cutTie_at nd hi hj] at h1
    obtain ⟨s, h2, _⟩ := (Option.any_eq_true _ _).mp h1
    show (cutTie os t).map (·.2.2) = some t.2.2
    rw [h2]
    exact congrArg some ((cutTie_some nd).mp h2).2.2
theorem at_rise {os : List Nat} (s : os.Pairwise (· < ·)) {i j p q : Nat} (hi : os[i]? = some p) (hj : os[j]? = some q) : i < j ↔ p < q := by
  obtain ⟨h1, rfl⟩ := List.getElem?_eq_some_iff.mp hi
  obtain ⟨h2, rfl⟩ := List.getElem?_eq_some_iff.mp hj
  have s' := List.pairwise_iff_getElem.mp s
  constructor
  · intro h
    exact s' i j h1 h2 h
  · intro h
    rcases Nat.lt_trichotomy i j with c | c | c
    · exact c
    · subst c; omega
    · have := s' j i h2 h1 c; omega
theorem cutL_ok {u : Web} (U : WOk u) {os : List Nat} (s : os.Pairwise (· < ·)) (b : ∀ p ∈ os, p < u.1.length) : WOk (cutL u os) := by
  have nd := rise_nodup s
  have lo : os.length ≤ u.1.length := nodup_len _ _ nd b
  have l40 := U.few
  refine ⟨by unfold cutL; rw [List.length_map]; omega, ?_, fun c hc => ?_, ?_, fun t ht => ?_⟩
  · have := List.length_filterMap_le (cutTie os) u.2
    have := U.most
    unfold cutL
    dsimp only
    omega
  · unfold cutL at hc
    obtain ⟨p, hp, rfl⟩ := List.mem_map.mp hc
    have := b p hp
    rw [List.getD_eq_getElem?_getD, List.getElem?_eq_getElem this]
    exact U.kinds _ (List.getElem_mem _)
  · unfold cutL
    dsimp only
    refine List.Pairwise.filterMap (cutTie os) (fun a a' h x hx y hy => ?_) U.rise
    obtain ⟨x1, x2, _⟩ := (cutTie_some nd).mp (Option.mem_def.mp hx)
    obtain ⟨y1, y2, _⟩ := (cutTie_some nd).mp (Option.mem_def.mp hy)
    unfold tlt at *
    rcases h with h | ⟨h1, h2⟩
    · exact .inl ((at_rise s x1 y1).mpr h)
    · right
      refine ⟨?_, (at_rise s x2 y2).mpr h2⟩
      rw [h1] at x1
      have e1 := (posOf_iff nd).mpr x1
      have e2 := (posOf_iff nd).mpr y1
      rw [e1] at e2
      exact Option.some.inj e2
  · unfold cutL at ht ⊢
    dsimp only at ht ⊢
    obtain ⟨t0, h0, h1⟩ := List.mem_filterMap.mp ht
    obtain ⟨a, b', c⟩ := (cutTie_some nd).mp h1
    obtain ⟨d, e, f⟩ := U.ends t0 h0
    refine ⟨(at_rise s a b').mpr d, ?_, by rw [c]; exact f⟩
    rw [List.length_map]
    exact (List.getElem?_eq_some_iff.mp b').1
theorem nb_cut {u : Web} (U : WOk u) {os : List Nat} (s : os.Pairwise (· < ·)) (b : ∀ p ∈ os, p < u.1.length) {i p : Nat} (hi : os[i]? = some p) :
    (nb (cutL u os).2 i).map (fun j => os.getD j 0) = (nb u.2 p).filter fun q => decide (q ∈ os) := by
  have nd := rise_nodup s
  have C := cutL_ok U s b
  have lc : (cutL u os).1.length = os.length := by unfold cutL; rw [List.length_map]
  have mem : ∀ j, j ∈ nb (cutL u os).2 i ↔ ∃ q, os[j]? = some q ∧ q ∈ nb u.2 p := fun j => by
    rw [nb_eq C, nb_eq U, List.mem_filter, List.mem_range, lc]
    constructor
    · rintro ⟨h1, h2⟩
      have hj := List.getElem?_eq_getElem h1
      refine ⟨_, hj, List.mem_filter.mpr ⟨List.mem_range.mpr (b _ (List.getElem_mem h1)), ?_⟩⟩
      rw [← tieL_cut nd hi hj]
      exact h2
    · rintro ⟨q, h1, h2⟩
      refine ⟨(List.getElem?_eq_some_iff.mp h1).1, ?_⟩
      rw [tieL_cut nd hi h1]
      exact (List.mem_filter.mp h2).2
  have getD : ∀ {j q}, os[j]? = some q → os.getD j 0 = q := fun {j q} h => by rw [List.getD_eq_getElem?_getD, h]; rfl
  refine sorted_ext ?_ ((nb_rise U.rise (fun t ht => (U.ends t ht).1) p).filter _) fun x => ?_
  · rw [List.pairwise_map]
    refine (nb_rise C.rise (fun t ht => (C.ends t ht).1) i).imp_of_mem fun {x y} hx hy h => ?_
    obtain ⟨q1, h1, _⟩ := (mem x).mp hx
    obtain ⟨q2, h2, _⟩ := (mem y).mp hy
    rw [getD h1, getD h2]
    exact (at_rise s h1 h2).mp h
  · rw [List.mem_map, List.mem_filter, decide_eq_true_eq]
    constructor
    · rintro ⟨j, h1, rfl⟩
      obtain ⟨q, h2, h3⟩ := (mem j).mp h1
      rw [getD h2]
      exact ⟨h3, List.mem_of_getElem? h2⟩
    · rintro ⟨h1, h2⟩
      obtain ⟨j, hj⟩ := List.getElem?_of_mem h2
      exact ⟨j, (mem j).mpr ⟨x, hj, h1⟩, getD hj⟩
theorem posOf_comp {os ls : List Nat} (no : os.Nodup) (nl : ls.Nodup) (b : ∀ k ∈ ls, k < os.length) (x : Nat) : posOf (ls.map fun k => os.getD k 0) x = (posOf os x).bind (posOf ls) := by
  have getD : ∀ {j}, (h : j < os.length) → os.getD j 0 = os[j] := fun {j} h => by rw [List.getD_eq_getElem?_getD, List.getElem?_eq_getElem h]; rfl
  have nm : (ls.map fun k => os.getD k 0).Nodup := by
    unfold List.Nodup
    rw [List.pairwise_map]
    refine nl.imp_of_mem fun {x y} hx hy h z => h ?_
    rw [getD (b x hx), getD (b y hy)] at z
    exact (List.getElem_inj no).mp z
  refine Option.ext fun i => ?_
  rw [posOf_iff nm, Option.bind_eq_some_iff, List.getElem?_map, Option.map_eq_some_iff]
  constructor
  · rintro ⟨k, h1, h2⟩
    have hk := b k (List.mem_of_getElem? h1)
    rw [getD hk] at h2
    refine ⟨k, (posOf_iff no).mpr (by rw [List.getElem?_eq_getElem hk, h2]), (posOf_iff nl).mpr h1⟩
  · rintro ⟨k, h1, h2⟩
    have h1 := (posOf_iff no).mp h1
    refine ⟨k, (posOf_iff nl).mp h2, ?_⟩
    rw [List.getD_eq_getElem?_getD, h1]; rfl
theorem cut_cut (u : Web) {os ls : List Nat} (no : os.Nodup) (nl : ls.Nodup) (b : ∀ k ∈ ls, k < os.length) : cutL (cutL u os) ls = cutL u (ls.map fun k => os.getD k 0) := by
  unfold cutL
  refine Prod.ext ?_ ?_
  · dsimp only
    rw [List.map_map]
    refine List.map_congr_left fun k hk => ?_
    have := b k hk
    simp [List.getD_eq_getElem?_getD, this]
  · dsimp only
    rw [List.filterMap_filterMap]
    congr 1
    funext t
    unfold cutTie
    rw [posOf_comp no nl b, posOf_comp no nl b]
    cases posOf os t.1 <;> cases posOf os t.2.1 <;> simp
end Cw

namespace Cw
open PySem PySem.Spec PyProof.Rows L2
/-! ### all, any of a generator expression: one clause without tests, over whatever PI serves; its item may call defs -/
/-- a def's table of code objects, which grows at the first call -/
def TbX (P : Addr) : HO := .ext fun h => ∃ ps : Array Value, h.get? P = some { cls := .none, data := .fields ps } ∧ TriplesOk ps.toList
theorem upd_id {H : Hp} {P : Addr} {o : HO} (e : H P = some o) : upd H P o = H := funext fun b => by
  by_cases hb : b = P
  · rw [hb, upd_same, e]
  · exact upd_ne hb
section
variable {X : Cx} {pins : List (Addr × Obj)} {σ : L2.St} {H : Hp} {s : Shared} {P : Addr}
theorem tb_at (I : Inv X pins σ H s) (hP : H P = some (TbX P)) : ∃ ps : Array Value, s.heap.get? P = some { cls := .none, data := .fields ps } ∧ TriplesOk ps.toList := (I.hok P _ hP).1
theorem tb_grown (I : Inv X pins σ H s) (hP : H P = some (TbX P)) {h' : Heap} {tk : Nat} {ps : Array Value} (k : ∀ b o, b ≠ P → s.heap.get? b = some o → h'.get? b = some o)
    (e : h'.get? P = some { cls := .none, data := .fields ps }) (ht : TriplesOk ps.toList) : Inv X pins σ H { s with heap := h', toks := tk } := by
  have J := I.write (x := P) (e := P) (o := TbX P) (t' := tk) (by rw [hP]; exact trivial) (.inl rfl) k ⟨_, e⟩ ⟨⟨ps, e, ht⟩, ⟨_, e⟩, fun h1 h2 ⟨qs, z, zt⟩ st => ⟨qs, st _ z, zt⟩⟩
  rw [upd_id hP] at J
  exact J
/-- the code object of a generator expression, made now or found -/
theorem gx_code {c : Addr} {gpos : Pos} {qual : Str} {scope : Scope} {E : Value → Shared → Prop} {A : Around} {Qc : Value → Shared → Prop} (TB : GxR.TabB X.base X.mg c P) (hcode : X.env.code = .ref c) (I : Inv X pins σ H s) (hP : H P = some (TbX P))
    (h : ∀ code h' tk, Inv X pins σ H { s with heap := h', toks := tk } → (∀ b o, b ≠ P → s.heap.get? b = some o → h'.get? b = some o) → s.heap.objs.size ≤ h'.objs.size → Qc code { s with heap := h', toks := tk }) :
    wpAny (model X.prog X.w) A (genexprCode X.env gpos qual scope) Qc E s := by
  obtain ⟨ps, e, ht⟩ := tb_at I hP
  have cd : PySem.W.CodeHd s.heap c P := TB.code.keeps fun b o q => I.bk b o q
  cases hf : codeAmong gpos ps.toList with
  | some cv => exact wpAny_genexprCode_hit hcode (cd.code e ht) hf (h cv s.heap s.toks I (fun _ _ _ q => q) (Nat.le_refl _))
  | none =>
    refine wpAny_genexprCodeX hcode (cd.code e ht) (cd.tab e) hf fun c' h' tk ext big less known _ tab _ => ?_
    obtain ⟨_, _, _, _, _, _, _, _, _, _, _, _, _, _, _, _, _, _, _, trip, _⟩ := known
    exact h _ h' tk (tb_grown I hP ext tab.2 trip) ext (Nat.le_trans big (Nat.le_of_lt less))
end
/-- where a generator expression's items run: its frame over the frames that stand, made at s -/
abbrev _root_.L2.Cx.gx (X : Cx) (Ag : Around) (s : Shared) (H : Hp) (cenv : Env) (fp : List Addr) : Cx := { X with A := Ag, s_0 := s, H_0 := H, env := cenv, outer := X.stack, stack := cenv :: X.stack, ex := fp, fn := fun _ => false, pn := [], xe := fun _ _ => False }
abbrev gxEnv (X : Cx) (scope : Scope) (C : Addr) (code : Value) : Env := genEnv scope (cloFrom X.env.cells scope.names []) C code builtinsNs X.env
section
variable {X : Cx} {pins : List (Addr × Obj)} {σ : L2.St} {H : Hp} {s : Shared} {scope : Scope} {own : List (Str × Nat)} {fp : List Addr} {Ag : Around} {code : Value} {h5 : Heap} {tk : Nat} {g5 : Array GenState} {a : Addr} {go : Obj}
theorem gx_cells (I : Inv X pins σ H s) {y : Str} {c : Addr} (free : ∀ y ∈ scope.names, y.2 = .free → ∃ c, X.env.cells.lookup y.1 = some c) (e : (cloFrom X.env.cells scope.names []).lookup y = some c) : X.env.cells.lookup y = some c ∧ c < s.heap.objs.size := by
  rcases cloFrom_mem (PySem.mem_of_lookup e) with z | ⟨z, rfl⟩
  · cases z
  · obtain ⟨c, hc⟩ := free _ z rfl
    obtain ⟨v, w⟩ := I.cell _ _ hc
    rw [hc]
    exact ⟨rfl, w.lt⟩
theorem gx_start (I : Inv X pins σ H s) (ok : BlkOk X.N X.env.scope scope own) (nc : ∀ y ∈ scope.names, y.2 ≠ .cell) (hN : X.N.Nodup) (hfp : ∀ b ∈ fp, FpOk X pins H b ∧ b < s.heap.objs.size) (hA : X.calm = true → Ag.handled = none) (hfr : Ag.frames = some (gxEnv X scope s.heap.objs.size code :: X.stack))
    (keep : ∀ b o, s.heap.get? b = some o → h5.get? b = some o) {m : Str → Option Value} (ns : h5.Ns s.heap.objs.size m) (ha : h5.get? a = some go) (la : s.heap.objs.size < a) (nv : ∀ v, go.data ≠ .cell v) (hg : AllBare g5) :
    Inv (X.gx Ag s H (gxEnv X scope s.heap.objs.size code) fp) [(a, go)] (wipe σ (own.map (·.2))) H { s with gens := g5, toks := tk, heap := h5 } := by
  have free : ∀ y ∈ scope.names, y.2 = .free → ∃ c, X.env.cells.lookup y.1 = some c := fun y hy e => (ok.free y hy e).elim (fun k => I.ok.has _ (.inl k)) fun k => I.ok.has _ (.inr k)
  have cm := fun {y : Str} {c : Addr} (e : (cloFrom X.env.cells scope.names []).lookup y = some c) => gx_cells I free e
  have there : ∀ {y : Str}, scope.names.lookup y = some .free → ∃ c, (cloFrom X.env.cells scope.names []).lookup y = some c ∧ X.env.cells.lookup y = some c := fun {y} hl => by
    obtain ⟨c', e'⟩ := mem_lookup (cloFrom_has (cells := X.env.cells) (acc := []) (PySem.mem_of_lookup hl))
    exact ⟨c', e', (cm e').1⟩
  have young : ∀ b o, s.heap.get? b = some o → b ≠ s.heap.objs.size := fun b o e => Nat.ne_of_lt (Heap.lt_size e)
  have okG : (X.gx Ag s H (gxEnv X scope s.heap.objs.size code) fp).Ok := {
    mod := I.ok.mod, kind := ok.kind, glob := I.ok.glob, blt := rfl, above := Nat.le_refl _
    inj := fun x y c e1 e2 => I.ok.inj x y c (cm e1).1 (cm e2).1
    has := fun x hx => by
      rcases hx with hx | hx
      · exact absurd rfl (nc _ (PySem.mem_of_lookup hx))
      · obtain ⟨c, e, _⟩ := there hx
        exact ⟨c, e⟩
    cab := fun x c z _ => nomatch z
    hd := hA, frames := hfr, stk := .inr ⟨rfl, rfl⟩
    exf := fun b hb => ⟨Nat.ne_of_lt (hfp b hb).2, fun x c e => (hfp b hb).1.2.2.2.2.1 x c (cm e).1⟩
    bs := I.bs, bsz := Nat.le_trans I.ok.bsz I.sz
    noex := fun b o e hb => by
      rcases (hfp b hb).1.2.2.2.1 with z | z
      · exact I.ok.noex b o e z
      · exact absurd (Nat.lt_of_lt_of_le (Heap.lt_size e) (Nat.le_trans I.ok.bsz z)) (Nat.lt_irrefl _)
    exfs := fun b hb z => (List.mem_cons.mp (I.stkSub b z)).elim (hfp b hb).1.2.1 (hfp b hb).1.2.2.1
    funs := I.stack, frf := I.stkFree }
  refine { ok := okG, os := rfl, bare := hg, base := Un.kept keep, loc := ⟨m, ns, fun i y v e1 e2 e3 => ?_⟩, cell := fun y c e => ?_, free := I.hok.fresh (Nat.le_refl _), freeC := fun y c e => I.freeC y c (cm e).1, pin := fun p hp => ?_, hok := I.hok.kept keep, len := by rw [wipe_length]; exact I.len }
  · obtain ⟨e2, hne⟩ := wipe_some e2
    have notOwn : ∀ k, scope.names.lookup y = some k → k = .local ∨ k = .cell → False := fun k hk hk' => by
      rcases ok.own _ (PySem.mem_of_lookup hk) hk' with z | z
      · obtain ⟨p, hp, hpy⟩ := List.mem_map.mp z
        exact hne (List.mem_map.mpr ⟨p, hp, nodup_ix hN (by rw [ok.ix p hp, show p.1 = y from hpy]) e1⟩)
      · exact z (List.mem_of_getElem? e1)
    have fr : scope.names.lookup y = some .free := by
      rcases e3 with z | z | z
      · exact (notOwn _ z (.inl rfl)).elim
      · exact (notOwn _ z (.inr rfl)).elim
      · exact z
    obtain ⟨c, h1, h2⟩ := there fr
    obtain ⟨m', _, hl⟩ := I.loc
    have cf := ok.free _ (PySem.mem_of_lookup fr) rfl
    obtain ⟨u, r, q⟩ := hl i y v e1 e2 (cf.elim (fun k => .inr (.inl k)) fun k => .inr (.inr k))
    refine ⟨u, r, .inr ⟨.inr fr, c, h1, ?_⟩⟩
    rcases q with ⟨k, _⟩ | ⟨_, c', e', z⟩
    · have k : X.env.scope.names.lookup y = some .local := k
      rcases cf with z | z <;> (rw [show X.env.scope.names.lookup y = _ from z] at k; cases k)
    · rw [h2] at e'
      cases e'
      exact z.keeps keep
  · obtain ⟨v, z⟩ := I.cell y c (cm e).1
    exact ⟨v, z.keeps keep⟩
  · obtain rfl : p = (a, go) := List.mem_singleton.mp (show p ∈ [(a, go)] from hp)
    refine ⟨ha, I.hok.fresh (Nat.le_of_lt la), Nat.ne_of_gt la, fun z => ?_, nv⟩
    obtain ⟨_, o, ho, _⟩ := I.stack.mem z
    exact absurd (Nat.lt_trans (Heap.lt_size ho) la) (Nat.lt_irrefl _)
/-- the state but for its generators, texts' numbers and draws -/
theorem inv_re {X : Cx} {s s' : Shared} (I : Inv X pins σ H s) (hh : s'.heap = s.heap) (ho : s'.os = s.os) (hg : AllBare s'.gens) : Inv X pins σ H s' := by
  obtain ⟨a1, a2, a3, a4, a5, a6, a7, a8, a9, a10, a11⟩ := I
  rw [← hh] at a4 a5 a6 a9 a10
  exact ⟨a1, ho.trans a2, hg, a4, a5, a6, a7, a8, a9, a10, a11⟩
end
/-! the generator's own run -/
/-- an item handed out: a truth; the one at which the consumer stops, and the others, behind which it asks again -/
def gxY (X : Cx) (p : Addr × Obj) (st : Bool) (QS : Hp → Prop) : Protocol := fun _ _ v s kap => ∃ (b : Bool) (σ : L2.St) (H : Hp), v = .bool b ∧ Inv X [p] σ H s ∧ (b = st → QS H) ∧
  (b = !st → ∀ s2 : Shared, s2.heap = s.heap → s2.os = s.os → AllBare s2.gens → kap (.send .none) s2)
def gxP (X : Cx) (p : Addr × Obj) (QE : Hp → Prop) : Nat → Shared → Shared → Prop := fun _ _ s => ∃ (σ : L2.St) (H : Hp), Inv X [p] σ H s ∧ QE H
abbrev gxR (X : Cx) (p : Addr × Obj) (QE : Hp → Prop) : GenEnd := fun n s0 r s => r = .ok .next ∧ gxP X p QE n s0 s
/-- one turn by the walk, the target, the item -/
def gxTurn (J : It) (g : TG) (te : TE) (vs : List Nat) (st : Bool) (σ : L2.St) (QE QS : Hp → Prop) (W : Nat → Nat → Hp → Prop) : Prop := ∀ i m H, W i m H → (J.stop i H ∧ QE H) ∨ (J.go i H ∧ ∀ x H', J.yld i H x H' →
  g x (wipe σ vs) H' fun σ2 H2 => wipe σ2 vs = wipe σ vs ∧ te σ2 H2 fun y H3 => ∃ b, y = .bl b ∧ (b = st → QS H3) ∧ (b = !st → ∃ m', m' < m ∧ W (i + 1) m' H3))
section
variable {X : Cx} {p : Addr × Obj} {st : Bool} {QE QS : Hp → Prop} {J : It} {g : TG} {te : TE} {vs : List Nat} {σ : L2.St} {W : Nat → Nat → Hp → Prop} {fp : List Addr} {it : Addr} {tn : Nat → Heap → Prop} {elt tg iter : Expr} {scope : Scope} {pos : Pos} {A0 : Around}
theorem gx_loop (hA : X.A = A0.over (.compLoop (.GeneratorExp elt [⟨tg, iter, [], 0⟩] scope pos) 0 (.ref it) .none X.env) []) (hco : X.env.scope.isCoroutine = false) (hx : ∀ e s, X.xe e s → False) (hc : X.calm = true)
    (T : Turn X.prog X.w X.K tg J fp it tn) (hex : ∀ b ∈ fp, b ∈ X.ex) (hpn : X.pn = []) (hap : ∀ b ∈ fp, p.1 ≠ b) (pg : PG X tg g) (pe : PE X elt te) (turn : gxTurn J g te vs st σ QE QS W) :
    ∀ (n i m : Nat) (H : Hp) (s s0 : Shared), m + 1 ≤ n → Inv X [p] (wipe σ vs) H s → tn i s.heap → (∀ b ∈ fp, H b = none) → W i m H →
      Seg (model X.prog X.w) A0 (gxR X p QE) (gxY X p st QS) n s0 (.compLoop (.GeneratorExp elt [⟨tg, iter, [], 0⟩] scope pos) 0 (.ref it) .none X.env)
        ((model X.prog X.w).den (.compLoop (.GeneratorExp elt [⟨tg, iter, [], 0⟩] scope pos) 0 (.ref it) .none X.env)) [] s := by
  have stat : ∀ {σ' : L2.St} {H' : Hp} {s' : Shared}, Inv X [p] σ' H' s' → (∀ b ∈ fp, H' b = none) → ∀ b ∈ fp, FpOk X [p] H' b := fun {σ' H' s'} I' hn b hb =>
    ⟨hn b hb, (I'.ok.exf b (hex b hb)).1, I'.ok.exfs b (hex b hb), .inl (hex b hb), (I'.ok.exf b (hex b hb)).2, fun q hq => by
      rw [hpn] at hq
      rw [List.mem_singleton.mp (show q ∈ [p] from hq)]
      exact hap b hb⟩
  intro n
  induction n with
  | zero => intro i m H s s0 hm; omega
  | succ n ih =>
    intro i m H s s0 hm I t hn w
    show Seg _ A0 _ _ _ s0 _ ((compTurn (.GeneratorExp elt [⟨tg, iter, [], 0⟩] scope pos) 0 (.ref it) .none X.env).onRaise (leaving X.env)) [] s
    rw [compTurn_gen, Sem.onRaise_eq_wrap]
    refine seg_bind_wrap (wpAny_standAt ?_)
    rcases turn i m H w with ⟨stop, qe⟩ | ⟨go, step⟩
    · have d := T.done X rfl rfl rfl hc i [p] s _ H (fun _ _ => False) I (stat I hn) t stop
      rw [hA] at d
      exact seg_bind_wrap (thnF d fun r s1 ⟨hr, I1⟩ => by subst hr; exact seg_end (.ok .next) ⟨rfl, _, _, I1, qe⟩)
    · have d := T.item X rfl rfl rfl hc i [p] s _ H (fun _ _ => False) I (stat I hn) t go
      rw [hA] at d
      refine seg_bind_wrap (thnF d fun r s1 ⟨u, hr, d1⟩ => ?_)
      subst hr
      refine seg_bind_wrap (thnF d1 fun _ s2 ⟨x, H2, I2, r2, y2, t2, n2⟩ => ?_)
      have I2' := I2.pinned (stat I2 n2) (T.obj _ _ t2)
      have dg := pg.run _ s2 _ H2 x u _ I2' r2 (step x H2 y2)
      rw [hA] at dg
      refine seg_bind_wrap (wpAny_mono dg (fun _ s3 ⟨σ3, H3, I3, w3, q3⟩ => ?_) fun e s' z => (hx e s' z).elim)
      simp only [List.forIn_nil]
      refine seg_bind_wrap (wpAny_pure ?_)
      simp only [if_true]
      have out : ∀ v, yieldOut X.env v = yieldValue v := fun v => by simp only [yieldOut, hco, Bool.false_eq_true, if_false]
      simp only [out]
      have de := pe.run _ s3 σ3 H3 _ I3 q3
      rw [hA] at de
      rw [Sem.bind_eq_wrap', Sem.bind_eq_wrap', Sem.wrap_wrap, Sem.wrap_wrap]
      refine seg_wrap (wpAny_mono de (fun v s4 ⟨y, H4, I4, r4, b, hy, qs, qn⟩ => ?_) fun e s' z => (hx e s' z).elim)
      subst hy
      obtain rfl : v = Value.bool b := r4
      have kept : ∀ b ∈ fp, ∀ o, s2.heap.get? b = some o → s4.heap.get? b = some o ∧ H4 b = none := fun b hb o e =>
        let z := I4.pin (b, o) (List.mem_append_right _ (List.mem_append_right _ (mem_pinsAt hb e)))
        ⟨z.1, z.2.1⟩
      refine seg_at (seg_yield rfl rfl rfl ⟨b, σ3, H4, rfl, I4.unpinned, qs, fun hb s5 e1 e2 e3 => ?_⟩)
      obtain ⟨m', lm, w'⟩ := qn hb
      have I5 := inv_re ((I4.unpinned (pins := [p])).weak (σ' := wipe σ vs) (by rw [← w3, wipe_length]) fun j v e => by rw [← w3] at e; exact (wipe_some e).1) e1 e2 e3
      refine seg_again rfl (ih (i + 1) m' H4 s5 s5 (by omega) I5 ?_ (fun b hb => ?_) w')
      · rw [e1]
        exact T.keep _ _ _ t2 fun b hb o e => (kept b hb o e).1
      · obtain ⟨o, e, _⟩ := T.obj _ _ t2 b hb
        exact (kept b hb o e).2
/-- its start: the iterator is asked for itself, then the loop -/
theorem gx_fresh {n : Nat} {s : Shared} (h : ∀ s0, Seg (model X.prog X.w) A0 (gxR X p QE) (gxY X p st QS) n s0 (.compLoop (.GeneratorExp elt [⟨tg, iter, [], 0⟩] scope pos) 0 (.ref it) .none X.env)
        ((model X.prog X.w).den (.compLoop (.GeneratorExp elt [⟨tg, iter, [], 0⟩] scope pos) 0 (.ref it) .none X.env)) [] s) (T : Turn X.prog X.w X.K tg J fp it tn) (t : tn 0 s.heap) (s0 : Shared) :
    Seg (model X.prog X.w) A0 (gxR X p QE) (gxY X p st QS) n s0 (.compStart (.GeneratorExp elt [⟨tg, iter, [], 0⟩] scope pos) 0 (.ref it) .none X.env)
      ((model X.prog X.w).den (.compStart (.GeneratorExp elt [⟨tg, iter, [], 0⟩] scope pos) 0 (.ref it) .none X.env)) [] s := by
  have go := seg_again (c := .compStart (.GeneratorExp elt [⟨tg, iter, [], 0⟩] scope pos) 0 (.ref it) .none X.env) (c' := .compLoop (.GeneratorExp elt [⟨tg, iter, [], 0⟩] scope pos) 0 (.ref it) .none X.env) rfl (h s0)
  show Seg _ A0 _ _ _ s0 _ ((compStart (.GeneratorExp elt [⟨tg, iter, [], 0⟩] scope pos) 0 (.ref it) .none X.env).onRaise (leaving X.env)) [] s
  unfold compStart
  rw [Sem.onRaise_eq_wrap]
  show Seg _ A0 _ _ _ s0 _ ((ask >>= _).wrap _ _ _ _) [] s
  refine seg_bind_wrap (wpAny_askSetting ?_)
  split
  · exact go
  · refine seg_bind_wrap (wpAny_rule ?_)
    show Seg _ A0 _ _ _ s0 _ ((standAt iter.pos >>= _).wrap _ _ _ _) [] s
    exact seg_bind_wrap (wpAny_standAt (seg_bind_wrap (T.self _ 0 s _ _ t go)))
end
/-! the consumer -/
section
variable {X : Cx} {a : Addr} {gn : Nat} {go : Obj} {st : Bool} {QE QS : Hp → Prop} {A : Around} {R : Result → Shared → Prop}
/-- the generator stands ready for at most n turns -/
def GxAt (X : Cx) (A : Around) (a : Addr) (go : Obj) (gn : Nat) (st : Bool) (QE QS : Hp → Prop) (n : Nat) (s : Shared) : Prop := ∃ (gs : GenState) (σ : L2.St) (H : Hp), s.gens[gn]? = some gs ∧ Inv X [(a, go)] σ H s ∧
  ∀ s2 : Shared, s2.heap = s.heap → s2.os = s.os → AllBare s2.gens → gs.Goes (model X.prog X.w) A (gxR X (a, go) QE) (gxY X (a, go) st QS) n (.send .none) s2
theorem allBare_set {gs : GenState} {s : Shared} (h : AllBare s.gens) (hb : gs.bare = true) : AllBare (s.setGen gn gs).gens := fun x hx => by
  obtain ⟨i, hi, e⟩ := Array.mem_iff_getElem.mp hx
  have e2 : (s.gens.setIfInBounds gn gs)[i]? = some x := Array.getElem?_eq_some_iff.mpr ⟨hi, e⟩
  rw [Array.getElem?_setIfInBounds] at e2
  split at e2
  · split at e2
    · cases e2; exact hb
    · cases e2
  · exact h x (Array.mem_of_getElem? e2)
theorem setGen_at {gs : GenState} {s : Shared} (h : gn < (s.setGen gn gs).gens.size) : (s.setGen gn gs).gens[gn]? = some gs := by
  rw [GenW.setGen_size] at h
  simp [Shared.setGen, h]
theorem gx_next {E : Value → Shared → Prop} {s : Shared} {n : Nat} {Qn : Option Value → Shared → Prop} (hh : A.handled = none) (hroom : A.depth < recursionLimit) (isg : ∀ h : Heap, h.get? a = some go → h.IsGen a gn) (G : GxAt X A.in1 a go gn st QE QS n s)
    (hend : ∀ s' σ H, Inv X [(a, go)] σ H s' → QE H → Qn none s') (hstop : ∀ s' σ H, Inv X [(a, go)] σ H s' → QS H → Qn (some (.bool st)) s') (hgo : ∀ k s', n = k + 1 → GxAt X A.in1 a go gn st QE QS k s' → Qn (some (.bool !st)) s') :
    wpAny (model X.prog X.w) A (pyNext (.ref a)) Qn E s := by
  obtain ⟨gs, σ, H, hgs, I, goes⟩ := G
  have at_ := fun {σ' : L2.St} {H' : Hp} {s' : Shared} (I' : Inv X [(a, go)] σ' H' s') => (I'.pin (a, go) (List.mem_append_right _ (List.mem_singleton.mpr rfl))).1
  have lt : gn + 1 ≤ s.gens.size := (Array.getElem?_eq_some_iff.mp hgs).1
  refine GenW.wpAny_gsz lt (wpAny_pyNext_genexpQ (P := gxP X (a, go) QE) hh I.nolimit hroom (isg _ (at_ I)) hgs (goes _ rfl rfl (allBare_set I.bare rfl)) (fun v s1 g1 hb hy => ?_) fun s1 ⟨σ1, H1, I1, q1⟩ h' k => ?_)
  · intro sz
    obtain ⟨b, σ1, H1, rfl, I1, qs, qn⟩ := hy
    have I2 : Inv X [(a, go)] σ1 H1 (s1.setGen gn g1) := inv_re I1 rfl rfl (allBare_set I1.bare hb)
    by_cases e : b = st
    · subst e
      exact hstop _ _ _ I2 (qs rfl)
    · have e2 : b = !st := by cases b <;> cases st <;> simp_all
      subst e2
      match n, qn rfl with
      | 0, qn => exact (qn s1 rfl rfl I1.bare).elim
      | n + 1, qn => exact hgo n _ rfl ⟨g1, σ1, H1, setGen_at sz, I2, qn⟩
  · intro _
    have I2 : Inv X [(a, go)] σ1 H1 (s1.setGen gn .finished) := inv_re I1 rfl rfl (allBare_set I1.bare rfl)
    exact hend _ _ _ (I2.kept (t' := s1.toks) k) q1
theorem gx_all_loop (hh : A.handled = none) (hroom : A.depth < recursionLimit) (isg : ∀ h : Heap, h.get? a = some go → h.IsGen a gn) (hend : ∀ s' σ H, Inv X [(a, go)] σ H s' → QE H → R (.ok (.ret (.bool true))) s')
    (hstop : ∀ s' σ H, Inv X [(a, go)] σ H s' → QS H → R (.ok (.ret (.bool false))) s') : ∀ (n : Nat) (s : Shared), GxAt X A.in1.in1 a go gn false QE QS n s → codeAny (model X.prog X.w) A (.builtin "all.loop" ⟨[.ref a], []⟩) R s := by
  intro n
  induction n with
  | zero =>
    intro s G
    refine codeAny_builtin F.entry_all_loop ?_
    rw [Around.under_plainId F.plain_all_loop _]
    show wpAny _ A.in1 (pyNext (.ref a) >>= _) _ _ s
    refine wpAny_bind (gx_next (A := A.in1) hh hroom isg G (fun s' σ H I q => ?_) (fun s' σ H I q => ?_) fun k s' e => absurd e (by omega))
    · exact wpAny_bind (wpAny_rule (wpAny_pure (hend _ _ _ I q)))
    · exact wpAny_bind (wpAny_holding (wpAny_truthy_bool (wpAny_bind (wpAny_letGo (wpAny_bind (wpAny_rule (wpAny_pure (hstop _ _ _ I q))))))))
  | succ n ih =>
    intro s G
    refine codeAny_builtin F.entry_all_loop ?_
    rw [Around.under_plainId F.plain_all_loop _]
    show wpAny _ A.in1 (pyNext (.ref a) >>= _) _ _ s
    refine wpAny_bind (gx_next (A := A.in1) hh hroom isg G (fun s' σ H I q => ?_) (fun s' σ H I q => ?_) fun k s' e G' => ?_)
    · exact wpAny_bind (wpAny_rule (wpAny_pure (hend _ _ _ I q)))
    · exact wpAny_bind (wpAny_holding (wpAny_truthy_bool (wpAny_bind (wpAny_letGo (wpAny_bind (wpAny_rule (wpAny_pure (hstop _ _ _ I q))))))))
    · cases e
      exact wpAny_bind (wpAny_holding (wpAny_truthy_bool (wpAny_bind (wpAny_letGo (wpAny_pure ⟨plainId_quiet F.plain_all_loop _, ih s' G'⟩)))))
theorem gx_any_loop (hh : A.handled = none) (hroom : A.depth < recursionLimit) (isg : ∀ h : Heap, h.get? a = some go → h.IsGen a gn) (hend : ∀ s' σ H, Inv X [(a, go)] σ H s' → QE H → R (.ok (.ret (.bool false))) s')
    (hstop : ∀ s' σ H, Inv X [(a, go)] σ H s' → QS H → R (.ok (.ret (.bool true))) s') : ∀ (n : Nat) (s : Shared), GxAt X A.in1.in1 a go gn true QE QS n s → codeAny (model X.prog X.w) A (.builtin "any.loop" ⟨[.ref a], []⟩) R s := by
  intro n
  induction n with
  | zero =>
    intro s G
    refine codeAny_builtin F.entry_any_loop ?_
    rw [Around.under_plainId F.plain_any_loop _]
    show wpAny _ A.in1 (pyNext (.ref a) >>= _) _ _ s
    refine wpAny_bind (gx_next (A := A.in1) hh hroom isg G (fun s' σ H I q => ?_) (fun s' σ H I q => ?_) fun k s' e => absurd e (by omega))
    · exact wpAny_bind (wpAny_rule (wpAny_pure (hend _ _ _ I q)))
    · exact wpAny_bind (wpAny_holding (wpAny_truthy_bool (wpAny_bind (wpAny_letGo (wpAny_bind (wpAny_rule (wpAny_pure (hstop _ _ _ I q))))))))
  | succ n ih =>
    intro s G
    refine codeAny_builtin F.entry_any_loop ?_
    rw [Around.under_plainId F.plain_any_loop _]
    show wpAny _ A.in1 (pyNext (.ref a) >>= _) _ _ s
    refine wpAny_bind (gx_next (A := A.in1) hh hroom isg G (fun s' σ H I q => ?_) (fun s' σ H I q => ?_) fun k s' e G' => ?_)
    · exact wpAny_bind (wpAny_rule (wpAny_pure (hend _ _ _ I q)))
    · exact wpAny_bind (wpAny_holding (wpAny_truthy_bool (wpAny_bind (wpAny_letGo (wpAny_bind (wpAny_rule (wpAny_pure (hstop _ _ _ I q))))))))
    · cases e
      exact wpAny_bind (wpAny_holding (wpAny_truthy_bool (wpAny_bind (wpAny_letGo (wpAny_pure ⟨plainId_quiet F.plain_any_loop _, ih s' G'⟩)))))
end
/-! the rule -/
abbrev gxAr (A : Around) (elt tg iter : Expr) (scope : Scope) (pos : Pos) (it : Addr) (env : Env) : Around := A.in1.in1.over (.compLoop (.GeneratorExp elt [⟨tg, iter, [], 0⟩] scope pos) 0 (.ref it) .none env) []
theorem gx_room {k : Nat} {A : Around} {elt tg iter : Expr} {scope : Scope} {pos : Pos} {it : Addr} {env : Env} (hr : Room (k + 1) A) : Room k (gxAr A elt tg iter scope pos it env) := by
  have e1 : (gxAr A elt tg iter scope pos it env).depth ≤ A.depth + 1 := Nat.le_of_eq rfl
  have e2 : (gxAr A elt tg iter scope pos it env).units ≤ A.units + 5 := Nat.le_of_eq rfl
  exact ⟨hr.hd, by have := hr.dp; omega, by have := hr.un; omega⟩
section
variable {X : Cx} {pins : List (Addr × Obj)} {σ : L2.St} {H : Hp} {s : Shared} {scope : Scope} {own : List (Str × Nat)} {elt tg iter : Expr} {gpos : Pos} {c P : Addr} {wi : TI} {g : TG} {te : TE} {k : Nat} {st : Bool} {QE QS : Hp → Prop}
/-- the generator is made at a; s4, H4: ahead of its frame -/
def GxMade (X : Cx) (pins : List (Addr × Obj)) (σ : L2.St) (elt tg iter : Expr) (scope : Scope) (gpos : Pos) (st : Bool) (QE QS : Hp → Prop) (a : Addr) (s5 : Shared) : Prop := ∃ (s4 : Shared) (H4 : Hp) (cenv : Env) (it : Addr) (fp : List Addr) (go : Obj) (gn n : Nat), Inv X pins σ H4 s4 ∧ (∀ b ∈ fp, FpOk X pins H4 b) ∧
  (∀ h : Heap, h.get? a = some go → h.IsGen a gn) ∧ GxAt (X.gx (gxAr X.A elt tg iter scope gpos it cenv) s4 H4 cenv fp) X.A.in1.in1 a go gn st QE QS n s5
theorem gx_made {Q' : Value → Shared → Prop} (hr : Room (k + 1) X.A) (hc : X.calm = true) (hN : X.N.Nodup) (TB : GxR.TabB X.base X.mg c P) (hcode : X.env.code = .ref c) (ok : BlkOk X.N X.env.scope scope own) (nc : ∀ y ∈ scope.names, y.2 ≠ .cell)
    (hdot : scope.names.lookup (".0" : Str) = some .local) (hco : scope.isCoroutine = false) (hi : PI X tg iter wi) (hg : ∀ (Ag : Around) (s : Shared) (H : Hp) (C : Addr) (code : Value) (fp : List Addr), PG (X.gx Ag s H (gxEnv X scope C code) fp) tg g)
    (he : ∀ (Ag : Around) (s : Shared) (H : Hp) (C : Addr) (code : Value) (fp : List Addr), Room k Ag → PE (X.gx Ag s H (gxEnv X scope C code) fp) elt te) (hs : ∀ v, genFold iter X.env v = pure v) (I : Inv X pins σ H s)
    (h : wi σ H fun J H1 => H1 P = some (TbX P) ∧ ∃ W, (∃ m, W 0 m H1) ∧ gxTurn J g te (own.map (·.2)) st σ QE QS W) (hQ : ∀ a s5, GxMade X pins σ elt tg iter scope gpos st QE QS a s5 → Q' (.ref a) s5) :
    wpAny (model X.prog X.w) X.A (eval (.GeneratorExp elt [⟨tg, iter, [], 0⟩] scope gpos) X.env) Q' X.xe s := by
  have free : ∀ y ∈ scope.names, y.2 = .free → ∃ c, X.env.cells.lookup y.1 = some c := fun y hy e => (ok.free y hy e).elim (fun k => I.ok.has _ (.inl k)) fun k => I.ok.has _ (.inr k)
  refine wpAny_GeneratorExp_make hco (closure_ok free) nc hdot ok.kind hr.depth (thn (hi.run pins s σ H _ I h) fun xv s1 hx => thn hx fun itv s2 h2 => ?_) hs
  obtain ⟨it, fp, tn, J, H2, rfl, I2, T, t2, f2, hP, W, ⟨m0, w0⟩, turn⟩ := h2
  refine ⟨I2.nolimit, gx_code TB hcode I2 hP fun code h3 tk I3 k3 z3 => ?_⟩
  obtain ⟨bm, ob, e1, e2, _, _, e5, e6, e7, e8⟩ := TB.bm
  refine wpAny_builtinsFor (m := X.mg) (by rw [I3.ok.glob]; exact I3.mod.glob.keeps I3.bk) e1 e2 (I3.bk _ _ e5) e6 e7 e8 ?_
  have fP : ∀ b ∈ fp, b ≠ P := fun b hb z => by
    have := (f2 b hb).1
    rw [z, hP] at this
    cases this
  have t3 : tn 0 h3 := T.keep _ _ _ t2 fun b hb o e => k3 b o (fP b hb) e
  have f3 : ∀ b ∈ fp, FpOk X pins H2 b ∧ b < h3.objs.size := fun b hb => by
    obtain ⟨o, e, _⟩ := T.obj _ _ t3 b hb
    exact ⟨f2 b hb, Heap.lt_size e⟩
  intro h4 ns sb
  have k4 : ∀ b o, h3.get? b = some o → h4.get? b = some o := fun b o e => sb.extBut b o (Nat.ne_of_lt (Heap.lt_size e)) (Heap.get?_push_of_some _ e)
  have z4 : h4.objs.size = h3.objs.size + 1 := by rw [sb.1, Heap.size_push]
  generalize hgo : ({ cls := .type "generator", data := .fields _ } : Obj) = go
  have nv : ∀ v, go.data ≠ .cell v := fun v z => by rw [← hgo] at z; cases z
  have k5 : ∀ b o, h3.get? b = some o → (h4.push go).get? b = some o := fun b o e => Heap.get?_push_of_some _ (k4 b o e)
  have t5 : tn 0 (h4.push go) := T.keep _ _ _ t3 fun b _ o e => k5 b o e
  have fr : (gxAr X.A elt tg iter scope gpos it (gxEnv X scope h3.objs.size code)).frames = some (gxEnv X scope h3.objs.size code :: X.stack) := by
    have e : (gxAr X.A elt tg iter scope gpos it (gxEnv X scope h3.objs.size code)).frames = pushEnvs (Code.envs (.compLoop (.GeneratorExp elt [⟨tg, iter, [], 0⟩] scope gpos) 0 (.ref it) .none (gxEnv X scope h3.objs.size code))) (pushEnvs (envsOf (([] : List Frame).map Frame.where_)) X.A.frames) := rfl
    rw [e, I.ok.frames]
    rfl
  have IG := fun (g5 : Array GenState) (tk5 : Nat) (hb : AllBare g5) => gx_start (Ag := gxAr X.A elt tg iter scope gpos it (gxEnv X scope h3.objs.size code)) (code := code) (h5 := h4.push go) (tk := tk5) (g5 := g5) (a := h4.objs.size) (go := go) I3 ok nc hN f3 (fun _ => hr.hd) fr k5 (ns.push _) (Heap.get?_push_size _ (by rw [← hgo]; rfl)) (by show h3.objs.size < h4.objs.size; omega) nv hb
  have I5 := IG _ (s2.toks) (AllBare.push (g := .fresh (.compStart (.GeneratorExp elt [⟨tg, iter, [], 0⟩] scope gpos) 0 (.ref it) .none (gxEnv X scope h3.objs.size code))) I3.bare rfl)
  refine hQ _ _ ⟨_, H2, gxEnv X scope h3.objs.size code, it, fp, go, s2.gens.size, m0 + 1, I3, f2, fun h e => ⟨go, _, _, e, by rw [← hgo], by rw [← hgo], by rw [← hgo]⟩, ?_⟩
  refine ⟨_, _, H2, Array.getElem?_push_size .., inv_re I5 rfl rfl I5.bare, fun s6 q1 q2 q3 => ⟨rfl, ?_⟩⟩
  have I6 := inv_re (s' := s6) I5 q1 q2 q3
  have t6 : tn 0 s6.heap := by rw [q1]; exact t5
  refine gx_fresh (X := X.gx (gxAr X.A elt tg iter scope gpos it (gxEnv X scope h3.objs.size code)) _ H2 (gxEnv X scope h3.objs.size code) fp) (fun s0 => ?_) T t6 s6
  exact gx_loop (X := X.gx (gxAr X.A elt tg iter scope gpos it (gxEnv X scope h3.objs.size code)) _ H2 (gxEnv X scope h3.objs.size code) fp) rfl hco (fun _ _ z => z) hc T (fun b hb => hb) rfl (fun b hb z => by
    have q : b < h3.objs.size := (f3 b hb).2
    have e : h4.objs.size = b := z
    have z5 : h4.objs.size = h3.objs.size + 1 := z4
    exact absurd (e ▸ q : h4.objs.size < h3.objs.size) (by rw [z5]; exact Nat.not_lt.mpr (Nat.le_succ _))) (hg _ _ _ _ _ _) (he _ _ _ _ _ _ (gx_room hr)) turn (m0 + 1) 0 m0 H2 s6 s0 (Nat.le_refl _) I6 t6 (fun b hb => (f2 b hb).1) w0
/-- behind it: the def's own state again -/
theorem gx_back {A2 : Around} {s4 : Shared} {H4 : Hp} {cenv : Env} {fp : List Addr} {p : Addr × Obj} {σ2 : L2.St} {H2 : Hp} {s' : Shared} (I : Inv X pins σ H4 s4) (hf : ∀ b ∈ fp, FpOk X pins H4 b) (I2 : Inv (X.gx A2 s4 H4 cenv fp) [p] σ2 H2 s') : Inv X pins σ H2 s' :=
  I.call' (ch := fp) I2.os I2.base I2.hok I2.bare fun b hb => let ⟨_, f1, _, f3, f4, f5⟩ := hf b hb; ⟨f3, f1, f4, f5⟩
/-- all(item for target in iter) where st is false, any(..) where it is true; it ends at the first st -/
def tAA (P : Addr) (st : Bool) (wi : TI) (g : TG) (te : TE) (vs : List Nat) : TE := fun σ H Q => wi σ H fun J H1 => H1 P = some (TbX P) ∧ ∃ W, (∃ m, W 0 m H1) ∧ gxTurn J g te vs st σ (fun H => Q (.bl (!st)) H) (fun H => Q (.bl st) H) W
theorem pe_all {p pos : Pos} (hr : Room (k + 1) X.A) (hc : X.calm = true) (hN : X.N.Nodup) (hgl : Gl X "all") (hm : X.mg "all" = none) (hb : bootBuiltins "all" = some (.builtin "all")) (TB : GxR.TabB X.base X.mg c P) (hcode : X.env.code = .ref c) (ok : BlkOk X.N X.env.scope scope own) (nc : ∀ y ∈ scope.names, y.2 ≠ .cell)
    (hdot : scope.names.lookup (".0" : Str) = some .local) (hco : scope.isCoroutine = false) (hi : PI X tg iter wi) (hg : ∀ (Ag : Around) (s : Shared) (H : Hp) (C : Addr) (code : Value) (fp : List Addr), PG (X.gx Ag s H (gxEnv X scope C code) fp) tg g)
    (he : ∀ (Ag : Around) (s : Shared) (H : Hp) (C : Addr) (code : Value) (fp : List Addr), Room k Ag → PE (X.gx Ag s H (gxEnv X scope C code) fp) elt te) (hs : ∀ v, genFold iter X.env v = pure v := by intro _; rfl)
    (hst : starEach [.GeneratorExp elt [⟨tg, iter, [], 0⟩] scope gpos] X.env = (false, eval (.GeneratorExp elt [⟨tg, iter, [], 0⟩] scope gpos) X.env) :: starEach [] X.env := by rfl) :
    PE X (.Call (.Name "all" p) [.GeneratorExp elt [⟨tg, iter, [], 0⟩] scope gpos] [] pos) (tAA P false wi g te (own.map (·.2))) := ⟨fun pins s σ H Q I h => by
  refine wpAny_Call_Name_kw (ld_blt I hgl hm hb (PyProof.Rows.callWith_builtin1 ?_ hst (by rfl)))
  rw [hst]
  refine Calls.spliced_cons (gx_made hr hc hN TB hcode ok nc hdot hco hi hg he hs I h fun a s5 made => Calls.spliced_nil ?_)
  obtain ⟨s4, H4, cenv, it, fp, go, gn, n, I4, f4, isg, G⟩ := made
  have isg5 : s5.heap.IsGen a gn := isg _ (let ⟨_, _, _, _, J, _⟩ := G; (J.pin (a, go) (List.mem_append_right _ (List.mem_singleton.mpr rfl))).1)
  refine call_function_tree F.kind_all F.plain_all F.entry_all (F.args_all1 _) ?_
  unfold Builtin.«all»
  refine wpAny_bind (m := oneArg "all" _) (wpAny_pure (wpAny_bind (wpAny_pyIter_gen isg5 (wpAny_pure ⟨plainId_quiet F.plain_all_loop _, ?_⟩))))
  exact gx_all_loop (X := X.gx (gxAr X.A elt tg iter scope gpos it cenv) s4 H4 cenv fp) hr.hd hr.depth isg (fun s' σ' H' J q => ⟨.bl true, H', gx_back I4 f4 J, rfl, q⟩) (fun s' σ' H' J q => ⟨.bl false, H', gx_back I4 f4 J, rfl, q⟩) n s5 G⟩
theorem pe_any {p pos : Pos} (hr : Room (k + 1) X.A) (hc : X.calm = true) (hN : X.N.Nodup) (hgl : Gl X "any") (hm : X.mg "any" = none) (hb : bootBuiltins "any" = some (.builtin "any")) (TB : GxR.TabB X.base X.mg c P) (hcode : X.env.code = .ref c) (ok : BlkOk X.N X.env.scope scope own) (nc : ∀ y ∈ scope.names, y.2 ≠ .cell)
    (hdot : scope.names.lookup (".0" : Str) = some .local) (hco : scope.isCoroutine = false) (hi : PI X tg iter wi) (hg : ∀ (Ag : Around) (s : Shared) (H : Hp) (C : Addr) (code : Value) (fp : List Addr), PG (X.gx Ag s H (gxEnv X scope C code) fp) tg g)
    (he : ∀ (Ag : Around) (s : Shared) (H : Hp) (C : Addr) (code : Value) (fp : List Addr), Room k Ag → PE (X.gx Ag s H (gxEnv X scope C code) fp) elt te) (hs : ∀ v, genFold iter X.env v = pure v := by intro _; rfl)
    (hst : starEach [.GeneratorExp elt [⟨tg, iter, [], 0⟩] scope gpos] X.env = (false, eval (.GeneratorExp elt [⟨tg, iter, [], 0⟩] scope gpos) X.env) :: starEach [] X.env := by rfl) :
    PE X (.Call (.Name "any" p) [.GeneratorExp elt [⟨tg, iter, [], 0⟩] scope gpos] [] pos) (tAA P true wi g te (own.map (·.2))) := ⟨fun pins s σ H Q I h => by
  refine wpAny_Call_Name_kw (ld_blt I hgl hm hb (PyProof.Rows.callWith_builtin1 ?_ hst (by rfl)))
  rw [hst]
  refine Calls.spliced_cons (gx_made hr hc hN TB hcode ok nc hdot hco hi hg he hs I h fun a s5 made => Calls.spliced_nil ?_)
  obtain ⟨s4, H4, cenv, it, fp, go, gn, n, I4, f4, isg, G⟩ := made
  have isg5 : s5.heap.IsGen a gn := isg _ (let ⟨_, _, _, _, J, _⟩ := G; (J.pin (a, go) (List.mem_append_right _ (List.mem_singleton.mpr rfl))).1)
  refine call_function_tree F.kind_any F.plain_any F.entry_any (F.args_any1 _) ?_
  unfold Builtin.«any»
  refine wpAny_bind (m := oneArg "any" _) (wpAny_pure (wpAny_bind (wpAny_pyIter_gen isg5 (wpAny_pure ⟨plainId_quiet F.plain_any_loop _, ?_⟩))))
  exact gx_any_loop (X := X.gx (gxAr X.A elt tg iter scope gpos it cenv) s4 H4 cenv fp) hr.hd hr.depth isg (fun s' σ' H' J q => ⟨.bl false, H', gx_back I4 f4 J, rfl, q⟩) (fun s' σ' H' J q => ⟨.bl true, H', gx_back I4 f4 J, rfl, q⟩) n s5 G⟩
end
/-- a def whose code object is at c -/
theorem funOkT {P : Program} {w : World} {K : PySem.W.Frag} {mg : Str → Option Value} {base : Heap} {c : Addr} {x qual : Str} {st : Stmt} {f : Addr} {fd : FuncData} {N ps : List Str} {k : Nat} {sp : Sp} (hc : fd.code = .ref c) (F : Fun K x qual st f fd) (S : FnScope N ps (defScope st)) (len : ∀ vs H Q E, sp vs H Q E → vs.length = ps.length)
    (hbody : ∀ (A : Around) (outer : List Env) (s : Shared) (H : Hp) (vs : List V) (Q : VK) (E : XK), Room k (A.deeper (envOfC qual (defScope st) s.heap.objs.size f (.ref c))) → sp vs H Q E →
      ∃ t, PSs (cxOf CX0 P w K mg base N qual (defScope st) f (.ref c) A outer s H E).nox (defBody st) t ∧ t { nx := fun _ H' => Q .non H', rt := Q } (start N vs) H) : FnOk P w K mg base CX0 (k + 1) f fd ps sp := by
  obtain ⟨oc, od, kV, doc, pm, an, cdv, ct, osl, rfl, lk, hcd⟩ := F.ex
  obtain rfl : cdv = .ref c := hc
  exact fn_of lk hcd S len fun A outer s H vs Q E hr hsp => let ⟨t, h, q⟩ := hbody A outer s H vs Q E hr hsp; ⟨t, h.nox, q⟩
/-- readings -/
theorem d_aa {P : Addr} {st : Bool} {wi : TI} {g : TG} {te : TE} {vs : List Nat} {σ : L2.St} {H : Hp} {Q : VK} (h : wi σ H fun J H1 => H1 P = some (TbX P) ∧ ∃ W, (∃ m, W 0 m H1) ∧ gxTurn J g te vs st σ (fun H => Q (.bl (!st)) H) (fun H => Q (.bl st) H) W) : tAA P st wi g te vs σ H Q := h
theorem aa_it {J : It} {n : Nat} {G : Hp → Prop} {Y : Nat → Hp → V → Hp → Prop} (w : Walk J n G Y) {g : TG} {te : TE} {vs : List Nat} {st : Bool} {σ : L2.St} {H1 : Hp} {QE QS : Hp → Prop} (Pv : Nat → Hp → Prop) (h0 : Pv 0 H1) (hG : ∀ i H, i ≤ n → Pv i H → G H)
    (hs : ∀ i x H H', i < n → Pv i H → Y i H x H' → g x (wipe σ vs) H' fun σ2 H2 => wipe σ2 vs = wipe σ vs ∧ te σ2 H2 fun y H3 => ∃ b, y = .bl b ∧ (b = st → QS H3) ∧ (b = !st → Pv (i + 1) H3)) (hd : ∀ H, Pv n H → QE H) :
    ∃ W, (∃ m, W 0 m H1) ∧ gxTurn J g te vs st σ QE QS W := by
  refine ⟨fun i m H => m = n - i ∧ i ≤ n ∧ Pv i H, ⟨n, by simp, Nat.zero_le _, h0⟩, ?_⟩
  rintro i m H ⟨rfl, hi, p⟩
  have gg := hG i H hi p
  rcases Nat.lt_or_eq_of_le hi with lt | rfl
  · have imp : ∀ {x : V} {H' : Hp} {y : V} {H3 : Hp}, (∃ b, y = V.bl b ∧ (b = st → QS H3) ∧ (b = !st → Pv (i + 1) H3)) → ∃ b, y = V.bl b ∧ (b = st → QS H3) ∧ (b = !st → ∃ m', m' < n - i ∧ m' = n - (i + 1) ∧ i + 1 ≤ n ∧ Pv (i + 1) H3) := fun ⟨b, e, q1, q2⟩ => ⟨b, e, q1, fun z => ⟨n - (i + 1), by omega, rfl, lt, q2 z⟩⟩
    refine .inr ⟨w.goes i H lt gg, fun x H' y => ?_⟩
    have z := hs i x H H' lt p (w.yields i H x H' lt gg y)
    have e : (fun (y : V) (H3 : Hp) => ∃ b, y = V.bl b ∧ (b = st → QS H3) ∧ (b = !st → ∃ m', m' < n - i ∧ m' = n - (i + 1) ∧ i + 1 ≤ n ∧ Pv (i + 1) H3)) = fun y H3 => ∃ b, y = V.bl b ∧ (b = st → QS H3) ∧ (b = !st → Pv (i + 1) H3) := by
      funext y H3
      refine propext ⟨fun ⟨b, e, q1, q2⟩ => ⟨b, e, q1, fun z => ?_⟩, fun q => imp (x := x) (H' := H') q⟩
      obtain ⟨_, _, _, _, q⟩ := q2 z
      exact q
    show g x (wipe σ vs) H' fun σ2 H2 => wipe σ2 vs = wipe σ vs ∧ te σ2 H2 (fun (y : V) (H3 : Hp) => ∃ b, y = V.bl b ∧ (b = st → QS H3) ∧ (b = !st → ∃ m', m' < n - i ∧ m' = n - (i + 1) ∧ i + 1 ≤ n ∧ Pv (i + 1) H3))
    rw [e]
    exact z
  · exact .inl ⟨w.stops H gg, hd H p⟩
end Cw

namespace Cw
open PySem PySem.Spec PyProof.Rows L2
/-! ### the end of a law whose defs hold generator expressions: their tables are tracked, and may grow -/
/-- what is tracked at the law's entry: the tables, and the script where it is not written -/
def entry (T : List Addr) (K : PySem.W.Frag) (a : Addr) (o : Obj) (xs : List V) : Hp := fun b => if b ∈ T then some (TbX b) else if b = a ∧ (K.lookup a).isNone = true then some (.frz o (.lst xs)) else none
section
variable {T : List Addr} {K : PySem.W.Frag} {a b : Addr} {o : Obj} {xs : List V} {u : HO}
theorem entry_tab (h : b ∈ T) : entry T K a o xs b = some (TbX b) := if_pos h
theorem entry_cases (h : entry T K a o xs b = some u) : (b ∈ T ∧ u = TbX b) ∨ (b ∉ T ∧ b = a ∧ K.lookup a = none ∧ u = .frz o (.lst xs)) := by
  unfold entry at h
  split at h
  · rename_i hb; exact .inl ⟨hb, (Option.some.inj h).symm⟩
  · rename_i hb
    split at h
    · rename_i ha; exact .inr ⟨hb, ha.1, Option.isNone_iff_eq_none.mp ha.2, (Option.some.inj h).symm⟩
    · cases h
theorem entry_none (hT : b ∉ T) (ha : b ≠ a ∨ ∃ z, K.lookup a = some z) : entry T K a o xs b = none := by
  cases e : entry T K a o xs b with
  | none => rfl
  | some u =>
    rcases entry_cases e with ⟨h, _⟩ | ⟨_, h, h2, _⟩
    · exact absurd h hT
    · rcases ha with z | ⟨z, e2⟩
      · exact absurd h z
      · rw [h2] at e2; cases e2
end
/-- a promise of a def where it is called from one place -/
structure FnAt (P : Program) (w : World) (K : PySem.W.Frag) (mg : Str → Option Value) (base : Heap) (A : Around) (f : Addr) (fd : FuncData) (ps : List Str) (sp : Sp) : Prop where
  run : ∀ (outer : List Env) (s : Shared) (H : Hp) (args : Args) (us : List Value) (vs : List V) (Q : VK) (E : XK), Env0 P w K mg base A outer s H → BindsTo s fd args (ps.zip us) → Vals vs us → sp vs H Q E → codeAny (model P w) A (.call (.ref f) args) (CR CX0 outer P w H s Q E) s
theorem FnAt.of {P : Program} {w : World} {K : PySem.W.Frag} {mg : Str → Option Value} {base : Heap} {A : Around} {k : Nat} {f : Addr} {fd : FuncData} {ps : List Str} {sp : Sp} (F : FnOk P w K mg base CX0 k f fd ps sp) (hr : Room k A) : FnAt P w K mg base A f fd ps sp :=
  ⟨fun outer s H args us vs Q E => F.run A outer s H args us vs Q E hr⟩
/-- by its body, where what stands around is known (its guards, say) -/
theorem fun_at {P : Program} {w : World} {K : PySem.W.Frag} {mg : Str → Option Value} {base : Heap} {A : Around} {x qual : Str} {st : Stmt} {f : Addr} {fd : FuncData} {N ps : List Str} {k : Nat} {sp : Sp} (F : Fun K x qual st f fd) (S : FnScope N ps (defScope st)) (ha : Room (k + 1) A)
    (len : ∀ vs H Q E, sp vs H Q E → vs.length = ps.length)
    (body : ∀ (cdv : Value) (outer : List Env) (s : Shared) (H : Hp) (vs : List V) (Q : VK) (E : XK), Room k (A.deeper (envOfC qual (defScope st) s.heap.objs.size f cdv)) → sp vs H Q E →
      ∃ t, PSs (cxOf CX0 P w K mg base N qual (defScope st) f cdv A outer s H E).nox (defBody st) t ∧ t { nx := fun _ H' => Q .non H', rt := Q } (start N vs) H) : FnAt P w K mg base A f fd ps sp := by
  obtain ⟨oc, od, kV, doc, pm, an, cdv, ct, osl, rfl, at_, code⟩ := F.ex
  refine ⟨fun outer s H args us vs Q E e0 bnd rv want => ?_⟩
  have nvs := len _ _ _ _ want
  have stays : ∀ b o, base.get? b = some o → s.heap.get? b = some o := fun b o e => (e0.bs b o e).1
  have inK : K.In s.heap := e0.mod.kin.keeps stays
  have kinds : ∀ y ∈ ps.zip us, (defScope st).names.lookup y.1 = some .local ∨ ((defScope st).names.lookup y.1 = some .cell ∧ ((cellsFrom (s.heap.objs.size + 1) (defScope st).names []).lookup y.1).isSome = true) := fun y hy =>
    (S.par y.1 (List.of_mem_zip (show (y.1, y.2) ∈ ps.zip us from hy)).1).imp_right fun q => ⟨q, PySem.W.cellsFrom_some _ _ _ (.inl q)⟩
  refine codeAny_call_function ha.depth (inK _ _ at_) rfl S.co S.gen rfl (PySem.W.codeRec_of inK code) (bnd _ _ _ _ (wpAny_newFunctionEnv_cells S.kind kinds fun env he s1 made => ?_))
  cases he
  obtain ⟨t, ht, hq⟩ := body cdv outer s H vs Q E (ha.deeper _) want
  refine ⟨(e0.mod.nolimit.keeps stays).keeps made.toInCall.keep, codeAny_func (wpAny_mono (ht.nox.run [] s1 (start N vs) H _ (inv_start S ha.hd e0 nvs rv made) hq) (fun fl s' hs => ?_) fun _ _ hs => hs)⟩
  match fl, hs with
  | .ret u, ⟨v, _, H', J, r, q⟩ => exact ⟨v, H', J.os, J.bare, J.base, J.hok, r, q⟩
  | .next, ⟨_, H', J, q⟩ => exact ⟨.non, H', J.os, J.bare, J.base, J.hok, rfl, q⟩
  | .brk, ⟨_, _, _, q⟩ => exact q.elim
  | .cont, ⟨_, _, _, q⟩ => exact q.elim
abbrev tab0 : Obj := { cls := .none, data := .fields #[] }
theorem law_tabs {P : Program} {w : World} {K : PySem.W.Frag} {mg mb : Str → Option Value} {fa a : Addr} {cs : List (Addr × Addr)} {fd : FuncData} {x : Str} {sp : Sp} {s : Shared} {vs : List Value} {ns : List Int}
    (KX : K.In s.heap) (hns : s.heap.Ns mainGlobals mg) (hb : s.heap.Ns builtinsNs mb) (hbb : ∀ x : Str, x ≠ "__name__" → mb x = bootBuiltins x) (hlim : s.heap.NoLimit) (hg : s.gens = #[])
    (hT : ∀ p ∈ cs, s.heap.get? p.2 = some tab0) (nT : ∀ p ∈ cs, K.lookup p.2 = none) (C : ∀ p ∈ cs, PySem.W.CodeHd s.heap p.1 p.2)
    (hbm : ∃ (bm : Addr) (ob : Obj), mg "__builtins__" = some (.ref bm) ∧ bm ≠ builtinsNs ∧ s.heap.get? bm = some ob ∧ ob.cls = .type "module" ∧ ob.dict = some builtinsNs ∧ ob.data = .plain)
    (ha : s.heap.get? a = some { cls := .type "list", data := .seq vs.toArray }) (hi : IntsAre vs ns) (hl : ns.length ≤ sizeLine)
    (F : ∀ base : Heap, K.In base → base.Ns mainGlobals mg → (∀ p ∈ cs, GxR.TabB base mg p.1 p.2) → FnAt P w K mg base callerA fa fd [x] sp) (hbind : ∀ (s : Shared) (u : Value), BindsTo s fd ⟨[u], []⟩ [(x, u)])
    (hsp : ∀ H : Hp, (∀ p ∈ cs, H p.2 = some (TbX p.2)) → SqL K H a (ns.map V.int) → sp [.ref a] H (fun v H' => v = .bl true ∧ ∀ p ∈ cs, H' p.2 = some (TbX p.2)) fun _ _ _ => False)
    :
    codeAny (model P w) callerA (.call (.ref fa) ⟨[.ref a], []⟩) (fun r s' => r = .ok (.ret (.bool true)) ∧ OldK s.heap s'.heap ∧ s'.os = s.os ∧ AllBare s'.gens) s := by
  have inT : ∀ {b}, b ∈ cs.map (·.2) → ∃ p ∈ cs, p.2 = b := fun h => by simpa using h
  have atT : ∀ {b}, b ∈ cs.map (·.2) → s.heap.get? b = some tab0 := fun h => let ⟨p, hp, e⟩ := inT h; e ▸ hT p hp
  have rv : Vals (ns.map V.int) vs := vals_ints hi
  have lv : (ns.map V.int).length = vs.length := rv.length
  generalize hH : entry (cs.map (·.2)) K a { cls := .type "list", data := .seq vs.toArray } (ns.map V.int) = H
  have tabH : ∀ p ∈ cs, H p.2 = some (TbX p.2) := fun p hp => by rw [← hH]; exact entry_tab (List.mem_map.mpr ⟨p, hp, rfl⟩)
  -- what is neither a table nor a list is not tracked
  have off : ∀ {b : Addr} {o : Obj}, s.heap.get? b = some o → o.data ≠ .fields #[] → (∀ zs n, o.data ≠ .seq zs n) → H b = none := fun {b o} e d1 d2 => by
    rw [← hH]
    refine entry_none (fun z => ?_) (.inl fun z => ?_)
    · rw [atT z] at e; cases e; exact d1 rfl
    · rw [z, ha] at e; cases e; exact d2 _ _ rfl
  have okH : HOk P w H s.heap := fun b u e => by
    rw [← hH] at e
    rcases entry_cases e with ⟨h, rfl⟩ | ⟨_, rfl, _, rfl⟩
    · exact ⟨⟨#[], atT h, trivial⟩, ⟨_, atT h⟩, fun h1 h2 ⟨ps, z, zt⟩ st => ⟨ps, st _ z, zt⟩⟩
    · exact ⟨ha, by rw [List.length_map]; exact hl, vs, _, rv, ha⟩
  have hidden : ∀ {b : Addr} {m : Str → Option Value}, s.heap.Ns b m → (hidT s.heap H).Ns b m := fun ⟨o, es, ep, e, d, r⟩ => ⟨o, es, ep, hidT_get e (off e (by rw [d]; exact fun z => nomatch z) (by rw [d]; exact fun _ _ z => nomatch z)), d, r⟩
  have KB : K.In (hidT s.heap H) := fun b o e => hidT_get (KX b o e) (by
    rw [← hH]
    refine entry_none (fun z => ?_) ?_
    · obtain ⟨p, hp, rfl⟩ := inT z
      rw [nT p hp] at e; cases e
    · by_cases z : b = a
      · exact .inr ⟨o, z ▸ e⟩
      · exact .inl z)
  have TB : ∀ p ∈ cs, GxR.TabB (hidT s.heap H) mg p.1 p.2 := fun p hp => by
    refine ⟨?_, ?_, fun z => ?_⟩
    · obtain ⟨o, us, fl, tf, fs, tg, iF, tx, tt, e1, r1, r2, r3, r⟩ := C p hp
      exact ⟨o, us, fl, tf, fs, tg, iF, tx, tt, hidT_get e1 (off e1 (fun z => by rw [r2] at z; cases z; simp at r3) (by rw [r2]; exact fun _ _ z => nomatch z)), r1, r2, r3, r⟩
    · obtain ⟨bm, ob, b1, b2, b3, b4, b5, b6⟩ := hbm
      refine ⟨bm, ob, b1, b2, fun q => ?_, fun q => ?_, hidT_get b3 (off b3 (by rw [b6]; exact fun z => nomatch z) (by rw [b6]; exact fun _ _ z => nomatch z)), b4, b5, b6⟩
      · obtain ⟨o, es, ep, e, d, _⟩ := hns
        rw [← q, b3] at e; cases e; rw [b6] at d; cases d
      · rw [q, hT p hp] at b3; cases b3; cases b6
    · obtain ⟨o, es, ep, e, d, _⟩ := hns
      rw [z, hT p hp] at e; cases e; cases d
  have SQ : SqL K H a (ns.map V.int) := by
    cases e : K.lookup a with
    | some o =>
      have e' := KX a o e
      rw [ha] at e'; cases e'
      exact .inr ⟨_, vs.toArray, _, e, rfl, rfl, rfl, by rw [List.size_toArray, ← lv, List.length_map]; exact hl, by simpa using rv⟩
    | none =>
      refine .inl (.inr ⟨{ cls := .type "list", data := .seq vs.toArray }, ?_⟩)
      rw [← hH]
      unfold entry
      rw [if_neg (fun z => by have := atT z; rw [ha] at this; cases this), if_pos ⟨rfl, by rw [e]; rfl⟩]
  have E0 : Env0 P w K mg (hidT s.heap H) callerA [] s H := ⟨rfl, ⟨KB, hidden hns, ⟨mb, hidden hb, hbb⟩, let ⟨mc, h1, h2⟩ := hlim; ⟨mc, hidden h1, h2⟩⟩, fun b o e => of_hidT e, Nat.le_of_eq (hidT_size _ _), trivial, fun b z => (nomatch z), okH, .of_eq hg⟩
  refine codeAny_mono ((F _ KB (hidden hns) TB).run [] s H ⟨[.ref a], []⟩ [.ref a] [.ref a] _ _ E0 (hbind s (.ref a)) (.cons rfl .nil) (hsp H tabH SQ)) fun r s' h => ?_
  match r, h with
  | .error e, h => exact h.elim
  | .ok .next, h => exact h.elim
  | .ok .brk, h => exact h.elim
  | .ok .cont, h => exact h.elim
  | .ok (.ret u), ⟨v, H', os, bare, un, ok', rel, ev, tabs⟩ =>
    subst ev
    obtain rfl : u = Value.bool true := rel
    have grown : ∀ p ∈ cs, ∃ more : Array Value, s'.heap.get? p.2 = some { cls := .none, data := .fields more } := fun p hp => let ⟨ps, e, _⟩ := (ok' _ _ (tabs p hp)).1; ⟨ps, e⟩
    have stays : ∀ b o, b ∉ cs.map (·.2) → s.heap.get? b = some o → s'.heap.get? b = some o := fun b o nb e => by
      cases q : H b with
      | none => exact un.keep b o e q (fun z => nomatch z) (fun z => nomatch z)
      | some u =>
        have q2 := q
        rw [← hH] at q2
        rcases entry_cases q2 with ⟨z, _⟩ | ⟨_, _, _, rfl⟩
        · exact absurd z nb
        · have e1 := (okH b _ q).1
          rw [e] at e1
          rw [e1]
          exact (ok' b _ (un.frzs b _ _ q)).1
    refine ⟨rfl, ⟨fun b o e => ?_, fun b o e => ?_⟩, os, bare⟩ <;> by_cases hb : b ∈ cs.map (·.2)
    · obtain ⟨p, hp, rfl⟩ := inT hb
      obtain ⟨more, hm⟩ := grown p hp
      rw [hT p hp] at e
      cases e
      exact .inr (.inl ⟨((C p hp).tab (hT p hp)).isCodeTable, rfl, #[], more, rfl, by rw [Array.empty_append]; exact hm⟩)
    · exact .inl (stays b o hb e)
    · obtain ⟨p, hp, rfl⟩ := inT hb
      obtain ⟨more, hm⟩ := grown p hp
      exact ⟨_, hm⟩
    · exact ⟨o, stays b o hb e⟩
/-- a def of the top with its empty table -/
def TabFact (mg : Str → Option Value) (h : Heap) (x : Str) : Prop := ∃ (a : Addr) (o : Obj) (fd : FuncData) (c P : Addr), mg x = some (.ref a) ∧ h.get? a = some o ∧ o.data = .func fd ∧ fd.code = .ref c ∧ h.IsCode c P #[] ∧ h.TableAt c P #[]
theorem tab_of {K : PySem.W.Frag} {mg : Str → Option Value} {h : Heap} {x : Str} {f c P : Addr} {oc tc : Value} {od td : Option Addr} {fd : FuncData} {osl ts : Array (Option Value)} {tv : Array Value} (X : K.In h) (hf : mg x = some (.ref f)) (l : K.lookup f = some ⟨oc, od, .func fd, osl⟩)
    (hc : fd.code = .ref c) (t : K.lookup c = some ⟨tc, td, .fields tv, ts⟩) (u : tv[11]? = some (.ref P)) (F : TabFact mg h x) : h.get? P = some tab0 ∧ PySem.W.CodeHd h c P := by
  obtain ⟨a, o, fd', c', P', h1, h2, h3, h4, h5, h6⟩ := F
  rw [hf] at h1
  cases h1
  rw [X _ _ l] at h2
  cases h2
  cases h3
  rw [hc] at h4
  cases h4
  have cd := PySem.W.CodeHd.of h5 h6
  obtain ⟨⟨o2, vs2, e1, _, e3, e4⟩, hP⟩ := h6
  rw [X _ _ t] at e1
  cases e1
  cases e3
  rw [u] at e4
  cases e4
  exact ⟨hP, cd⟩
/-- the law's promise, its tables tracked -/
def spLawT (K : PySem.W.Frag) (cs : List (Addr × Addr)) : Sp := fun vs H Q _ => ∃ (a : Addr) (ns : List Int), vs = [.ref a] ∧ SqL K H a (ns.map V.int) ∧ ns.length ≤ 63 ∧ (∀ p ∈ cs, H p.2 = some (TbX p.2)) ∧ ∀ H', (∀ p ∈ cs, H' p.2 = some (TbX p.2)) → Q (.bl true) H'
def LawX (l : PySem.W.OpenLaw) (w : World) (K : PySem.W.Frag) (mg : Str → Option Value) (fa : Addr) (h : Heap) : Prop := ∃ (fd : FuncData) (cs : List (Addr × Addr)), (∀ (s : Shared) (u : Value), BindsTo s fd ⟨[u], []⟩ [("script", u)]) ∧ (∀ p ∈ cs, h.get? p.2 = some tab0) ∧ (∀ p ∈ cs, K.lookup p.2 = none) ∧ (∀ p ∈ cs, PySem.W.CodeHd h p.1 p.2) ∧
  ∀ base : Heap, K.In base → base.Ns mainGlobals mg → (∀ p ∈ cs, GxR.TabB base mg p.1 p.2) → FnAt l.prog w K mg base callerA fa fd ["script"] (spLawT K cs)
theorem walk_ofX {l : PySem.W.OpenLaw} {q : Program} {loose : List Str} {XP : (Str → Option Value) → Heap → Prop} {YP : World → Heap → Prop} {d : DefRec} {K : Params → PySem.W.Frag} (names : List Str)
    (hn : l.most = some 63) (hdf : d.params.defaults = []) (hrec : (names.all fun x => (recsOf q).any fun e => e.name == x) = true) (hY : ∀ (w : World) (h : Heap), YP w h → (K w.params).In h)
    (F : ∀ (w : World) (mg : Str → Option Value) (fa : Addr) (h : Heap), (K w.params).In h → h.Ns mainGlobals mg → mg d.name = some (.ref fa) → (∀ x ∈ names, TabFact mg h x) → LawX l w (K w.params) mg fa h) :
    PySem.W.WalkO q loose XP YP l.row.toRowW d [] (fun f vs => PySem.call f vs) := by
  refine Att.attach_callB hn hdf fun w s₀ s₁ mg mb fa o pm cd doc a vs ns G Y ho hd hcd hmg hobj hints hlen hbits hg => ?_
  have KX := hY w _ Y
  have facts : ∀ x ∈ names, TabFact mg s₁.heap x := fun x hx => by
    obtain ⟨e, he, ee⟩ := List.any_eq_true.mp (List.all_eq_true.mp hrec x hx)
    obtain ⟨a1, o1, fd1, c1, P1, r⟩ := G.T.tab e he
    have : e.name = x := beq_iff_eq.mp ee
    rw [this] at r
    exact ⟨a1, o1, fd1, c1, P1, r⟩
  obtain ⟨fd, cs, hb, hT, nT, C, hF⟩ := F w mg fa _ KX G.T.g hmg facts
  exact law_tabs KX G.T.g G.T.b G.T.builtins G.T.nolimit hg hT nT C G.T.bmain hobj hints (Nat.le_trans hlen (by decide)) hF hb (fun H hH hS => ⟨a, ns, rfl, hS, hlen, hH, fun H' h' => ⟨rfl, h'⟩⟩)
end Cw

namespace Cw
open PySem PySem.Spec PySem.Calls PyProof.Rows L2
/-! ### the kind of a thing told -/
inductive TyS (K : PySem.W.Frag) (H : Hp) : V → String → Prop
  | int (i : Int) : TyS K H (.int i) "int"
  | str (x : Str) : TyS K H (.str x) "str"
  | lst {a : Addr} {xs : List V} (e : SqL K H a xs) : TyS K H (.ref a) "list"
  | tup {a : Addr} {xs : List V} (e : SqT K H a xs) : TyS K H (.ref a) "tuple"
def rTyS (K : PySem.W.Frag) : List V → Hp → VK → Prop := fun xs H Q => ∃ x T, xs = [x] ∧ TyS K H x T ∧ Q (.ty T) H
theorem cr_type {X : Cx} : CallR X (.type "type") (rTyS X.K) := by
  intro pins s σ H xs us Q I r h
  obtain ⟨x, T, rfl, t, q⟩ := h
  obtain ⟨u, rfl, rx⟩ := vals1 r
  have fin : EP X pins σ Q (.type T) s := ⟨.ty T, H, I, rfl, q⟩
  cases t with
  | int i =>
    obtain ⟨k, rfl⟩ := rx
    exact call_type_of (typeIs_int s i k) (by decide +kernel) fin
  | str z =>
    obtain ⟨k, rfl⟩ := rx
    exact call_type_of (typeIs_str s z k) (by decide +kernel) fin
  | lst e =>
    cases rx
    obtain ⟨_, _, p, _⟩ := I.list e
    exact call_type_of p.isList.typeIs (by decide +kernel) fin
  | tup e =>
    cases rx
    obtain ⟨_, _, p, _⟩ := I.tuple e
    exact call_type_of p.typeIs (by decide +kernel) fin
theorem d_type {K : PySem.W.Frag} {H : Hp} {Q : VK} {x : V} {T : String} (t : TyS K H x T) (q : Q (.ty T) H) : rTyS K [x] H Q := ⟨x, T, rfl, t, q⟩
/-! ### how many members a set has -/
def rLenSO (w : World) : List V → Hp → VK → Prop := fun xs H Q => ∃ a S n, xs = [.ref a] ∧ H a = some (SetO w a S n) ∧ ∀ ks : List Int, ks.Nodup → (∀ k, S k = true ↔ k ∈ ks) → ks.length = n → Q (.int (n : Nat)) H
theorem cr_lenSO {X : Cx} {wd : World} (hw : X.w = wd) : CallR X (.builtin "len") (rLenSO wd) := by
  subst hw
  intro pins s σ H xs us Q I r h
  obtain ⟨a, S, n, rfl, e, q⟩ := h
  obtain ⟨u, rfl, ru⟩ := vals1 r
  obtain rfl : u = Value.ref a := ru
  obtain ⟨o, es, ep, t, ho, ex, d, _, nd, mem, _, fits, hn, _⟩ := setO_get I e
  refine call_len_set ho ex d fits ?_ ⟨.int (n : Nat), H, I.tok _, ⟨_, by rw [hn]⟩, q _ nd mem (by rw [List.length_map, Array.length_toList, hn])⟩
  have := ‹es.size < scanBound›
  unfold scanBound at this
  omega
theorem sub_len {α : Type} [DecidableEq α] : ∀ (ks ns : List α), ks.Nodup → (∀ k ∈ ks, k ∈ ns) → ks.length ≤ ns.length
  | [], _, _, _ => Nat.zero_le _
  | k :: r, ns, nd, sub => by
    have hk := sub k List.mem_cons_self
    have h1 := sub_len r (ns.erase k) (List.nodup_cons.mp nd).2 fun x hx => (List.mem_erase_of_ne fun (z : x = k) => (List.nodup_cons.mp nd).1 (z ▸ hx)).mpr (sub x (List.mem_cons_of_mem _ hx))
    rw [List.length_erase_of_mem hk] at h1
    have := List.length_pos_of_mem hk
    rw [List.length_cons]
    omega
theorem len_nodup {α : Type} [DecidableEq α] {ks ns : List α} (nd : ks.Nodup) (m : ∀ k, k ∈ ks ↔ k ∈ ns) : ks.length = ns.length ↔ ns.Nodup := by
  constructor
  · intro e
    refine Decidable.byContradiction fun c => ?_
    have : ∃ x : α, ∃ l : List α, l.length + 1 = ns.length ∧ (∀ y, y ∈ ns → y ∈ l) := by
      clear e nd m
      induction ns with
      | nil => exact absurd .nil c
      | cons x r ih =>
        by_cases h : x ∈ r
        · exact ⟨x, r, rfl, fun y hy => (List.mem_cons.mp hy).elim (fun z => z ▸ h) id⟩
        · obtain ⟨y, l, hl, hm⟩ := ih fun z => c (List.nodup_cons.mpr ⟨h, z⟩)
          exact ⟨y, x :: l, by rw [List.length_cons, List.length_cons, hl], fun z hz => (List.mem_cons.mp hz).elim (fun q => q ▸ List.mem_cons_self) fun q => List.mem_cons_of_mem _ (hm z q)⟩
    obtain ⟨_, l, hl, hm⟩ := this
    have := sub_len ks l nd fun k hk => hm k ((m k).mp hk)
    omega
  · intro nn
    exact Nat.le_antisymm (sub_len _ _ nd fun k hk => (m k).mp hk) (sub_len _ _ nn fun k hk => (m k).mpr hk)
/-! ### numbers that rise -/
theorem rise_ext {ns ks : List Int} (a : ns.Pairwise (· < ·)) (b : ks.Pairwise (· < ·)) (m : ∀ k, k ∈ ns ↔ k ∈ ks) : ns = ks := by
  have nd : ∀ {l : List Int}, l.Pairwise (· < ·) → l.Nodup := fun h => h.imp fun {x y} h => by omega
  have p : ns.Perm ks := (List.perm_ext_iff_of_nodup (nd a) (nd b)).mpr m
  exact p.eq_of_pairwise (le := (· < ·)) (fun x y _ _ h1 h2 => by omega) a b
theorem dp_ints {K : PySem.W.Frag} {H : Hp} {L : Addr} {ns : List Int} (e : SqL K H L (ns.map V.int)) : Dp K H (.ref L) (.list (ns.map PyData.int)) := .lst e (dpa_ints ns)
theorem eqv_ints2 : ∀ ns ks : List Int, PyData.eqvAll (ns.map PyData.int) (ks.map PyData.int) = decide (ns = ks)
  | [], [] => by simp [PyData.eqvAll]
  | [], _ :: _ => by simp [PyData.eqvAll]
  | _ :: _, [] => by simp [PyData.eqvAll]
  | a :: r, b :: t => by
    have := eqv_ints2 r t
    simp only [List.map_cons, PyData.eqvAll, this, PyData.eqv]
    rw [Bool.eq_iff_iff]
    simp
theorem eqv_intsB (ns ks : List Int) : PyData.eqv (.list (ns.map PyData.int)) (.list (ks.map PyData.int)) = decide (ns = ks) := by
  simp only [PyData.eqv]
  exact eqv_ints2 ns ks
/-- firsts rise, ends are no two alike -/
def leadB (ld : Lead) : Bool := decide ((ld.map (·.1)).Pairwise (· < ·) ∧ (ld.map (·.2)).Nodup)
end Cw

namespace Cw
open PySem PySem.Spec PyProof.Rows L2
/-! ### leads behind one another, some pairs of a lead, each place into itself -/
def bothL (ld kd : Lead) : Lead := ld.filterMap fun p => (ldAt kd p.2).map fun z => (p.1, z)
theorem mem_both {ld kd : Lead} {x : Nat × Nat} : x ∈ bothL ld kd ↔ ∃ q, (x.1, q) ∈ ld ∧ ldAt kd q = some x.2 := by
  unfold bothL
  rw [List.mem_filterMap]
  constructor
  · rintro ⟨p, hp, e⟩
    obtain ⟨z, hz, e⟩ := Option.map_eq_some_iff.mp e
    subst e
    exact ⟨p.2, hp, hz⟩
  · rintro ⟨q, h1, h2⟩
    exact ⟨(x.1, q), h1, by rw [h2]; rfl⟩
theorem snd_inj {ld : Lead} (nd : (ld.map (·.2)).Nodup) {p q : Nat × Nat} (hp : p ∈ ld) (hq : q ∈ ld) (e : p.2 = q.2) : p = q := by
  induction ld with
  | nil => cases hp
  | cons x r ih =>
    rw [List.map_cons, List.nodup_cons] at nd
    rcases List.mem_cons.mp hp with h1 | h1 <;> rcases List.mem_cons.mp hq with h2 | h2
    · rw [h1, h2]
    · exact absurd (List.mem_map.mpr ⟨q, h2, by rw [← e, h1]⟩) nd.1
    · exact absurd (List.mem_map.mpr ⟨p, h1, by rw [e, h2]⟩) nd.1
    · exact ih nd.2 h1 h2
theorem both_ok {a b c : Web} {ld kd : Lead} (L : LOk a b ld) (M : LOk b c kd) : LOk a c (bothL ld kd) := by
  refine ⟨?_, ?_, fun p hp => ?_⟩
  · unfold bothL
    rw [List.pairwise_filterMap]
    refine L.rise.imp fun {x y} h u hu v hv => ?_
    obtain ⟨_, _, rfl⟩ := Option.map_eq_some_iff.mp hu
    obtain ⟨_, _, rfl⟩ := Option.map_eq_some_iff.mp hv
    exact h
  · unfold bothL List.Nodup
    rw [List.pairwise_map, List.pairwise_filterMap]
    have nd := L.ends
    unfold List.Nodup at nd
    rw [List.pairwise_map] at nd
    refine nd.imp fun {x y} h u hu v hv e => ?_
    obtain ⟨z1, h1, rfl⟩ := Option.map_eq_some_iff.mp hu
    obtain ⟨z2, h2, rfl⟩ := Option.map_eq_some_iff.mp hv
    have e : z1 = z2 := e
    subst e
    have := snd_inj M.ends (ldAt_mem h1) (ldAt_mem h2) rfl
    exact h (congrArg Prod.fst this)
  · obtain ⟨q, h1, h2⟩ := mem_both.mp hp
    have r1 := L.like _ h1
    have r2 := M.like _ (ldAt_mem h2)
    exact ⟨r1.1, r2.2.1, r2.2.2.trans r1.2.2⟩
theorem both_len (ld kd : Lead) : (bothL ld kd).length ≤ ld.length := List.length_filterMap_le _ _
theorem both_lie {a b c : Web} {ld kd : Lead} (h1 : lieB a b ld = true) (h2 : lieB b c kd = true) : lieB a c (bothL ld kd) = true := by
  refine List.all_eq_true.mpr fun p hp => List.all_eq_true.mpr fun q hq => ?_
  obtain ⟨x, p1, p2⟩ := mem_both.mp hp
  obtain ⟨y, q1, q2⟩ := mem_both.mp hq
  have e1 := List.all_eq_true.mp (List.all_eq_true.mp h1 _ p1) _ q1
  have e2 := List.all_eq_true.mp (List.all_eq_true.mp h2 _ (ldAt_mem p2)) _ (ldAt_mem q2)
  unfold agr at e1 e2 ⊢
  rw [decide_eq_true_eq] at e1 e2 ⊢
  exact e1.trans e2
theorem tie_in {w : Web} (W : WOk w) {t : Tie} (h : t ∈ w.2) : tieL w.2 t.1 t.2.1 = some t.2.2 := by
  have r := (W.ends t h).1
  cases e : tieL w.2 t.1 t.2.1 with
  | none =>
    have z := (tieL_isSome (ts := w.2) (a := t.1) (b := t.2.1)).mpr ⟨t, h, at2_iff.mpr (by omega)⟩
    rw [e] at z; cases z
  | some d =>
    unfold tieL at e
    obtain ⟨u, hu, rfl⟩ := Option.map_eq_some_iff.mp e
    have hm := List.mem_of_find?_eq_some hu
    have hp := at2_iff.mp (List.find?_some hu)
    have r2 := (W.ends u hm).1
    obtain ⟨i, hi, ei⟩ := List.getElem_of_mem hm
    obtain ⟨j, hj, ej⟩ := List.getElem_of_mem h
    have s := List.pairwise_iff_getElem.mp W.rise
    rcases Nat.lt_trichotomy i j with z | z | z
    · have lt := s i j hi hj z
      rw [ei, ej] at lt
      rcases lt with lt | lt <;> omega
    · subst z
      rw [ei] at ej
      rw [ej]
    · have lt := s j i hj hi z
      rw [ei, ej] at lt
      rcases lt with lt | lt <;> omega
/-- a tie led by both -/
theorem both_led {a b c : Web} (B : WOk b) {ld kd : Lead} (L : LOk a b ld) (M : LOk b c kd) {t s : Tie} {x y : Nat} (ht : t ∈ dueL a b ld) (hx : ldAt ld t.1 = some x) (hy : ldAt ld t.2.1 = some y) (hs : s ∈ dueL b c kd) (e1 : s.1 = min x y) (e2 : s.2.1 = max x y) : t ∈ dueL a c (bothL ld kd) := by
  have N := both_ok L M
  obtain ⟨ht1, ht2⟩ := List.mem_filter.mp ht
  obtain ⟨hs1, hs2⟩ := List.mem_filter.mp hs
  refine List.mem_filter.mpr ⟨ht1, (isLed_iff N.rise).mpr ?_⟩
  rw [isLed_at hx hy, decide_eq_true_eq] at ht2
  obtain ⟨z1, z2, m1, m2, e3⟩ := (isLed_iff M.rise).mp hs2
  have e4 := tie_in B hs1
  rw [e1, e2] at e4
  rw [e1] at m1
  rw [e2] at m2
  rcases Nat.le_total x y with h | h
  · rw [Nat.min_eq_left h] at e4 m1
    rw [Nat.max_eq_right h] at e4 m2
    rw [ht2] at e4
    have := Option.some.inj e4
    exact ⟨z1, z2, mem_both.mpr ⟨x, ldAt_mem hx, (ldAt_iff M.rise).mpr m1⟩, mem_both.mpr ⟨y, ldAt_mem hy, (ldAt_iff M.rise).mpr m2⟩, by rw [e3, this]⟩
  · rw [Nat.min_eq_right h] at e4 m1
    rw [Nat.max_eq_left h] at e4 m2
    rw [tieL_swap, ht2] at e4
    have := Option.some.inj e4
    exact ⟨z2, z1, mem_both.mpr ⟨x, ldAt_mem hx, (ldAt_iff M.rise).mpr m2⟩, mem_both.mpr ⟨y, ldAt_mem hy, (ldAt_iff M.rise).mpr m1⟩, by rw [tieL_swap, e3, this]⟩
/-- fewer pairs lead no more ties -/
theorem some_led {w w' : Web} {ld kd : Lead} (L : LOk w w' ld) (s : kd.Sublist ld) {t : Tie} (h : t ∈ dueL w w' kd) : t ∈ dueL w w' ld := by
  obtain ⟨h1, h2⟩ := List.mem_filter.mp h
  obtain ⟨a, b, m1, m2, e⟩ := (isLed_iff (L.sub s).rise).mp h2
  exact List.mem_filter.mpr ⟨h1, (isLed_iff L.rise).mpr ⟨a, b, s.subset m1, s.subset m2, e⟩⟩
theorem some_lie {w w' : Web} {ld kd : Lead} (s : kd.Sublist ld) (h : lieB w w' ld = true) : lieB w w' kd = true :=
  List.all_eq_true.mpr fun p hp => List.all_eq_true.mpr fun q hq => List.all_eq_true.mp (List.all_eq_true.mp h p (s.subset hp)) q (s.subset hq)
theorem pos_some {os : List Nat} {p : Nat} : (posOf os p).isSome = true ↔ p ∈ os := by
  unfold posOf
  rw [List.findIdx?_isSome, List.any_eq_true]
  exact ⟨fun ⟨x, h1, h2⟩ => (beq_iff_eq.mp h2) ▸ h1, fun h => ⟨p, h, beq_self_eq_true p⟩⟩
/-- a lead that lies leads all ties between its places -/
theorem lie_all {w w' : Web} (W : WOk w) {ld : Lead} {os : List Nat} (L : LOk w w' ld) (h : lieB w w' ld = true) (pm : os.Perm (ld.map (·.1))) : (dueL w w' ld).length = (cutL w os).2.length := by
  show (w.2.filter (isLed w' ld)).length = (w.2.filterMap (cutTie os)).length
  have key : ∀ t ∈ w.2, isLed w' ld t = (cutTie os t).isSome := fun t ht => by
    rw [Bool.eq_iff_iff, isLed_iff L.rise]
    have io : ∀ p, p ∈ os ↔ ∃ q, (p, q) ∈ ld := fun p => by
      rw [pm.mem_iff, List.mem_map]
      exact ⟨fun ⟨x, h1, h2⟩ => ⟨x.2, by rw [← h2]; exact h1⟩, fun ⟨q, h⟩ => ⟨(p, q), h, rfl⟩⟩
    have cs : (cutTie os t).isSome = true ↔ t.1 ∈ os ∧ t.2.1 ∈ os := by
      unfold cutTie
      rw [← pos_some, ← pos_some]
      cases posOf os t.1 <;> cases posOf os t.2.1 <;> simp
    rw [cs, io, io]
    constructor
    · rintro ⟨a, b, m1, m2, _⟩
      exact ⟨⟨a, m1⟩, ⟨b, m2⟩⟩
    · rintro ⟨⟨a, m1⟩, ⟨b, m2⟩⟩
      have z := List.all_eq_true.mp (List.all_eq_true.mp h _ m1) _ m2
      unfold agr at z
      rw [decide_eq_true_eq] at z
      exact ⟨a, b, m1, m2, by rw [← tie_in W ht]; exact z.symm⟩
  clear h L pm
  generalize w.2 = ts at key
  induction ts with
  | nil => rfl
  | cons t r ih =>
    have i := ih fun x hx => key x (List.mem_cons_of_mem _ hx)
    have k := key t List.mem_cons_self
    rw [List.filter_cons, List.filterMap_cons]
    cases e : cutTie os t with
    | none =>
      rw [e] at k
      rw [k]
      exact i
    | some u =>
      rw [e] at k
      rw [k]
      show (t :: _).length = (u :: _).length
      rw [List.length_cons, List.length_cons, i]
/-! ### each place into itself -/
def sameL (n : Nat) : Lead := (List.range n).map fun p => (p, p)
theorem mem_same {n : Nat} {x : Nat × Nat} : x ∈ sameL n ↔ x.1 < n ∧ x.2 = x.1 := by
  unfold sameL
  rw [List.mem_map]
  constructor
  · rintro ⟨p, hp, rfl⟩
    exact ⟨List.mem_range.mp hp, rfl⟩
  · rintro ⟨h, e⟩
    exact ⟨x.1, List.mem_range.mpr h, Prod.ext rfl e.symm⟩
theorem same_ok (w : Web) : LOk w w (sameL w.1.length) := by
  refine ⟨?_, ?_, fun p hp => ?_⟩
  · unfold sameL
    rw [List.pairwise_map]
    exact List.pairwise_lt_range
  · unfold sameL
    rw [List.map_map]
    show ((List.range w.1.length).map fun p => p).Nodup
    rw [List.map_id']
    exact List.nodup_range
  · obtain ⟨h, e⟩ := mem_same.mp hp
    rw [e]
    exact ⟨h, h, rfl⟩
theorem same_lie (w : Web) : lieB w w (sameL w.1.length) = true :=
  List.all_eq_true.mpr fun p hp => List.all_eq_true.mpr fun q hq => by
    unfold agr
    rw [(mem_same.mp hp).2, (mem_same.mp hq).2]
    exact decide_eq_true rfl
theorem same_due {w : Web} (W : WOk w) : dueL w w (sameL w.1.length) = w.2 := by
  refine List.filter_eq_self.mpr fun t ht => (isLed_iff (same_ok w).rise).mpr ?_
  have r := W.ends t ht
  exact ⟨t.1, t.2.1, mem_same.mpr ⟨by show t.1 < _; omega, rfl⟩, mem_same.mpr ⟨by show t.2.1 < _; omega, rfl⟩, tie_in W ht⟩
end Cw

/-! {k for .. in ..}, {k for .. in .. for .. in ..}, k a whole number -/
namespace Cw
open PySem PySem.Spec PySem.Calls PyProof.Rows L2
abbrev scOne (e tg i : Expr) (sc : Scope) (p : Pos) : Expr := .SetComp e [⟨tg, i, [], 0⟩] sc p
abbrev scTwo (e t0 i0 t1 i1 : Expr) (sc : Scope) (p : Pos) : Expr := .SetComp e [⟨t0, i0, [], 0⟩, ⟨t1, i1, [], 0⟩] sc p
def putIn (e : Expr) (acc : Value) (ce : Env) : Sem Unit := do
  let v ← eval e ce
  standAt e.pos
  let _ ← call (.builtin "set.add") [acc, v]
  pure ()
def inner (e t0 i0 t1 i1 : Expr) (sc : Scope) (p : Pos) (acc : Value) (ce : Env) : Sem Unit := do
  let x ← eval i1 ce
  standAt i1.pos
  let x ← foldedSetIterable i1 ce x
  let _ ← runOwn (.compStart (scTwo e t0 i0 t1 i1 sc p) 1 (← holding [x] (pyIter x)) acc ce) ce
  pure ()
theorem turn_one (e tg i : Expr) (sc : Scope) (p : Pos) (it acc : Value) (ce : Env) : compTurn (scOne e tg i sc p) 0 it acc ce = (do
    standAt i.pos
    match ← pyNext it with
    | none => pure (.done .next)
    | some v =>
      letOwnedTupleGo tg it v
      assign tg ce v
      putIn e acc ce
      again (.compLoop (scOne e tg i sc p) 0 it acc ce)) := by rfl
theorem turn_out (e t0 i0 t1 i1 : Expr) (sc : Scope) (p : Pos) (it acc : Value) (ce : Env) : compTurn (scTwo e t0 i0 t1 i1 sc p) 0 it acc ce = (do
    standAt i0.pos
    match ← pyNext it with
    | none => pure (.done .next)
    | some v =>
      letOwnedTupleGo t0 it v
      assign t0 ce v
      inner e t0 i0 t1 i1 sc p acc ce
      again (.compLoop (scTwo e t0 i0 t1 i1 sc p) 0 it acc ce)) := by
  have raw : compTurn (scTwo e t0 i0 t1 i1 sc p) 0 it acc ce = (do
    standAt i0.pos
    match ← pyNext it with
    | none => pure (.done .next)
    | some v =>
      letOwnedTupleGo t0 it v
      assign t0 ce v
      let x ← eval i1 ce
      standAt i1.pos
      let x ← foldedSetIterable i1 ce x
      let _ ← runOwn (.compStart (scTwo e t0 i0 t1 i1 sc p) 1 (← holding [x] (pyIter x)) acc ce) ce
      again (.compLoop (scTwo e t0 i0 t1 i1 sc p) 0 it acc ce)) := by rfl
  rw [raw]
  unfold inner
  simp only [bind_assoc, pure_bind]
theorem turn_in (e t0 i0 t1 i1 : Expr) (sc : Scope) (p : Pos) (it acc : Value) (ce : Env) : compTurn (scTwo e t0 i0 t1 i1 sc p) 1 it acc ce = (do
    standAt i1.pos
    match ← pyNext it with
    | none => pure (.done .next)
    | some v =>
      letOwnedTupleGo t1 it v
      assign t1 ce v
      putIn e acc ce
      again (.compLoop (scTwo e t0 i0 t1 i1 sc p) 1 it acc ce)) := by rfl
section
variable {P : Program} {w : World} {A : Around} {R : Result → Shared → Prop} {s : Shared}
/-- one clause's loop, whatever is done with what it yields -/
theorem clause_loop {cx : Expr} {c : Nat} {it acc : Value} {ce : Env} {tg : Expr} {p : Pos} {body : Sem Unit} (I : Nat → Shared → Prop)
    (den : ∀ (s : Shared) (Q : Fin → Shared → Prop) (E : Value → Shared → Prop), wpAny (model P w) A ((compTurn cx c it acc ce).onRaise (fun x => do noteFrame x ce; theTreesLotGoes x)) Q E s → wpAny (model P w) (A.under (.compLoop cx c it acc ce)) ((model P w).den (.compLoop cx c it acc ce)) Q E s) (quiet : (Code.compLoop cx c it acc ce).quiet = true)
    (ht : compTurn cx c it acc ce = (do
      standAt p
      match ← pyNext it with
      | none => pure (.done .next)
      | some v =>
        letOwnedTupleGo tg it v
        assign tg ce v
        body
        again (.compLoop cx c it acc ce)))
    (turn : ∀ n s, I n s → wpAny (model P w) A (pyNext it) (fun r s1 => match r with
      | none => R (.ok .next) s1
      | some v => wpAny (model P w) A (letOwnedTupleGo tg it v) (fun _ s2 => wpAny (model P w) A (assign tg ce v) (fun _ s3 => wpAny (model P w) A body (fun _ s4 => ∃ m, m < n ∧ I m s4) (fun _ _ => False) s3) (fun _ _ => False) s2) (fun _ _ => False) s1) (fun _ _ => False) s)
    (n : Nat) (h : I n s) : codeAny (model P w) A (.compLoop cx c it acc ce) R s := by
  have gone : ∀ {α : Type} {t : Sem α} {Q : α → Shared → Prop} {E : Value → Shared → Prop} {s : Shared}, wpAny (model P w) A t Q (fun _ _ => False) s → wpAny (model P w) A t Q E s := fun h => thnF h fun _ _ q => q
  refine codeAny_loop quiet I (fun k s1 i1 => den _ _ _ ?_) n h
  rw [ht]
  refine wpAny_noted (wpAny_bind (wpAny_standAt (wpAny_bind (thnF (turn k s1 i1) fun r s2 h2 => ?_))))
  match r, h2 with
  | none, h2 => exact wpAny_pure h2
  | some v, h2 => exact wpAny_bind (thnF h2 fun _ s3 h3 => wpAny_bind (thnF h3 fun _ s4 h4 => wpAny_bind (thnF h4 fun _ s5 h5 => wpAny_pure ⟨rfl, h5⟩)))
end
/-- a clause's loop where the scope's names are tracked: B says what a turn's body is to reach -/
theorem clause_walk {Y : Cx} {pins : List (Addr × Obj)} {σ0 : L2.St} {fp : List Addr} {it : Addr} {tn : Nat → Heap → Prop} {J : It} {tg : Expr} {g : TG} {cx : Expr} {c : Nat} {acc : Value} {p : Pos} {body : Sem Unit} {R : Result → Shared → Prop}
    (calm : Y.calm = true) (noX : Y.xe = fun _ _ => False) (T : Turn Y.prog Y.w Y.K tg J fp it tn) (pg : PG Y tg g)
    (den : ∀ (s : Shared) (Q : Fin → Shared → Prop) (E : Value → Shared → Prop), wpAny (model Y.prog Y.w) Y.A ((compTurn cx c (.ref it) acc Y.env).onRaise (fun x => do noteFrame x Y.env; theTreesLotGoes x)) Q E s → wpAny (model Y.prog Y.w) (Y.A.under (.compLoop cx c (.ref it) acc Y.env)) ((model Y.prog Y.w).den (.compLoop cx c (.ref it) acc Y.env)) Q E s) (quiet : (Code.compLoop cx c (.ref it) acc Y.env).quiet = true)
    (ht : compTurn cx c (.ref it) acc Y.env = (do
      standAt p
      match ← pyNext (.ref it) with
      | none => pure (.done .next)
      | some v =>
        letOwnedTupleGo tg (.ref it) v
        assign tg Y.env v
        body
        again (.compLoop cx c (.ref it) acc Y.env)))
    {Done : Hp → Prop} {B : (Hp → Prop) → L2.St → Hp → Prop} (atEnd : ∀ s H, Inv Y pins σ0 H s → (∀ b ∈ fp, H b = none) → Done H → R (.ok .next) s)
    (atTurn : ∀ pl σ2 H2 s Nx, Inv Y (pins ++ pl) σ2 H2 s → B Nx σ2 H2 → wpAny (model Y.prog Y.w) Y.A body (fun _ s' => ∃ σ' H', Inv Y (pins ++ pl) σ' H' s' ∧ σ0.length = σ'.length ∧ (∀ (j : Nat) v, σ0[j]? = some (some v) → σ'[j]? = some (some v)) ∧ Nx H') (fun _ _ => False) s)
    {W : Nat → Nat → Hp → Prop} {s : Shared} {H : Hp} (I0 : Inv Y pins σ0 H s) (st : tn 0 s.heap) (own : ∀ b ∈ fp, FpOk Y pins H b) {m : Nat} (w0 : W 0 m H)
    (turn : ∀ i m H, W i m H → (J.stop i H ∧ Done H) ∨ (J.go i H ∧ ∃ Nx : Hp → Prop, (∀ H', Nx H' → ∃ m', m' < m ∧ W (i + 1) m' H') ∧ ∀ x H', J.yld i H x H' → g x σ0 H' (B Nx))) :
    codeAny (model Y.prog Y.w) Y.A (.compLoop cx c (.ref it) acc Y.env) R s := by
  refine clause_loop (fun n s' => ∃ i H', Inv Y pins σ0 H' s' ∧ tn i s'.heap ∧ (∀ b ∈ fp, H' b = none) ∧ W i n H') den quiet ht (fun n s1 hI => ?_) m ⟨0, H, I0, st, fun b hb => (own b hb).1, w0⟩
  obtain ⟨i, H1, I1, t1, n1, w1⟩ := hI
  have fresh : ∀ {H' : Hp}, (∀ b ∈ fp, H' b = none) → ∀ b ∈ fp, FpOk Y pins H' b := fun z b hb => ⟨z b hb, (own b hb).2⟩
  rcases turn i n H1 w1 with ⟨stop, dn⟩ | ⟨go, Nx, less, step⟩
  · refine thnF (T.done Y rfl rfl rfl calm i pins s1 σ0 H1 (fun _ _ => False) I1 (fresh n1) t1 stop) fun r s2 ⟨er, I2⟩ => ?_
    subst er
    exact atEnd s2 H1 I2 n1 dn
  · refine thnF (T.item Y rfl rfl rfl calm i pins s1 σ0 H1 (fun _ _ => False) I1 (fresh n1) t1 go) fun r s2 ⟨u, er, rest⟩ => ?_
    subst er
    refine thnF rest fun _ s3 ⟨x, H3, I3, rx, yx, t3, n3⟩ => ?_
    have given := pg.run _ s3 _ H3 x u _ (I3.pinned (fresh n3) (T.obj _ _ t3)) rx (step x H3 yx)
    rw [noX] at given
    refine thnF given fun _ s4 ⟨σ4, H4, I4, b4⟩ => thnF (atTurn _ σ4 H4 s4 Nx I4 b4) fun _ s5 ⟨σ5, H5, I5, len, kept, nx⟩ => ?_
    obtain ⟨m', lt, w'⟩ := less H5 nx
    have still : ∀ b ∈ fp, ∀ o, s3.heap.get? b = some o → s5.heap.get? b = some o ∧ H5 b = none := fun b hb o e => by
      have z := I5.pin (b, o) (List.mem_append_right _ (List.mem_append_right _ (mem_pinsAt hb e)))
      exact ⟨z.1, z.2.1⟩
    refine ⟨m', lt, i + 1, H5, I5.unpinned.weak len kept, T.keep _ _ _ t3 fun b hb o e => (still b hb o e).1, fun b hb => ?_, w'⟩
    obtain ⟨o, e, _⟩ := T.obj _ _ t3 b hb
    exact (still b hb o e).2
/-- a whole number is put into the set -/
def put (w : World) (D : Addr) (Nx : Hp → Prop) : V → Hp → Prop := fun y H => ∃ (k : Int) (S : Int → Bool) (n : Nat), y = .int k ∧ H D = some (SetO w D S n) ∧ n + 1 < scanBound ∧ Nx (upd H D (SetO w D (fun j => S j || decide (j = k)) (if S k = true then n else n + 1)))
theorem put_run {Y : Cx} {pins : List (Addr × Obj)} {σ2 : L2.St} {H2 : Hp} {s : Shared} {e : Expr} {te : TE} {D : Addr} {Nx : Hp → Prop} (noX : Y.xe = fun _ _ => False) (pe : PE Y e te) (I : Inv Y pins σ2 H2 s) (h : te σ2 H2 (put Y.w D Nx)) :
    wpAny (model Y.prog Y.w) Y.A (putIn e (.ref D) Y.env) (fun _ s' => ∃ H', Inv Y pins σ2 H' s' ∧ Nx H') (fun _ _ => False) s := by
  have run := pe.run pins s σ2 H2 _ I h
  rw [noX] at run
  refine wpAny_bind (thnF run fun v s1 ⟨y, H3, I3, ry, k, S, n, ey, eD, room, nx⟩ => wpAny_bind (wpAny_standAt (wpAny_bind ?_)))
  subst ey
  obtain ⟨t, rfl⟩ := ry
  refine setR_add (setO_get I3 eD) room fun h' sb new => wpAny_pure ⟨_, I3.write (e := D) (t' := s1.toks + 1) (by rw [eD]; trivial) (.inl rfl) (fun b u hb hu => (sb.2 b hb).trans hu) ?_ (setO_new new), nx⟩
  obtain ⟨o, _, _, _, ho, _⟩ := new
  exact ⟨o, ho⟩
/-- what a set comprehension walks: L is its loop's reading, from the empty set on -/
def tSetC (w : World) (wi : TI) (vs : List Nat) (L : It → Addr → L2.St → Hp → (Hp → Prop) → Prop) : TE := fun σ H Q => wi σ H fun J H1 => ∀ D, H1 D = none → L J D (wipe σ vs) (upd H1 D (SetO w D (fun _ => false) 0)) fun H' => Q (.ref D) H'
section
variable {X : Cx}
theorem set_open {elt tg iter : Expr} {rest : List Comprehension} {scope : Scope} {own : List (PySem.Str × Nat)} {pos : Pos} {wi : TI} {L : It → Addr → L2.St → Hp → (Hp → Prop) → Prop} (calm : X.calm = true) (nd : X.N.Nodup) (pi : PI X tg iter wi) (ok : BlkOk X.N X.env.scope scope own)
    (walk : ∀ (s : Shared) (H : Hp) (C : Addr) (cl : List (PySem.Str × Addr)) (fp : List Addr) (it D : Addr) (tn : Nat → Heap → Prop) (J : It) (σ' : L2.St) (R : Result → Shared → Prop) (Done : Hp → Prop) (s' : Shared) (H' : Hp),
      Turn X.prog X.w X.K tg J fp it tn → Inv (X.blk s H scope (compEnvC scope cl C X.env) fp) [] σ' H' s' → tn 0 s'.heap → (∀ b ∈ fp, FpOk (X.blk s H scope (compEnvC scope cl C X.env) fp) [] H' b) → L J D σ' H' Done →
      (∀ s1 H1, Inv (X.blk s H scope (compEnvC scope cl C X.env) fp) [] σ' H1 s1 → (∀ b ∈ fp, H1 b = none) → Done H1 → R (.ok .next) s1) →
      codeAny (model X.prog X.w) X.A (.compLoop (.SetComp elt (⟨tg, iter, [], 0⟩ :: rest) scope pos) 0 (.ref it) (.ref D) (compEnvC scope cl C X.env)) R s')
    (unfolded : ∀ x, foldedSetIterable iter X.env x = pure x := by intro _; rfl) : PE X (.SetComp elt (⟨tg, iter, [], 0⟩ :: rest) scope pos) (tSetC X.w wi (own.map (·.2)) L) := by
  refine ⟨fun pins s σ H Q I h => ?_⟩
  rw [PpSet.eval_SetComp]
  have caught : ∀ y ∈ scope.names, y.2 = .free → ∃ c, X.env.cells.lookup y.1 = some c := fun y hy e => (ok.free y hy e).elim (fun z => I.ok.has _ (.inl z)) fun z => I.ok.has _ (.inr z)
  refine wpAny_comprehension_free (use := none) rfl unfolded (closure_ok caught) ok.kind (fun y hy e => by rw [ok.uniq y hy, e]) (thn (pi.run pins s σ H _ I h) fun _ s1 given => thn given fun _ s2 came => ?_)
  obtain ⟨it, fp, tn, J, H2, rfl, I2, T, t2, f2, want⟩ := came
  refine PpSet.newSet_ok (newEnv_comp ?_)
  have freeD : H2 s2.heap.objs.size = none := I2.hok.fresh (Nat.le_refl _)
  have want := want _ freeD
  -- the set
  have I3 : Inv X pins σ (upd H2 s2.heap.objs.size (SetO X.w s2.heap.objs.size (fun _ => false) 0)) { s2 with heap := s2.heap.push (noSet X.w) } :=
    I2.laid (t' := s2.toks) (fun b o e => Heap.get?_push_of_some _ e) (Nat.le_refl _) (setO_new (setR_fresh X.w))
  have there : ∀ b ∈ fp, b < s2.heap.objs.size := fun b hb => let ⟨_, e, _⟩ := T.obj _ _ t2 b hb; Heap.lt_size e
  have t3 : tn 0 (s2.heap.push (noSet X.w)) := T.keep _ _ _ t2 fun b _ o e => Heap.get?_push_of_some _ e
  change codeAny _ _ _ _ { s2 with heap := pushCells ((s2.heap.push (noSet X.w)).push { cls := .type "dict", data := .dict #[] }) scope.names }
  generalize hD : s2.heap.objs.size = D at I3 want there freeD ⊢
  generalize hh3 : s2.heap.push (noSet X.w) = h3 at I3 t3 ⊢
  have grown : h3.objs.size = D + 1 := by rw [← hh3, Heap.size_push, hD]
  generalize hH3 : upd H2 D (SetO X.w D (fun _ => false) 0) = H3 at I3 want
  have f3 : ∀ b ∈ fp, FpOk X pins H3 b ∧ b < h3.objs.size := fun b hb => by
    have lt := there b hb
    refine ⟨⟨?_, (f2 b hb).2⟩, by rw [grown]; exact Nat.lt_succ_of_lt lt⟩
    rw [← hH3, upd_ne (Nat.ne_of_lt lt)]
    exact (f2 b hb).1
  have I4 := block_start I3 ok nd f3
  have t4 : tn 0 (pushCells (h3.push { cls := .type "dict", data := .dict #[] }) scope.names) := T.keep _ _ _ t3 fun b _ o e => pushCells_keeps _ _ _ _ (Heap.get?_push_of_some _ e)
  have lp := walk { s2 with heap := h3 } H3 h3.objs.size (cellsFrom (h3.objs.size + 1) scope.names (cloFrom X.env.cells scope.names [])) fp it D tn J _ (compPost (model X.prog X.w) X.A X.xe none (EP X pins σ Q) (.ref D) h3.objs.size) (fun H' => Q (.ref D) H') _ H3 T I4 t4
    (fun b hb => ⟨(f3 b hb).1.1, (I4.ok.exf b hb).1, I4.ok.exfs b hb, .inl hb, fun x c e => (I4.ok.exf b hb).2 x c e, fun p hp => absurd (show p ∈ ([] : List (Addr × Obj)) ++ [] from hp) (by simp)⟩) want ?_
  · exact PpSet.codeAny_compStart_set lp (T.self X.A 0 _ _ _ t4 lp)
  · intro s5 H5 I5 n5 q5
    -- back where the comprehension stands
    have I6 : Inv X pins σ H5 s5 := I3.call' (ch := fp) I5.os I5.base I5.hok I5.bare fun b hb => ⟨(f3 b hb).1.2.2.2.1, (f3 b hb).1.2.1, (f3 b hb).1.2.2.2.2.1, (f3 b hb).1.2.2.2.2.2⟩
    obtain ⟨m, names, _⟩ := I5.loc
    obtain ⟨a0, a1, a2, a3, a4, a5⟩ := I3.fpOk (H' := H5) (Nat.le_refl _) I5.free
    exact ⟨m, names, fun h'' sb => ⟨.ref D, H5, I6.turned (t' := s5.toks) (fun b o hb e => (sb.2 b hb).trans e) a0 a1 a3 a4 a5, rfl, q5⟩⟩
/-- a clause's walk that fills the set -/
def sc1 (w : World) (g : TG) (te : TE) (vs : List Nat) (J : It) (D : Addr) (σ0 : L2.St) (H0 : Hp) (Done : Hp → Prop) : Prop := ∃ W : Nat → Nat → Hp → Prop, (∃ m, W 0 m H0) ∧ ∀ i m H, W i m H → (J.stop i H ∧ Done H) ∨
  (J.go i H ∧ ∃ Nx : Hp → Prop, (∀ H', Nx H' → ∃ m', m' < m ∧ W (i + 1) m' H') ∧ ∀ x H', J.yld i H x H' → g x σ0 H' fun σ2 H2 => wipe σ2 vs = σ0 ∧ te σ2 H2 (put w D Nx))
theorem kept_of {σ0 σ2 : L2.St} {vs : List Nat} (e : wipe σ2 vs = σ0) : σ0.length = σ2.length ∧ ∀ (j : Nat) v, σ0[j]? = some (some v) → σ2[j]? = some (some v) := by
  subst e
  exact ⟨wipe_length _ _, fun j v z => (wipe_some z).1⟩
theorem pe_scI {elt tg iter : Expr} {scope : Scope} {own : List (PySem.Str × Nat)} {pos : Pos} {wi : TI} {g : TG} {te : TE} (calm : X.calm = true) (nd : X.N.Nodup) (pi : PI X tg iter wi) (ok : BlkOk X.N X.env.scope scope own)
    (pg : ∀ (s : Shared) (H : Hp) (C : Addr) (cl : List (PySem.Str × Addr)) (fp : List Addr), PG (X.blk s H scope (compEnvC scope cl C X.env) fp) tg g)
    (pe : ∀ (s : Shared) (H : Hp) (C : Addr) (cl : List (PySem.Str × Addr)) (fp : List Addr), PE (X.blk s H scope (compEnvC scope cl C X.env) fp) elt te) (unfolded : ∀ x, foldedSetIterable iter X.env x = pure x := by intro _; rfl) :
    PE X (.SetComp elt [⟨tg, iter, [], 0⟩] scope pos) (tSetC X.w wi (own.map (·.2)) (sc1 X.w g te (own.map (·.2)))) := by
  refine set_open calm nd pi ok (fun s H C cl fp it D tn J σ' R Done s' H' T I t f want fin => ?_) unfolded
  obtain ⟨W, ⟨m, w0⟩, turn⟩ := want
  refine clause_walk (Y := X.blk s H scope (compEnvC scope cl C X.env) fp) (cx := scOne elt tg iter scope pos) (c := 0) (acc := .ref D) calm rfl T (pg s H C cl fp) (fun _ _ _ h => h) rfl (turn_one elt tg iter scope pos (.ref it) (.ref D) _) fin (fun pl σ2 H2 s2 Nx I2 b => ?_) I t f w0 turn
  obtain ⟨a1, a2⟩ := kept_of b.1
  exact thnF (put_run rfl (pe s H C cl fp) I2 b.2) fun _ s3 ⟨H3, I3, nx⟩ => ⟨σ2, H3, I3, a1, a2, nx⟩
/-- .. for .. in .. for .. in ..: behind the first clause's store the second's walk -/
def sc2 (w : World) (g : TG) (wi1 : TI) (g1 : TG) (te : TE) (vs vs1 : List Nat) (J : It) (D : Addr) (σ0 : L2.St) (H0 : Hp) (Done : Hp → Prop) : Prop := ∃ W : Nat → Nat → Hp → Prop, (∃ m, W 0 m H0) ∧ ∀ i m H, W i m H → (J.stop i H ∧ Done H) ∨
  (J.go i H ∧ ∃ Nx : Hp → Prop, (∀ H', Nx H' → ∃ m', m' < m ∧ W (i + 1) m' H') ∧ ∀ x H', J.yld i H x H' → g x σ0 H' fun σ2 H2 => wipe σ2 vs = σ0 ∧ wi1 σ2 H2 fun J1 H3 => sc1 w g1 te vs1 J1 D (wipe σ2 vs1) H3 Nx)
theorem second_start {P : Program} {w : World} {A : Around} {R : Result → Shared → Prop} {s : Shared} {e t0 i0 t1 i1 : Expr} {sc : Scope} {p : Pos} {it acc : Value} {ce : Env} (lp : codeAny (model P w) A (.compLoop (scTwo e t0 i0 t1 i1 sc p) 1 it acc ce) R s)
    (anew : wpAny (model P w) A (pyIter it) (fun it' s' => codeAny (model P w) A (.compLoop (scTwo e t0 i0 t1 i1 sc p) 1 it' acc ce) R s') (fun _ _ => False) s) : codeAny (model P w) A (.compStart (scTwo e t0 i0 t1 i1 sc p) 1 it acc ce) R s := by
  refine codeAny_of_tree ?_
  show wpAny _ _ ((compStart (scTwo e t0 i0 t1 i1 sc p) 1 it acc ce).onRaise (fun x => do noteFrame x ce; standAt theWindowsPlace)) _ _ s
  refine wpAny_notedAt ?_
  unfold compStart
  show wpAny _ _ (ask >>= _) _ _ s
  refine wpAny_bind (wpAny_askSetting (wpAny_ite ?_))
  split
  · first
      | exact wpAny_bind (wpAny_pure (wpAny_pure ⟨rfl, lp⟩))
      | exact wpAny_pure ⟨rfl, lp⟩
  · have anew' : wpAny (model P w) A (pyIter it) (fun it' s' => codeAny (model P w) A (.compLoop (scTwo e t0 i0 t1 i1 sc p) 1 it' acc ce) R s') (notedBy (model P w) A ce fun x s' => R (.error x) s') s := thnF anew fun _ _ q => q
    first
      | exact wpAny_bind (wpAny_rule (wpAny_bind (wpAny_standAt (wpAny_bind (thn anew' fun it' s' q => wpAny_pure ⟨rfl, q⟩)))))
      | (refine wpAny_bind (wpAny_rule ?_); show wpAny _ _ (standAt i1.pos >>= _) _ _ s; exact wpAny_bind (wpAny_standAt (wpAny_bind (thn anew' fun it' s' q => wpAny_pure ⟨rfl, q⟩))))
theorem pe_scI2 {elt tg iter tg1 iter1 : Expr} {scope : Scope} {own : List (PySem.Str × Nat)} {vs1 : List Nat} {pos : Pos} {wi wi1 : TI} {g g1 : TG} {te : TE} (calm : X.calm = true) (nd : X.N.Nodup) (pi : PI X tg iter wi) (ok : BlkOk X.N X.env.scope scope own) (sub : ∀ i ∈ vs1, i ∈ own.map (·.2))
    (pg : ∀ (s : Shared) (H : Hp) (C : Addr) (cl : List (PySem.Str × Addr)) (fp : List Addr), PG (X.blk s H scope (compEnvC scope cl C X.env) fp) tg g)
    (pi1 : ∀ (s : Shared) (H : Hp) (C : Addr) (cl : List (PySem.Str × Addr)) (fp : List Addr), PI (X.blk s H scope (compEnvC scope cl C X.env) fp) tg1 iter1 wi1)
    (pg1 : ∀ (s : Shared) (H : Hp) (C : Addr) (cl : List (PySem.Str × Addr)) (fp : List Addr), PG (X.blk s H scope (compEnvC scope cl C X.env) fp) tg1 g1)
    (pe : ∀ (s : Shared) (H : Hp) (C : Addr) (cl : List (PySem.Str × Addr)) (fp : List Addr), PE (X.blk s H scope (compEnvC scope cl C X.env) fp) elt te)
    (unfolded : ∀ x, foldedSetIterable iter X.env x = pure x := by intro _; rfl) (unfolded1 : ∀ env x, foldedSetIterable iter1 env x = pure x := by intro _ _; rfl) :
    PE X (.SetComp elt [⟨tg, iter, [], 0⟩, ⟨tg1, iter1, [], 0⟩] scope pos) (tSetC X.w wi (own.map (·.2)) (sc2 X.w g wi1 g1 te (own.map (·.2)) vs1)) := by
  refine set_open calm nd pi ok (fun s H C cl fp it D tn J σ' R Done s' H' T I t f want fin => ?_) unfolded
  obtain ⟨W, ⟨m, w0⟩, turn⟩ := want
  refine clause_walk (Y := X.blk s H scope (compEnvC scope cl C X.env) fp) (cx := scTwo elt tg iter tg1 iter1 scope pos) (c := 0) (acc := .ref D) calm rfl T (pg s H C cl fp) (fun _ _ _ h => h) rfl (turn_out elt tg iter tg1 iter1 scope pos (.ref it) (.ref D) _) fin (fun pl σ2 H2 s2 Nx I2 b => ?_) I t f w0 turn
  obtain ⟨a1, a2⟩ := kept_of b.1
  have a3 : ∀ (j : Nat) v, σ'[j]? = some (some v) → (wipe σ2 vs1)[j]? = some (some v) := fun j v z => by
    rw [← b.1] at z
    obtain ⟨z1, z2⟩ := wipe_some z
    rw [wipe_out fun h => z2 (sub j h)]
    exact z1
  unfold inner
  refine wpAny_bind (thnF ((pi1 s H C cl fp).run _ s2 σ2 H2 _ I2 b.2) fun x s3 came => wpAny_bind (wpAny_standAt (wpAny_bind (wpAny_of_eq (unfolded1 _ x) (wpAny_bind (wpAny_holding (thnF came fun itv s4 h4 => ?_)))))))
  obtain ⟨it1, fp1, tn1, J1, H4, rfl, I4, T1, t4, f4, W1, ⟨m1, w1⟩, turn1⟩ := h4
  refine wpAny_bind (wpAny_runOwn ?_)
  rw [Around.mark_none]
  let Post : Result → Shared → Prop := fun r s' => ∃ fl, r = .ok fl ∧ ∃ σ5 H5, Inv (X.blk s H scope (compEnvC scope cl C X.env) fp) ([] ++ pl) σ5 H5 s' ∧ σ'.length = σ5.length ∧ (∀ (j : Nat) v, σ'[j]? = some (some v) → σ5[j]? = some (some v)) ∧ Nx H5
  have lp : codeAny (model X.prog X.w) X.A (.compLoop (scTwo elt tg iter tg1 iter1 scope pos) 1 (.ref it1) (.ref D) (compEnvC scope cl C X.env)) Post s4 := by
    refine clause_walk (Y := X.blk s H scope (compEnvC scope cl C X.env) fp) (pins := [] ++ pl) (σ0 := wipe σ2 vs1) (cx := scTwo elt tg iter tg1 iter1 scope pos) (c := 1) (acc := .ref D) (Done := Nx) calm rfl T1 (pg1 s H C cl fp) (fun _ _ _ h => h) rfl (turn_in elt tg iter tg1 iter1 scope pos (.ref it1) (.ref D) _)
      (fun s5 H5 I5 _ nx => ⟨_, rfl, _, H5, I5, a1.trans (wipe_length σ2 vs1).symm, a3, nx⟩) (fun pl1 σ5 H5 s5 Nx1 I5 b5 => ?_) (I4.weak (wipe_length _ _) fun j v z => (wipe_some z).1) t4 f4 w1 turn1
    obtain ⟨c1, c2⟩ := kept_of b5.1
    exact thnF (put_run rfl (pe s H C cl fp) I5 b5.2) fun _ s6 ⟨H6, I6, nx⟩ => ⟨σ5, H6, I6, c1, c2, nx⟩
  refine codeAny_mono (second_start lp (T1.self X.A 0 _ _ _ t4 lp)) fun r s5 hr => ?_
  obtain ⟨fl, rfl, done⟩ := hr
  exact wpAny_pure done
end
end Cw

/-! == of two sets of whole numbers -/
namespace Cw
open PySem PySem.Spec PySem.Calls PyProof.Rows L2
theorem entry_set_eq : entryFor table "set.__eq__" = some Builtin.«frozenset.__eq__» := entryFor_alias (id' := "frozenset.__eq__") (by kernel_rfl) rfl (by decide +kernel) (by kernel_rfl)
theorem sub_len2 {α : Type} [DecidableEq α] : ∀ (ks ns : List α), ks.Nodup → (∀ k ∈ ks, k ∈ ns) → ks.length ≤ ns.length
  | [], _, _, _ => Nat.zero_le _
  | k :: r, ns, nd, sub => by
    have inn := sub k List.mem_cons_self
    have rest := sub_len2 r (ns.erase k) (List.nodup_cons.mp nd).2 fun x hx => (List.mem_erase_of_ne fun (z : x = k) => (List.nodup_cons.mp nd).1 (z ▸ hx)).mpr (sub x (List.mem_cons_of_mem _ hx))
    rw [List.length_erase_of_mem inn] at rest
    have some_ := List.length_pos_of_mem inn
    rw [List.length_cons]
    omega
section
variable {P : Program} {w : World} {A : Around} {E : Value → Shared → Prop} {s : Shared} {a b : Addr} {S S' : Int → Bool} {n n' : Nat}
theorem is_set {v : Value} {Q : Bool → Shared → Prop} (t : s.TypeIs v "set") (h : Q true s) : wpAny (model P w) A (Builtin.Frozenset.isAnySet v) Q E s := by
  unfold Builtin.Frozenset.isAnySet orM
  refine wpAny_bind (wpAny_isInstance t PySem.F.sub_set_set ?_)
  exact wpAny_pure h
theorem size_of_set {Q : Nat → Shared → Prop} (R : SetR w s.heap a S n) (h : Q n s) : wpAny (model P w) A (Builtin.Frozenset.sizeOf a) Q E s := by
  obtain ⟨o, es, ep, t, ho, _, hd, _, _, _, _, hf, hn, _⟩ := R
  unfold Builtin.Frozenset.sizeOf setEntries
  refine wpAny_bind (wpAny_bind (wpAny_setState_of ho hd hf (wpAny_pure (wpAny_pure ?_))))
  rw [← hn] at h
  exact h
theorem pass_loop {Q : Option (List (Int × Value)) × Unit → Shared → Prop} (f : Int × Value → Option (List (Int × Value)) × Unit → Sem (ForInStep (Option (List (Int × Value)) × Unit))) (hf : ∀ e u, GoodE e → f e u = pure (.yield (none, ()))) (h : Q (none, ()) s) :
    ∀ l : List (Int × Value), (∀ e ∈ l, GoodE e) → wpAny (model P w) A (forIn l (none, ()) f) Q E s
  | [], _ => by rw [List.forIn_nil]; exact wpAny_pure h
  | e :: l, g => by
    rw [List.forIn_cons, hf e _ (g e List.mem_cons_self)]
    exact wpAny_bind (wpAny_pure (pass_loop f hf h l fun x hx => g x (List.mem_cons_of_mem _ hx)))
theorem find_loop (f : Int × Value → Option Bool × Unit → Sem (ForInStep (Option Bool × Unit))) (hf : ∀ e u (Q : ForInStep (Option Bool × Unit) → Shared → Prop), GoodE e → (S' (keyOf e) = true → Q (.yield (none, ())) s) → (S' (keyOf e) = false → Q (.done (some false, ())) s) → wpAny (model P w) A (f e u) Q E s) :
    ∀ (l : List (Int × Value)) (Q : Option Bool × Unit → Shared → Prop), (∀ e ∈ l, GoodE e) → ((∀ e ∈ l, S' (keyOf e) = true) → Q (none, ()) s) → ((∃ e ∈ l, S' (keyOf e) = false) → Q (some false, ()) s) → wpAny (model P w) A (forIn l (none, ()) f) Q E s
  | [], Q, _, h1, _ => by rw [List.forIn_nil]; exact wpAny_pure (h1 fun e he => nomatch he)
  | e :: l, Q, g, h1, h2 => by
    rw [List.forIn_cons]
    refine wpAny_bind (hf e _ _ (g e List.mem_cons_self) (fun y => ?_) fun y => wpAny_pure (h2 ⟨e, List.mem_cons_self, y⟩))
    exact find_loop f hf l Q (fun x hx => g x (List.mem_cons_of_mem _ hx)) (fun z => h1 fun x hx => (List.mem_cons.mp hx).elim (fun q => q ▸ y) (z x)) fun ⟨x, hx, z⟩ => h2 ⟨x, List.mem_cons_of_mem _ hx, z⟩
/-- every entry is found in the other set, or not -/
theorem subset_of {Q : Bool → Shared → Prop} {e : Bool} (nm : String) (R : SetR w s.heap a S n) (R' : SetR w s.heap b S' n') (le : n ≤ n') (he : e = true ↔ ∀ k, S k = true → S' k = true) (h : Q e s) : wpAny (model P w) A (Builtin.Frozenset.subsetOf nm a b) Q E s := by
  unfold Builtin.Frozenset.subsetOf
  refine wpAny_bind (size_of_set R (wpAny_bind (size_of_set R' ?_)))
  rw [if_neg (by omega)]
  obtain ⟨o, es, ep, t, ho, hx, hd, good, nd, mem, hb, hf, hn, rr⟩ := id R
  obtain ⟨o', es', ep', t', ho', _, hd', good', _, _, _, hf', _⟩ := id R'
  refine wpAny_bind (m := setEpoch a) ?_
  unfold setEpoch
  refine wpAny_bind (wpAny_setState_of ho hd hf (wpAny_pure ?_))
  refine wpAny_bind (m := Builtin.Frozenset.walkUnseen a b) ?_
  unfold Builtin.Frozenset.walkUnseen setEntries
  refine wpAny_bind (wpAny_bind (wpAny_setState_of ho hd hf (wpAny_pure ?_)))
  refine wpAny_bind (wpAny_bind (wpAny_setState_of ho' hd' hf' (wpAny_pure ?_)))
  refine wpAny_bind (pass_loop _ (fun e u g => ?_) ?_ _ fun e he => (List.mem_append.mp he).elim (good e) (good' e))
  · obtain ⟨k, tk, h1, _⟩ := g
    obtain ⟨hh, v⟩ := e
    subst h1
    rfl
  dsimp only
  refine wpAny_pure ?_
  have he' : ∀ x, S x = true ↔ ∃ z ∈ es.toList, keyOf z = x := fun x => by rw [mem, List.mem_map]
  refine wpAny_bind (find_loop (S' := S') _ (fun z u Q' g y1 y2 => ?_) es.toList _ good (fun all => ?_) fun some_ => ?_)
  · obtain ⟨k, tk, h1, h2⟩ := g
    obtain ⟨hh, v⟩ := z
    subst h1
    have h2 : hh = hashInt k := h2
    subst h2
    show wpAny _ _ (holding [.int k tk] (setFind b (.int k tk) ((intKind P w).hash k)) >>= _) _ _ s
    refine wpAny_bind (wpAny_holding (wpAny_setFind_of (intKind_is P w k tk) rfl R'.setOf fun r hr => ?_))
    have hk : keyOf (hashInt k, Value.int k tk) = k := rfl
    rw [hk] at y1 y2
    cases r with
    | none =>
      have : S' k = false := by rw [← hr]; rfl
      exact wpAny_pure (y2 this)
    | some j =>
      have : S' k = true := by rw [← hr]; rfl
      rw [if_neg (show ¬ (Option.isNone (some j) = true) by simp)]
      refine wpAny_bind (m := Builtin.Frozenset.unchanged nm a ep) ?_
      unfold Builtin.Frozenset.unchanged setEpoch
      refine wpAny_bind (wpAny_bind (wpAny_setState_of ho hd hf (wpAny_pure ?_)))
      rw [if_neg (by simp)]
      exact wpAny_pure (wpAny_pure (y1 this))
  · refine wpAny_pure ?_
    have : e = true := he.mpr fun k hk => by
      obtain ⟨z, hz, ez⟩ := (he' k).mp hk
      rw [← ez]
      exact all z hz
    rw [this] at h
    exact h
  · refine wpAny_pure ?_
    obtain ⟨z, hz, ez⟩ := some_
    have : e = false := by
      cases q : e with
      | false => rfl
      | true =>
        have := he.mp q (keyOf z) ((he' _).mpr ⟨z, hz, rfl⟩)
        rw [ez] at this; cases this
    rw [this] at h
    exact h
theorem sets_eq {Q : Value → Shared → Prop} {e : Bool} (hu : A.units < cLine) (R : SetR w s.heap a S n) (R' : SetR w s.heap b S' n') (he : e = true ↔ ∀ k, S k = S' k) (h : Q (.bool e) s) : wpAny (model P w) A (compareOp .Eq (.ref a) (.ref b)) Q E s := by
  have ta : s.TypeIs (.ref a) "set" := let ⟨o, _, _, _, ho, hc, _⟩ := R; ⟨o, ho, hc.1⟩
  have tb : s.TypeIs (.ref b) "set" := let ⟨o, _, _, _, ho, hc, _⟩ := R'; ⟨o, ho, hc.1⟩
  show wpAny _ _ (richCompare .Eq (.ref a) (.ref b)) _ _ s
  refine wpAny_richCompare_same_room ta tb PySem.F.slot_set_eq (wpAny_call_entry PySem.F.slot_set_eq ta entry_set_eq ?_ (PySem.F.args_set_eq_2 _ _)) hu
  unfold Builtin.«frozenset.__eq__»
  refine wpAny_bind (m := Builtin.Frozenset.slot1 "__eq__" ⟨[.ref a, .ref b], []⟩) (wpAny_bind (m := slotArgs "__eq__" 1 ⟨[.ref a, .ref b], []⟩) ?_)
  refine wpAny_pure (wpAny_pure ?_)
  dsimp only
  refine wpAny_bind (is_set tb ?_)
  rw [if_neg (by decide)]
  refine wpAny_bind (wpAny_pure ?_)
  refine wpAny_bind (wpAny_pure ?_)
  refine wpAny_bind (size_of_set R (wpAny_bind (size_of_set R' ?_)))
  have fin : ∀ {f : Bool}, f = e → wpAny (model P w) A.in1 (ret (Value.bool f)) (fun fin s' => ∃ v, fin = Fin.done (Flow.ret v) ∧ v ≠ Value.notImplemented ∧ Q v s') E s := fun {f} q => by
    subst q
    exact wpAny_pure ⟨_, rfl, (fun z => nomatch z), h⟩
  by_cases c : n = n'
  · rw [if_neg (by simp [c])]
    refine wpAny_bind (wpAny_bind (m := andM _ _) ?_)
    unfold andM
    refine wpAny_bind (wpAny_isInstance ta PySem.F.sub_set_frozenset (wpAny_pure ?_))
    rw [if_neg (by decide)]
    refine subset_of _ R R' (by omega) (e := e) ?_ (fin rfl)
    rw [he]
    refine ⟨fun q k hk => by rw [← q k]; exact hk, fun q k => ?_⟩
    rw [Bool.eq_iff_iff]
    refine ⟨q k, fun hk => Decidable.byContradiction fun no => ?_⟩
    -- as many members, and one of the other's is none of these
    obtain ⟨_, es, _, _, _, _, _, _, nd, mem, _, _, hn, _⟩ := R
    obtain ⟨_, es', _, _, _, _, _, _, nd', mem', _, _, hn', _⟩ := R'
    have l1 := sub_len2 (k :: es.toList.map keyOf) (es'.toList.map keyOf) (List.nodup_cons.mpr ⟨fun z => no ((mem k).mpr z), nd⟩) fun x hx => (List.mem_cons.mp hx).elim (fun z => z ▸ (mem' k).mp hk) fun z => (mem' x).mp (q x ((mem x).mpr z))
    rw [List.length_cons, List.length_map, List.length_map, Array.length_toList, Array.length_toList] at l1
    omega
  · rw [if_pos (by simpa using c)]
    refine wpAny_bind (wpAny_pure (fin ?_))
    symm
    cases q : e with
    | false => rfl
    | true =>
      have q := he.mp q
      obtain ⟨_, es, _, _, _, _, _, _, nd, mem, _, _, hn, _⟩ := R
      obtain ⟨_, es', _, _, _, _, _, _, nd', mem', _, _, hn', _⟩ := R'
      have l1 := sub_len2 (es.toList.map keyOf) (es'.toList.map keyOf) nd fun x hx => (mem' x).mp (by rw [← q x]; exact (mem x).mpr hx)
      have l2 := sub_len2 (es'.toList.map keyOf) (es.toList.map keyOf) nd' fun x hx => (mem x).mp (by rw [q x]; exact (mem' x).mpr hx)
      rw [List.length_map, List.length_map, Array.length_toList, Array.length_toList] at l1 l2
      omega
end
/-- as a rule -/
def rEqSets (w : World) : R2 := fun x y H Q => ∃ a b S S' n n' e, x = .ref a ∧ y = .ref b ∧ H a = some (SetO w a S n) ∧ H b = some (SetO w b S' n') ∧ (e = true ↔ ∀ k, S k = S' k) ∧ Q (.bl e) H
theorem op_eqSets {X : Cx} {wd : World} (hw : X.w = wd) (hu : X.A.units < cLine) : OpR X (compareOp .Eq) (rEqSets wd) := by
  subst hw
  intro pins s σ H x y v u Q I rx ry h
  obtain ⟨a, b, S, S', n, n', e, rfl, rfl, ha, hb, he, q⟩ := h
  cases rx
  cases ry
  exact sets_eq hu (setO_get I ha) (setO_get I hb) he ⟨.bl e, H, I, rfl, q⟩
end Cw

/-! sets that are filled by a comprehension, read; pieces -/
namespace Cw
open PySem PySem.Spec PyProof.Rows L2
theorem d_tsc {w : World} {wi : TI} {vs : List Nat} {L : It → Addr → L2.St → Hp → (Hp → Prop) → Prop} {σ : L2.St} {H : Hp} {Q : VK} (h : wi σ H fun J H1 => ∀ D, H1 D = none → L J D (wipe σ vs) (upd H1 D (SetO w D (fun _ => false) 0)) fun H' => Q (.ref D) H') : tSetC w wi vs L σ H Q := h
theorem put_nat {w : World} {H : Hp} {D : Addr} {ms : List Nat} {q : Nat} {Nx : Hp → Prop} (x : SetN w H D ms) (few : ms.length ≤ 4000) (k : ∀ o ms', SetN w (upd H D o) D ms' → (∀ y, y ∈ ms' ↔ y ∈ ms ∨ y = q) → ms'.length ≤ ms.length + 1 → Nx (upd H D o)) : put w D Nx (.int (q : Nat)) H := by
  obtain ⟨a, j, S, n, e1, e2, e3, e4, e5⟩ := d_sadd (Q := fun _ H' => Nx H') x few fun o ms' h1 h2 h3 _ => k o ms' h1 h2 h3
  cases e1
  cases e2
  exact ⟨_, S, n, rfl, e3, e4, e5⟩
theorem sc1_it {J : It} {n : Nat} {G : Hp → Prop} {Y : Nat → Hp → V → Hp → Prop} (wk : Walk J n G Y) {w : World} {g : TG} {te : TE} {vs : List Nat} {D : Addr} {σ0 : L2.St} {H0 : Hp} {Done : Hp → Prop} (Pv : Nat → Hp → Prop) (h0 : Pv 0 H0) (hG : ∀ i H, i ≤ n → Pv i H → G H)
    (step : ∀ i x H H', i < n → Pv i H → Y i H x H' → g x σ0 H' fun σ2 H2 => wipe σ2 vs = σ0 ∧ te σ2 H2 (put w D (Pv (i + 1)))) (fin : ∀ H, Pv n H → Done H) : sc1 w g te vs J D σ0 H0 Done := by
  refine ⟨fun i m H => m = n - i ∧ i ≤ n ∧ Pv i H, ⟨n, by simp, Nat.zero_le _, h0⟩, ?_⟩
  rintro i m H ⟨rfl, hi, p⟩
  have gg := hG i H hi p
  rcases Nat.lt_or_eq_of_le hi with lt | rfl
  · exact .inr ⟨wk.goes i H lt gg, Pv (i + 1), fun H' z => ⟨n - (i + 1), by omega, rfl, lt, z⟩, fun x H' y => step i x H H' lt p (wk.yields i H x H' lt gg y)⟩
  · exact .inl ⟨wk.stops H gg, fin H p⟩
theorem sc2_it {J : It} {n : Nat} {G : Hp → Prop} {Y : Nat → Hp → V → Hp → Prop} (wk : Walk J n G Y) {w : World} {g : TG} {wi1 : TI} {g1 : TG} {te : TE} {vs vs1 : List Nat} {D : Addr} {σ0 : L2.St} {H0 : Hp} {Done : Hp → Prop} (Pv : Nat → Hp → Prop) (h0 : Pv 0 H0) (hG : ∀ i H, i ≤ n → Pv i H → G H)
    (step : ∀ i x H H', i < n → Pv i H → Y i H x H' → g x σ0 H' fun σ2 H2 => wipe σ2 vs = σ0 ∧ wi1 σ2 H2 fun J1 H3 => sc1 w g1 te vs1 J1 D (wipe σ2 vs1) H3 (Pv (i + 1))) (fin : ∀ H, Pv n H → Done H) : sc2 w g wi1 g1 te vs vs1 J D σ0 H0 Done := by
  refine ⟨fun i m H => m = n - i ∧ i ≤ n ∧ Pv i H, ⟨n, by simp, Nat.zero_le _, h0⟩, ?_⟩
  rintro i m H ⟨rfl, hi, p⟩
  have gg := hG i H hi p
  rcases Nat.lt_or_eq_of_le hi with lt | rfl
  · exact .inr ⟨wk.goes i H lt gg, Pv (i + 1), fun H' z => ⟨n - (i + 1), by omega, rfl, lt, z⟩, fun x H' y => step i x H H' lt p (wk.yields i H x H' lt gg y)⟩
  · exact .inl ⟨wk.stops H gg, fin H p⟩
/-! ### pieces -/
/-- all places of the lead are on a tie of some, and none else -/
def onTiesB (ts : List Tie) (ld : Lead) : Bool := (ld.all fun p => ts.any (onT p.1)) && ts.all fun t => (ld.any fun p => p.1 == t.1) && ld.any fun p => p.1 == t.2.1
def ledW (u : Web) (ts : List Tie) : Web := (u.1, ts)
noncomputable def hangB (u : Web) (ts : List Tie) (ld : Lead) : Bool := decide ((partsL (cutL (ledW u ts) (ld.map (·.1)))).length < 2)
noncomputable def pieceB (u u' : Web) (ld : Lead) (lies tg : Bool) : Bool := (if lies then lieB u u' ld else onTiesB (dueL u u' ld) ld) && (!tg || hangB u (if lies then u.2 else dueL u u' ld) ld)
theorem led_wok {u u' : Web} (W : WOk u) (ld : Lead) : WOk (ledW u (dueL u u' ld)) :=
  ⟨W.few, Nat.le_trans (List.length_filter_le _ _) W.most, W.kinds, W.rise.sublist List.filter_sublist, fun t ht => W.ends t (List.mem_filter.mp ht).1⟩
theorem onTies_iff {ts : List Tie} {ld : Lead} {ms ns : List Nat} (h1 : ∀ k, k ∈ ms ↔ ∃ p ∈ ld, p.1 = k) (h2 : ∀ k, k ∈ ns ↔ ∃ t ∈ ts, t.1 = k ∨ t.2.1 = k) : onTiesB ts ld = true ↔ ∀ k, k ∈ ms ↔ k ∈ ns := by
  unfold onTiesB
  rw [Bool.and_eq_true, List.all_eq_true, List.all_eq_true]
  constructor
  · rintro ⟨a, b⟩ k
    rw [h1, h2]
    constructor
    · rintro ⟨p, hp, rfl⟩
      obtain ⟨t, ht, e⟩ := List.any_eq_true.mp (a p hp)
      unfold onT at e
      simp at e
      exact ⟨t, ht, e⟩
    · rintro ⟨t, ht, e⟩
      have z := b t ht
      rw [Bool.and_eq_true, List.any_eq_true, List.any_eq_true] at z
      obtain ⟨⟨p, hp, ep⟩, ⟨r, hr, er⟩⟩ := z
      rcases e with e | e
      · exact ⟨p, hp, (beq_iff_eq.mp ep).trans e⟩
      · exact ⟨r, hr, (beq_iff_eq.mp er).trans e⟩
  · intro h
    refine ⟨fun p hp => ?_, fun t ht => ?_⟩
    · obtain ⟨t, ht, e⟩ := (h2 _).mp ((h p.1).mp ((h1 _).mpr ⟨p, hp, rfl⟩))
      refine List.any_eq_true.mpr ⟨t, ht, ?_⟩
      unfold onT
      simp
      exact e
    · obtain ⟨p, hp, ep⟩ := (h1 _).mp ((h t.1).mpr ((h2 _).mpr ⟨t, ht, .inl rfl⟩))
      obtain ⟨r, hr, er⟩ := (h1 _).mp ((h t.2.1).mpr ((h2 _).mpr ⟨t, ht, .inr rfl⟩))
      rw [Bool.and_eq_true, List.any_eq_true, List.any_eq_true]
      exact ⟨⟨p, hp, beq_iff_eq.mpr ep⟩, ⟨r, hr, beq_iff_eq.mpr er⟩⟩
theorem setN_eq {w : World} {H : Hp} {Q : VK} {a b : Addr} {ms ns : List Nat} {e : Bool} (x : SetN w H a ms) (y : SetN w H b ns) (he : e = true ↔ ∀ k, k ∈ ms ↔ k ∈ ns) (q : Q (.bl e) H) : rEqSets w (.ref a) (.ref b) H Q := by
  obtain ⟨S, n, e1, _, _, m1⟩ := x
  obtain ⟨S', n', e2, _, _, m2⟩ := y
  refine ⟨a, b, S, S', n, n', e, rfl, rfl, e1, e2, ?_, q⟩
  rw [he]
  constructor
  · intro h k
    rw [Bool.eq_iff_iff, m1, m2]
    exact ⟨fun ⟨z, h1, h2⟩ => ⟨z, h1, (h z).mp h2⟩, fun ⟨z, h1, h2⟩ => ⟨z, h1, (h z).mpr h2⟩⟩
  · intro h k
    have z := h (k : Int)
    rw [Bool.eq_iff_iff, m1, m2] at z
    exact ⟨fun hk => let ⟨z1, z2, z3⟩ := z.mp ⟨k, rfl, hk⟩; by have : k = z1 := by omega
                                                               rw [this]; exact z3, fun hk => let ⟨z1, z2, z3⟩ := z.mpr ⟨k, rfl, hk⟩; by have : k = z1 := by omega
                                                                                                                                         rw [this]; exact z3⟩
end Cw

/-! parts of webs with a tie more, of webs without ties, of cuts -/
namespace Cw
open PySem PySem.Spec PyProof.Rows L2
theorem rch_nil {a b : Nat} : Rch [] a b ↔ a = b := by
  constructor
  · intro h
    induction h with
    | base => rfl
    | step _ m _ => simp [nb] at m
  · rintro rfl
    exact .base
theorem partsL_none (cs : List Nat) : partsL (cs, []) = (List.range cs.length).map fun a => [a] := by
  have l : ∀ a, Lst (cs, []) a := fun a b h => by
    have := rch_nil.mp h
    omega
  have e : leastsL (cs, []) cs.length = List.range cs.length := by
    unfold leastsL
    exact List.filter_eq_self.mpr fun a _ => dec_true (l a)
  unfold partsL partsN
  dsimp only
  rw [e]
  refine List.map_congr_left fun a ha => ?_
  have ha' := List.mem_range.mp ha
  refine sorted_ext (partL_rise _ _) (by simp) fun x => ?_
  unfold partL
  rw [List.mem_filter, dec_iff, List.mem_range, List.mem_singleton]
  constructor
  · rintro ⟨_, h⟩
    exact (rch_nil.mp h).symm
  · rintro rfl
    exact ⟨ha', .base⟩
/-- a tie more, between x and y -/
structure More (u u' : Web) (x y : Nat) : Prop where
  lt : x ≠ y
  same : u'.1.length = u.1.length
  adj : ∀ p q, q ∈ nb u'.2 p ↔ q ∈ nb u.2 p ∨ (p = x ∧ q = y) ∨ (p = y ∧ q = x)
section
variable {u u' : Web} {x y : Nat}
theorem More.swap (M : More u u' x y) : More u u' y x := ⟨M.lt.symm, M.same, fun p q => by rw [M.adj]; exact ⟨fun h => h.elim .inl fun h => .inr h.symm, fun h => h.elim .inl fun h => .inr h.symm⟩⟩
theorem More.up (M : More u u' x y) {a b : Nat} (h : Rch u.2 a b) : Rch u'.2 a b := by
  induction h with
  | base => exact .base
  | step _ m ih => exact ih.step ((M.adj _ _).mpr (.inl m))
theorem More.iff (M : More u u' x y) {a b : Nat} : Rch u'.2 a b ↔ Rch u.2 a b ∨ (Rch u.2 a x ∧ Rch u.2 y b) ∨ (Rch u.2 a y ∧ Rch u.2 x b) := by
  constructor
  · intro h
    induction h with
    | base => exact .inl .base
    | step _ m ih =>
      rcases (M.adj _ _).mp m with m | ⟨rfl, rfl⟩ | ⟨rfl, rfl⟩
      · rcases ih with h | ⟨h1, h2⟩ | ⟨h1, h2⟩
        · exact .inl (h.step m)
        · exact .inr (.inl ⟨h1, h2.step m⟩)
        · exact .inr (.inr ⟨h1, h2.step m⟩)
      · rcases ih with h | ⟨h1, h2⟩ | ⟨h1, h2⟩
        · exact .inr (.inl ⟨h, .base⟩)
        · exact .inr (.inl ⟨h1, .base⟩)
        · exact .inl h1
      · rcases ih with h | ⟨h1, h2⟩ | ⟨h1, h2⟩
        · exact .inr (.inr ⟨h, .base⟩)
        · exact .inl h1
        · exact .inr (.inr ⟨h1, .base⟩)
  · have s1 : Rch u'.2 x y := Rch.base.step ((M.adj _ _).mpr (.inr (.inl ⟨rfl, rfl⟩)))
    have s2 : Rch u'.2 y x := Rch.base.step ((M.adj _ _).mpr (.inr (.inr ⟨rfl, rfl⟩)))
    rintro (h | ⟨h1, h2⟩ | ⟨h1, h2⟩)
    · exact M.up h
    · exact ((M.up h1).trans s1).trans (M.up h2)
    · exact ((M.up h1).trans s2).trans (M.up h2)
/-- it lies within a part: nothing changes -/
theorem More.within (U : WOk u) (M : More u u' x y) (r : Rch u.2 x y) {a b : Nat} : Rch u'.2 a b ↔ Rch u.2 a b := by
  rw [M.iff]
  constructor
  · rintro (h | ⟨h1, h2⟩ | ⟨h1, h2⟩)
    · exact h
    · exact (h1.trans r).trans h2
    · exact (h1.trans (r.symm U)).trans h2
  · exact .inl
end
/-- each place has a least one -/
theorem least_of {u : Web} (U : WOk u) (a : Nat) : ∃ l, Rch u.2 a l ∧ Lst u l := by
  have h : ∀ n a, a ≤ n → ∃ l, Rch u.2 a l ∧ Lst u l := by
    intro n
    induction n with
    | zero =>
      intro a h
      exact ⟨a, .base, fun b _ => by omega⟩
    | succ n ih =>
      intro a h
      rcases Classical.em (Lst u a) with c | c
      · exact ⟨a, .base, c⟩
      · obtain ⟨b, h1, h2⟩ := (seen_iff U).mpr c
        obtain ⟨l, h3, h4⟩ := ih b (by omega)
        exact ⟨l, (h2.symm U).trans h3, h4⟩
  exact h a a (Nat.le_refl _)
section
variable {u u' : Web} {x y lx ly : Nat}
/-- it joins two parts: the greater of the least places is least no more -/
theorem More.least (U : WOk u) (M : More u u' x y) (h1 : Rch u.2 x lx) (h2 : Lst u lx) (h3 : Rch u.2 y ly) (h4 : Lst u ly) (lt : lx < ly) (a : Nat) : Lst u' a ↔ Lst u a ∧ a ≠ ly := by
  constructor
  · intro h
    refine ⟨fun b hb => h b (M.up hb), ?_⟩
    rintro rfl
    have := h lx (M.iff.mpr (.inr (.inr ⟨h3.symm U, h1⟩)))
    omega
  · rintro ⟨h, ne⟩ b hb
    rcases M.iff.mp hb with hb | ⟨b1, b2⟩ | ⟨b1, b2⟩
    · exact h b hb
    · have e : a = lx := lst_uniq U h h2 (b1.trans h1)
      have := h4 b ((h3.symm U).trans b2)
      omega
    · exact absurd (lst_uniq U h h4 (b1.trans h3)) ne
theorem leasts_filter (U : WOk u) (M : More u u' x y) (h1 : Rch u.2 x lx) (h2 : Lst u lx) (h3 : Rch u.2 y ly) (h4 : Lst u ly) (lt : lx < ly) (n : Nat) : leastsL u' n = (leastsL u n).filter fun a => decide (a ≠ ly) := by
  unfold leastsL
  rw [List.filter_filter]
  refine List.filter_congr fun a _ => ?_
  rw [Bool.eq_iff_iff, dec_iff, Bool.and_eq_true, dec_iff, decide_eq_true_eq, M.least U h1 h2 h3 h4 lt a]
  exact And.comm
theorem filter_one {l : List Nat} (s : l.Pairwise (· < ·)) {a : Nat} (h : a ∈ l) : (l.filter fun b => decide (b ≠ a)).length + 1 = l.length := by
  induction l with
  | nil => cases h
  | cons b r ih =>
    have sr := (List.pairwise_cons.mp s)
    by_cases c : b = a
    · subst c
      rw [List.filter_cons_of_neg (by simp)]
      rw [List.filter_eq_self.mpr fun z hz => by
        have := sr.1 z hz
        simp; omega]
      rfl
    · rw [List.filter_cons_of_pos (by simpa using c)]
      have := ih sr.2 (by
        rcases List.mem_cons.mp h with h | h
        · exact absurd h.symm c
        · exact h)
      simp only [List.length_cons]
      omega
/-- a tie more: as many parts, or one fewer -/
theorem More.count (U : WOk u) (M : More u u' x y) (hx : x < u.1.length) (hy : y < u.1.length) : (partsL u').length ≤ (partsL u).length ∧ (partsL u).length ≤ (partsL u').length + 1 := by
  have len : ∀ w : Web, (partsL w).length = (leastsL w w.1.length).length := fun w => by unfold partsL partsN; rw [List.length_map]
  rw [len, len, M.same]
  obtain ⟨lx, h1, h2⟩ := least_of U x
  obtain ⟨ly, h3, h4⟩ := least_of U y
  have go : ∀ {x y lx ly}, More u u' x y → y < u.1.length → Rch u.2 x lx → Lst u lx → Rch u.2 y ly → Lst u ly → lx < ly → (leastsL u' u.1.length).length + 1 = (leastsL u u.1.length).length := fun {x y lx ly} M hy h1 h2 h3 h4 lt => by
    rw [leasts_filter U M h1 h2 h3 h4 lt]
    refine filter_one (leasts_rise u _) ?_
    unfold leastsL
    exact List.mem_filter.mpr ⟨List.mem_range.mpr (h3.lt U hy), dec_true h4⟩
  rcases Nat.lt_trichotomy lx ly with c | c | c
  · have := go M hy h1 h2 h3 h4 c
    omega
  · subst c
    have r : Rch u.2 x y := h1.trans (h3.symm U)
    have e : leastsL u' u.1.length = leastsL u u.1.length := by
      unfold leastsL
      refine List.filter_congr fun a _ => dec_congr ?_
      unfold Lst
      exact ⟨fun h b hb => h b ((M.within U r).mpr hb), fun h b hb => h b ((M.within U r).mp hb)⟩
    rw [e]
    omega
  · have := go M.swap hx h3 h4 h1 h2 c
    omega
end
/-! ### without one place -/
theorem rch_cut {u : Web} (U : WOk u) {os : List Nat} (s : os.Pairwise (· < ·)) (b : ∀ p ∈ os, p < u.1.length) {i p : Nat} (hi : os[i]? = some p) {j : Nat} (h : Rch (cutL u os).2 i j) : ∃ q, os[j]? = some q ∧ Rch u.2 p q := by
  induction h with
  | base => exact ⟨p, hi, .base⟩
  | step _ m ih =>
    obtain ⟨q, h1, h2⟩ := ih
    have e := nb_cut U s b h1
    have m' := List.mem_map_of_mem (f := fun j => os.getD j 0) m
    rw [e, List.mem_filter, decide_eq_true_eq] at m'
    have C := cutL_ok U s b
    have lt := (nb_lt C m).2
    have lc : (cutL u os).1.length = os.length := by unfold cutL; rw [List.length_map]
    rw [lc] at lt
    rename_i r _ _
    have hr := List.getElem?_eq_getElem lt
    refine ⟨_, hr, h2.step ?_⟩
    have z := m'.1
    rw [List.getD_eq_getElem?_getD, hr] at z
    exact z
theorem rch_cut' {u : Web} (U : WOk u) {os : List Nat} (s : os.Pairwise (· < ·)) (b : ∀ p ∈ os, p < u.1.length) {i p : Nat} (hi : os[i]? = some p) (all : ∀ q, Rch u.2 p q → q ∈ os) {q : Nat} (h : Rch u.2 p q) : ∃ j, os[j]? = some q ∧ Rch (cutL u os).2 i j := by
  induction h with
  | base => exact ⟨i, hi, .base⟩
  | step h0 m ih =>
    obtain ⟨j, h1, h2⟩ := ih
    rename_i r z
    have hz := all _ (h0.step m)
    have e := nb_cut U s b h1
    have mz : z ∈ (nb u.2 r).filter fun q => decide (q ∈ os) := List.mem_filter.mpr ⟨m, decide_eq_true hz⟩
    rw [← e] at mz
    obtain ⟨k, h3, h4⟩ := List.mem_map.mp mz
    have C := cutL_ok U s b
    have lt := (nb_lt C h3).2
    have lc : (cutL u os).1.length = os.length := by unfold cutL; rw [List.length_map]
    rw [lc] at lt
    have hk := List.getElem?_eq_getElem lt
    refine ⟨k, ?_, h2.step h3⟩
    have h4' : os.getD k 0 = z := h4
    rw [List.getD_eq_getElem?_getD, hk] at h4'
    rw [hk]
    exact congrArg some h4'
/-- a part all of whose places stay is a part of the cut -/
theorem part_cut {u : Web} (U : WOk u) {os : List Nat} (s : os.Pairwise (· < ·)) (b : ∀ p ∈ os, p < u.1.length) {l : Nat} (hl : Lst u l) (ll : l < u.1.length) (all : ∀ q, Rch u.2 l q → q ∈ os) : partL u l ∈ (partsL (cutL u os)).map fun p => p.map fun j => os.getD j 0 := by
  obtain ⟨i, hi⟩ := List.getElem?_of_mem (all l .base)
  have C := cutL_ok U s b
  have lc : (cutL u os).1.length = os.length := by unfold cutL; rw [List.length_map]
  have ii := (List.getElem?_eq_some_iff.mp hi).1
  have li : Lst (cutL u os) i := fun j hj => by
    obtain ⟨q, h1, h2⟩ := rch_cut U s b hi hj
    have := hl q h2
    rcases Nat.lt_or_ge j i with c | c
    · have := (at_rise s h1 hi).mp c
      omega
    · exact c
  have getD : ∀ {j q}, os[j]? = some q → os.getD j 0 = q := fun {j q} h => by rw [List.getD_eq_getElem?_getD, h]; rfl
  refine List.mem_map.mpr ⟨partL (cutL u os) i, ?_, ?_⟩
  · unfold partsL partsN
    refine List.mem_map.mpr ⟨i, ?_, rfl⟩
    unfold leastsL
    exact List.mem_filter.mpr ⟨List.mem_range.mpr (by omega), dec_true li⟩
  · have mem : ∀ j, j ∈ partL (cutL u os) i ↔ Rch (cutL u os).2 i j := fun j => mem_partL C (by omega)
    refine sorted_ext ?_ (partL_rise u l) fun x => ?_
    · rw [List.pairwise_map]
      refine (partL_rise _ _).imp_of_mem fun {x y} hx hy h => ?_
      obtain ⟨q1, h1, _⟩ := rch_cut U s b hi ((mem x).mp hx)
      obtain ⟨q2, h2, _⟩ := rch_cut U s b hi ((mem y).mp hy)
      rw [getD h1, getD h2]
      exact (at_rise s h1 h2).mp h
    · rw [List.mem_map, mem_partL U ll]
      constructor
      · rintro ⟨j, h1, rfl⟩
        obtain ⟨q, h2, h3⟩ := rch_cut U s b hi ((mem j).mp h1)
        rw [getD h2]
        exact h3
      · intro h
        obtain ⟨j, h1, h2⟩ := rch_cut' U s b hi all h
        exact ⟨j, (mem j).mpr h2, getD h1⟩
end Cw

/-! when a web hangs together; the same by other names -/
namespace Cw
open PySem PySem.Spec PyProof.Rows L2
def Joined (w : Web) : Prop := ∀ a b, a < w.1.length → b < w.1.length → Rch w.2 a b
theorem partsL_len (w : Web) : (partsL w).length = (leastsL w w.1.length).length := by
  unfold partsL partsN
  rw [List.length_map]
theorem joined_iff {w : Web} (W : WOk w) : (partsL w).length < 2 ↔ Joined w := by
  rw [partsL_len]
  constructor
  · intro h a b ha hb
    obtain ⟨x, r1, l1⟩ := least_of W a
    obtain ⟨y, r2, l2⟩ := least_of W b
    have m1 : x ∈ leastsL w w.1.length := List.mem_filter.mpr ⟨List.mem_range.mpr (Rch.lt W r1 ha), dec_true l1⟩
    have m2 : y ∈ leastsL w w.1.length := List.mem_filter.mpr ⟨List.mem_range.mpr (Rch.lt W r2 hb), dec_true l2⟩
    have e : x = y := by
      match hl : leastsL w w.1.length, h with
      | [], _ => rw [hl] at m1; cases m1
      | [z], _ =>
        rw [hl] at m1 m2
        rw [List.mem_singleton.mp m1, List.mem_singleton.mp m2]
      | _ :: _ :: _, h => simp at h; omega
    exact r1.trans (e ▸ Rch.symm W r2)
  · intro h
    refine Decidable.byContradiction fun c => ?_
    have s := leasts_rise w w.1.length
    match hl : leastsL w w.1.length, c with
    | [], c => simp at c
    | [z], c => simp at c
    | x :: y :: r, _ =>
      have m1 := mem_leasts (w := w) (n := w.1.length) (x := x) (by rw [hl]; exact List.mem_cons_self)
      have m2 := mem_leasts (w := w) (n := w.1.length) (x := y) (by rw [hl]; exact List.mem_cons_of_mem _ List.mem_cons_self)
      have e := lst_uniq W m1.2 m2.2 (h x y m1.1 m2.1)
      rw [hl] at s
      have := (List.pairwise_cons.mp s).1 y List.mem_cons_self
      omega
theorem rch_map {X Y : Web} {f : Nat → Nat} (adj : ∀ a b, b ∈ nb X.2 a → f b ∈ nb Y.2 (f a)) {a b : Nat} (h : Rch X.2 a b) : Rch Y.2 (f a) (f b) := by
  induction h with
  | base => exact .base
  | step _ k ih => exact .step ih (adj _ _ k)
theorem joined_map {X Y : Web} (f : Nat → Nat) (adj : ∀ a b, b ∈ nb X.2 a → f b ∈ nb Y.2 (f a)) (onto : ∀ b, b < Y.1.length → ∃ a, a < X.1.length ∧ f a = b) (h : Joined X) : Joined Y := fun a b ha hb => by
  obtain ⟨a', la, rfl⟩ := onto a ha
  obtain ⟨b', lb, rfl⟩ := onto b hb
  exact rch_map adj (h a' b' la lb)
end Cw

/-! what one comes to from a place, tie by tie, as a list that grows -/
namespace Cw
open PySem PySem.Spec PyProof.Rows L2
structure Co (X : Web) (a : Nat) (ms : List Nat) (k : Nat) : Prop where
  nd : ms.Nodup
  own : ∀ x ∈ ms, Rch X.2 a x
  start : a ∈ ms
  closed : ∀ (j x : Nat), j < k → ms[j]? = some x → ∀ t ∈ X.2, ∀ y, at2 x y t = true → y ∈ ms
structure Co2 (X : Web) (a x : Nat) (ms : List Nat) (k i : Nat) : Prop where
  co : Co X a ms k
  here : ms[k]? = some x
  done : ∀ t ∈ X.2.take i, ∀ y, at2 x y t = true → y ∈ ms
theorem Co.new (X : Web) (a : Nat) : Co X a [a] 0 := ⟨by simp, fun x hx => by rw [List.mem_singleton.mp hx]; exact .base, List.mem_singleton.mpr rfl, fun j x h => absurd h (Nat.not_lt_zero _)⟩
theorem Co.len {X : Web} (W : WOk X) {a k : Nat} {ms : List Nat} (x : Co X a ms k) (ha : a < X.1.length) : ms.length ≤ X.1.length := nodup_len _ _ x.nd fun y hy => (x.own y hy).lt W ha
theorem Co.go {X : Web} {a x k : Nat} {ms : List Nat} (c : Co X a ms k) (h : ms[k]? = some x) : Co2 X a x ms k 0 := ⟨c, h, fun t ht => by simp at ht⟩
theorem Co2.skip {X : Web} {a x k i : Nat} {ms : List Nat} {t : Tie} (c : Co2 X a x ms k i) (ht : X.2[i]? = some t) (h : ∀ y, at2 x y t = true → y ∈ ms) : Co2 X a x ms k (i + 1) := ⟨c.co, c.here, fun u hu y hy => by
  rw [take_snoc ht] at hu
  rcases List.mem_append.mp hu with hu | hu
  · exact c.done u hu y hy
  · rw [List.mem_singleton.mp hu] at hy; exact h y hy⟩
theorem Co2.add {X : Web} (W : WOk X) {a x z k i : Nat} {ms : List Nat} {t : Tie} (c : Co2 X a x ms k i) (ht : X.2[i]? = some t) (h : at2 x z t = true) (nz : z ∉ ms) : Co2 X a x (ms ++ [z]) k (i + 1) := by
  have l : ∀ {y}, y ∈ ms → y ∈ ms ++ [z] := fun h => List.mem_append_left _ h
  have r : z ∈ ms ++ [z] := List.mem_append_right _ (List.mem_singleton.mpr rfl)
  have lk : k < ms.length := (List.getElem?_eq_some_iff.mp c.here).1
  have hm := List.mem_of_getElem? ht
  refine ⟨⟨List.nodup_append.mpr ⟨c.co.nd, by simp, fun p hp y hy => by rw [List.mem_singleton.mp hy]; exact fun e => nz (e ▸ hp)⟩, fun y hy => ?_, l c.co.start, fun j y hj hy u hu q hq => ?_⟩, ?_, fun u hu y hy => ?_⟩
  · rcases List.mem_append.mp hy with hy | hy
    · exact c.co.own y hy
    · rw [List.mem_singleton.mp hy]
      exact (c.co.own x (List.mem_of_getElem? c.here)).step ((mem_nb W).mpr ⟨t, hm, h⟩)
  · rw [List.getElem?_append_left (by omega)] at hy
    exact l (c.co.closed j y hj hy u hu q hq)
  · rw [List.getElem?_append_left lk]; exact c.here
  · rw [take_snoc ht] at hu
    rcases List.mem_append.mp hu with hu | hu
    · exact l (c.done u hu y hy)
    · rw [List.mem_singleton.mp hu] at hy
      have e : y = z := by
        have h1 := (W.ends t hm).1
        rcases at2_iff.mp h with ⟨p, q⟩ | ⟨p, q⟩ <;> rcases at2_iff.mp hy with ⟨p', q'⟩ | ⟨p', q'⟩ <;> omega
      rw [e]; exact r
theorem Co2.end_ {X : Web} {a x k i : Nat} {ms : List Nat} (c : Co2 X a x ms k i) (h : X.2.length ≤ i) : Co X a ms (k + 1) := ⟨c.co.nd, c.co.own, c.co.start, fun j y hj hy t ht q hq => by
  by_cases e : j = k
  · subst e
    rw [c.here] at hy
    cases hy
    exact c.done t (by rw [List.take_of_length_le h]; exact ht) q hq
  · exact c.co.closed j y (by omega) hy t ht q hq⟩
theorem Co.all {X : Web} (W : WOk X) {a k : Nat} {ms : List Nat} (c : Co X a ms k) (h : ms.length ≤ k) {y : Nat} (r : Rch X.2 a y) : y ∈ ms := by
  induction r with
  | base => exact c.start
  | step _ m ih =>
    obtain ⟨t, ht, e⟩ := (mem_nb W).mp m
    obtain ⟨j, hj⟩ := List.getElem?_of_mem ih
    exact c.closed j _ (Nat.lt_of_lt_of_le (List.getElem?_eq_some_iff.mp hj).1 h) hj t ht _ e
/-- the ties within some places -/
def inW (u : Web) (ts : List Tie) (os : List Nat) : Web := (u.1, ts.filter fun t => os.contains t.1 && os.contains t.2.1)
theorem inW_ok {u : Web} {ts : List Tie} (U : WOk (ledW u ts)) (os : List Nat) : WOk (inW u ts os) :=
  ⟨U.few, Nat.le_trans (List.length_filter_le _ _) U.most, U.kinds, U.rise.sublist List.filter_sublist, fun t ht => U.ends t (List.mem_filter.mp ht).1⟩
theorem nb_in {u : Web} {ts : List Tie} (U : WOk (ledW u ts)) {os : List Nat} {p q : Nat} : q ∈ nb (inW u ts os).2 p ↔ q ∈ nb ts p ∧ p ∈ os ∧ q ∈ os := by
  have h1 := mem_nb (inW_ok U os) (p := p) (q := q)
  have h2 : q ∈ nb ts p ↔ ∃ t ∈ ts, at2 p q t = true := mem_nb U
  rw [h1, h2]
  constructor
  · rintro ⟨t, ht, e⟩
    obtain ⟨m, c⟩ := List.mem_filter.mp ht
    rw [Bool.and_eq_true, List.contains_iff_mem, List.contains_iff_mem] at c
    refine ⟨⟨t, m, e⟩, ?_⟩
    rcases at2_iff.mp e with ⟨a, b⟩ | ⟨a, b⟩
    · rw [← a, ← b]; exact c
    · rw [← a, ← b]; exact ⟨c.2, c.1⟩
  · rintro ⟨⟨t, m, e⟩, c1, c2⟩
    refine ⟨t, List.mem_filter.mpr ⟨m, ?_⟩, e⟩
    rw [Bool.and_eq_true, List.contains_iff_mem, List.contains_iff_mem]
    rcases at2_iff.mp e with ⟨a, b⟩ | ⟨a, b⟩
    · rw [a, b]; exact ⟨c1, c2⟩
    · rw [a, b]; exact ⟨c2, c1⟩
theorem rch_in {u : Web} {ts : List Tie} (U : WOk (ledW u ts)) {os : List Nat} {p q : Nat} (hp : p ∈ os) (h : Rch (inW u ts os).2 p q) : q ∈ os := by
  cases h with
  | base => exact hp
  | step _ m => exact ((nb_in U).mp m).2.2
theorem nb_cutW {u : Web} {ts : List Tie} (U : WOk (ledW u ts)) {os : List Nat} (s : os.Pairwise (· < ·)) (b : ∀ p ∈ os, p < u.1.length) {i j p q : Nat} (hi : os[i]? = some p) (hj : os[j]? = some q) : j ∈ nb (cutL (ledW u ts) os).2 i ↔ q ∈ nb (inW u ts os).2 p := by
  rw [nb_in U, mem_nb (cutL_ok U s b), show (q ∈ nb ts p ↔ ∃ t ∈ ts, at2 p q t = true) from mem_nb U]
  constructor
  · rintro h
    have z := tieL_isSome.mpr h
    rw [tieL_cut (rise_nodup s) hi hj] at z
    exact ⟨tieL_isSome.mp z, List.mem_of_getElem? hi, List.mem_of_getElem? hj⟩
  · rintro ⟨h, _, _⟩
    have z := tieL_isSome.mpr h
    refine tieL_isSome.mp ?_
    rw [tieL_cut (u := ledW u ts) (rise_nodup s) hi hj]
    exact z
theorem hang_come {u : Web} {ts : List Tie} (U : WOk (ledW u ts)) {os : List Nat} (s : os.Pairwise (· < ·)) (b : ∀ p ∈ os, p < u.1.length) {o : Nat} (e : os[0]? = some o) : Joined (cutL (ledW u ts) os) ↔ partL (inW u ts os) o = os := by
  have C := cutL_ok U s b
  have X := inW_ok U os
  have ho := List.mem_of_getElem? e
  have lo : o < (inW u ts os).1.length := b o ho
  have len : (cutL (ledW u ts) os).1.length = os.length := List.length_map ..
  constructor
  · intro J
    refine sorted_ext (partL_rise _ _) s fun k => ?_
    rw [mem_partL X lo]
    constructor
    · exact rch_in U ho
    · intro hk
      obtain ⟨j, hj⟩ := List.getElem?_of_mem hk
      have r := J 0 j (by rw [len]; exact (List.getElem?_eq_some_iff.mp e).1) (by rw [len]; exact (List.getElem?_eq_some_iff.mp hj).1)
      have z := rch_map (X := cutL (ledW u ts) os) (Y := inW u ts os) (f := fun i => os.getD i 0) (fun x y hy => by
        have lx : x < os.length := by rw [← len]; exact (nb_lt C hy).1
        have ly : y < os.length := by rw [← len]; exact (nb_lt C hy).2
        have gx := List.getElem?_eq_getElem lx
        have gy := List.getElem?_eq_getElem ly
        have := (nb_cutW U s b gx gy).mp hy
        show os.getD y 0 ∈ nb _ (os.getD x 0)
        rw [List.getD_eq_getElem?_getD, List.getD_eq_getElem?_getD, gx, gy]
        exact this) r
      have z : Rch (inW u ts os).2 (os.getD 0 0) (os.getD j 0) := z
      rw [List.getD_eq_getElem?_getD, List.getD_eq_getElem?_getD, e, hj] at z
      exact z
  · intro h i j hi hj
    rw [len] at hi hj
    have gi := List.getElem?_eq_getElem hi
    have gj := List.getElem?_eq_getElem hj
    have ri : Rch (inW u ts os).2 o os[i] := (mem_partL X lo).mp (by rw [h]; exact List.getElem_mem hi)
    have rj : Rch (inW u ts os).2 o os[j] := (mem_partL X lo).mp (by rw [h]; exact List.getElem_mem hj)
    have r := (ri.symm X).trans rj
    have up : ∀ {y}, Rch (inW u ts os).2 os[i] y → ∃ k, os[k]? = some y ∧ Rch (cutL (ledW u ts) os).2 i k := fun {y} r => by
      induction r with
      | base => exact ⟨i, gi, .base⟩
      | step _ m ih =>
        obtain ⟨k, hk, rk⟩ := ih
        obtain ⟨k', hk'⟩ := List.getElem?_of_mem ((nb_in U).mp m).2.2
        exact ⟨k', hk', rk.step ((nb_cutW U s b hk hk').mpr m)⟩
    obtain ⟨k, hk, rk⟩ := up r
    have lk := (List.getElem?_eq_some_iff.mp hk).1
    have : k = j := (List.getElem_inj (h₀ := lk) (h₁ := hj) (rise_nodup s)).mp (List.getElem?_eq_some_iff.mp hk).2
    rw [← this]
    exact rk
theorem hang_nil {u : Web} {ts : List Tie} : Joined (cutL (ledW u ts) []) := fun a b ha => absurd ha (Nat.not_lt_zero _)
theorem hangB_come {u : Web} {ts : List Tie} (U : WOk (ledW u ts)) {ld : Lead} (s : (ld.map (·.1)).Pairwise (· < ·)) (b : ∀ p ∈ ld.map (·.1), p < u.1.length) {o : Nat} (e : (ld.map (·.1))[0]? = some o) : hangB u ts ld = decide (partL (inW u ts (ld.map (·.1))) o = ld.map (·.1)) := by
  rw [Bool.eq_iff_iff, decide_eq_true_iff, ← hang_come U s b e]
  unfold hangB
  rw [decide_eq_true_iff]
  exact joined_iff (cutL_ok U s b)
theorem hangB_nil {u : Web} {ts : List Tie} (U : WOk (ledW u ts)) : hangB u ts [] = true := by
  unfold hangB
  rw [decide_eq_true_iff]
  exact (joined_iff (cutL_ok U .nil fun p hp => nomatch hp)).mpr hang_nil
end Cw

/-! sorted() of a tuple of triples -/
namespace Cw
open PySem PySem.Spec PyProof.Rows L2 Srt SrtO
section
variable {prog : Program} {w : World} {A : Around} {E : Value → Shared → Prop} {s : Shared}
theorem sorted_ordT {l : Addr} {o : Obj} {n : Nat} {vs : List Value} {ltv : Value → Value → Bool} {Q : Value → Shared → Prop} (O : SrtO.Swo ltv) (ho : s.heap.get? l = some o) (hc : o.cls = .type "tuple") (hd : o.data = .seq vs.toArray n) (hz : vs.length ≤ sizeLine)
    (hS : 2 ≤ vs.length → ∀ (h₁ : Heap) (a : Addr), h₁.get? a = some (seqObj "list" vs.toArray 0) → (∀ b o, s.heap.get? b = some o → b ≠ a ∧ h₁.get? b = some o) → SrtO.SortableO prog w A.in1.in1 { s with heap := h₁ } a vs ltv)
    (h : ∀ (h1 h' : Heap) (out : List Value), SrtO.Srtd ltv out → SrtO.Stb ltv out vs → (∀ b o, s.heap.get? b = some o → h1.get? b = some o) → (∀ b o, h1.get? b = some o → h'.get? b = some o) → (∃ n, h'.get? h1.objs.size = some (seqObj "list" out.toArray n)) → Q (.ref h1.objs.size) { s with heap := h' }) :
    wpAny (model prog w) A (call (.builtin "sorted") [.ref l]) Q E s := by
  refine Calls.call_function_entry kind_sorted plain_sorted entry_sorted (args_sorted1 _) ?_
  unfold Builtin.«sorted»
  refine wpAny_bind (m := checkCount "sorted" 1 1 _) (wpAny_pure ?_)
  refine wpAny_bind (PySem.wpAny_collect_seq l (.inr rfl) ho hc hd (fun h1 k1 => ?_) (by simpa using hz))
  rw [show vs.toArray.toList = vs by simp]
  refine wpAny_bind (wpAny_newList ?_ hz)
  have hoL : (h1.push (seqObj "list" vs.toArray 0)).get? h1.objs.size = some (seqObj "list" vs.toArray 0) := Heap.get?_push_size _ rfl
  have keep : ∀ b o, s.heap.get? b = some o → b ≠ h1.objs.size ∧ (h1.push (seqObj "list" vs.toArray 0)).get? b = some o := fun b o q =>
    ⟨Nat.ne_of_lt (Heap.lt_size (k1 _ _ q)), Heap.get?_push_of_some _ (k1 _ _ q)⟩
  show wpAny _ _ _ _ _ { s with heap := h1.push (seqObj "list" vs.toArray 0) }
  refine wpAny_bind (wpAny_holding (wpAny_call_entry slot_list_sort ⟨_, hoL, rfl⟩ entry_list_sort (SrtO.list_sort_ord O hoL hz (fun h2 => hS h2 _ _ hoL keep) fun out hs hb => ⟨_, rfl, ?_⟩) (args_list_sort _)))
  refine wpAny_pure ⟨_, rfl, h h1 _ out hs hb k1 (fun b o q => ?_) (sortedHeap_at hoL)⟩
  rw [sortedHeap_old (Nat.ne_of_lt (Heap.lt_size q)) (by rw [size_push']; exact Nat.lt_succ_of_lt (Heap.lt_size q))]
  exact Heap.get?_push_of_some _ q
theorem sorted_trisT {l : Addr} {o : Obj} {n : Nat} {vs : List Value} {k : Value → Tri} {Q : Value → Shared → Prop} (ho : s.heap.get? l = some o) (hc : o.cls = .type "tuple") (hd : o.data = .seq vs.toArray n) (hz : vs.length ≤ sizeLine) (hp : ∀ v ∈ vs, IsTri s.heap v (k v))
    (h : ∀ (h1 h' : Heap) (out : List Value), SrtO.Srtd (fun v u => lexT (k v) (k u)) out → out.Perm vs → (∀ b o, s.heap.get? b = some o → h1.get? b = some o) → (∀ b o, h1.get? b = some o → h'.get? b = some o) → (∃ n, h'.get? h1.objs.size = some (seqObj "list" out.toArray n)) → Q (.ref h1.objs.size) { s with heap := h' }) :
    wpAny (model prog w) A (call (.builtin "sorted") [.ref l]) Q E s := by
  refine sorted_ordT (swo_T k) ho hc hd hz (fun h2 h₁ a ha kk => tri_sortable (s := { s with heap := h₁ }) (by omega) (fun v hm => (hp v hm).keeps fun b o e _ => (kk b o e).2) fun o e c => ?_) fun h1 h' out hs hb k1 kp at_ => h h1 h' out hs hb.perm k1 kp at_
  have e' : some o = some (seqObj "list" vs.toArray 0) := e.symm.trans ha
  cases e'
  exact absurd (Value.type.inj c) (by decide)
end
theorem triV_inj {p q : Tri} (h : triV p = triV q) : p = q := by
  unfold triV at h
  simp only [List.cons.injEq, V.int.injEq, V.str.injEq] at h
  obtain ⟨h1, h2, h3, _⟩ := h
  exact Prod.ext h1 (Prod.ext h2 (sg_inj.mp h3))
/-- sorted(ties) of a tuple -/
def rSorted3T (K : PySem.W.Frag) : List V → Hp → VK → Prop := fun vs H Q => ∃ (a : Addr) (es : List (Addr × Tri)), vs = [V.ref a] ∧ SqT K H a (es.map fun e => V.ref e.1) ∧ (∀ e ∈ es, SqT K H e.1 (triV e.2)) ∧
  ∀ (es' : List (Addr × Tri)) p, es'.Perm es → (es'.map (·.2)).Pairwise (fun x y => lexT y x = false) → H p = none → Q (.ref p) (upd H p (.lst (es'.map fun e => V.ref e.1)))
section
variable {X : Cx}
theorem cr_sorted3T : CallR X (.builtin "sorted") (rSorted3T X.K) := by
  intro pins s σ H vs us Q I r h
  obtain ⟨a, es, rfl, hs, hx, q⟩ := h
  obtain ⟨its, rv, ⟨o0, g0, c0, n0, d0⟩, hz⟩ := I.tuple hs
  obtain ⟨u, rfl, ru⟩ := vals1 r
  obtain rfl : u = Value.ref a := ru
  -- the items, by their addresses
  have eits : its = es.map fun e => Value.ref e.1 := by
    have : ∀ {xs : List (Addr × Tri)} {us : List Value}, Vals (xs.map fun e => V.ref e.1) us → us = xs.map fun e => Value.ref e.1 := by
      intro xs
      induction xs with
      | nil => intro us r; cases r; rfl
      | cons x xs ih =>
        intro us r
        cases r with
        | cons r1 r2 => rw [ih r2, (show _ = Value.ref x.1 from r1)]; rfl
    exact this rv
  -- the key, read off the heap
  let kA : Addr → Tri := fun b => ((es.find? fun e => e.1 == b).map (·.2)).getD (0, 0, 0)
  have kA_eq : ∀ e ∈ es, kA e.1 = e.2 := fun e he => by
    show ((es.find? fun e' => e'.1 == e.1).map (·.2)).getD (0, 0, 0) = e.2
    cases hf : es.find? fun e' => e'.1 == e.1 with
    | none => exact absurd (beq_self_eq_true e.1) (by simpa using List.find?_eq_none.mp hf e he)
    | some e' =>
      have h1 : e'.1 = e.1 := by simpa using List.find?_some hf
      have h2 := hx e' (List.mem_of_find?_eq_some hf)
      rw [h1] at h2
      exact triV_inj (I.tuple_inj h2 (hx e he))
  let kV' : Value → Tri := fun v => match v with
    | .ref b => kA b
    | _ => (0, 0, 0)
  refine sorted_trisT (k := kV') g0 c0 d0 (by rw [← rv.length]; exact hz) (fun v hv => ?_) fun h0 h' out h1 h2 kp1 kp hn => ?_
  · rw [eits] at hv
    obtain ⟨e, he, rfl⟩ := List.mem_map.mp hv
    obtain ⟨its2, r2, ⟨o, ho, hc, n, hd⟩, _⟩ := I.tuple (hx e he)
    have ek : kV' (Value.ref e.1) = e.2 := kA_eq e he
    rw [ek]
    cases r2 with
    | cons ra rr =>
      cases rr with
      | cons rb rr =>
        cases rr with
        | cons rc rr =>
          cases rr
          obtain ⟨t1, rfl⟩ := ra
          obtain ⟨t2, rfl⟩ := rb
          obtain ⟨t3, rfl⟩ := rc
          exact ⟨e.1, o, t1, t2, t3, n, rfl, ho, hc, hd⟩
  · obtain ⟨n, hn⟩ := hn
    rw [eits] at h2
    have hmem : ∀ v ∈ out, ∃ e ∈ es, v = Value.ref e.1 := fun v hv => by
      obtain ⟨e, he, e'⟩ := List.mem_map.mp (h2.mem_iff.mp hv)
      exact ⟨e, he, e'.symm⟩
    -- back to pairs
    let back : Value → Addr × Tri := fun v => match v with
      | .ref b => (b, kA b)
      | _ => (0, (0, 0, 0))
    have p1 : (out.map back).Perm es := by
      have z := h2.map back
      rw [List.map_map] at z
      have e2 : es.map (back ∘ fun e => Value.ref e.1) = es := by
        conv => rhs; rw [← List.map_id es]
        refine List.map_congr_left fun e he => ?_
        show (e.1, kA e.1) = e
        rw [kA_eq e he]
      rw [e2] at z
      exact z
    have e3 : (out.map back).map (fun e => V.ref e.1) = out.map backV := by
      rw [List.map_map]
      refine List.map_congr_left fun v hv => ?_
      obtain ⟨e, he, rfl⟩ := hmem v hv
      rfl
    have srt : ((out.map back).map (·.2)).Pairwise (fun x y => lexT y x = false) := by
      rw [List.map_map, List.pairwise_map]
      refine h1.imp_of_mem fun {x y} hx' hy' hxy => ?_
      obtain ⟨e, he, rfl⟩ := hmem x hx'
      obtain ⟨e', he', rfl⟩ := hmem y hy'
      exact hxy
    have I1 : Inv X pins σ H { s with heap := h0 } := I.kept (t' := s.toks) kp1
    have g := q (out.map back) h0.objs.size p1 srt (I1.hok.fresh (Nat.le_refl _))
    rw [e3] at g
    have hzo : (out.map backV).length ≤ sizeLine := by
      rw [List.length_map, h2.length_eq, List.length_map]
      rw [List.length_map] at hz
      exact hz
    have hvb : Vals (out.map backV) out := vals_back fun u hu => by
      obtain ⟨e, he, rfl⟩ := hmem u hu
      exact ⟨_, rfl⟩
    exact ⟨.ref h0.objs.size, upd H h0.objs.size (.lst (out.map backV)), I1.laid (t' := s.toks) kp (Nat.le_refl _) (show ObjOk X.prog X.w _ _ _ (.lst (out.map backV)) from ⟨hzo, out, n, hvb, hn⟩), rfl, g⟩

end
end Cw

/-! webs as data; membership of whole numbers -/
namespace Cw
open PySem PySem.Spec PyProof.Rows L2
def webD (u : Web) : PyData := .tuple [.str ⟨u.1.toArray⟩, .tuple (u.2.map tieD)]
theorem strOk_of {cs : List Nat} (h : ∀ c ∈ cs, Ltr c) : PyData.strOk ⟨cs.toArray⟩ = true := by
  show cs.toArray.all (fun c => decide (c < 0x110000)) = true
  rw [List.all_toArray', List.all_eq_true] <;> first | rfl | skip
  intro c hc
  have := h c hc
  unfold Ltr at this
  exact decide_eq_true (by omega)
theorem dpa_tiesT {K : PySem.W.Frag} {H : Hp} : ∀ {xs : List V} {ts : List Tie}, Paired (TieAt K H) xs ts → DpAll K H xs (ts.map tieD)
  | _, _, .nil => .nil
  | _, _, .cons h t => by
    obtain ⟨a, rfl, q⟩ := h
    exact .cons (.tup q (.cons (.int _) (.cons (.int _) (.cons (.str _) .nil)))) (dpa_tiesT t)
theorem WebAt.dp {K : PySem.W.Frag} {H : Hp} {v : V} {u : Web} (x : WebAt K H v u) : Dp K H v (webD u) := by
  obtain ⟨a, b, tvs, rfl, q1, q2, p⟩ := x
  exact .tup q1 (.cons (.str _) (.cons (.tup q2 (dpa_tiesT p)) .nil))
theorem webD_good {u : Web} (U : WOk u) : SeqAt.shaped (webD u) = true := by
  obtain ⟨h1, h2⟩ := lay_all (ds := u.2.map tieD) (k := 1) fun d hd => by
    obtain ⟨t, ht, rfl⟩ := List.mem_map.mp hd
    exact tieD_lay (U.ends t ht).2.2
  have h3 := strOk_of U.kinds
  unfold webD
  simp [SeqAt.shaped, PyData.canLay0, PyData.canLayAll0, PyData.depth, PyData.depthAll, h1, h3]
  omega
theorem any_int (l : List Nat) (q : Nat) : (((zs l).map PyData.int).any fun z => PyData.eqv z (.int (q : Nat))) = decide (q ∈ l) := by
  rw [Bool.eq_iff_iff, List.any_eq_true, decide_eq_true_eq]
  constructor
  · rintro ⟨z, hz, e⟩
    obtain ⟨k, hk, rfl⟩ := List.mem_map.mp hz
    obtain ⟨p, hp, rfl⟩ := List.mem_map.mp hk
    have : (p : Int) = (q : Int) := by simpa [PyData.eqv] using e
    have : p = q := by omega
    exact this ▸ hp
  · intro h
    exact ⟨_, List.mem_map.mpr ⟨_, List.mem_map.mpr ⟨q, h, rfl⟩, rfl⟩, by simp [PyData.eqv]⟩
theorem sh_int (x : Int) : SeqAt.shaped (.int x) = true := by simp [SeqAt.shaped, PyData.canLay0, PyData.depth]
theorem perm_rise {os qs : List Nat} (p : os.Perm qs) (s : os.Pairwise (· < ·)) (t : qs.Pairwise (· < ·)) : os = qs := sorted_ext s t fun _ => p.mem_iff
end Cw

/-! pieces and their parts: which pairs of a lead a part takes, what is due among them, and what a lead that lies says of cuts -/
namespace Cw
open PySem PySem.Spec PyProof.Rows L2
theorem tieL_mem {w : Web} (W : WOk w) {a b c : Nat} : tieL w.2 a b = some c ↔ (min a b, max a b, c) ∈ w.2 := by
  constructor
  · intro h
    unfold tieL at h
    obtain ⟨t, ht, rfl⟩ := Option.map_eq_some_iff.mp h
    have hm := List.mem_of_find?_eq_some ht
    have hp := at2_iff.mp (List.find?_some ht)
    have r := (W.ends t hm).1
    have e : (min a b, max a b, t.2.2) = t := by
      obtain ⟨t1, t2, t3⟩ := t
      simp only [Prod.mk.injEq, and_true]
      dsimp only at hp r
      omega
    rw [e]; exact hm
  · intro h
    have r := (W.ends _ h).1
    have q : at2 a b (min a b, max a b, c) = true := at2_iff.mpr (by dsimp only; omega)
    cases e : tieL w.2 a b with
    | none =>
      have z := (tieL_isSome (ts := w.2) (a := a) (b := b)).mpr ⟨_, h, q⟩
      rw [e] at z; cases z
    | some d =>
      unfold tieL at e
      obtain ⟨t, ht, rfl⟩ := Option.map_eq_some_iff.mp e
      have hm := List.mem_of_find?_eq_some ht
      have hp := at2_iff.mp (List.find?_some ht)
      have r2 := (W.ends t hm).1
      obtain ⟨i, hi, ei⟩ := List.getElem_of_mem hm
      obtain ⟨j, hj, ej⟩ := List.getElem_of_mem h
      have s := List.pairwise_iff_getElem.mp W.rise
      rcases Nat.lt_trichotomy i j with c1 | c1 | c1
      · have lt := s i j hi hj c1
        rw [ei, ej] at lt
        rcases lt with lt | lt <;> dsimp only at lt <;> omega
      · subst c1
        rw [ei] at ej
        rw [ej]
      · have lt := s j i hj hi c1
        rw [ei, ej] at lt
        rcases lt with lt | lt <;> dsimp only at lt <;> omega
theorem tieL_named {w w' : Web} {qs : List Nat} (W : WOk w) (W' : WOk w') (o : Ord qs w.1.length) (N : Named w qs w') {a b : Nat} (ha : a < w.1.length) (hb : b < w.1.length) : tieL w'.2 (qa qs a) (qa qs b) = tieL w.2 a b := by
  refine Option.ext fun c => ?_
  rw [tieL_mem W', tieL_mem W, N.ties.mem_iff, List.mem_map]
  constructor
  · rintro ⟨t, ht, e⟩
    have r := W.ends t ht
    unfold mapTie at e
    simp only [Prod.mk.injEq] at e
    obtain ⟨e1, e2, e3⟩ := e
    have key : (t.1 = a ∧ t.2.1 = b) ∨ (t.1 = b ∧ t.2.1 = a) := by
      by_cases c1 : qa qs t.1 = qa qs a
      · have z1 := o.inj (by omega) ha c1
        have z2 := o.inj (p := t.2.1) (r := b) (by omega) hb (by omega)
        exact .inl ⟨z1, z2⟩
      · have z1 := o.inj (p := t.1) (r := b) (by omega) hb (by omega)
        have z2 := o.inj (p := t.2.1) (r := a) (by omega) ha (by omega)
        exact .inr ⟨z1, z2⟩
    have e : (min a b, max a b, c) = t := by
      obtain ⟨t1, t2, t3⟩ := t
      simp only [Prod.mk.injEq]
      dsimp only at key r e3
      omega
    rw [e]; exact ht
  · intro h
    have r := W.ends _ h
    refine ⟨_, h, ?_⟩
    unfold mapTie
    simp only [Prod.mk.injEq, and_true]
    dsimp only at r
    rcases Nat.le_total a b with c1 | c1
    · rw [Nat.min_eq_left c1, Nat.max_eq_right c1]; exact ⟨rfl, rfl⟩
    · rw [Nat.min_eq_right c1, Nat.max_eq_left c1]
      omega
/-! ### some pairs of a lead -/
def pick (ld : Lead) (ns : List Nat) : Lead := ns.map fun n => ld.getD n (0, 0)
theorem pick_at {ld : Lead} {ns : List Nat} (b : ∀ n ∈ ns, n < ld.length) {p : Nat × Nat} : p ∈ pick ld ns ↔ ∃ n ∈ ns, ld[n]? = some p := by
  unfold pick
  rw [List.mem_map]
  constructor
  · rintro ⟨n, hn, e⟩
    refine ⟨n, hn, ?_⟩
    rw [List.getD_eq_getElem?_getD, List.getElem?_eq_getElem (b n hn)] at e
    rw [List.getElem?_eq_getElem (b n hn)]
    exact congrArg some e
  · rintro ⟨n, hn, e⟩
    exact ⟨n, hn, by rw [List.getD_eq_getElem?_getD, e]; rfl⟩
theorem pick_sub {ld : Lead} {ns : List Nat} (b : ∀ n ∈ ns, n < ld.length) : ∀ p ∈ pick ld ns, p ∈ ld := fun p hp => by
  obtain ⟨n, _, e⟩ := (pick_at b).mp hp
  exact List.mem_of_getElem? e
theorem pick_fst {ld : Lead} {ns : List Nat} (b : ∀ n ∈ ns, n < ld.length) : (pick ld ns).map (·.1) = ns.map fun n => (ld.map (·.1)).getD n 0 := by
  unfold pick
  rw [List.map_map]
  refine List.map_congr_left fun n hn => ?_
  rw [List.getD_eq_getElem?_getD, List.getElem?_map, List.getElem?_eq_getElem (b n hn)]
  show (ld.getD n (0, 0)).1 = _
  rw [List.getD_eq_getElem?_getD, List.getElem?_eq_getElem (b n hn)]
  rfl
theorem getD_lt {α : Type} {l : List α} {n : Nat} {d : α} (h : n < l.length) : l.getD n d = l[n] := by
  rw [List.getD_eq_getElem?_getD, List.getElem?_eq_getElem h]; rfl
theorem pick_ok {u u' : Web} {ld : Lead} (L : LOk u u' ld) {ns : List Nat} (s : ns.Pairwise (· < ·)) (b : ∀ n ∈ ns, n < ld.length) : LOk u u' (pick ld ns) := by
  have r := List.pairwise_iff_getElem.mp L.rise
  have e := List.pairwise_iff_getElem.mp L.ends
  refine ⟨?_, ?_, fun p hp => L.like p (pick_sub b p hp)⟩
  · unfold pick
    rw [List.pairwise_map]
    refine s.imp_of_mem fun {x y} hx hy h => ?_
    rw [getD_lt (b x hx), getD_lt (b y hy)]
    exact r x y (b x hx) (b y hy) h
  · unfold pick
    rw [List.map_map]
    unfold List.Nodup
    rw [List.pairwise_map]
    refine s.imp_of_mem fun {x y} hx hy h => ?_
    have z := e x y (by rw [List.length_map]; exact b x hx) (by rw [List.length_map]; exact b y hy) h
    rw [List.getElem_map, List.getElem_map] at z
    show (ld.getD x (0, 0)).2 ≠ (ld.getD y (0, 0)).2
    rw [getD_lt (b x hx), getD_lt (b y hy)]
    exact z
/-! ### what is due among some pairs -/
def both (os : List Nat) (t : Tie) : Bool := os.contains t.1 && os.contains t.2.1
theorem both_iff {os : List Nat} {t : Tie} : both os t = true ↔ t.1 ∈ os ∧ t.2.1 ∈ os := by
  unfold both
  rw [Bool.and_eq_true, List.contains_iff_mem, List.contains_iff_mem]
theorem isLed_both {u' : Web} {ld : Lead} (s : ld.Pairwise (fun x y => x.1 < y.1)) {t : Tie} (h : isLed u' ld t = true) : both (ld.map (·.1)) t = true := by
  obtain ⟨a, b, h1, h2, _⟩ := (isLed_iff s).mp h
  exact both_iff.mpr ⟨List.mem_map.mpr ⟨_, h1, rfl⟩, List.mem_map.mpr ⟨_, h2, rfl⟩⟩
theorem isLed_sub {u' : Web} {ld kd : Lead} (s : ld.Pairwise (fun x y => x.1 < y.1)) (k : kd.Pairwise (fun x y => x.1 < y.1)) (sub : ∀ p ∈ kd, p ∈ ld) (t : Tie) : isLed u' kd t = (isLed u' ld t && both (kd.map (·.1)) t) := by
  have one : ∀ {x a b}, (x, a) ∈ ld → (x, b) ∈ ld → a = b := fun {x a b} h1 h2 => by
    have e1 := (ldAt_iff s).mpr h1
    have e2 := (ldAt_iff s).mpr h2
    rw [e1] at e2
    exact Option.some.inj e2
  rw [Bool.eq_iff_iff, Bool.and_eq_true]
  constructor
  · intro h
    refine ⟨?_, isLed_both k h⟩
    obtain ⟨a, b, h1, h2, h3⟩ := (isLed_iff k).mp h
    exact (isLed_iff s).mpr ⟨a, b, sub _ h1, sub _ h2, h3⟩
  · rintro ⟨h, hb⟩
    obtain ⟨a, b, h1, h2, h3⟩ := (isLed_iff s).mp h
    obtain ⟨m1, m2⟩ := both_iff.mp hb
    obtain ⟨⟨x, a'⟩, k1, e1⟩ := List.mem_map.mp m1
    obtain ⟨⟨y, b'⟩, k2, e2⟩ := List.mem_map.mp m2
    dsimp only at e1 e2
    subst e1 e2
    have ea := one h1 (sub _ k1)
    have eb := one h2 (sub _ k2)
    subst ea eb
    exact (isLed_iff k).mpr ⟨a, b, k1, k2, h3⟩
theorem due_sub {u u' : Web} {ld kd : Lead} (s : ld.Pairwise (fun x y => x.1 < y.1)) (k : kd.Pairwise (fun x y => x.1 < y.1)) (sub : ∀ p ∈ kd, p ∈ ld) : dueL u u' kd = (dueL u u' ld).filter (both (kd.map (·.1))) := by
  unfold dueL
  rw [List.filter_filter]
  refine List.filter_congr fun t _ => ?_
  rw [isLed_sub s k sub, Bool.and_comm]
theorem cutTie_off {os : List Nat} {t : Tie} (h : both os t = false) : cutTie os t = none := by
  unfold cutTie
  cases e1 : posOf os t.1 with
  | none => rfl
  | some a =>
    cases e2 : posOf os t.2.1 with
    | none => rfl
    | some b =>
      have m1 : t.1 ∈ os := Decidable.byContradiction fun c => by rw [posOf_none.mpr c] at e1; cases e1
      have m2 : t.2.1 ∈ os := Decidable.byContradiction fun c => by rw [posOf_none.mpr c] at e2; cases e2
      rw [both_iff.mpr ⟨m1, m2⟩] at h
      cases h
theorem cut_both (u : Web) (ts : List Tie) (os : List Nat) : cutL (ledW u (ts.filter (both os))) os = cutL (ledW u ts) os := by
  unfold cutL ledW
  congr 1
  dsimp only
  induction ts with
  | nil => rfl
  | cons t r ih =>
    cases c : both os t with
    | true => rw [List.filter_cons_of_pos c, List.filterMap_cons, List.filterMap_cons, ih]
    | false => rw [List.filter_cons_of_neg (by rw [c]; decide), List.filterMap_cons, cutTie_off c, ih]
/-! ### on ties -/
theorem onT_iff {p : Nat} {t : Tie} : onT p t = true ↔ t.1 = p ∨ t.2.1 = p := by
  unfold onT
  rw [Bool.or_eq_true, beq_iff_eq, beq_iff_eq]
theorem onTies_due {u u' : Web} {ld : Lead} (s : ld.Pairwise (fun x y => x.1 < y.1)) : onTiesB (dueL u u' ld) ld = ld.all fun p => (dueL u u' ld).any (onT p.1) := by
  unfold onTiesB
  rw [show ((dueL u u' ld).all fun t => (ld.any fun p => p.1 == t.1) && ld.any fun p => p.1 == t.2.1) = true from List.all_eq_true.mpr fun t ht => ?_, Bool.and_true]
  obtain ⟨a, b, h1, h2, _⟩ := (isLed_iff s).mp (List.mem_filter.mp ht).2
  rw [Bool.and_eq_true]
  exact ⟨List.any_eq_true.mpr ⟨_, h1, beq_iff_eq.mpr rfl⟩, List.any_eq_true.mpr ⟨_, h2, beq_iff_eq.mpr rfl⟩⟩
theorem onTies_iff2 {u u' : Web} {ld : Lead} (s : ld.Pairwise (fun x y => x.1 < y.1)) : onTiesB (dueL u u' ld) ld = true ↔ ∀ p ∈ ld, ∃ t ∈ dueL u u' ld, t.1 = p.1 ∨ t.2.1 = p.1 := by
  rw [onTies_due s, List.all_eq_true]
  refine forall_congr' fun p => forall_congr' fun hp => ?_
  rw [List.any_eq_true]
  exact exists_congr fun t => and_congr_right fun _ => onT_iff
/-! ### the web of what is due -/
section
variable {u u' : Web} {ld : Lead}
noncomputable def dueW (u u' : Web) (ld : Lead) : Web := cutL (ledW u (dueL u u' ld)) (ld.map (·.1))
theorem fst_rise (L : LOk u u' ld) : (ld.map (·.1)).Pairwise (· < ·) := List.pairwise_map.mpr L.rise
theorem fst_lt (L : LOk u u' ld) : ∀ p ∈ ld.map (·.1), p < u.1.length := fun p hp => by
  obtain ⟨x, hx, rfl⟩ := List.mem_map.mp hp
  exact (L.like x hx).1
theorem dueW_ok (W : WOk u) (L : LOk u u' ld) : WOk (dueW u u' ld) := cutL_ok (u := ledW u (dueL u u' ld)) (led_wok W ld) (fst_rise L) (show ∀ p ∈ ld.map (·.1), p < u.1.length from fst_lt L)
theorem dueW_len : (dueW u u' ld).1.length = ld.length := by
  unfold dueW cutL
  rw [List.length_map, List.length_map]
theorem nb_due (W : WOk u) (L : LOk u u' ld) {i j : Nat} {p q : Nat × Nat} (hi : ld[i]? = some p) (hj : ld[j]? = some q) : j ∈ nb (dueW u u' ld).2 i ↔ ∃ t ∈ dueL u u' ld, at2 p.1 q.1 t = true := by
  have e1 : (ld.map (·.1))[i]? = some p.1 := by rw [List.getElem?_map, hi]; rfl
  have e2 : (ld.map (·.1))[j]? = some q.1 := by rw [List.getElem?_map, hj]; rfl
  rw [mem_nb (dueW_ok W L)]
  unfold dueW
  rw [← tieL_isSome, tieL_cut (rise_nodup (fst_rise L)) e1 e2, tieL_isSome]
  exact Iff.rfl
/-- a tie due, where its ends stand -/
theorem due_at (L : LOk u u' ld) {t : Tie} (ht : t ∈ dueL u u' ld) : ∃ (i j a b : Nat), ld[i]? = some (t.1, a) ∧ ld[j]? = some (t.2.1, b) := by
  obtain ⟨a, b, h1, h2, _⟩ := (isLed_iff L.rise).mp (List.mem_filter.mp ht).2
  obtain ⟨i, hi⟩ := List.getElem?_of_mem h1
  obtain ⟨j, hj⟩ := List.getElem?_of_mem h2
  exact ⟨i, j, a, b, hi, hj⟩
theorem due_nb (W : WOk u) (L : LOk u u' ld) {t : Tie} (ht : t ∈ dueL u u' ld) {i j a b : Nat} (hi : ld[i]? = some (t.1, a)) (hj : ld[j]? = some (t.2.1, b)) : j ∈ nb (dueW u u' ld).2 i :=
  (nb_due W L hi hj).mpr ⟨t, ht, at2_iff.mpr (.inl ⟨rfl, rfl⟩)⟩
theorem mem_parts {X : Web} {part : List Nat} (h : part ∈ partsL X) : ∃ l, l < X.1.length ∧ Lst X l ∧ part = partL X l := by
  unfold partsL partsN at h
  obtain ⟨l, hl, rfl⟩ := List.mem_map.mp h
  obtain ⟨h1, h2⟩ := mem_leasts hl
  exact ⟨l, h1, h2, rfl⟩
theorem part_lt {X : Web} {part : List Nat} (h : part ∈ partsL X) : ∀ n ∈ part, n < X.1.length := fun n hn => by
  obtain ⟨l, _, _, rfl⟩ := mem_parts h
  exact List.mem_range.mp (List.mem_filter.mp hn).1
theorem part_rise {X : Web} {part : List Nat} (h : part ∈ partsL X) : part.Pairwise (· < ·) := by
  obtain ⟨l, _, _, rfl⟩ := mem_parts h
  exact partL_rise _ _
theorem part_closed {X : Web} (U : WOk X) {part : List Nat} (h : part ∈ partsL X) {m n : Nat} (hm : m ∈ part) (r : Rch X.2 m n) : n ∈ part := by
  obtain ⟨l, hl, _, rfl⟩ := mem_parts h
  rw [mem_partL U hl] at hm ⊢
  exact hm.trans r
theorem part_joined {X : Web} (U : WOk X) {part : List Nat} (h : part ∈ partsL X) {m n : Nat} (hm : m ∈ part) (hn : n ∈ part) : Rch X.2 m n := by
  obtain ⟨l, hl, _, rfl⟩ := mem_parts h
  rw [mem_partL U hl] at hm hn
  exact (hm.symm U).trans hn
theorem part_of {X : Web} (U : WOk X) {n : Nat} (hn : n < X.1.length) : ∃ part ∈ partsL X, n ∈ part := by
  obtain ⟨l, r, hl⟩ := least_of U n
  have ll := Rch.lt U r hn
  refine ⟨partL X l, ?_, (mem_partL U ll).mpr (r.symm U)⟩
  unfold partsL partsN
  exact List.mem_map.mpr ⟨l, List.mem_filter.mpr ⟨List.mem_range.mpr ll, dec_true hl⟩, rfl⟩
theorem rch_first {ts : List Tie} {a b : Nat} (h : Rch ts a b) : a = b ∨ ∃ c, c ∈ nb ts a := by
  induction h with
  | base => exact .inl rfl
  | step _ m ih =>
    rcases ih with rfl | ih
    · exact .inr ⟨_, m⟩
    · exact .inr ih
theorem another {l : List Nat} (nd : l.Nodup) {n : Nat} (h : n ∈ l) (ne : l.length ≠ 1) : ∃ m ∈ l, m ≠ n := by
  match l, nd, h, ne with
  | [a], _, _, ne => exact absurd rfl ne
  | a :: b :: r, nd, h, _ =>
    by_cases c : a = n
    · subst c
      exact ⟨b, List.mem_cons_of_mem _ List.mem_cons_self, fun z => (List.nodup_cons.mp nd).1 (z ▸ List.mem_cons_self)⟩
    · exact ⟨a, List.mem_cons_self, c⟩
theorem not_one {l : List Nat} {m n : Nat} (h : n ∈ l) (k : m ∈ l) (ne : m ≠ n) : l.length ≠ 1 := fun z => by
  obtain ⟨x, rfl⟩ := List.length_eq_one_iff.mp z
  rw [List.mem_singleton] at h k
  exact ne (k.trans h.symm)
theorem singles (W : WOk u) (L : LOk u u' ld) : (∀ part ∈ partsL (dueW u u' ld), part.length ≠ 1) ↔ onTiesB (dueL u u' ld) ld = true := by
  have X := dueW_ok W L
  rw [onTies_iff2 L.rise]
  constructor
  · intro h p hp
    obtain ⟨i, hi⟩ := List.getElem?_of_mem hp
    have li := (List.getElem?_eq_some_iff.mp hi).1
    obtain ⟨part, h1, h2⟩ := part_of X (n := i) (by rw [dueW_len]; exact li)
    obtain ⟨m, h3, h4⟩ := another (rise_nodup (part_rise h1)) h2 (h part h1)
    obtain rfl | ⟨c, hc⟩ := rch_first (part_joined X h1 h2 h3)
    · exact absurd rfl h4
    · have lc := (nb_lt X hc).2
      rw [dueW_len] at lc
      obtain ⟨t, ht, ha⟩ := (nb_due W L hi (List.getElem?_eq_getElem lc)).mp hc
      refine ⟨t, ht, ?_⟩
      have := at2_iff.mp ha
      omega
  · intro h part hp
    obtain ⟨l, hl, _, rfl⟩ := mem_parts hp
    have ml : l ∈ partL (dueW u u' ld) l := (mem_partL X hl).mpr .base
    rw [dueW_len] at hl
    have gl := List.getElem?_eq_getElem hl
    obtain ⟨t, ht, ho⟩ := h _ (List.mem_of_getElem? gl)
    obtain ⟨i, j, a, b, hi, hj⟩ := due_at L ht
    have n1 := due_nb W L ht hi hj
    have pos : ∀ {x : Nat} {q : Nat × Nat}, ld[x]? = some q → q.1 = ld[l].1 → x = l := fun {x q} hx e => by
      have lx := (List.getElem?_eq_some_iff.mp hx).1
      have ex := (List.getElem?_eq_some_iff.mp hx).2
      have r := List.pairwise_iff_getElem.mp L.rise
      rcases Nat.lt_trichotomy x l with c | c | c
      · have := r x l lx hl c
        rw [ex] at this; omega
      · exact c
      · have := r l x hl lx c
        rw [ex] at this; omega
    have ne : i ≠ j := fun z => by
      subst z
      rw [hi] at hj
      have := (W.ends t (List.mem_filter.mp ht).1).1
      have z := Option.some.inj hj
      have := congrArg (·.1) z
      dsimp only at this
      omega
    rcases ho with ho | ho
    · have z := pos hi ho
      subst z
      exact not_one ml ((mem_partL X (by rw [dueW_len]; exact hl)).mpr (Rch.base.step n1)) (Ne.symm ne)
    · have z := pos hj ho
      subst z
      exact not_one ml ((mem_partL X (by rw [dueW_len]; exact hl)).mpr (Rch.base.step (nb_symm X n1))) ne
/-! ### a part of a piece -/
theorem part_bound (W : WOk u) (L : LOk u u' ld) {part : List Nat} (h : part ∈ partsL (dueW u u' ld)) : ∀ n ∈ part, n < ld.length := fun n hn => by
  rw [← dueW_len (u := u) (u' := u')]
  exact part_lt h n hn
theorem both_part (W : WOk u) (L : LOk u u' ld) {part : List Nat} (h : part ∈ partsL (dueW u u' ld)) {t : Tie} (ht : t ∈ dueL u u' ld) {i j a b : Nat} (hi : ld[i]? = some (t.1, a)) (hj : ld[j]? = some (t.2.1, b)) : both ((pick ld part).map (·.1)) t = true ↔ i ∈ part := by
  have X := dueW_ok W L
  have bd := part_bound W L h
  have r := List.pairwise_iff_getElem.mp L.rise
  have pos : ∀ {x y : Nat} {q s : Nat × Nat}, ld[x]? = some q → ld[y]? = some s → q.1 = s.1 → x = y := fun {x y q s} hx hy e => by
    obtain ⟨lx, ex⟩ := List.getElem?_eq_some_iff.mp hx
    obtain ⟨ly, ey⟩ := List.getElem?_eq_some_iff.mp hy
    rcases Nat.lt_trichotomy x y with c | c | c
    · have := r x y lx ly c
      rw [ex, ey] at this; omega
    · exact c
    · have := r y x ly lx c
      rw [ex, ey] at this; omega
  rw [both_iff]
  constructor
  · rintro ⟨h1, _⟩
    obtain ⟨q, hq, e⟩ := List.mem_map.mp h1
    obtain ⟨n, hn, en⟩ := (pick_at bd).mp hq
    rw [← pos en hi e]
    exact hn
  · intro hi'
    have hj' := part_closed X h hi' (Rch.base.step (due_nb W L ht hi hj))
    exact ⟨List.mem_map.mpr ⟨_, (pick_at bd).mpr ⟨i, hi', hi⟩, rfl⟩, List.mem_map.mpr ⟨_, (pick_at bd).mpr ⟨j, hj', hj⟩, rfl⟩⟩
theorem part_piece (W : WOk u) (L : LOk u u' ld) (P : onTiesB (dueL u u' ld) ld = true) {part : List Nat} (h : part ∈ partsL (dueW u u' ld)) : pieceB u u' (pick ld part) false true = true := by
  have X := dueW_ok W L
  have bd := part_bound W L h
  have rs := part_rise h
  have M := pick_ok L rs bd
  have ds := due_sub (u := u) (u' := u') L.rise M.rise (pick_sub bd)
  unfold pieceB
  rw [if_neg (by decide), if_neg (by decide), Bool.and_eq_true]
  refine ⟨(onTies_iff2 M.rise).mpr fun p hp => ?_, ?_⟩
  · obtain ⟨t, ht, ho⟩ := (onTies_iff2 L.rise).mp P p (pick_sub bd p hp)
    obtain ⟨i, j, a, b, hi, hj⟩ := due_at L ht
    obtain ⟨n, hn, en⟩ := (pick_at bd).mp hp
    refine ⟨t, ?_, ho⟩
    rw [ds, List.mem_filter]
    refine ⟨ht, (both_part W L h ht hi hj).mpr ?_⟩
    have r := List.pairwise_iff_getElem.mp L.rise
    have pos : ∀ {x y : Nat} {q s : Nat × Nat}, ld[x]? = some q → ld[y]? = some s → q.1 = s.1 → x = y := fun {x y q s} hx hy e => by
      obtain ⟨lx, ex⟩ := List.getElem?_eq_some_iff.mp hx
      obtain ⟨ly, ey⟩ := List.getElem?_eq_some_iff.mp hy
      rcases Nat.lt_trichotomy x y with c | c | c
      · have := r x y lx ly c
        rw [ex, ey] at this; omega
      · exact c
      · have := r y x ly lx c
        rw [ex, ey] at this; omega
    rcases ho with ho | ho
    · rw [pos hi en ho]; exact hn
    · have z := pos hj en ho
      subst z
      exact part_closed X h hn (Rch.base.step (nb_symm X (due_nb W L ht hi hj)))
  · rw [show (!true) = false from rfl, Bool.false_or]
    unfold hangB
    rw [decide_eq_true_iff, ds, cut_both]
    have e : cutL (ledW u (dueL u u' ld)) ((pick ld part).map (·.1)) = cutL (dueW u u' ld) part := by
      unfold dueW
      rw [cut_cut _ (rise_nodup (fst_rise L)) (rise_nodup rs) (fun k hk => by rw [List.length_map]; exact bd k hk), pick_fst bd]
    rw [e]
    have bX : ∀ n ∈ part, n < (dueW u u' ld).1.length := part_lt h
    refine (joined_iff (cutL_ok X rs bX)).mpr fun i j hi hj => ?_
    have lc : (cutL (dueW u u' ld) part).1.length = part.length := by unfold cutL; rw [List.length_map]
    rw [lc] at hi hj
    have mi := List.getElem_mem hi
    have mj := List.getElem_mem hj
    obtain ⟨k, hk, rk⟩ := rch_cut' X rs bX (List.getElem?_eq_getElem hi) (fun q hq => part_closed X h mi hq) (part_joined X h mi mj)
    have lk := (List.getElem?_eq_some_iff.mp hk).1
    have : k = j := (List.getElem_inj (h₀ := lk) (h₁ := hj) (rise_nodup rs)).mp (List.getElem?_eq_some_iff.mp hk).2
    rw [← this]
    exact rk
/-! ### the ties of the parts together -/
theorem sum_add {α : Type} (g h : α → Nat) : ∀ ps : List α, (ps.map fun p => g p + h p).sum = (ps.map g).sum + (ps.map h).sum
  | [] => rfl
  | p :: r => by
    have := sum_add g h r
    simp only [List.map_cons, List.sum_cons, this]
    omega
theorem sum_ite {α : Type} (f : α → Bool) : ∀ ps : List α, (ps.map fun p => if f p = true then 1 else 0).sum = (ps.filter f).length
  | [] => rfl
  | p :: r => by
    have := sum_ite f r
    cases c : f p with
    | true => rw [List.map_cons, List.sum_cons, List.filter_cons_of_pos c, List.length_cons, this, if_pos c]; omega
    | false => rw [List.map_cons, List.sum_cons, List.filter_cons_of_neg (by rw [c]; decide), this, if_neg (by rw [c]; decide)]; omega
theorem sum_one {α β : Type} (ps : List α) (f : α → β → Bool) : ∀ D : List β, (∀ t ∈ D, (ps.filter fun p => f p t).length = 1) → (ps.map fun p => (D.filter (f p)).length).sum = D.length
  | [], _ => by
    have z : ∀ qs : List α, (qs.map fun _ => 0).sum = 0 := fun qs => by
      induction qs with
      | nil => rfl
      | cons p r ih => rw [List.map_cons, List.sum_cons, ih]
    exact z ps
  | t :: D, h => by
    have ih := sum_one ps f D fun s hs => h s (List.mem_cons_of_mem _ hs)
    have e : (ps.map fun p => ((t :: D).filter (f p)).length) = ps.map fun p => (if f p t = true then 1 else 0) + (D.filter (f p)).length := List.map_congr_left fun p _ => by
      cases c : f p t with
      | true => rw [List.filter_cons_of_pos c, List.length_cons, if_pos rfl]; omega
      | false => rw [List.filter_cons_of_neg (by rw [c]; decide), if_neg (by decide)]; omega
    rw [e, sum_add, ih, sum_ite (fun p => f p t), h t List.mem_cons_self, List.length_cons]
    omega
theorem filter_single {l : List Nat} (nd : l.Nodup) {f : Nat → Bool} {a : Nat} (ha : a ∈ l) (fa : f a = true) (un : ∀ b ∈ l, f b = true → b = a) : (l.filter f).length = 1 := by
  induction l with
  | nil => cases ha
  | cons x r ih =>
    have nx := (List.nodup_cons.mp nd).1
    by_cases c : x = a
    · subst c
      rw [List.filter_cons_of_pos fa, List.length_cons]
      have z : r.filter f = [] := List.filter_eq_nil_iff.mpr fun b hb hf => nx (un b (List.mem_cons_of_mem _ hb) hf ▸ hb)
      rw [z]; rfl
    · have cf : f x = false := Bool.eq_false_iff.mpr fun z => c (un x List.mem_cons_self z)
      rw [List.filter_cons_of_neg (by rw [cf]; decide)]
      rcases List.mem_cons.mp ha with z | z
      · exact absurd z.symm c
      · exact ih (List.nodup_cons.mp nd).2 z fun b hb => un b (List.mem_cons_of_mem _ hb)
theorem parts_sum (W : WOk u) (L : LOk u u' ld) : ((partsL (dueW u u' ld)).map fun part => (dueL u u' (pick ld part)).length).sum = (dueL u u' ld).length := by
  have X := dueW_ok W L
  have e : ((partsL (dueW u u' ld)).map fun part => (dueL u u' (pick ld part)).length) = (partsL (dueW u u' ld)).map fun part => ((dueL u u' ld).filter (both ((pick ld part).map (·.1)))).length := List.map_congr_left fun part h => by
    rw [due_sub L.rise (pick_ok L (part_rise h) (part_bound W L h)).rise (pick_sub (part_bound W L h))]
  rw [e]
  refine sum_one _ (fun part t => both ((pick ld part).map (·.1)) t) _ fun t ht => ?_
  obtain ⟨i, j, a, b, hi, hj⟩ := due_at L ht
  have li : i < (dueW u u' ld).1.length := by rw [dueW_len]; exact (List.getElem?_eq_some_iff.mp hi).1
  have e2 : ((partsL (dueW u u' ld)).filter fun part => both ((pick ld part).map (·.1)) t) = (partsL (dueW u u' ld)).filter fun part => decide (i ∈ part) := List.filter_congr fun part h => by
    rw [Bool.eq_iff_iff, both_part W L h ht hi hj, decide_eq_true_iff]
  rw [e2]
  unfold partsL partsN
  rw [List.filter_map, List.length_map]
  obtain ⟨l, r, hl⟩ := least_of X i
  have ll := Rch.lt X r li
  refine filter_single (a := l) (rise_nodup (leasts_rise _ _)) (List.mem_filter.mpr ⟨List.mem_range.mpr ll, dec_true hl⟩) ?_ fun m hm hf => ?_
  · show decide (i ∈ partL _ l) = true
    rw [decide_eq_true_iff, mem_partL X ll]
    exact r.symm X
  · obtain ⟨m1, m2⟩ := mem_leasts hm
    have hf : decide (i ∈ partL (dueW u u' ld) m) = true := hf
    rw [decide_eq_true_iff, mem_partL X m1] at hf
    exact lst_uniq X m2 hl (hf.trans r)
end
/-! ### a lead that lies, by cuts -/
theorem tlt_ext {l m : List Tie} (a : l.Pairwise tlt) (b : m.Pairwise tlt) (h : ∀ t, t ∈ l ↔ t ∈ m) : l = m := by
  have asym : ∀ x y : Tie, tlt x y → tlt y x → False := fun x y h1 h2 => by
    rcases h1 with h1 | h1 <;> rcases h2 with h2 | h2 <;> omega
  have nd : ∀ {l : List Tie}, l.Pairwise tlt → l.Nodup := fun h => h.imp fun {x y} h z => by subst z; exact asym x x h h
  have p : l.Perm m := (List.perm_ext_iff_of_nodup (nd a) (nd b)).mpr h
  exact p.eq_of_pairwise (le := tlt) (fun x y _ _ h1 h2 => (asym x y h1 h2).elim) a b
theorem web_ext {X Y : Web} (A : WOk X) (B : WOk Y) (n : X.1.length = Y.1.length) (h : ∀ a b, a < X.1.length → b < X.1.length → tieL X.2 a b = tieL Y.2 a b) : X.2 = Y.2 := by
  refine tlt_ext A.rise B.rise fun t => ?_
  have go : ∀ {X Y : Web}, WOk X → WOk Y → (∀ a b, a < X.1.length → b < X.1.length → tieL X.2 a b = tieL Y.2 a b) → t ∈ X.2 → t ∈ Y.2 := fun {X Y} A B h ht => by
    have r := A.ends t ht
    have e : (min t.1 t.2.1, max t.1 t.2.1, t.2.2) = t := by rw [Nat.min_eq_left (by omega), Nat.max_eq_right (by omega)]
    have z := (tieL_mem A).mpr (by rw [e]; exact ht : (min t.1 t.2.1, max t.1 t.2.1, t.2.2) ∈ X.2)
    rw [h _ _ (by omega) (by omega)] at z
    have z := (tieL_mem B).mp z
    rw [e] at z; exact z
  exact ⟨go A B h, go B A fun a b ha hb => (h a b (by omega) (by omega)).symm⟩
theorem ord_pos {ld : Lead} {os : List Nat} (pm : os.Perm (ld.map (·.2))) (nd : (ld.map (·.2)).Nodup) : Ord (ld.map fun p => (posOf os p.2).getD 0) ld.length := by
  have no := pm.nodup_iff.mpr nd
  have lo : os.length = ld.length := by rw [pm.length_eq, List.length_map]
  have at_ : ∀ p ∈ ld, ∃ k, posOf os p.2 = some k ∧ os[k]? = some p.2 := fun p hp => by
    obtain ⟨k, hk⟩ := List.getElem?_of_mem (pm.mem_iff.mpr (List.mem_map.mpr ⟨p, hp, rfl⟩))
    exact ⟨k, (posOf_iff no).mpr hk, hk⟩
  refine ⟨List.length_map .., ?_, fun q hq => ?_, fun j hj => ?_⟩
  · unfold List.Nodup
    rw [List.pairwise_map]
    have z := List.pairwise_map.mp nd
    refine z.imp_of_mem fun {x y} hx hy ne e => ?_
    obtain ⟨k, e1, h1⟩ := at_ x hx
    obtain ⟨m, e2, h2⟩ := at_ y hy
    rw [e1, e2] at e
    have e : k = m := e
    subst e
    rw [h1] at h2
    exact ne (Option.some.inj h2)
  · obtain ⟨p, hp, rfl⟩ := List.mem_map.mp hq
    obtain ⟨k, e1, h1⟩ := at_ p hp
    rw [e1, ← lo]
    exact (List.getElem?_eq_some_iff.mp h1).1
  · rw [← lo] at hj
    have m := pm.mem_iff.mp (List.getElem_mem hj)
    obtain ⟨p, hp, e⟩ := List.mem_map.mp m
    refine List.mem_map.mpr ⟨p, hp, ?_⟩
    have e : p.2 = os[j] := e
    rw [e, (posOf_iff no).mpr (List.getElem?_eq_getElem hj)]
    rfl
theorem alike {u u' : Web} {ld : Lead} (W : WOk u) (W' : WOk u') (L : LOk u u' ld) {os : List Nat} (pm : os.Perm (ld.map (·.2))) (sr : os.Pairwise (· < ·)) {w : Web} (R : WOk w)
    (o : Ord (ld.map fun p => (posOf os p.2).getD 0) (cutL u (ld.map (·.1))).1.length) (N : Named (cutL u (ld.map (·.1))) (ld.map fun p => (posOf os p.2).getD 0) w) : decide (w = cutL u' os) = lieB u u' ld := by
  have H := cutL_ok W (fst_rise L) (fst_lt L)
  have bo : ∀ p ∈ os, p < u'.1.length := fun p hp => by
    obtain ⟨x, hx, rfl⟩ := List.mem_map.mp (pm.mem_iff.mp hp)
    exact (L.like x hx).2.1
  have T := cutL_ok W' sr bo
  have lo : os.length = ld.length := by rw [pm.length_eq, List.length_map]
  have lh : (cutL u (ld.map (·.1))).1.length = ld.length := by unfold cutL; rw [List.length_map, List.length_map]
  have lt : (cutL u' os).1.length = ld.length := by unfold cutL; rw [List.length_map, lo]
  have lw : w.1.length = ld.length := by rw [N.len, lh]
  have qat : ∀ {i : Nat} {p : Nat × Nat}, ld[i]? = some p → os[qa (ld.map fun p => (posOf os p.2).getD 0) i]? = some p.2 := fun {i p} hi => by
    have e : qa (ld.map fun p => (posOf os p.2).getD 0) i = (posOf os p.2).getD 0 := by
      unfold qa
      rw [List.getD_eq_getElem?_getD, List.getElem?_map, hi]; rfl
    rw [e]
    have m : p.2 ∈ os := pm.mem_iff.mpr (List.mem_map.mpr ⟨p, List.mem_of_getElem? hi, rfl⟩)
    obtain ⟨k, hk⟩ := List.getElem?_of_mem m
    rw [(posOf_iff (rise_nodup sr)).mpr hk]
    exact hk
  have kinds : w.1 = (cutL u' os).1 := by
    refine List.ext_getElem? fun j => ?_
    by_cases c : j < ld.length
    · obtain ⟨i, hi, e⟩ := o.onto (j := j) (by rw [lh]; exact c)
      subst e
      rw [N.kinds i hi]
      rw [lh] at hi
      have gi := List.getElem?_eq_getElem hi
      unfold cutL
      dsimp only
      rw [List.getElem?_map, List.getElem?_map, List.getElem?_map, gi, qat gi]
      have lk := L.like _ (List.mem_of_getElem? gi)
      show some (u.1.getD _ 0) = some (u'.1.getD _ 0)
      rw [List.getD_eq_getElem?_getD, List.getD_eq_getElem?_getD, lk.2.2]
    · rw [List.getElem?_eq_none (by omega), List.getElem?_eq_none (by omega)]
  have tie : ∀ {i j : Nat} {p q : Nat × Nat}, ld[i]? = some p → ld[j]? = some q → tieL w.2 (qa (ld.map fun p => (posOf os p.2).getD 0) i) (qa (ld.map fun p => (posOf os p.2).getD 0) j) = tieL u.2 p.1 q.1 ∧ tieL (cutL u' os).2 (qa (ld.map fun p => (posOf os p.2).getD 0) i) (qa (ld.map fun p => (posOf os p.2).getD 0) j) = tieL u'.2 p.2 q.2 := fun {i j p q} hi hj => by
    have li := (List.getElem?_eq_some_iff.mp hi).1
    have lj := (List.getElem?_eq_some_iff.mp hj).1
    refine ⟨?_, tieL_cut (rise_nodup sr) (qat hi) (qat hj)⟩
    rw [tieL_named H R o N (by rw [lh]; exact li) (by rw [lh]; exact lj)]
    exact tieL_cut (rise_nodup (fst_rise L)) (by rw [List.getElem?_map, hi]; rfl) (by rw [List.getElem?_map, hj]; rfl)
  rw [Bool.eq_iff_iff, decide_eq_true_iff]
  unfold lieB
  rw [List.all_eq_true]
  constructor
  · intro e p hp
    rw [List.all_eq_true]
    intro q hq
    obtain ⟨i, hi⟩ := List.getElem?_of_mem hp
    obtain ⟨j, hj⟩ := List.getElem?_of_mem hq
    obtain ⟨e1, e2⟩ := tie hi hj
    unfold agr
    rw [decide_eq_true_iff, ← e1, ← e2, e]
  · intro h
    refine Prod.ext kinds (web_ext R T (by rw [lw, lt]) fun a b ha hb => ?_)
    rw [lw, ← lh] at ha hb
    obtain ⟨i, hi, rfl⟩ := o.onto ha
    obtain ⟨j, hj, rfl⟩ := o.onto hb
    rw [lh] at hi hj
    obtain ⟨e1, e2⟩ := tie (List.getElem?_eq_getElem hi) (List.getElem?_eq_getElem hj)
    rw [e1, e2]
    have z := List.all_eq_true.mp (h _ (List.getElem_mem hi)) _ (List.getElem_mem hj)
    unfold agr at z
    exact decide_eq_true_iff.mp z
end Cw

namespace Cw
open PySem PySem.Spec PyProof.Rows L2
local macro_rules | `(tactic| walk_at "rd1") => `(tactic| first
  | (with_reducible refine d_seq ?_) | (with_reducible refine d_asg ?_) | (with_reducible refine d_cons ?_) | (with_reducible refine d_nil ?_)
  | ((with_reducible refine' d_var ?e ?_); (case e => exact rfl))
  | (with_reducible refine d_c ?_) | (with_reducible refine d_op ?_) | (with_reducible refine d_un ?_) | (with_reducible refine d_cb ?_)
  | (with_reducible refine d_rI0 ?_) | (with_reducible refine d_rU ?_) | (with_reducible refine d_eqI ?_) | (with_reducible refine d_neI ?_)
  | ((with_reducible refine d_rI ?hc ?_); (case hc => first | assumption | decide | exact ⟨by decide, by decide⟩ | exact ⟨by omega, by omega⟩ | exact .inl ⟨by omega, by omega⟩ | exact .inr ⟨by omega, by omega⟩))
  | ((with_reducible refine' d_ixLm ?h ?e ?_); (case h => first | assumption | exact upd_same); (case e => rfl)) | ((with_reducible refine' d_ixTm ?h ?e ?_); (case h => first | assumption | exact upd_same); (case e => rfl))
  | (with_reducible refine d_test ?_) | (with_reducible refine d_tB ?_) | (with_reducible refine d_bl ?_) | (with_reducible refine d_not ?_) | (with_reducible refine d_notV ?_) | (with_reducible refine d_and ?_) | (with_reducible refine d_or ?_)
  | (with_reducible refine d_if ?_) | (with_reducible refine d_andV ?_) | (with_reducible refine d_ifS ?_) | (with_reducible refine iteT ?_) | (with_reducible refine iteF ?_) | (with_reducible refine iteNT ?_) | (with_reducible refine iteNF ?_)
  | (with_reducible refine d_ret ?_) | (with_reducible refine d_retN ?_) | (with_reducible refine d_drop ?_) | (with_reducible refine d_next ?_) | (with_reducible refine d_brk ?_) | (with_reducible refine d_ct ?_)
  | (with_reducible refine d_gname ?_) | (with_reducible refine d_gcons ?_) | (with_reducible refine d_gnil ?_) | (with_reducible refine d_gsub ?_)
  | (with_reducible refine d_call ?_) | (with_reducible refine d_tup ?_) | (with_reducible refine d_lst ?_)
  | (with_reducible refine d_sl ?_) | (with_reducible refine d_nop ?_) | (with_reducible refine d_part ?_) | (with_reducible refine d_in ?_)
  | (with_reducible refine d_bm ?_) | (with_reducible refine d_bm0 ?_) | (with_reducible refine d_m1 ?_) | (with_reducible refine d_exs ?_)
  | ((with_reducible refine' d_setL ?h ?e ?_); (case h => first | assumption | exact upd_same); (case e => rfl))
  | ((with_reducible refine' d_gtupm ?h ?e ?_); (case h => first | assumption | exact upd_same); (case e => rfl))
  | ((with_reducible refine' d_aug ?e ?_); (case e => exact rfl))
  | (with_reducible refine d_for ?_) | (with_reducible refine d_lc ?_) | (with_reducible refine d_dc ?_) | (with_reducible refine d_iR1 ?_) | (with_reducible refine d_iR2 ?_) | (with_reducible refine d_iL ?_) | (with_reducible refine d_iT ?_) | (with_reducible refine d_iS ?_) | (with_reducible refine d_iSe ?_) | (with_reducible refine d_yes ?_) | (with_reducible refine d_lsten ?_) | (with_reducible refine d_iEnS ?_) | (with_reducible refine d_iEnSe ?_) | (with_reducible refine d_iEn ?_) | (with_reducible refine d_dget1 ?_) | (with_reducible refine d_dget2 ?_) | (with_reducible refine d_iCmb ?_) | (with_reducible refine d_dget ?_) | (with_reducible refine d_dput ?_) | (with_reducible refine d_daug ?_) | (with_reducible refine d_par ?_) | (with_reducible refine d_par2 ?_) | (with_reducible refine d_din ?_) | (with_reducible refine d_dnewT ?_) | (with_reducible refine d_dnewK ?_) | ((with_reducible refine d_wipe ?e ?_); (case e => rfl)) | (with_reducible refine d_lrg ?_) | (with_reducible refine d_rg1 ?_)
  | ((with_reducible refine d_iR1e ?a ?b ?_); (case a => omega); (case b => omega)) | ((with_reducible refine d_iR2e ?a ?_); (case a => omega))
  | (with_reducible refine d_isN ?_))
local macro_rules | `(tactic| walk_at "rd") => `(tactic| (repeat walk_at "rd1"))

def topS (i : Nat) : Stmt := PySem.Challenge.pw_commonweb_k14_whole_pieces_by_cuts.main.body.getD i (.Pass ⟨0, 0, 0, 0⟩)
abbrev s_kinds_by_ends : Stmt := topS 2
abbrev s_all_neighbours : Stmt := topS 3
abbrev s_parts : Stmt := topS 4
abbrev s_part_from : Stmt := topS 5
abbrev s_hangs : Stmt := topS 6
abbrev s_cut : Stmt := topS 7
abbrev s_lies : Stmt := topS 9
abbrev s_led_ties : Stmt := topS 10
abbrev s_is_piece : Stmt := topS 11
abbrev s_are_on_ties : Stmt := topS 12
abbrev s_hang_by : Stmt := topS 13
abbrev s_size_of : Stmt := topS 14
abbrev s_hand : Stmt := topS 16
abbrev s_draw : Stmt := topS 17
abbrev s_cells : Stmt := topS 18
abbrev s_great : Stmt := topS 19
abbrev s_letters : Stmt := topS 20
abbrev s_web : Stmt := topS 21
abbrev s_size : Stmt := topS 22
abbrev s_order : Stmt := topS 23
abbrev s_named : Stmt := topS 24
abbrev s_other : Stmt := topS 25
abbrev s_lead : Stmt := topS 26
abbrev s_webs : Stmt := topS 27
abbrev s_cut_right : Stmt := topS 28
abbrev s_ties_right : Stmt := topS 29
abbrev s_law : Stmt := topS 30
theorem sc_kinds_by_ends : FnScope ["web", "kinds", "place", "other", "kind"] ["web"] (defScope s_kinds_by_ends) := ⟨rfl, rfl, rfl, by decide +kernel, rfl, by decide +kernel, by decide +kernel⟩
theorem sc_all_neighbours : FnScope ["web", "beside", "place", "other", "_"] ["web"] (defScope s_all_neighbours) := ⟨rfl, rfl, rfl, by decide +kernel, rfl, by decide +kernel, by decide +kernel⟩
theorem sc_parts : FnScope ["web", "beside", "told", "seen", "place", "part", "reached"] ["web"] (defScope s_parts) := ⟨rfl, rfl, rfl, by decide +kernel, rfl, by decide +kernel, by decide +kernel⟩
theorem sc_part_from : FnScope ["beside", "start", "seen", "waiting", "place", "other"] ["beside", "start"] (defScope s_part_from) := ⟨rfl, rfl, rfl, by decide +kernel, rfl, by decide +kernel, by decide +kernel⟩
theorem sc_hangs : FnScope ["web"] ["web"] (defScope s_hangs) := ⟨rfl, rfl, rfl, by decide +kernel, rfl, by decide +kernel, by decide +kernel⟩
theorem sc_cut : FnScope ["web", "places", "kinds", "ties", "kept", "numbers", "left", "place", "other", "kind", "number"] ["web", "places"] (defScope s_cut) := ⟨rfl, rfl, rfl, by decide +kernel, rfl, by decide +kernel, by decide +kernel⟩
theorem sc_lies : FnScope ["one", "other", "lead", "here", "there", "place", "end", "beside", "end_beside"] ["one", "other", "lead"] (defScope s_lies) := ⟨rfl, rfl, rfl, by decide +kernel, rfl, by decide +kernel, by decide +kernel⟩
theorem sc_led_ties : FnScope ["one", "other", "lead", "led", "there", "told", "place", "beside", "kind"] ["one", "other", "lead"] (defScope s_led_ties) := ⟨rfl, rfl, rfl, by decide +kernel, rfl, by decide +kernel, by decide +kernel⟩
theorem sc_is_piece : FnScope ["one", "other", "lead", "how", "together", "ties", "holds"] ["one", "other", "lead", "how", "together"] (defScope s_is_piece) := ⟨rfl, rfl, rfl, by decide +kernel, rfl, by decide +kernel, by decide +kernel⟩
theorem sc_are_on_ties : FnScope ["led", "lead", "place", "_", "tie"] ["led", "lead"] (defScope s_are_on_ties) := ⟨rfl, rfl, rfl, by decide +kernel, rfl, by decide +kernel, by decide +kernel⟩
theorem sc_hang_by : FnScope ["kinds", "ties", "lead", "place", "_"] ["kinds", "ties", "lead"] (defScope s_hang_by) := ⟨rfl, rfl, rfl, by decide +kernel, rfl, by decide +kernel, by decide +kernel⟩
theorem sc_size_of : FnScope ["one", "other", "lead", "how"] ["one", "other", "lead", "how"] (defScope s_size_of) := ⟨rfl, rfl, rfl, by decide +kernel, rfl, by decide +kernel, by decide +kernel⟩
theorem sc_hand : FnScope ["cell", "k", "digits"] ["cell", "k"] (defScope s_hand) := ⟨rfl, rfl, rfl, by decide +kernel, rfl, by decide +kernel, by decide +kernel⟩
theorem sc_draw : FnScope ["hand", "limit", "got"] ["hand", "limit"] (defScope s_draw) := ⟨rfl, rfl, rfl, by decide +kernel, rfl, by decide +kernel, by decide +kernel⟩
theorem sc_cells : FnScope ["script", "many"] ["script", "many"] (defScope s_cells) := ⟨rfl, rfl, rfl, by decide +kernel, rfl, by decide +kernel, by decide +kernel⟩
theorem sc_great : FnScope ["script"] ["script"] (defScope s_great) := ⟨rfl, rfl, rfl, by decide +kernel, rfl, by decide +kernel, by decide +kernel⟩
theorem sc_letters : FnScope ["hand"] ["hand"] (defScope s_letters) := ⟨rfl, rfl, rfl, by decide +kernel, rfl, by decide +kernel, by decide +kernel⟩
theorem sc_web : FnScope ["hand", "many", "some", "tie_kinds", "often", "kinds", "ties", "place", "other", "k"] ["hand", "many"] (defScope s_web) := ⟨rfl, rfl, rfl, by decide +kernel, rfl, by decide +kernel, by decide +kernel⟩
theorem sc_size : FnScope ["hand", "great"] ["hand", "great"] (defScope s_size) := ⟨rfl, rfl, rfl, by decide +kernel, rfl, by decide +kernel, by decide +kernel⟩
theorem sc_order : FnScope ["hand", "many", "left", "k"] ["hand", "many"] (defScope s_order) := ⟨rfl, rfl, rfl, by decide +kernel, rfl, by decide +kernel, by decide +kernel⟩
theorem sc_named : FnScope ["web", "order", "kinds", "place", "letter", "ties", "other", "kind"] ["web", "order"] (defScope s_named) := ⟨rfl, rfl, rfl, by decide +kernel, rfl, by decide +kernel, by decide +kernel⟩
theorem sc_other : FnScope ["hand", "one", "many", "more", "kinds", "ties", "place", "other", "kind", "pair", "web", "order"] ["hand", "one"] (defScope s_other) := ⟨rfl, rfl, rfl, by decide +kernel, rfl, by decide +kernel, by decide +kernel⟩
theorem sc_lead : FnScope ["hand", "one", "other", "names", "kind", "left", "found", "place", "letter", "some", "beside"] ["hand", "one", "other", "names"] (defScope s_lead) := ⟨rfl, rfl, rfl, by decide +kernel, rfl, by decide +kernel, by decide +kernel⟩
theorem sc_webs : FnScope ["hand", "great", "one"] ["hand", "great"] (defScope s_webs) := ⟨rfl, rfl, rfl, by decide +kernel, rfl, by decide +kernel, by decide +kernel⟩
theorem sc_cut_right : FnScope ["one", "other", "lead", "here", "there", "order", "alike", "pair"] ["one", "other", "lead"] (defScope s_cut_right) := ⟨rfl, rfl, rfl, by decide +kernel, rfl, by decide +kernel, by decide +kernel⟩
theorem sc_ties_right : FnScope ["one", "other", "lead", "places", "led", "told", "piece", "pieces", "pair", "part", "name", "some"] ["one", "other", "lead"] (defScope s_ties_right) := ⟨rfl, rfl, rfl, by decide +kernel, rfl, by decide +kernel, by decide +kernel⟩
theorem sc_law : FnScope ["script", "k", "cell", "hand", "one", "other", "names", "j", "lead", "led", "tied", "some", "pair", "tie"] ["script"] (defScope s_law) := ⟨rfl, rfl, rfl, by decide +kernel, rfl, by decide +kernel, by decide +kernel⟩
/-- what the top leaves -/
structure Tx (K : PySem.W.Frag) (mg : Str → Option Value) where
  kinds_by_ends : Df K mg "kinds_by_ends" s_kinds_by_ends ["web"]
  all_neighbours : Df K mg "all_neighbours" s_all_neighbours ["web"]
  parts : Df K mg "parts" s_parts ["web"]
  part_from : Df K mg "part_from" s_part_from ["beside", "start"]
  hangs : Df K mg "hangs" s_hangs ["web"]
  cut : Df K mg "cut" s_cut ["web", "places"]
  lies : Df K mg "lies" s_lies ["one", "other", "lead"]
  led_ties : Df K mg "led_ties" s_led_ties ["one", "other", "lead"]
  is_piece : Df K mg "is_piece" s_is_piece ["one", "other", "lead", "how", "together"]
  are_on_ties : Df K mg "are_on_ties" s_are_on_ties ["led", "lead"]
  hang_by : Df K mg "hang_by" s_hang_by ["kinds", "ties", "lead"]
  size_of : Df K mg "size_of" s_size_of ["one", "other", "lead", "how"]
  hand : Df K mg "_law_hand" s_hand ["cell", "k"]
  draw : Df K mg "_law_draw" s_draw ["hand", "limit"]
  cells : Df K mg "_law_cells" s_cells ["script", "many"]
  great : Df K mg "_law_great" s_great ["script"]
  letters : Df K mg "_law_letters" s_letters ["hand"]
  web : Df K mg "_law_web" s_web ["hand", "many"]
  size : Df K mg "_law_size" s_size ["hand", "great"]
  order : Df K mg "_law_order" s_order ["hand", "many"]
  named : Df K mg "_law_named" s_named ["web", "order"]
  other : Df K mg "_law_other" s_other ["hand", "one"]
  lead : Df K mg "_law_lead" s_lead ["hand", "one", "other", "names"]
  webs : Df K mg "_law_webs" s_webs ["hand", "great"]
  cut_right : Df K mg "_law_cut_right" s_cut_right ["one", "other", "lead"]
  ties_right : Df K mg "_law_ties_right" s_ties_right ["one", "other", "lead"]
  law : Df K mg "law" s_law ["script"]
  m_dict : mg "dict" = none
  m_enumerate : mg "enumerate" = none
  m_int : mg "int" = none
  m_len : mg "len" = none
  m_list : mg "list" = none
  m_max : mg "max" = none
  m_min : mg "min" = none
  m_range : mg "range" = none
  m_set : mg "set" = none
  m_sorted : mg "sorted" = none
  m_sum : mg "sum" = none
  m_tuple : mg "tuple" = none
  m_combinations : mg "combinations" = some (.type "itertools.combinations")
section
variable {P : Program} {w : World} {K : PySem.W.Frag} {mg : Str → Option Value} {base : Heap}
def spHand : Sp := fun vs H Q _ => ∃ c k : Int, vs = [.int c, .int k] ∧ 0 ≤ k ∧ k ≤ 1000 ∧ ∀ H' h, Same H H' → H h = none → Hand H' h → Q (.ref h) H'
theorem ok_hand (T : Tx K mg) : FnOk P w K mg base CX0 1 T.hand.f T.hand.fd ["cell", "k"] spHand := by
  refine T.hand.F.ok sc_hand (fun vs H Q E h => ?_) (fun cdv A outer s H vs Q E hr h => ?_)
  · obtain ⟨c, k, rfl, _⟩ := h; rfl
  · obtain ⟨c, k, rfl, k0, k1, q⟩ := h
    refine ⟨_, (pss_cons (ps_set (i := 2) sc_hand.nd rfl (.inl rfl) pe_int)
      (pss_cons (ps_if (pt_cmpR op_ge (pv 0) (pe_op op_pow pe_int pe_int) (nomark _))
        (pss_one (ps_set (i := 2) sc_hand.nd rfl (.inl rfl) (pv 0)))
        pss_nil)
      (pss_one (ps_ret (pe_lst (pa_cons (pv 2) (pa_cons (pe_op op_mod (pe_op op_mul (pe_op op_add (pe_op op_add (pe_op op_mod (pv 0) pe_int) (pe_op op_mul pe_int (pv 1))) pe_int) pe_int) pe_int) pa_nil))))))), ?_⟩
    walk_at "rd"
    have fin : ∀ d : Int, 0 ≤ d → ∀ H' h, Same H H' → H h = none → H' h = some (.lst [.int d, .int ((c % 2147483587 + 7919 * k + 1) * 48271 % 2147483587)]) → Q (.ref h) H' := fun d hd H' h s n e => q H' h s n ⟨d, _, e, hd, by omega, by omega⟩
    refine ite2 (fun e => ?_) (fun e => ?_)
    · have e1 := of_decide_eq_true e
      have e2 : (10 : Int) ^ Int.toNat 18 = 1000000000000000000 := by decide
      rw [e2] at e1
      walk_at "rd"
      refine ⟨by show 2 ≤ sizeLine; decide, fun p hp => fin c (by omega) _ _ (same_new hp) hp upd_same⟩
    · walk_at "rd"
      refine ⟨by show 2 ≤ sizeLine; decide, fun p hp => fin 0 (by omega) _ _ (same_new hp) hp upd_same⟩
def spDraw : Sp := fun vs H Q _ => ∃ (h : Addr) (n : Int), vs = [.ref h, .int n] ∧ 0 < n ∧ n < 1000000 ∧ Hand H h ∧ ∀ H' (g : Int), Keep h H H' → Hand H' h → 0 ≤ g → g < n → Q (.int g) H'
theorem ok_draw (T : Tx K mg) : FnOk P w K mg base CX0 1 T.draw.f T.draw.fd ["hand", "limit"] spDraw := by
  refine T.draw.F.ok sc_draw (fun vs H Q E h => ?_) (fun cdv A outer s H vs Q E hr h => ?_)
  · obtain ⟨c, k, rfl, _⟩ := h; rfl
  · obtain ⟨h, n, rfl, n0, n1, ⟨d, m, hH, d0, m0, m1⟩, q⟩ := h
    refine ⟨_, (pss_cons (ps_if (pt_cmpR op_gt (pe_ix ix_list (pv 0) pe_int (fun _ _ => rfl)) pe_int (nomark _))
        (pss_cons (ps_set (i := 2) sc_draw.nd rfl (.inl rfl) (pe_op op_mod (pe_ix ix_list (pv 0) pe_int (fun _ _ => rfl)) (pv 1)))
        (pss_cons (ps_asg (pe_op op_fdiv (pe_ix ix_list (pv 0) pe_int (fun _ _ => rfl)) (pv 1)) (pg_sub (pv 0) pe_int set_list))
        (pss_one (ps_ret (pv 2)))))
        pss_nil)
      (pss_cons (ps_asg (pe_op op_mod (pe_op op_add (pe_op op_add (pe_op op_mul (pe_ix ix_list (pv 0) pe_int (fun _ _ => rfl)) (pe_ix ix_list (pv 0) pe_int (fun _ _ => rfl))) (pe_op op_mul pe_int (pe_ix ix_list (pv 0) pe_int (fun _ _ => rfl)))) pe_int) pe_int) (pg_sub (pv 0) pe_int set_list))
      (pss_one (ps_ret (pe_op op_mod (pe_op op_fdiv (pe_ix ix_list (pv 0) pe_int (fun _ _ => rfl)) pe_int) (pv 1)))))), ?_⟩
    walk_at "rd"
    refine ite2 (fun e => ?_) (fun e => ?_)
    · walk_at "rd"
      have e1 := of_decide_eq_true e
      refine q _ _ Keep.put ⟨d / n, m, upd_same, Int.ediv_nonneg d0 (by omega), m0, m1⟩ (Int.emod_nonneg _ (by omega)) (Int.emod_lt_of_pos _ n0)
    · walk_at "rd"
      refine q _ _ Keep.put ⟨d, (m * m + 69621 * m + 12345) % 2147483587, upd_same, d0, by omega, by omega⟩ (Int.emod_nonneg _ (by omega)) (Int.emod_lt_of_pos _ n0)
/-- the cells: a list of pairs (place, cell) -/
def spCells (K : PySem.W.Frag) : Sp := fun vs H Q _ => ∃ (a : Addr) (ns : List Int) (n : Int), vs = [.ref a, .int n] ∧ SqL K H a (ns.map V.int) ∧ ns.length ≤ 63 ∧ 0 ≤ n ∧ n ≤ 1000 ∧
  ∀ H' (p : Addr) (ts : List Addr), Same H H' → H p = none → H' p = some (.lst (ts.map V.ref)) → ts.length ≤ 100 → (∀ (j : Nat) (t : Addr), ts[j]? = some t → ∃ c : Int, H' t = some (.tup [.int (j : Nat), .int c])) → Q (.ref p) H'
theorem ok_cells (T : Tx K mg) : FnOk P w K mg base CX0 1 T.cells.f T.cells.fd ["script", "many"] (spCells K) := by
  refine T.cells.F.ok sc_cells (fun vs H Q E h => ?_) (fun cdv A outer s H vs Q E hr h => ?_)
  · obtain ⟨a, ns, n, rfl, _⟩ := h; rfl
  · obtain ⟨a, ns, n, rfl, hS, hl, n0, n1, q⟩ := h
    refine ⟨_, (pss_one (ps_ret (pe_listEnum rfl (by rfl) T.m_list (by rfl) T.m_enumerate (pa_cons (pe_op op_cat (pe_slice sl_list (pv 0) po_none (po_some (pv 1))) (pe_op op_rep (pe_lst (pa_cons pe_int pa_nil)) (pe_callTy call_int1 (by rfl) T.m_int (by decide +kernel) (pa_cons (pe_cmpR (op_eqD (hr.units)) (pv 0) (pe_lst pa_nil) (nomark _)) pa_nil)))) pa_nil)))), ?_⟩
    walk_at "rd"
    refine d_slL hS fun p1 f1 => ?_
    walk_at "rd"
    refine ⟨sz (by decide), fun p2 f2 => ?_⟩
    walk_at "rd"
    refine ⟨sz (by decide), fun p3 f3 => ?_⟩
    have s1 := same_new (o := .lst (cutV (ns.map V.int) none (some n))) f1
    have s2 := same_new (o := .lst [V.int 0]) f2
    have s3 := same_new (o := .lst []) f3
    refine ⟨_, _, .lst (Same.seq s3 (Same.seq s2 (Same.seq s1 hS))) (dpa_ints ns), .lst (SqL.of upd_same) .nil, shaped_ints ns, by decide, ?_⟩
    generalize hb : PyData.eqv (.list (ns.map PyData.int)) (.list []) = b
    walk_at "rd"
    refine .inr ⟨b, rfl, ?_⟩
    have e2 := s3 p2 _ upd_same
    refine ⟨p2, _, _, rfl, rfl, e2, by cases b <;> decide, by cases b <;> decide, by cases b <;> exact sz (by decide), fun p4 f4 => ?_⟩
    have s4 := same_new (o := .lst (List.replicate (if b = true then (1 : Int) else 0).toNat [V.int 0]).flatten) f4
    have e1 := s4 _ _ (s3 _ _ (s2 p1 _ upd_same))
    have l1 : (cutV (ns.map V.int) none (some n)).length ≤ 63 := Nat.le_trans (cutV_length _ _ _) (by rw [List.length_map]; exact hl)
    have l2 : (List.replicate (if b = true then (1 : Int) else 0).toNat [V.int 0]).flatten.length ≤ 1 := by cases b <;> decide
    refine ⟨p1, p4, _, _, rfl, rfl, e1, upd_same, sz (by omega), fun p5 f5 => ?_⟩
    walk_at "rd"
    have s5 := same_new (o := .lst (cutV (ns.map V.int) none (some n) ++ (List.replicate (if b = true then (1 : Int) else 0).toNat [V.int 0]).flatten)) f5
    have sA : Same H _ := Same.trans s1 (Same.trans s2 (Same.trans s3 (Same.trans s4 s5)))
    refine ⟨p5, _, rfl, SqL.of upd_same, fun H' p ts sm n1 n2 n3 eL len at_ => ?_⟩
    refine q H' p ts (Same.trans sA sm) (Same.free sA n1) eL (by rw [len, List.length_append]; omega) fun j t ht => ?_
    have hj : j < (cutV (ns.map V.int) none (some n) ++ (List.replicate (if b = true then (1 : Int) else 0).toNat [V.int 0]).flatten).length := by rw [← len]; exact (List.getElem?_eq_some_iff.mp ht).1
    have hx := List.getElem?_eq_getElem hj
    have hm : ∃ c : Int, (cutV (ns.map V.int) none (some n) ++ (List.replicate (if b = true then (1 : Int) else 0).toNat [V.int 0]).flatten)[j] = V.int c := by
      have hin := List.getElem_mem hj
      rcases List.mem_append.mp hin with z | z
      · have z2 : _ ∈ ns.map V.int := List.mem_of_mem_drop (List.mem_of_mem_take z)
        obtain ⟨c, _, e⟩ := List.mem_map.mp z2
        exact ⟨c, e.symm⟩
      · refine ⟨0, ?_⟩
        obtain ⟨l, hl1, hl2⟩ := List.mem_flatten.mp z
        rw [List.eq_of_mem_replicate hl1] at hl2
        exact List.mem_singleton.mp hl2
    obtain ⟨c, hc⟩ := hm
    exact ⟨c, by rw [at_ j t _ ht hx, hc]⟩
def spGreat (K : PySem.W.Frag) : Sp := fun vs H Q _ => ∃ (a : Addr) (ns : List Int), vs = [.ref a] ∧ SqL K H a (ns.map V.int) ∧ ∀ b : Bool, Q (.bl b) H
theorem ok_great (T : Tx K mg) : FnOk P w K mg base CX0 1 T.great.f T.great.fd ["script"] (spGreat K) := by
  refine T.great.F.ok sc_great (fun vs H Q E h => ?_) (fun cdv A outer s H vs Q E hr h => ?_)
  · obtain ⟨a, ns, rfl, _⟩ := h; rfl
  · obtain ⟨a, ns, rfl, hS, q⟩ := h
    refine ⟨_, (pss_one (ps_ret (pe_cmpR op_eq (pe_op op_mod (pe_op op_fdiv (pe_callB (cr_sum rfl) (by rfl) T.m_sum (by decide +kernel) (pa_cons (pv 0) pa_nil)) pe_int) pe_int) pe_int (nomark _)))), ?_⟩
    walk_at "rd"
    refine ⟨a, ns, rfl, hS, ?_⟩
    walk_at "rd"
    exact q _
def Lts (z : Str) : Prop := (z.cps.toList.all fun c => decide (97 ≤ c) && decide (c ≤ 122)) = true ∧ 0 < z.length ∧ z.length ≤ 26
def spLetters : Sp := fun vs H Q _ => ∃ h : Addr, vs = [.ref h] ∧ Hand H h ∧ ∀ H' z, Keep h H H' → Hand H' h → Lts z → Q (.str z) H'
theorem ok_letters (T : Tx K mg) : FnOk P w K mg base CX0 2 T.letters.f T.letters.fd ["hand"] spLetters := by
  refine T.letters.F.ok sc_letters (fun vs H Q E h => ?_) (fun cdv A outer s H vs Q E hr h => ?_)
  · obtain ⟨a, rfl, _⟩ := h; rfl
  · obtain ⟨h, rfl, hh, q⟩ := h
    refine ⟨_, (pss_one (ps_ret (pe_ix ix_list (pe_lst (pa_cons pe_str (pa_cons pe_str (pa_cons pe_str (pa_cons pe_str pa_nil))))) (pe_call (ok_draw T) (hr.mono (by decide)) (by rfl) T.draw.g T.draw.F.kp T.draw.b .nil pass0 (pa_cons (pv 0) (pa_cons pe_int pa_nil))) (fun _ _ => rfl)))), ?_⟩
    walk_at "rd"
    refine ⟨sz (by decide), fun p1 f1 => ?_⟩
    walk_at "rd"
    refine ⟨h, 4, rfl, by decide, by decide, hh.put (hh.ne f1), fun H' g k hh' g0 g4 => ?_⟩
    have e1 := k p1 _ (hh.ne f1) upd_same
    have kk : Keep h H H' := Keep.trans (Same.keep (same_new f1)) k
    have e : g = 0 ∨ g = 1 ∨ g = 2 ∨ g = 3 := by omega
    rcases e with rfl | rfl | rfl | rfl
    · exact d_ixLm e1 rfl (q _ _ kk hh' (by unfold Lts; decide +kernel))
    · exact d_ixLm e1 rfl (q _ _ kk hh' (by unfold Lts; decide +kernel))
    · exact d_ixLm e1 rfl (q _ _ kk hh' (by unfold Lts; decide +kernel))
    · exact d_ixLm e1 rfl (q _ _ kk hh' (by unfold Lts; decide +kernel))
def spSize : Sp := fun vs H Q _ => ∃ (h : Addr) (b : Bool), vs = [.ref h, .bl b] ∧ Hand H h ∧ ∀ H' (n : Int), Keep h H H' → Hand H' h → 0 ≤ n → n ≤ 40 → Q (.int n) H'
theorem ok_size (T : Tx K mg) : FnOk P w K mg base CX0 2 T.size.f T.size.fd ["hand", "great"] spSize := by
  refine T.size.F.ok sc_size (fun vs H Q E h => ?_) (fun cdv A outer s H vs Q E hr h => ?_)
  · obtain ⟨a, b, rfl, _⟩ := h; rfl
  · obtain ⟨h, b, rfl, hh, q⟩ := h
    refine ⟨_, (pss_cons (ps_if (pt_val (pv 1))
        (pss_one (ps_ret (pe_ix ix_list (pe_lst (pa_cons (pe_op op_add pe_int (pe_call (ok_draw T) (hr.mono (by decide)) (by rfl) T.draw.g T.draw.F.kp T.draw.b .nil pass0 (pa_cons (pv 0) (pa_cons pe_int pa_nil)))) (pa_cons (pe_op op_add pe_int (pe_call (ok_draw T) (hr.mono (by decide)) (by rfl) T.draw.g T.draw.F.kp T.draw.b .nil pass0 (pa_cons (pv 0) (pa_cons pe_int pa_nil)))) pa_nil))) (pe_call (ok_draw T) (hr.mono (by decide)) (by rfl) T.draw.g T.draw.F.kp T.draw.b .nil pass0 (pa_cons (pv 0) (pa_cons pe_int pa_nil))) (fun _ _ => rfl))))
        pss_nil)
      (pss_one (ps_ret (pe_ix ix_list (pe_lst (pa_cons (pe_call (ok_draw T) (hr.mono (by decide)) (by rfl) T.draw.g T.draw.F.kp T.draw.b .nil pass0 (pa_cons (pv 0) (pa_cons pe_int pa_nil))) (pa_cons (pe_call (ok_draw T) (hr.mono (by decide)) (by rfl) T.draw.g T.draw.F.kp T.draw.b .nil pass0 (pa_cons (pv 0) (pa_cons pe_int pa_nil))) (pa_cons (pe_call (ok_draw T) (hr.mono (by decide)) (by rfl) T.draw.g T.draw.F.kp T.draw.b .nil pass0 (pa_cons (pv 0) (pa_cons pe_int pa_nil))) pa_nil)))) (pe_call (ok_draw T) (hr.mono (by decide)) (by rfl) T.draw.g T.draw.F.kp T.draw.b .nil pass0 (pa_cons (pv 0) (pa_cons pe_int pa_nil))) (fun _ _ => rfl))))), ?_⟩
    walk_at "rd"
    refine ite2 (fun e => ?_) (fun e => ?_)
    · walk_at "rd"
      refine ⟨h, 5, rfl, by decide, by decide, hh, fun H1 g1 k1 hh1 a1 b1 => ?_⟩
      walk_at "rd"
      refine ⟨h, 23, rfl, by decide, by decide, hh1, fun H2 g2 k2 hh2 a2 b2 => ?_⟩
      walk_at "rd"
      refine ⟨sz (by show 2 ≤ 100000; decide), fun p1 f1 => ?_⟩
      walk_at "rd"
      refine ⟨h, 2, rfl, by decide, by decide, hh2.put (hh2.ne f1), fun H3 g3 k3 hh3 a3 b3 => ?_⟩
      have e1 := k3 p1 _ (hh2.ne f1) upd_same
      have kk : Keep h H H3 := Keep.trans (Keep.same (Keep.trans k1 k2) (same_new f1)) k3
      have e : g3 = 0 ∨ g3 = 1 := by omega
      rcases e with rfl | rfl
      · exact d_ixLm e1 rfl (q _ _ kk hh3 (by omega) (by omega))
      · exact d_ixLm e1 rfl (q _ _ kk hh3 (by omega) (by omega))
    · walk_at "rd"
      refine ⟨h, 5, rfl, by decide, by decide, hh, fun H1 g1 k1 hh1 a1 b1 => ?_⟩
      walk_at "rd"
      refine ⟨h, 9, rfl, by decide, by decide, hh1, fun H2 g2 k2 hh2 a2 b2 => ?_⟩
      walk_at "rd"
      refine ⟨h, 13, rfl, by decide, by decide, hh2, fun H2' g2' k2' hh2' a2' b2' => ?_⟩
      walk_at "rd"
      refine ⟨sz (by show 3 ≤ 100000; decide), fun p1 f1 => ?_⟩
      walk_at "rd"
      refine ⟨h, 3, rfl, by decide, by decide, hh2'.put (hh2'.ne f1), fun H3 g3 k3 hh3 a3 b3 => ?_⟩
      have e1 := k3 p1 _ (hh2'.ne f1) upd_same
      have kk : Keep h H H3 := Keep.trans (Keep.same (Keep.trans (Keep.trans k1 k2) k2') (same_new f1)) k3
      have e : g3 = 0 ∨ g3 = 1 ∨ g3 = 2 := by omega
      rcases e with rfl | rfl | rfl
      · exact d_ixLm e1 rfl (q _ _ kk hh3 (by omega) (by omega))
      · exact d_ixLm e1 rfl (q _ _ kk hh3 (by omega) (by omega))
      · exact d_ixLm e1 rfl (q _ _ kk hh3 (by omega) (by omega))
theorem Lts.at {z : Str} (l : Lts z) {g : Int} (h0 : 0 ≤ g) (h1 : g < z.length) : ∃ c, atI z.cps.toList g = some c ∧ Ltr c := by
  obtain ⟨n, rfl⟩ := Int.eq_ofNat_of_zero_le h0
  have hn : n < z.cps.toList.length := by
    have e : z.cps.toList.length = z.length := rfl
    omega
  refine ⟨z.cps.toList[n], atI_nat (List.getElem?_eq_getElem hn), ?_⟩
  have a := List.all_eq_true.mp l.1 _ (List.getElem_mem hn)
  simp only [Bool.and_eq_true, decide_eq_true_eq] at a
  exact a
def spWeb (K : PySem.W.Frag) : Sp := fun vs H Q _ => ∃ (h : Addr) (n : Int), vs = [.ref h, .int n] ∧ 0 ≤ n ∧ n ≤ 40 ∧ Hand H h ∧ ∀ H' v w, Keep h H H' → Hand H' h → WebAt K H' v w → WOk w → (w.1.length : Int) = n → Q v H'
theorem ok_web (T : Tx K mg) : FnOk P w K mg base CX0 3 T.web.f T.web.fd ["hand", "many"] (spWeb K) := by
  refine T.web.F.ok sc_web (fun vs H Q E h => ?_) (fun cdv A outer s H vs Q E hr h => ?_)
  · obtain ⟨a, b, rfl, _⟩ := h; rfl
  · obtain ⟨h, n, rfl, n0, n40, hh, q⟩ := h
    refine ⟨_, (pss_cons (ps_set (i := 2) sc_web.nd rfl (.inr rfl) (pe_call (ok_letters T) (hr.mono (by decide)) (by rfl) T.letters.g T.letters.F.kp T.letters.b .nil pass0 (pa_cons (pv 0) pa_nil)))
      (pss_cons (ps_set (i := 3) sc_web.nd rfl (.inl rfl) (pe_call (ok_letters T) (hr.mono (by decide)) (by rfl) T.letters.g T.letters.F.kp T.letters.b .nil pass0 (pa_cons (pv 0) pa_nil)))
      (pss_cons (ps_set (i := 4) sc_web.nd rfl (.inl rfl) (pe_op op_add pe_int (pe_call (ok_draw T) (hr.mono (by decide)) (by rfl) T.draw.g T.draw.F.kp T.draw.b .nil pass0 (pa_cons (pv 0) (pa_cons pe_int pa_nil)))))
      (pss_cons (ps_set (i := 5) sc_web.nd rfl (.inl rfl) (pe_join pe_str (pe_lc (own := [("k", 9)]) (g := gName 9) (tt := tYes) rfl sc_web.nd (pi_range1 (by rfl) T.m_range (pa_cons (pv 1) pa_nil)) (blkOk_by (N := ["hand", "many", "some", "tie_kinds", "often", "kinds", "ties", "place", "other", "k"]) (sc := defScope s_web) (by decide +kernel)) (fun _ _ _ _ _ => (pg_name (i := 9) sc_web.nd rfl (.inl rfl))) (fun _ _ _ _ _ => pts_nil) (fun _ _ _ _ _ => (pe_ix ix_str (pv 2) (pe_call (ok_draw T) (hr.mono (by decide)) (by rfl) T.draw.g T.draw.F.kp T.draw.b .nil pass0 (pa_cons (pv 0) (pa_cons (pe_callB call_len_str (by rfl) T.m_len (by decide +kernel) (pa_cons (pv 2) pa_nil)) pa_nil))) (fun _ _ => rfl))))))
      (pss_cons (ps_set (i := 6) sc_web.nd rfl (.inl rfl) (pe_lst pa_nil))
      (pss_cons (ps_for PassesOwn.never rfl (pi_range1 (by rfl) T.m_range (pa_cons (pv 1) pa_nil)) (pg_name (i := 7) sc_web.nd rfl (.inl rfl))
        (pss_one (ps_for PassesOwn.never rfl (pi_range2 (by rfl) T.m_range (pa_cons (pe_op op_add (pv 7) pe_int) (pa_cons (pv 1) pa_nil))) (pg_name (i := 8) sc_web.nd rfl (.inl rfl))
          (pss_one (ps_if (pt_cmpR op_lt (pe_call (ok_draw T) (hr.mono (by decide)) (by rfl) T.draw.g T.draw.F.kp T.draw.b .nil pass0 (pa_cons (pv 0) (pa_cons pe_int pa_nil))) (pv 4) (nomark _))
            (pss_one (ps_expr (pe_bm PySem.F.plainAttrs_list PySem.F.slot_list_append PySem.F.type_list_append mt_append (pv 6) (pa_cons (pe_tup (pa_cons (pv 7) (pa_cons (pv 8) (pa_cons (pe_ix ix_str (pv 3) (pe_call (ok_draw T) (hr.mono (by decide)) (by rfl) T.draw.g T.draw.F.kp T.draw.b .nil pass0 (pa_cons (pv 0) (pa_cons (pe_callB call_len_str (by rfl) T.m_len (by decide +kernel) (pa_cons (pv 3) pa_nil)) pa_nil))) (fun _ _ => rfl)) pa_nil)))) pa_nil))))
            pss_nil)))))
      (pss_one (ps_ret (pe_tup (pa_cons (pv 5) (pa_cons (pe_callTy call_tuple_of (by rfl) T.m_tuple (by decide +kernel) (pa_cons (pv 6) pa_nil)) pa_nil))))))))))), ?_⟩
    walk_at "rd"
    refine ⟨h, rfl, hh, fun H1 some_ k1 hh1 ls => ?_⟩
    walk_at "rd"
    refine ⟨h, rfl, hh1, fun H2 tk k2 hh2 lt => ?_⟩
    walk_at "rd"
    refine ⟨h, 6, rfl, by decide, by decide, hh2, fun H3 g3 k3 hh3 a3 b3 => ?_⟩
    walk_at "rd"
    intro D fD
    have nD := hh3.ne fD
    refine lc_range (fun i H' => ∃ cs : List Nat, cs.length = i ∧ (∀ c ∈ cs, Ltr c) ∧ H' D = some (.lst (cs.map fun c => V.str (sg c))) ∧ Keep h H3 H' ∧ Hand H' h) ⟨[], rfl, by simp, upd_same, Same.keep (same_new fD), hh3.put nD⟩ (fun i H' hi hP => ?_) (fun H' hP => ?_)
    · obtain ⟨cs, hlen, hl, eD, kk, hh'⟩ := hP
      walk_at "rd"
      first | (refine d_lenS (z := some_) (sz (by have := ls.2.2; omega)) ?_) | (refine ⟨sz (by have := ls.2.2; omega), ?_⟩)
      walk_at "rd"
      refine ⟨h, _, rfl, by have := ls.2.1; omega, by have := ls.2.2; omega, hh', fun H4 g k4 hh4 g0 gl => ?_⟩
      obtain ⟨c, ec, lc⟩ := ls.at g0 gl
      refine ⟨some_, g, c, rfl, rfl, sz (by have := ls.2.2; omega), ec, ?_⟩
      refine ⟨_, k4 D _ nD eD, szl (by rw [List.length_map]; omega), cs ++ [c], by rw [List.length_append, hlen]; rfl, ?_, by rw [upd_same, List.map_append]; rfl, Keep.new (Keep.trans kk k4) fD, hh4.put nD⟩
      intro x hx
      rcases List.mem_append.mp hx with hx | hx
      · exact hl x hx
      · rw [List.mem_singleton.mp hx]; exact lc
    obtain ⟨cs, hlen, hl, eD, kk, hh'⟩ := hP
    refine ⟨_, D, cs.map sg, rfl, rfl, .inl (SqL.of (by rw [List.map_map]; exact eD)), ?_, ?_⟩
    · rw [sum_const _ 1 _ (by intro x hx; obtain ⟨c, _, rfl⟩ := List.mem_map.mp hx; rfl), List.length_map]
      have e0 : (Str.ofString "").length = 0 := by decide +kernel
      rw [e0]; omega
    rw [join_signs]
    walk_at "rd"
    refine ⟨sz (by decide), fun l fl => ?_⟩
    walk_at "rd"
    have nl := hh'.ne fl
    refine for_range (fun i σ H5 => ∃ y7 y8 y9 ts tvs, σ = [some (.ref h), some (.int n), some (.str some_), some (.str tk), some (.int (1 + g3)), some (.str ⟨cs.toArray⟩), some (.ref l), y7, y8, y9] ∧ H5 l = some (.lst tvs) ∧ Paired (TieAt K H5) tvs ts ∧ ts.Pairwise tlt ∧
      (∀ t ∈ ts, t.1 < i ∧ t.1 < t.2.1 ∧ t.2.1 < n.toNat ∧ Ltr t.2.2) ∧ ts.length ≤ 40 * i ∧ Keep h H' H5 ∧ Hand H5 h) ⟨_, _, _, [], [], rfl, upd_same, .nil, .nil, by simp, by simp, Same.keep (same_new fl), hh'.put nl⟩ (fun i σ H5 hi hP => ?_) (fun σ H5 hP => ?_)
    · obtain ⟨y7, y8, y9, ts, tvs, rfl, eL, pT, sT, bT, lT, k5, hh5⟩ := hP
      walk_at "rd"
      refine for_range (fun j σ H6 => ∃ y8 y9 ts tvs, σ = [some (.ref h), some (.int n), some (.str some_), some (.str tk), some (.int (1 + g3)), some (.str ⟨cs.toArray⟩), some (.ref l), some (.int (0 + (i : Nat))), y8, y9] ∧ H6 l = some (.lst tvs) ∧ Paired (TieAt K H6) tvs ts ∧ ts.Pairwise tlt ∧
        (∀ t ∈ ts, (t.1 < i ∨ (t.1 = i ∧ t.2.1 < i + 1 + j)) ∧ t.1 < t.2.1 ∧ t.2.1 < n.toNat ∧ Ltr t.2.2) ∧ ts.length ≤ 40 * i + j ∧ Keep h H' H6 ∧ Hand H6 h) ⟨_, _, ts, tvs, rfl, eL, pT, sT, fun t ht => ⟨.inl (bT t ht).1, (bT t ht).2⟩, lT, k5, hh5⟩ (fun j σ H6 hj hP => ?_) (fun σ H6 hP => ?_)
      · obtain ⟨z8, z9, us, uvs, rfl, eL6, pU, sU, bU, lU, k6, hh6⟩ := hP
        walk_at "rd"
        refine ⟨h, 7, rfl, by decide, by decide, hh6, fun H7 g7 k7 hh7 a7 b7 => ?_⟩
        have eL7 := k7 l _ nl eL6
        obtain ⟨d6, m6, e6, _⟩ := id hh6
        have pU7 : Paired (TieAt K H7) uvs us := Paired.imp pU fun _ _ z => z.keep k7 e6
        walk_at "rd"
        refine ite2 (fun e => ?_) (fun e => ?_)
        · walk_at "rd"
          refine d_app eL7 ?_
          walk_at "rd"
          first | (refine d_lenS (z := tk) (sz (by have := lt.2.2; omega)) ?_) | (refine ⟨sz (by have := lt.2.2; omega), ?_⟩)
          walk_at "rd"
          refine ⟨h, _, rfl, by have := lt.2.1; omega, by have := lt.2.2; omega, hh7, fun H8 g k8 hh8 g0 gl => ?_⟩
          obtain ⟨c, ec, lc⟩ := lt.at g0 gl
          refine ⟨tk, g, c, rfl, rfl, sz (by have := lt.2.2; omega), ec, ?_⟩
          have eL8 := k8 l _ nl eL7
          obtain ⟨d7, m7, e7, _⟩ := id hh7
          have pU8 : Paired (TieAt K H8) uvs us := Paired.imp pU7 fun _ _ z => z.keep k8 e7
          walk_at "rd"
          refine ⟨sz (by show 3 ≤ 100000; decide), fun p fp => ?_⟩
          walk_at "rd"
          have npl : l ≠ p := ne_of_none eL8 fp
          have eL9 : (upd H8 p (.tup [V.int (0 + (i : Nat)), V.int (0 + (i : Nat) + 1 + (j : Nat)), V.str (sg c)])) l = some (.lst uvs) := by rw [upd_ne npl]; exact eL8
          have luv : uvs.length = us.length := Paired.length pU
          refine d_append eL9 (szl (by omega)) ?_
          refine ⟨_, _, us ++ [(i, i + 1 + j, c)], uvs ++ [.ref p], rfl, upd_same, ?_, ?_, ?_, ?_, ?_, ?_⟩
          · have lst9 : ∃ ys, (upd H8 p (.tup [V.int (0 + (i : Nat)), V.int (0 + (i : Nat) + 1 + (j : Nat)), V.str (sg c)])) l = some (.lst ys) := ⟨_, eL9⟩
            refine Paired.snoc (Paired.imp pU8 fun _ _ z => (z.put (.inl fp)).put (.inr lst9)) ⟨p, rfl, ?_⟩
            refine sqt_upd (.inr lst9) (SqT.of ?_)
            rw [upd_same]
            simp only [Int.zero_add]
            rfl
          · refine List.pairwise_append.mpr ⟨sU, List.pairwise_singleton _ _, fun a ha b hb => ?_⟩
            rw [List.mem_singleton.mp hb]
            rcases (bU a ha).1 with z | ⟨z1, z2⟩
            · exact .inl z
            · exact .inr ⟨z1, z2⟩
          · intro t ht
            rcases List.mem_append.mp ht with ht | ht
            · obtain ⟨z1, z2⟩ := bU t ht
              refine ⟨?_, z2⟩
              rcases z1 with z | ⟨z3, z4⟩
              · exact .inl z
              · exact .inr ⟨z3, by omega⟩
            · rw [List.mem_singleton.mp ht]
              exact ⟨.inr ⟨rfl, by show i + 1 + j < i + 1 + (j + 1); omega⟩, by show i < i + 1 + j; omega, by show i + 1 + j < n.toNat; omega, lc⟩
          · rw [List.length_append]
            show us.length + 1 ≤ 40 * i + (j + 1)
            omega
          · exact Keep.new (Keep.new (Keep.trans k6 (Keep.trans k7 k8)) (Keep.free (Keep.trans k6 (Keep.trans k7 k8)) (hh8.ne fp) fp)) fl
          · exact (hh8.put (hh8.ne fp)).put nl
        · walk_at "rd"
          exact ⟨_, _, us, uvs, rfl, eL7, pU7, sU, fun t ht => ⟨(bU t ht).1.imp id fun z => ⟨z.1, by omega⟩, (bU t ht).2⟩, by omega, Keep.trans k6 k7, hh7⟩
      · obtain ⟨z8, z9, us, uvs, rfl, eL6, pU, sU, bU, lU, k6, hh6⟩ := hP
        refine ⟨_, _, _, us, uvs, rfl, eL6, pU, sU, fun t ht => ⟨?_, (bU t ht).2⟩, by omega, k6, hh6⟩
        rcases (bU t ht).1 with z | ⟨z, _⟩ <;> omega
    · obtain ⟨y7, y8, y9, ts, tvs, rfl, eL, pT, sT, bT, lT, k5, hh5⟩ := hP
      walk_at "rd"
      refine ⟨l, tvs, rfl, .inl ⟨SqL.of eL, fun t ft => ?_⟩⟩
      walk_at "rd"
      refine ⟨sz (by show 2 ≤ 100000; decide), fun a fa => ?_⟩
      refine q _ _ (cs, ts) ?_ ?_ ?_ ⟨by show cs.length ≤ 40; omega, by show ts.length ≤ 1600; omega, hl, sT, fun t ht => ⟨(bT t ht).2.1, by show t.2.1 < cs.length; rw [hlen]; exact (bT t ht).2.2.1, (bT t ht).2.2.2⟩⟩ (by show (cs.length : Int) = n; omega)
      · exact Keep.same (Keep.same (Keep.trans (Keep.trans (Keep.trans (Keep.trans k1 k2) k3) kk) k5) (same_new ft)) (same_new fa)
      · exact (hh5.put (hh5.ne ft)).put ((hh5.put (hh5.ne ft)).ne fa)
      · exact ⟨a, t, tvs, rfl, SqT.of upd_same, sqt_upd (.inl fa) (SqT.of upd_same), Paired.imp pT fun _ _ z => (z.put (.inl ft)).put (.inl fa)⟩
def kEnds (a b : Nat) : List Key := [.inl (a : Nat), .inl (b : Nat)]
theorem kEnds_eq {a b c d : Nat} : kEnds a b = kEnds c d ↔ a = c ∧ b = d := by
  unfold kEnds
  constructor
  · intro h
    simp only [List.cons.injEq, Sum.inl.injEq, and_true] at h
    omega
  · rintro ⟨rfl, rfl⟩; rfl
/-- a dict by both ends -/
def spKinds (K : PySem.W.Frag) : Sp := fun vs H Q _ => ∃ v w, vs = [v] ∧ WebAt K H v w ∧ WOk w ∧ ∀ H' (d : Addr) kvs, Same H H' → H d = none → H' d = some (.dT kvs) → (∀ a b : Nat, valV kvs (kEnds a b) = (tieL w.2 a b).map fun c => V.str (sg c)) → Q (.ref d) H'
theorem kinds_turn {ts : List Tie} {i : Nat} {t : Tie} {kvs : List (List Key × V)} (s : ts.Pairwise tlt) (e : ∀ t ∈ ts, t.1 < t.2.1) (h : ts[i]? = some t) (hk : ∀ a b : Nat, valV kvs (kEnds a b) = (tieL (ts.take i) a b).map fun c => V.str (sg c)) (a b : Nat) :
    valV (putK (putK kvs (kEnds t.1 t.2.1) (.str (sg t.2.2))) (kEnds t.2.1 t.1) (.str (sg t.2.2))) (kEnds a b) = (tieL (ts.take (i + 1)) a b).map fun c => V.str (sg c) := by
  have et := e t (List.mem_of_getElem? h)
  have new := tieL_new s e h
  rw [valV_put, valV_put, take_snoc h, tieL_snoc]
  by_cases h1 : kEnds a b = kEnds t.2.1 t.1
  · obtain ⟨rfl, rfl⟩ := kEnds_eq.mp h1
    rw [if_pos rfl, tieL_swap, new, if_pos (at2_iff.mpr (.inr ⟨rfl, rfl⟩))]; rfl
  · rw [if_neg h1]
    by_cases h2 : kEnds a b = kEnds t.1 t.2.1
    · obtain ⟨rfl, rfl⟩ := kEnds_eq.mp h2
      rw [if_pos rfl, new, if_pos (at2_iff.mpr (.inl ⟨rfl, rfl⟩))]; rfl
    · rw [if_neg h2, hk, if_neg (fun z => by
        rcases at2_iff.mp z with ⟨z1, z2⟩ | ⟨z1, z2⟩
        · exact h2 (kEnds_eq.mpr ⟨z1.symm, z2.symm⟩)
        · exact h1 (kEnds_eq.mpr ⟨z2.symm, z1.symm⟩)), Option.or_none]
theorem ok_kinds_by_ends (T : Tx K mg) : FnOk P w K mg base CX0 1 T.kinds_by_ends.f T.kinds_by_ends.fd ["web"] (spKinds K) := by
  refine T.kinds_by_ends.F.ok sc_kinds_by_ends (fun vs H Q E h => ?_) (fun cdv A outer s H vs Q E hr h => ?_)
  · obtain ⟨v, w, rfl, _⟩ := h; rfl
  · obtain ⟨v, w, rfl, ⟨a, b, tvs, rfl, q1, q2, pT⟩, W, q⟩ := h
    have lt : tvs.length = w.2.length := Paired.length pT
    refine ⟨_, (pss_cons (ps_set (i := 1) sc_kinds_by_ends.nd rfl (.inl rfl) pe_dnewT)
      (pss_cons (ps_for PassesOwn.never rfl (pi_tup (pe_ix ix_tup (pv 0) pe_int (fun _ _ => rfl))) (pg_tup rfl (pgs_cons (pg_name (i := 2) sc_kinds_by_ends.nd rfl (.inl rfl)) (pgs_cons (pg_name (i := 3) sc_kinds_by_ends.nd rfl (.inl rfl)) (pgs_cons (pg_name (i := 4) sc_kinds_by_ends.nd rfl (.inl rfl)) pgs_nil))))
        (pss_cons (ps_dput (hu_of hr) (pv 1) (pe_tup (pa_cons (pv 2) (pa_cons (pv 3) pa_nil))) (pv 4) rfl)
        (pss_one (ps_dput (hu_of hr) (pv 1) (pe_tup (pa_cons (pv 3) (pa_cons (pv 2) pa_nil))) (pv 4) rfl))))
      (pss_one (ps_ret (pv 1))))), ?_⟩
    walk_at "rd"
    intro d fd
    walk_at "rd"
    have s0 := same_new (o := .dT []) fd
    refine d_ixT (Same.sqt s0 q1) rfl ?_
    refine d_iTe (Same.sqt s0 q2) ?_
    refine for_it (walk_tup (xs := tvs)) (fun i σ H1 => ∃ y2 y3 y4 kvs, σ = [some (.ref a), some (.ref d), y2, y3, y4] ∧ H1 d = some (.dT kvs) ∧ Same H H1 ∧ kvs.length ≤ 2 * i ∧ ∀ a b : Nat, valV kvs (kEnds a b) = (tieL (w.2.take i) a b).map fun c => V.str (sg c))
      ⟨_, _, _, [], rfl, upd_same, s0, by simp, fun _ _ => rfl⟩ (fun i σ H1 hi hP => ?_) (fun i x σ H0 H1 hi hP hy => ?_) (fun σ H1 hP => ?_)
    · obtain ⟨_, _, _, _, _, _, sm, _⟩ := hP
      exact Same.sqt sm q2
    · obtain ⟨y2, y3, y4, kvs, rfl, eD, sm, lk, hk⟩ := hP
      obtain ⟨rfl, hx⟩ := hy
      obtain ⟨t, ht, a', rfl, qt⟩ := Paired.at pT hx
      refine d_gtup (Same.sqt sm qt) rfl ?_
      walk_at "rd"
      refine ⟨sz (by show 2 ≤ 100000; decide), fun p1 f1 => ?_⟩
      have l16 := W.most
      have eD1 := at_upd (o := .dT kvs) (u := .tup [V.int (t.1 : Nat), V.int (t.2.1 : Nat)]) eD f1
      refine ⟨d, _, rfl, DPut.t (k := kEnds t.1 t.2.1) eD1 upd_same (szl (by omega)), ?_⟩
      walk_at "rd"
      refine ⟨sz (by show 2 ≤ 100000; decide), fun p2 f2 => ?_⟩
      have ln := length_putK kvs (kEnds t.1 t.2.1) (.str (sg t.2.2))
      have eD2 := at_upd (u := .tup [V.int (t.2.1 : Nat), V.int (t.1 : Nat)]) (upd_same (H := upd H1 p1 (.tup [V.int (t.1 : Nat), V.int (t.2.1 : Nat)])) (a := d) (o := .dT (putK kvs (kEnds t.1 t.2.1) (.str (sg t.2.2))))) f2
      refine ⟨d, _, rfl, DPut.t (k := kEnds t.2.1 t.1) eD2 upd_same (szl (by omega)), ?_⟩
      have ln2 := length_putK (putK kvs (kEnds t.1 t.2.1) (.str (sg t.2.2))) (kEnds t.2.1 t.1) (.str (sg t.2.2))
      refine ⟨_, _, _, _, rfl, upd_same, ?_, by omega, kinds_turn W.rise (fun t ht => (W.ends t ht).1) ht hk⟩
      have g1 : H p1 = none := Same.free sm f1
      have g2 : H p2 = none := Same.free (same_upd (same_upd sm g1) fd) f2
      exact same_upd (same_upd (same_upd (same_upd sm g1) fd) g2) fd
    · obtain ⟨y2, y3, y4, kvs, rfl, eD, sm, lk, hk⟩ := hP
      walk_at "rd"
      rw [lt, List.take_length] at hk
      exact q _ d kvs sm fd eD hk
/-- the places in a drawn order -/
def spOrder : Sp := fun vs H Q _ => ∃ (h : Addr) (n : Int), vs = [.ref h, .int n] ∧ 0 ≤ n ∧ n ≤ 1000 ∧ Hand H h ∧ ∀ H' (p : Addr) (qs : List Nat), Keep h H H' → Hand H' h → H p = none → H' p = some (.lst (qs.map fun q => V.int (q : Nat))) → qs.Perm (List.range n.toNat) → Q (.ref p) H'
theorem ok_order (T : Tx K mg) : FnOk P w K mg base CX0 2 T.order.f T.order.fd ["hand", "many"] spOrder := by
  refine T.order.F.ok sc_order (fun vs H Q E h => ?_) (fun cdv A outer s H vs Q E hr h => ?_)
  · obtain ⟨h, n, rfl, _⟩ := h; rfl
  · obtain ⟨h, n, rfl, n0, n1, hh, q⟩ := h
    refine ⟨_, (pss_cons (ps_set (i := 2) sc_order.nd rfl (.inr rfl) (pe_listRg rfl (by rfl) T.m_list (prg_1 (by rfl) T.m_range (pv 1))))
      (pss_one (ps_ret (pe_lc (own := [("k", 3)]) (g := gName 3) (tt := tYes) (te := tBM K "list" rPopAt (tVar 2) (tCons (tCall spDraw [] E0 (tCons (tVar 0) (tCons (tCB (Evl.rLenS K) (tCons (tVar 2) tNil)) tNil))) tNil)) rfl sc_order.nd (pi_range1 (by rfl) T.m_range (pa_cons (pv 1) pa_nil)) (blkOk_by (N := ["hand", "many", "left", "k"]) (sc := defScope s_order) (by decide +kernel)) (fun _ _ _ _ _ => (pg_name (i := 3) sc_order.nd rfl (.inl rfl))) (fun _ _ _ _ _ => pts_nil) (fun _ _ _ _ _ => (pe_bm PySem.F.plainAttrs_list PySem.F.slot_list_pop PySem.F.type_list_pop mt_popAt (pv 2) (pa_cons (pe_call (ok_draw T) (hr.mono (by decide)) (by rfl) T.draw.g T.draw.F.kp T.draw.b .nil pass0 (pa_cons (pv 0) (pa_cons (pe_callB call_len_seq (by rfl) T.m_len (by decide +kernel) (pa_cons (pv 2) pa_nil)) pa_nil))) pa_nil))))))), ?_⟩
    walk_at "rd"
    refine ⟨RgOk.of_le (by omega) (by omega) (by omega) (by omega), fun L fL => ?_⟩
    walk_at "rd"
    have nL := hh.ne fL
    have hh1 := hh.put (o := .lst (rgV 0 n)) nL
    have eL := upd_same (H := H) (a := L) (o := .lst (rgV 0 n))
    rw [rgV_nats] at eL hh1
    have s1 := same_new (o := .lst ((List.range n.toNat).map fun q => V.int (q : Nat))) fL
    intro D fD
    have nD := (show Hand _ h from by rw [rgV_nats]; exact hh1).ne fD
    have nLD : L ≠ D := ne_of_none (upd_same (H := H) (a := L) (o := .lst (rgV 0 n))) fD
    rw [rgV_nats] at fD ⊢
    refine lc_range (fun i H' => ∃ gs ls : List Nat, gs.length = i ∧ (gs ++ ls).Perm (List.range n.toNat) ∧ H' D = some (.lst (gs.map fun q => V.int (q : Nat))) ∧ H' L = some (.lst (ls.map fun q => V.int (q : Nat))) ∧ Keep h H H' ∧ Hand H' h)
      ⟨[], List.range n.toNat, rfl, List.Perm.refl _, upd_same, at_upd eL fD, Keep.new (Same.keep s1) (Same.free s1 fD), hh1.put nD⟩ (fun i H' hi hP => ?_) (fun H' hP => ?_)
    · obtain ⟨gs, ls, lg, pm, eD, eL', kk, hh'⟩ := hP
      have lsum := pm.length_eq
      rw [List.length_append, List.length_range] at lsum
      have hi' : i < n.toNat := by omega
      walk_at "rd"
      refine ⟨.inl ⟨rfl, _, SqL.of eL'⟩, ?_⟩
      walk_at "rd"
      refine d_lenL (SqL.of eL') ?_
      rw [List.length_map]
      walk_at "rd"
      refine ⟨h, (ls.length : Nat), rfl, by omega, by omega, hh', fun H2 g k2 hh2 g0 g1 => ?_⟩
      walk_at "rd"
      obtain ⟨m, rfl⟩ := Int.eq_ofNat_of_zero_le g0
      have hm : m < ls.length := by omega
      have eL2 := k2 L _ nL eL'
      refine ⟨L, _, (m : Nat), m, .int (ls[m] : Nat), rfl, rfl, eL2, by omega, by omega, by rw [List.length_map]; exact seqIndex_of (by omega) (by omega), by rw [List.getElem?_map, List.getElem?_eq_getElem hm]; rfl, ?_⟩
      have eD2 := k2 D _ nD eD
      have nh := nL
      refine ⟨_, by rw [upd_ne nLD.symm]; exact eD2, szl (by rw [List.length_map]; omega), gs ++ [ls[m]], ls.eraseIdx m, by rw [List.length_append, lg]; rfl, ?_, by rw [upd_same, List.map_append]; rfl, ?_, ?_, ?_⟩
      · rw [List.append_assoc]
        exact (List.Perm.append_left gs (erase_perm ls m hm)).trans pm
      · rw [upd_ne nLD, upd_same]
        congr 2
        exact erase_map _ _ _
      · exact Keep.new (Keep.new (Keep.trans kk k2) fL) (Same.free s1 fD)
      · exact (hh2.put nL).put nD
    · obtain ⟨gs, ls, lg, pm, eD, eL', kk, hh'⟩ := hP
      have lsum := pm.length_eq
      rw [List.length_append, List.length_range] at lsum
      have e0 : ls = [] := List.eq_nil_of_length_eq_zero (by omega)
      subst e0
      rw [List.append_nil] at pm
      exact q H' D gs kk hh' (Same.free s1 fD) eD pm
/-- a web by other names -/
def spNamed (K : PySem.W.Frag) : Sp := fun vs H Q _ => ∃ v w, ∃ (o : Addr) (qs : List Nat), vs = [v, .ref o] ∧ WebAt K H v w ∧ WOk w ∧ H o = some (.lst (qs.map fun q => V.int (q : Nat))) ∧ Ord qs w.1.length ∧ ∀ H' v' w', Same H H' → WebAt K H' v' w' → WOk w' → Named w qs w' → Q v' H'
theorem min_int (a b : Nat) : (if (b : Int) < (a : Int) then (b : Int) else (a : Int)) = ((min a b : Nat) : Int) := by split <;> omega
theorem max_int (a b : Nat) : (if (b : Int) > (a : Int) then (b : Int) else (a : Int)) = ((max a b : Nat) : Int) := by split <;> omega
theorem ok_named (T : Tx K mg) : FnOk P w K mg base CX0 1 T.named.f T.named.fd ["web", "order"] (spNamed K) := by
  refine T.named.F.ok sc_named (fun vs H Q E h => ?_) (fun cdv A outer s H vs Q E hr h => ?_)
  · obtain ⟨_, _, _, _, rfl, _⟩ := h; rfl
  · obtain ⟨v, w, o, qs, rfl, ⟨a, b, tvs, rfl, q1, q2, pT⟩, W, eO, oo, q⟩ := h
    have lt : tvs.length = w.2.length := Paired.length pT
    have l16 := W.most
    have l40 := W.few
    have hl : (⟨w.1.toArray⟩ : Str).length = w.1.length := by show w.1.toArray.size = _; simp
    have lq := oo.len
    refine ⟨_, (pss_cons (ps_set (i := 2) sc_named.nd rfl (.inl rfl) (pe_op op_rep (pe_lst (pa_cons pe_str pa_nil)) (pe_callB call_len_str (by rfl) T.m_len (by decide +kernel) (pa_cons (pe_ix ix_tup (pv 0) pe_int (fun _ _ => rfl)) pa_nil))))
      (pss_cons (ps_for PassesOwn.never rfl (pi_enumS (by rfl) T.m_enumerate (pa_cons (pe_ix ix_tup (pv 0) pe_int (fun _ _ => rfl)) pa_nil)) (pg_tup rfl (pgs_cons (pg_name (i := 3) sc_named.nd rfl (.inl rfl)) (pgs_cons (pg_name (i := 4) sc_named.nd rfl (.inl rfl)) pgs_nil)))
        (pss_one (ps_asg (pv 4) (pg_sub (pv 2) (pe_ix ix_list (pv 1) (pv 3) (fun _ _ => rfl)) set_list))))
      (pss_cons (ps_set (i := 5) sc_named.nd rfl (.inl rfl) (pe_lst pa_nil))
      (pss_cons (ps_for PassesOwn.never rfl (pi_tup (pe_ix ix_tup (pv 0) pe_int (fun _ _ => rfl))) (pg_tup rfl (pgs_cons (pg_name (i := 3) sc_named.nd rfl (.inl rfl)) (pgs_cons (pg_name (i := 6) sc_named.nd rfl (.inl rfl)) (pgs_cons (pg_name (i := 7) sc_named.nd rfl (.inl rfl)) pgs_nil))))
        (pss_one (ps_expr (pe_bm PySem.F.plainAttrs_list PySem.F.slot_list_append PySem.F.type_list_append mt_append (pv 5) (pa_cons (pe_tup (pa_cons (pe_callB (call_min2 rfl) (by rfl) T.m_min (by decide +kernel) (pa_cons (pe_ix ix_list (pv 1) (pv 3) (fun _ _ => rfl)) (pa_cons (pe_ix ix_list (pv 1) (pv 6) (fun _ _ => rfl)) pa_nil))) (pa_cons (pe_callB (call_max2 rfl) (by rfl) T.m_max (by decide +kernel) (pa_cons (pe_ix ix_list (pv 1) (pv 3) (fun _ _ => rfl)) (pa_cons (pe_ix ix_list (pv 1) (pv 6) (fun _ _ => rfl)) pa_nil))) (pa_cons (pv 7) pa_nil)))) pa_nil)))))
      (pss_one (ps_ret (pe_tup (pa_cons (pe_join pe_str (pv 2)) (pa_cons (pe_callTy call_tuple_of (by rfl) T.m_tuple (by decide +kernel) (pa_cons (pe_callB cr_sorted3 (by rfl) T.m_sorted (by decide +kernel) (pa_cons (pv 5) pa_nil)) pa_nil)) pa_nil))))))))), ?_⟩
    walk_at "rd"
    refine ⟨sz (by decide), fun p1 f1 => ?_⟩
    have s1 := same_new (o := .lst [V.str (Str.ofString "")]) f1
    walk_at "rd"
    refine d_ixT (Same.sqt s1 q1) rfl ?_
    refine d_lenS (z := ⟨w.1.toArray⟩) (sz (by omega)) ?_
    rw [hl]
    walk_at "rd"
    refine ⟨p1, (w.1.length : Nat), _, rfl, rfl, upd_same, by omega, by omega, sz (by simp; omega), fun P fP => ?_⟩
    rw [show ((w.1.length : Nat) : Int).toNat = w.1.length from rfl, flat_rep]
    have s2 := Same.trans s1 (same_new (o := .lst (List.replicate w.1.length (V.str (Str.ofString "")))) fP)
    have eP := upd_same (H := upd H p1 (.lst [V.str (Str.ofString "")])) (a := P) (o := .lst (List.replicate w.1.length (V.str (Str.ofString ""))))
    have fP0 := Same.free s1 fP
    generalize upd (upd H p1 (.lst [V.str (Str.ofString "")])) P (.lst (List.replicate w.1.length (V.str (Str.ofString "")))) = H2 at s2 eP ⊢
    walk_at "rd"
    refine d_ixT (Same.sqt s2 q1) rfl ?_
    walk_at "rd"
    refine for_it (walk_enumS (z := ⟨w.1.toArray⟩)) (fun i σ H3 => ∃ y3 y4 y5 y6 y7 ks, σ = [some (.ref a), some (.ref o), some (.ref P), y3, y4, y5, y6, y7] ∧ Same H H3 ∧ H3 P = some (.lst ks) ∧ ks.length = w.1.length ∧ ∀ p, p < i → ∀ c, w.1[p]? = some c → ks[qa qs p]? = some (V.str (sg c)))
      ⟨_, _, _, _, _, _, rfl, s2, eP, List.length_replicate, fun p hp => absurd hp (Nat.not_lt_zero _)⟩ (fun _ _ _ _ _ => trivial) (fun i x σ H3 H3' hi hP hy => ?_) (fun σ H3 hP => ?_)
    · obtain ⟨y3, y4, y5, y6, y7, ks, rfl, s3, eK, lk, hk⟩ := hP
      obtain ⟨T', x', y', rfl, fT, rfl, ex, ey⟩ := hy
      have hi' : i < w.1.length := by simpa using hi
      have ex' : x' = V.int (i : Nat) := (Option.some.inj ex).symm
      subst ex'
      have ey' : y' = V.str (sg w.1[i]) := by
        have z : (w.1.toArray[i]?).map (fun c => V.str (⟨#[c]⟩ : Str)) = some y' := ey
        rw [List.getElem?_toArray, List.getElem?_eq_getElem hi'] at z
        exact (Option.some.inj z).symm
      subst ey'
      refine d_gtupm upd_same rfl ?_
      walk_at "rd"
      have eO3 := at_upd (u := .tup [V.int (i : Nat), V.str (sg w.1[i])]) (s3 _ _ eO) fT
      refine d_ixLm eO3 (atI_nat (by rw [List.getElem?_map, qa_at (by omega)]; rfl)) ?_
      have hq := oo.lt' hi'
      have eK3 := at_upd (u := .tup [V.int (i : Nat), V.str (sg w.1[i])]) eK fT
      refine d_setL eK3 (j := qa qs i) (by unfold ixN; rw [if_pos (by omega), if_pos (by omega)]; simp) ?_
      refine ⟨_, _, _, _, _, _, rfl, same_upd (same_upd s3 (Same.free s3 fT)) fP0, upd_same, by rw [List.length_set]; exact lk, fun p hp c hc => ?_⟩
      by_cases e : p = i
      · subst e
        rw [List.getElem?_set_self (by omega)]
        rw [List.getElem?_eq_getElem hi'] at hc
        cases hc; rfl
      · have hp' : p < i := by omega
        have ne : qa qs i ≠ qa qs p := fun z => e (oo.inj (by omega) hi' z.symm)
        rw [List.getElem?_set_ne ne]
        exact hk p hp' c hc
    obtain ⟨y3, y4, y5, y6, y7, ks, rfl, s3, eK, lk, hk⟩ := hP
    -- the kinds
    let cs : List Nat := ks.map fun v => match v with | .str z => z.cps.toList.headD 0 | _ => 0
    have hsz : (⟨w.1.toArray⟩ : Str).cps.size = w.1.length := hl
    have kat : ∀ p, p < w.1.length → ∃ c, w.1[p]? = some c ∧ ks[qa qs p]? = some (V.str (sg c)) := fun p hp => ⟨_, List.getElem?_eq_getElem hp, hk p (by rw [hsz]; exact hp) _ (List.getElem?_eq_getElem hp)⟩
    have ecs : ks = cs.map fun c => V.str (sg c) := by
      refine List.ext_getElem? fun j => ?_
      show ks[j]? = ((ks.map _).map _)[j]?
      rw [List.getElem?_map, List.getElem?_map]
      by_cases hj : j < w.1.length
      · obtain ⟨p, hp, rfl⟩ := oo.onto hj
        obtain ⟨c, _, e⟩ := kat p hp
        rw [e]; rfl
      · rw [List.getElem?_eq_none (by omega)]; rfl
    have lcs : cs.length = w.1.length := by show (ks.map _).length = _; rw [List.length_map]; exact lk
    have hcs : ∀ p, p < w.1.length → cs[qa qs p]? = w.1[p]? := fun p hp => by
      obtain ⟨c, e1, e2⟩ := kat p hp
      show (ks.map _)[qa qs p]? = _
      rw [List.getElem?_map, e2, e1]; rfl
    walk_at "rd"
    refine ⟨sz (by decide), fun L fL => ?_⟩
    walk_at "rd"
    have s4 := same_upd (o := .lst []) s3 (Same.free s3 fL)
    refine d_ixT (Same.sqt s4 q1) rfl ?_
    refine d_iTe (Same.sqt s4 q2) ?_
    refine for_it (walk_tup (xs := tvs)) (fun i σ H5 => ∃ y3 y6 y7, ∃ es : List (Addr × Tie), σ = [some (.ref a), some (.ref o), some (.ref P), y3, y4, some (.ref L), y6, y7] ∧ Same H H5 ∧ H5 P = some (.lst ks) ∧ H5 L = some (.lst (es.map fun e => V.ref e.1)) ∧ es.map (·.2) = (w.2.take i).map (mapTie qs) ∧ ∀ e ∈ es, H5 e.1 = some (.tup (triV ((e.2.1 : Int), (e.2.2.1 : Int), e.2.2.2))))
      ⟨_, _, _, [], rfl, s4, at_upd eK fL, upd_same, rfl, by simp⟩ (fun i σ H5 hi hP => ?_) (fun i x σ H5' H5 hi hP hy => ?_) (fun σ H5 hP => ?_)
    · obtain ⟨_, _, _, _, _, s5, _⟩ := hP
      exact Same.sqt s5 q2
    · obtain ⟨z3, z6, z7, es, rfl, s5, eP5, eL5, ees, hes⟩ := hP
      obtain ⟨rfl, hx⟩ := hy
      obtain ⟨t, ht, a', rfl, qt⟩ := Paired.at pT hx
      have rt := W.ends t (List.mem_of_getElem? ht)
      refine d_gtup (Same.sqt s5 qt) rfl ?_
      walk_at "rd"
      refine d_app eL5 ?_
      walk_at "rd"
      have eO5 := s5 _ _ eO
      have g1 : atI (qs.map fun q => V.int (q : Nat)) (t.1 : Nat) = some (.int (qa qs t.1 : Nat)) := atI_nat (by rw [List.getElem?_map, qa_at (by omega)]; rfl)
      have g2 : atI (qs.map fun q => V.int (q : Nat)) (t.2.1 : Nat) = some (.int (qa qs t.2.1 : Nat)) := atI_nat (by rw [List.getElem?_map, qa_at (by omega)]; rfl)
      refine d_ixLm eO5 g1 ?_
      walk_at "rd"
      refine d_ixLm eO5 g2 ?_
      refine ⟨_, _, rfl, ?_⟩
      rw [min_int]
      walk_at "rd"
      refine d_ixLm eO5 g1 ?_
      walk_at "rd"
      refine d_ixLm eO5 g2 ?_
      refine ⟨_, _, rfl, ?_⟩
      rw [max_int]
      walk_at "rd"
      refine ⟨sz (by show 3 ≤ 100000; decide), fun p fp => ?_⟩
      have les : es.length ≤ 1600 := by
        have z := congrArg List.length ees
        rw [List.length_map, List.length_map] at z
        have := List.length_take_le i w.2
        omega
      walk_at "rd"
      refine d_append (at_upd eL5 fp) (szl (by rw [List.length_map]; omega)) ?_
      have npL : p ≠ L := fun z => by rw [z, eL5] at fp; cases fp
      refine ⟨_, _, _, es ++ [(p, mapTie qs t)], rfl, ?_, ?_, ?_, ?_, ?_⟩
      · exact same_upd (same_upd s5 (Same.free s5 fp)) (Same.free s3 fL)
      · rw [upd_ne (ne_of_none eK fL), at_upd eP5 fp]
      · rw [upd_same, List.map_append]; rfl
      · rw [take_snoc ht, List.map_append, List.map_append, ees]; rfl
      · intro e he
        rcases List.mem_append.mp he with he | he
        · have h1 := hes e he
          have h2 : e.1 ≠ L := fun z => by rw [z, eL5] at h1; cases h1
          rw [upd_ne h2]
          exact at_upd h1 fp
        · rw [List.mem_singleton.mp he]
          show (upd _ L _) p = _
          rw [upd_ne npL, upd_same]; rfl
    · obtain ⟨z3, z6, z7, es, rfl, s5, eP5, eL5, ees, hes⟩ := hP
      rw [lt, List.take_length] at ees
      walk_at "rd"
      refine ⟨_, P, cs.map sg, rfl, rfl, .inl (SqL.of (by rw [List.map_map]; rw [eP5, ecs]; rfl)), ?_, ?_⟩
      · rw [sum_const _ 1 _ (by intro x hx; obtain ⟨c, _, rfl⟩ := List.mem_map.mp hx; rfl), List.length_map]
        have e0 : (Str.ofString "").length = 0 := by decide +kernel
        rw [e0]; omega
      rw [join_signs]
      walk_at "rd"
      let es3 : List (Addr × Tri) := es.map fun e => (e.1, ((e.2.1 : Int), (e.2.2.1 : Int), e.2.2.2))
      refine ⟨L, es3, rfl, SqL.of (by rw [eL5]; show _ = some (HO.lst ((es.map _).map _)); rw [List.map_map]; rfl), fun e he => ?_, fun es' S pm srt fS => ?_⟩
      · obtain ⟨e0, he0, rfl⟩ := List.mem_map.mp he
        exact hes e0 he0
      walk_at "rd"
      refine ⟨S, _, rfl, .inl ⟨SqL.of upd_same, fun R fR => ?_⟩⟩
      walk_at "rd"
      refine ⟨sz (by show 2 ≤ 100000; decide), fun W' fW => ?_⟩
      let ts' : List Tie := es'.map fun e => (e.2.1.toNat, e.2.2.1.toNat, e.2.2.2)
      have back : ∀ e ∈ es', ∃ e0 ∈ es, e = (e0.1, ((e0.2.1 : Int), (e0.2.2.1 : Int), e0.2.2.2)) := fun e he => by
        obtain ⟨e0, he0, e1⟩ := List.mem_map.mp (pm.mem_iff.mp he)
        exact ⟨e0, he0, e1.symm⟩
      have pts : ts'.Perm (w.2.map (mapTie qs)) := by
        have z := pm.map fun e => ((e.2.1.toNat, e.2.2.1.toNat, e.2.2.2) : Tie)
        rw [← ees]
        have e2 : (es.map (fun e => (e.1, ((e.2.1 : Int), (e.2.2.1 : Int), e.2.2.2)))).map (fun e => ((e.2.1.toNat, e.2.2.1.toNat, e.2.2.2) : Tie)) = es.map (·.2) := by
          rw [List.map_map]; rfl
        rw [← e2]
        exact z
      have N : Named w qs (cs, ts') := ⟨lcs, hcs, pts⟩
      have srt' : ts'.Pairwise (fun x y => lexT ((y.1 : Int), (y.2.1 : Int), y.2.2) ((x.1 : Int), (x.2.1 : Int), x.2.2) = false) := by
        rw [List.pairwise_map] at srt
        show (es'.map _).Pairwise _
        rw [List.pairwise_map]
        refine srt.imp_of_mem fun {x y} hx hy hxy => ?_
        obtain ⟨e0, _, rfl⟩ := back x hx
        obtain ⟨e1, _, rfl⟩ := back y hy
        exact hxy
      have sf : Same H5 (upd (upd (upd H5 S (.lst (es'.map fun e => V.ref e.1))) R (.tup (es'.map fun e => V.ref e.1))) W' (.tup [V.str ⟨cs.toArray⟩, V.ref R])) := Same.trans (same_new fS) (Same.trans (same_new fR) (same_new fW))
      refine q _ _ (cs, ts') (Same.trans s5 sf) ⟨W', R, _, rfl, SqT.of upd_same, SqT.of (at_upd upd_same fW), ?_⟩ (named_ok W oo N srt') N
      have go : ∀ l : List (Addr × Tri), (∀ e ∈ l, ∃ e0 ∈ es, e = (e0.1, ((e0.2.1 : Int), (e0.2.2.1 : Int), e0.2.2.2))) → Paired (TieAt K (upd (upd (upd H5 S (.lst (es'.map fun e => V.ref e.1))) R (.tup (es'.map fun e => V.ref e.1))) W' (.tup [V.str ⟨cs.toArray⟩, V.ref R]))) (l.map fun e => V.ref e.1) (l.map fun e => ((e.2.1.toNat, e.2.2.1.toNat, e.2.2.2) : Tie)) := by
        intro l
        induction l with
        | nil => intro _; exact .nil
        | cons x l ih =>
          intro hl
          obtain ⟨e0, he0, rfl⟩ := hl x List.mem_cons_self
          exact .cons ⟨e0.1, rfl, SqT.of (sf _ _ (hes e0 he0))⟩ (ih fun e he => hl e (List.mem_cons_of_mem _ he))
      exact go es' back
/-- another web -/
def spOther (K : PySem.W.Frag) : Sp := fun vs H Q _ => ∃ (h : Addr) (v : V) (w : Web), vs = [.ref h, v] ∧ WebAt K H v w ∧ WOk w ∧ Hand H h ∧ ∀ H' (l nl : Addr) v' w' ns, Keep h H H' → Hand H' h → H l = none → H' l = some (.lst [v', .ref nl]) → WebAt K H' v' w' → WOk w' → H' nl = some (.lst (ns.map fun q => V.int (q : Nat))) → NamesOk w w' ns → H nl = none → Q (.ref l) H'
theorem ok_other (T : Tx K mg) : FnOk P w K mg base CX0 4 T.other.f T.other.fd ["hand", "one"] (spOther K) := by
  refine T.other.F.ok sc_other (fun vs H Q E h => ?_) (fun cdv A outer s H vs Q E hr h => ?_)
  · obtain ⟨_, _, _, rfl, _⟩ := h; rfl
  · obtain ⟨h, v, w, rfl, hw0, W, hh0, q⟩ := h
    obtain ⟨a, b, tvs, rfl, q1, q2, pT⟩ := id hw0
    have l16 := W.most
    have l40 := W.few
    have hl : ∀ l : List Nat, (⟨l.toArray⟩ : Str).length = l.length := fun l => by show l.toArray.size = _; simp
    have lt : tvs.length = w.2.length := Paired.length pT
    refine ⟨_, (pss_cons (ps_set (i := 2) sc_other.nd rfl (.inl rfl) (pe_callB call_len_str (by rfl) T.m_len (by decide +kernel) (pa_cons (pe_ix ix_tup (pv 1) pe_int (fun _ _ => rfl)) pa_nil)))
      (pss_cons (ps_set (i := 3) sc_other.nd rfl (.inl rfl) (pe_call (ok_web T) (hr.mono (by decide)) (by rfl) T.web.g T.web.F.kp T.web.b .nil pass0 (pa_cons (pv 0) (pa_cons (pe_callB (call_min2 rfl) (by rfl) T.m_min (by decide +kernel) (pa_cons (pe_call (ok_draw T) (hr.mono (by decide)) (by rfl) T.draw.g T.draw.F.kp T.draw.b .nil pass0 (pa_cons (pv 0) (pa_cons pe_int pa_nil))) (pa_cons (pe_op op_sub pe_int (pv 2)) pa_nil))) pa_nil))))
      (pss_cons (ps_set (i := 4) sc_other.nd rfl (.inl rfl) (pe_op op_add_str (pe_ix ix_tup (pv 1) pe_int (fun _ _ => rfl)) (pe_ix ix_tup (pv 3) pe_int (fun _ _ => rfl))))
      (pss_cons (ps_set (i := 5) sc_other.nd rfl (.inr rfl) pe_dnewT)
      (pss_cons (ps_for PassesOwn.never rfl (pi_tup (pe_ix ix_tup (pv 1) pe_int (fun _ _ => rfl))) (pg_tup rfl (pgs_cons (pg_name (i := 6) sc_other.nd rfl (.inl rfl)) (pgs_cons (pg_name (i := 7) sc_other.nd rfl (.inl rfl)) (pgs_cons (pg_name (i := 8) sc_other.nd rfl (.inl rfl)) pgs_nil))))
        (pss_one (ps_dput (hu_of hr) (pv 5) (pe_tup (pa_cons (pv 6) (pa_cons (pv 7) pa_nil))) (pv 8) rfl)))
      (pss_cons (ps_for PassesOwn.never rfl (pi_tup (pe_ix ix_tup (pv 3) pe_int (fun _ _ => rfl))) (pg_tup rfl (pgs_cons (pg_name (i := 6) sc_other.nd rfl (.inl rfl)) (pgs_cons (pg_name (i := 7) sc_other.nd rfl (.inl rfl)) (pgs_cons (pg_name (i := 8) sc_other.nd rfl (.inl rfl)) pgs_nil))))
        (pss_one (ps_dput (hu_of hr) (pv 5) (pe_tup (pa_cons (pe_op op_add (pv 2) (pv 6)) (pa_cons (pe_op op_add (pv 2) (pv 7)) pa_nil))) (pv 8) rfl)))
      (pss_cons (ps_for PassesOwn.never rfl (pi_range2 (by rfl) T.m_range (pa_cons (pv 2) (pa_cons (pe_callB call_len_str (by rfl) T.m_len (by decide +kernel) (pa_cons (pv 4) pa_nil)) pa_nil))) (pg_name (i := 6) sc_other.nd rfl (.inl rfl))
        (pss_one (ps_if (PW.pt (pw_and (pt_cmpR op_gt (pv 2) pe_int (nomark _)) (pw_and1 (pt_cmpR op_eq (pe_call (ok_draw T) (hr.mono (by decide)) (by rfl) T.draw.g T.draw.F.kp T.draw.b .nil pass0 (pa_cons (pv 0) (pa_cons pe_int pa_nil))) pe_int (nomark _)))))
          (pss_one (ps_dput (hu_of hr) (pv 5) (pe_tup (pa_cons (pe_call (ok_draw T) (hr.mono (by decide)) (by rfl) T.draw.g T.draw.F.kp T.draw.b .nil pass0 (pa_cons (pv 0) (pa_cons (pv 2) pa_nil))) (pa_cons (pv 6) pa_nil))) pe_str rfl))
          pss_nil)))
      (Evl.pss_cut (ps_if (pt_cmpR op_eq (pe_call (ok_draw T) (hr.mono (by decide)) (by rfl) T.draw.g T.draw.F.kp T.draw.b .nil pass0 (pa_cons (pv 0) (pa_cons pe_int pa_nil))) pe_int (nomark _))
        (pss_cons (ps_for PassesOwn.never rfl (pi_list (pe_callB (cr_sortedD rfl) (by rfl) T.m_sorted (by decide +kernel) (pa_cons (pv 5) pa_nil))) (pg_name (i := 9) sc_other.nd rfl (.inl rfl))
          (pss_one (ps_if (pt_cmpR op_eq (pe_call (ok_draw T) (hr.mono (by decide)) (by rfl) T.draw.g T.draw.F.kp T.draw.b .nil pass0 (pa_cons (pv 0) (pa_cons pe_int pa_nil))) pe_int (nomark _))
            (pss_one (ps_dput (hu_of hr) (pv 5) (pv 9) (pe_ix ix_list (pe_lst (pa_cons pe_str (pa_cons pe_str (pa_cons (pe_dget (hu_of hr) (pv 5) (pv 9) (fun _ _ => rfl)) pa_nil)))) (pe_call (ok_draw T) (hr.mono (by decide)) (by rfl) T.draw.g T.draw.F.kp T.draw.b .nil pass0 (pa_cons (pv 0) (pa_cons pe_int pa_nil))) (fun _ _ => rfl)) rfl))
            pss_nil)))
        (pss_one (ps_for PassesOwn.never rfl (pi_list (pe_callB (cr_sortedD rfl) (by rfl) T.m_sorted (by decide +kernel) (pa_cons (pv 5) pa_nil))) (pg_name (i := 9) sc_other.nd rfl (.inl rfl))
          (pss_one (ps_if (pt_cmpR op_eq (pe_call (ok_draw T) (hr.mono (by decide)) (by rfl) T.draw.g T.draw.F.kp T.draw.b .nil pass0 (pa_cons (pv 0) (pa_cons pe_int pa_nil))) pe_int (nomark _))
            (pss_one (ps_expr (pe_bm PySem.F.plainAttrs_dict PySem.F.slot_dict_pop PySem.F.type_dict_pop (mt_pop1T (hu_of hr)) (pv 5) (pa_cons (pv 9) pa_nil))))
            pss_nil)))))
        pss_nil)
      (pss_cons (ps_set (i := 10) sc_other.nd rfl (.inl rfl) (pe_tup (pa_cons (pv 4) (pa_cons (pe_callTy call_tuple_of (by rfl) T.m_tuple (by decide +kernel) (pa_cons (pe_lc (own := [("pair", 9)]) (g := gName 9) (tt := tYes) (te := tTup (tCons (tOp (rIxT K) (tVar 9) (tC (.int 0))) (tCons (tOp (rIxT K) (tVar 9) (tC (.int 1))) (tCons (tDGet (tVar 5) (tVar 9)) tNil)))) rfl sc_other.nd (pi_list (pe_callB (cr_sortedD rfl) (by rfl) T.m_sorted (by decide +kernel) (pa_cons (pv 5) pa_nil))) (blkOk_by (N := ["hand", "one", "many", "more", "kinds", "ties", "place", "other", "kind", "pair", "web", "order"]) (sc := defScope s_other) (by decide +kernel)) (fun _ _ _ _ _ => (pg_name (i := 9) sc_other.nd rfl (.inl rfl))) (fun _ _ _ _ _ => pts_nil) (fun _ _ _ _ _ => (pe_tup (pa_cons (pe_ix ix_tup (pv 9) pe_int (fun _ _ => rfl)) (pa_cons (pe_ix ix_tup (pv 9) pe_int (fun _ _ => rfl)) (pa_cons (pe_dget (hu_of hr) (pv 5) (pv 9) (fun _ _ => rfl)) pa_nil)))))) pa_nil)) pa_nil))))
      (pss_cons (ps_set (i := 11) sc_other.nd rfl (.inl rfl) (pe_call (ok_order T) (hr.mono (by decide)) (by rfl) T.order.g T.order.F.kp T.order.b .nil pass0 (pa_cons (pv 0) (pa_cons (pe_callB call_len_str (by rfl) T.m_len (by decide +kernel) (pa_cons (pv 4) pa_nil)) pa_nil))))
      (pss_one (ps_ret (pe_lst (pa_cons (pe_call (ok_named T) (hr.mono (by decide)) (by rfl) T.named.g T.named.F.kp T.named.b .nil pass0 (pa_cons (pv 10) (pa_cons (pv 11) pa_nil))) (pa_cons (pe_slice sl_list (pv 11) po_none (po_some (pv 2))) pa_nil))))))))))))))), ?_⟩
    walk_at "rd"
    refine d_ixT q1 rfl ?_
    refine d_lenS (z := ⟨w.1.toArray⟩) (sz (by rw [hl]; omega)) ?_
    rw [hl]
    walk_at "rd"
    refine ⟨h, 4, rfl, by decide, by decide, hh0, fun H1 g1 k1 hh1 a1 b1 => ?_⟩
    walk_at "rd"
    refine ⟨_, _, rfl, ?_⟩
    walk_at "rd"
    refine ⟨h, _, rfl, by split <;> omega, by split <;> omega, hh1, fun H2 v2 w2 k2 hh2 hw2 W2 lw2 => ?_⟩
    obtain ⟨_, _, e0, _⟩ := id hh0
    obtain ⟨_, _, e1, _⟩ := id hh1
    obtain ⟨_, _, e2, _⟩ := id hh2
    have k02 := Keep.trans k1 k2
    have hN : w.1.length + w2.1.length ≤ 40 := by split at lw2 <;> omega
    obtain ⟨a2, b2, uvs, rfl, r1, r2, pU⟩ := id hw2
    have lu : uvs.length = w2.2.length := Paired.length pU
    walk_at "rd"
    refine d_ixT (k02.sqt e0 q1) rfl ?_
    walk_at "rd"
    refine d_ixT r1 rfl ?_
    refine ⟨_, _, rfl, rfl, sz (by rw [hl, hl]; omega), ?_⟩
    walk_at "rd"
    intro D fD
    walk_at "rd"
    have nD := hh2.ne fD
    have O0 : OI h D H2 (w.1.length + w2.1.length) [] (upd H2 D (.dT [])) := ⟨upd_same, Same.keep (same_new fD), hh2.put nD, DictOk.nil _⟩
    have WB : ∀ {kvs H'}, OI h D H2 (w.1.length + w2.1.length) kvs H' → SqT K H' b tvs ∧ SqT K H' b2 uvs ∧ Paired (TieAt K H') tvs w.2 ∧ Paired (TieAt K H') uvs w2.2 := fun x =>
      ⟨x.2.1.sqt e2 (k02.sqt e0 q2), x.2.1.sqt e2 r2, Paired.imp pT fun _ _ z => (z.keep k02 e0).keep x.2.1 e2, Paired.imp pU fun _ _ z => z.keep x.2.1 e2⟩
    generalize upd H2 D (.dT []) = H3 at O0 ⊢
    refine d_ixT (O0.2.1.sqt e2 (k02.sqt e0 q1)) rfl ?_
    refine d_iTe (WB O0).1 ?_
    refine for_it (walk_tup (xs := tvs)) (fun i σ H' => ∃ y6 y7 y8 y9 y10 y11 kvs, σ = [some (.ref h), some (.ref a), some (.int (w.1.length : Nat)), some (.ref a2), some (.str (⟨w.1.toArray⟩ ++ ⟨w2.1.toArray⟩)), some (.ref D), y6, y7, y8, y9, y10, y11] ∧ OI h D H2 (w.1.length + w2.1.length) kvs H')
      ⟨_, _, _, _, _, _, _, rfl, O0⟩ (fun i σ H' hi hP => ?_) (fun i x σ H'' H' hi hP hy => ?_) (fun σ H' hP => ?_)
    · obtain ⟨_, _, _, _, _, _, _, _, x⟩ := hP
      exact (WB x).1
    · obtain ⟨y6, y7, y8, y9, y10, y11, kvs, rfl, O⟩ := hP
      obtain ⟨rfl, hx⟩ := hy
      obtain ⟨t, ht, a', rfl, qt⟩ := Paired.at (WB O).2.2.1 hx
      have rt := W.ends t (List.mem_of_getElem? ht)
      refine d_gtup qt rfl ?_
      walk_at "rd"
      refine ⟨sz (by show 2 ≤ 100000; decide), fun p fp => ?_⟩
      have ln := O.2.2.2.len hN
      refine ⟨D, _, rfl, DPut.t (k := kE t.1 t.2.1) (at_upd O.1 fp) upd_same (szl (by omega)), ?_⟩
      exact ⟨_, _, _, _, _, _, _, rfl, (O.new fp).set fD (O.2.2.2.put rt.1 (by omega) rt.2.2)⟩
    obtain ⟨y6, y7, y8, y9, y10, y11, kvs, rfl, O⟩ := hP
    walk_at "rd"
    refine d_ixT (O.2.1.sqt e2 r1) rfl ?_
    refine d_iTe (WB O).2.1 ?_
    refine for_it (walk_tup (xs := uvs)) (fun i σ H' => ∃ y6 y7 y8 y9 y10 y11 kvs, σ = [some (.ref h), some (.ref a), some (.int (w.1.length : Nat)), some (.ref a2), some (.str (⟨w.1.toArray⟩ ++ ⟨w2.1.toArray⟩)), some (.ref D), y6, y7, y8, y9, y10, y11] ∧ OI h D H2 (w.1.length + w2.1.length) kvs H')
      ⟨_, _, _, _, _, _, _, rfl, O⟩ (fun i σ H' hi hP => ?_) (fun i x σ H'' H' hi hP hy => ?_) (fun σ H' hP => ?_)
    · obtain ⟨_, _, _, _, _, _, _, _, x⟩ := hP
      exact (WB x).2.1
    · obtain ⟨y6, y7, y8, y9, y10, y11, kvs, rfl, O⟩ := hP
      obtain ⟨rfl, hx⟩ := hy
      obtain ⟨t, ht, a', rfl, qt⟩ := Paired.at (WB O).2.2.2 hx
      have rt := W2.ends t (List.mem_of_getElem? ht)
      refine d_gtup qt rfl ?_
      walk_at "rd"
      refine ⟨sz (by show 2 ≤ 100000; decide), fun p fp => ?_⟩
      have ln := O.2.2.2.len hN
      refine ⟨D, _, rfl, DPut.t (k := kE (w.1.length + t.1 : Nat) (w.1.length + t.2.1 : Nat)) (at_upd O.1 fp) upd_same (szl (by omega)), ?_⟩
      exact ⟨_, _, _, _, _, _, _, rfl, (O.new fp).set fD (O.2.2.2.put (by omega) (by omega) rt.2.2)⟩
    obtain ⟨y6, y7, y8, y9, y10, y11, kvs, rfl, O⟩ := hP
    have hlen : (⟨w.1.toArray⟩ ++ ⟨w2.1.toArray⟩ : Str).length = w.1.length + w2.1.length := by
      show (w.1.toArray ++ w2.1.toArray).size = _
      simp
    walk_at "rd"
    refine ⟨sz (by rw [hlen]; omega), ?_⟩
    rw [hlen]
    walk_at "rd"
    refine for_range (fun i σ H' => ∃ y6 y7 y8 y9 y10 y11 kvs, σ = [some (.ref h), some (.ref a), some (.int (w.1.length : Nat)), some (.ref a2), some (.str (⟨w.1.toArray⟩ ++ ⟨w2.1.toArray⟩)), some (.ref D), y6, y7, y8, y9, y10, y11] ∧ OI h D H2 (w.1.length + w2.1.length) kvs H')
      ⟨_, _, _, _, _, _, _, rfl, O⟩ (fun i σ H' hi hP => ?_) (fun σ H' hP => ?_)
    · obtain ⟨y6, y7, y8, y9, y10, y11, kvs, rfl, O⟩ := hP
      walk_at "rd"
      refine ite2 (fun c => ?_) (fun c => ?_)
      · have c' := of_decide_eq_true c
        walk_at "rd"
        refine ⟨h, 2, rfl, by decide, by decide, O.2.2.1, fun H4 g4 k4 hh4 a4 b4 => ?_⟩
        have O4 := O.draw k4 hh4
        walk_at "rd"
        refine ite2 (fun c2 => ?_) (fun c2 => ?_)
        · walk_at "rd"
          refine ⟨h, (w.1.length : Nat), rfl, by omega, by omega, hh4, fun H5 g5 k5 hh5 a5 b5 => ?_⟩
          have O5 := O4.draw k5 hh5
          obtain ⟨n5, rfl⟩ := Int.eq_ofNat_of_zero_le a5
          walk_at "rd"
          refine ⟨sz (by show 2 ≤ 100000; decide), fun p fp => ?_⟩
          have ln := O5.2.2.2.len hN
          have es : Str.ofString "s" = sg 115 := by decide +kernel
          rw [es]
          refine ⟨D, _, rfl, DPut.t (k := kE (n5 : Nat) (w.1.length + i : Nat)) (at_upd O5.1 fp) upd_same (szl (by omega)), ?_⟩
          exact ⟨_, _, _, _, _, _, _, rfl, (O5.new fp).set fD (O5.2.2.2.put (by omega) (by omega) (by unfold Ltr; omega))⟩
        · walk_at "rd"
          exact ⟨_, _, _, _, _, _, _, rfl, O4⟩
      · walk_at "rd"
        exact ⟨_, _, _, _, _, _, _, rfl, O⟩
    obtain ⟨y6, y7, y8, y9, y10, y11, kvs, rfl, O⟩ := hP
    refine d_cut (fun σ H' => ∃ y6 y7 y8 y9 y10 y11 kvs, σ = [some (.ref h), some (.ref a), some (.int (w.1.length : Nat)), some (.ref a2), some (.str (⟨w.1.toArray⟩ ++ ⟨w2.1.toArray⟩)), some (.ref D), y6, y7, y8, y9, y10, y11] ∧ OI h D H2 (w.1.length + w2.1.length) kvs H') ?_ (fun σ H' hM => ?_)
    · walk_at "rd"
      refine ⟨h, 2, rfl, by decide, by decide, O.2.2.1, fun H4 g4 k4 hh4 a4 b4 => ?_⟩
      have O4 := O.draw k4 hh4
      walk_at "rd"
      refine ite2 (fun c2 => ?_) (fun c2 => ?_)
      · walk_at "rd"
        refine ⟨D, kvs, rfl, O4.1, O4.2.2.2.pairs, fun es p pm he _ fp => ?_⟩
        have L := OL.start O4 fp pm he
        walk_at "rd"
        refine d_iLe (SqL.of L.2.1) ?_
        refine for_it (walk_list (K := K) (xs := es.map fun e => V.ref e.1)) (fun i σ H' => ∃ y6 y7 y8 y9 y10 y11 kvs, σ = [some (.ref h), some (.ref a), some (.int (w.1.length : Nat)), some (.ref a2), some (.str (⟨w.1.toArray⟩ ++ ⟨w2.1.toArray⟩)), some (.ref D), y6, y7, y8, y9, y10, y11] ∧ OL h D H2 (w.1.length + w2.1.length) p es i kvs H')
          ⟨_, _, _, _, _, _, _, rfl, L⟩ (fun i σ H' hi hP => ?_) (fun i x σ H'' H' hi hP hy => ?_) (fun σ H' hP => ?_)
        · obtain ⟨_, _, _, _, _, _, _, _, x⟩ := hP
          exact SqL.of x.2.1
        · obtain ⟨y6, y7, y8, y9, y10, y11, kvs, rfl, L⟩ := hP
          obtain ⟨rfl, hx⟩ := hy
          rw [List.getElem?_map] at hx
          obtain ⟨e, he0, rfl⟩ := Option.map_eq_some_iff.mp hx
          walk_at "rd"
          refine ⟨h, 6, rfl, by decide, by decide, L.1.2.2.1, fun H5 g5 k5 hh5 a5 b5 => ?_⟩
          have L5 := L.draw k5 hh5
          walk_at "rd"
          refine ite2 (fun c3 => ?_) (fun c3 => ?_)
          · walk_at "rd"
            obtain ⟨c, d, t, ek, ev, h1, h2, h3⟩ := valV_mem' L5.1.2.2.2 (L5.2.2.2.2.1 i e (Nat.le_refl i) he0)
            obtain ⟨z1, z2⟩ := kE_inj ek
            have et : H5 e.1 = some (.tup ((kE c d).map kV)) := by rw [L5.2.2.2.1 e (List.mem_of_getElem? he0), z1, z2]; rfl
            refine ⟨D, _, rfl, (by rw [← ev, ek]; exact DGet.t L5.1.1 et), ?_⟩
            walk_at "rd"
            refine ⟨sz (by show 3 ≤ 100000; decide), fun p2 fp2 => ?_⟩
            walk_at "rd"
            have L6 := L5.new (o := .lst [.str (Str.ofString "s"), .str (Str.ofString "t"), .str (sg t)]) fp2
            refine ⟨h, 3, rfl, by decide, by decide, L6.1.2.2.1, fun H7 g7 k7 hh7 a7 b7 => ?_⟩
            have L7 := L6.draw k7 hh7
            have np2 : p2 ≠ h := L5.1.2.2.1.ne fp2
            have e27 := k7 p2 _ np2 upd_same
            have et7 : H7 e.1 = some (.tup ((kE c d).map kV)) := by rw [L7.2.2.2.1 e (List.mem_of_getElem? he0), z1, z2]; rfl
            have ln := L7.1.2.2.2.len hN
            walk_at "rd"
            have es : Str.ofString "s" = sg 115 := by decide +kernel
            have es2 : Str.ofString "t" = sg 116 := by decide +kernel
            rw [es, es2] at e27
            obtain ⟨y, hy, ly⟩ : ∃ y, atI [V.str (sg 115), V.str (sg 116), V.str (sg t)] g7 = some (V.str (sg y)) ∧ Ltr y := by
              rcases (by omega : g7 = 0 ∨ g7 = 1 ∨ g7 = 2) with z | z | z <;> subst z
              · exact ⟨115, rfl, by unfold Ltr; omega⟩
              · exact ⟨116, rfl, by unfold Ltr; omega⟩
              · exact ⟨t, rfl, h3⟩
            refine d_ixLm e27 hy ?_
            walk_at "rd"
            refine ⟨D, _, rfl, DPut.t L7.1.1 et7 (szl (by omega)), ?_⟩
            exact ⟨_, _, _, _, _, _, _, rfl, (L7.set fD h1 h2 ly).next⟩
          · walk_at "rd"
            exact ⟨_, _, _, _, _, _, _, rfl, L5.next⟩
        · obtain ⟨y6, y7, y8, y9, y10, y11, kvs, rfl, L⟩ := hP
          have O := L.1
          walk_at "rd"
          refine ⟨D, kvs, rfl, O.1, O.2.2.2.pairs, fun es p pm he _ fp => ?_⟩
          have L := OL.start O fp pm he
          walk_at "rd"
          refine d_iLe (SqL.of L.2.1) ?_
          refine for_it (walk_list (K := K) (xs := es.map fun e => V.ref e.1)) (fun i σ H' => ∃ y6 y7 y8 y9 y10 y11 kvs, σ = [some (.ref h), some (.ref a), some (.int (w.1.length : Nat)), some (.ref a2), some (.str (⟨w.1.toArray⟩ ++ ⟨w2.1.toArray⟩)), some (.ref D), y6, y7, y8, y9, y10, y11] ∧ OL h D H2 (w.1.length + w2.1.length) p es i kvs H')
            ⟨_, _, _, _, _, _, _, rfl, L⟩ (fun i σ H' hi hP => ?_) (fun i x σ H'' H' hi hP hy => ?_) (fun σ H' hP => ?_)
          · obtain ⟨_, _, _, _, _, _, _, _, x⟩ := hP
            exact SqL.of x.2.1
          · obtain ⟨y6, y7, y8, y9, y10, y11, kvs, rfl, L⟩ := hP
            obtain ⟨rfl, hx⟩ := hy
            rw [List.getElem?_map] at hx
            obtain ⟨e, he0, rfl⟩ := Option.map_eq_some_iff.mp hx
            walk_at "rd"
            refine ⟨h, 8, rfl, by decide, by decide, L.1.2.2.1, fun H5 g5 k5 hh5 a5 b5 => ?_⟩
            have L5 := L.draw k5 hh5
            walk_at "rd"
            refine ite2 (fun c3 => ?_) (fun c3 => ?_)
            · walk_at "rd"
              obtain ⟨c, d, t, ek, ev, h1, h2, h3⟩ := valV_mem' L5.1.2.2.2 (L5.2.2.2.2.1 i e (Nat.le_refl i) he0)
              refine ⟨.inr (.inr (.inl ⟨rfl, .inr ⟨_, L5.1.1⟩⟩)), ?_⟩
              walk_at "rd"
              refine ⟨D, kvs, kE e.2.1 e.2.2, e.1, _, rfl, rfl, L5.1.1, L5.2.2.2.1 e (List.mem_of_getElem? he0), ev, ?_⟩
              exact ⟨_, _, _, _, _, _, _, rfl, L5.pop fD he0⟩
            · walk_at "rd"
              exact ⟨_, _, _, _, _, _, _, rfl, L5.next⟩
          · obtain ⟨y6, y7, y8, y9, y10, y11, kvs, rfl, L⟩ := hP
            exact ⟨_, _, _, _, _, _, _, rfl, L.1⟩
      · walk_at "rd"
        exact ⟨_, _, _, _, _, _, _, rfl, O4⟩
    · obtain ⟨y6, y7, y8, y9, y10, y11, kvs, rfl, O⟩ := hM
      walk_at "rd"
      refine ⟨D, kvs, rfl, O.1, O.2.2.2.pairs, fun es p pm he srt fp => ?_⟩
      have L := OL.start O fp pm he
      walk_at "rd"
      refine d_iLe (SqL.of L.2.1) ?_
      intro C fC
      have nCh := L.1.2.2.1.ne fC
      have nCp : C ≠ p := (ne_of_none L.2.1 fC).symm
      have fC2 : H2 C = none := Keep.free L.1.2.1 nCh fC
      have L := L.new (o := .lst []) fC
      have ln := O.2.2.2.len hN
      have les : es.length = kvs.length := by have := pm.length_eq; rwa [List.length_map, List.length_map] at this
      refine lc_list (K := K) (a := p) (xs := es.map fun e => V.ref e.1) (fun i H'' => ∃ gs : List (Addr × Tie), gs.length = i ∧ H'' C = some (.lst (gs.map fun g => V.ref g.1)) ∧ (∀ g ∈ gs, H'' g.1 = some (.tup (triV ((g.2.1 : Int), (g.2.2.1 : Int), g.2.2.2)))) ∧
        (gs.map fun g => ((g.2.1 : Int), (g.2.2.1 : Int))) = (es.take i).map (·.2) ∧ (∀ g ∈ gs, g.2.1 < g.2.2.1 ∧ g.2.2.1 < w.1.length + w2.1.length ∧ Ltr g.2.2.2) ∧ OL h D H2 (w.1.length + w2.1.length) p es 0 kvs H'')
        ⟨[], rfl, upd_same, by simp, rfl, by simp, L⟩ (fun i H'' _ hP => ?_) (fun i x H'' hx hP => ?_) (fun H'' hP => ?_)
      · obtain ⟨_, _, _, _, _, _, x⟩ := hP
        exact SqL.of x.2.1
      · obtain ⟨gs, lg, eC, tg, eg, bg, L⟩ := hP
        rw [List.getElem?_map] at hx
        obtain ⟨e, he0, rfl⟩ := Option.map_eq_some_iff.mp hx
        have li := (List.getElem?_eq_some_iff.mp he0).1
        obtain ⟨c, d, t, ek, ev, h1, h2, h3⟩ := valV_mem' L.1.2.2.2 (L.2.2.2.2.1 i e (Nat.zero_le i) he0)
        obtain ⟨z1, z2⟩ := kE_inj ek
        have et := L.2.2.2.1 e (List.mem_of_getElem? he0)
        walk_at "rd"
        refine ⟨D, _, rfl, (by rw [← ev]; exact DGet.t L.1.1 et), ?_⟩
        walk_at "rd"
        refine ⟨sz (by show 3 ≤ 100000; decide), fun g fg => ?_⟩
        rw [z1, z2]
        refine ⟨_, at_upd eC fg, szl (by rw [List.length_map]; omega), gs ++ [(g, c, d, t)], by rw [List.length_append, lg]; rfl, by rw [upd_same, List.map_append]; rfl, fun x hx => ?_, ?_, fun x hx => ?_, (L.new fg).list (at_upd eC fg) nCp nCh fC2⟩
        · have hx' : (upd H'' g (.tup [V.int (c : Nat), V.int (d : Nat), V.str (sg t)])) x.1 = some (.tup (triV ((x.2.1 : Int), (x.2.2.1 : Int), x.2.2.2))) := by
            rcases List.mem_append.mp hx with hx | hx
            · exact at_upd (tg x hx) fg
            · rw [List.mem_singleton.mp hx]; exact upd_same
          rw [upd_ne (ne_of hx' (at_upd eC fg) (by intro z; cases z))]
          exact hx'
        · rw [take_snoc he0, List.map_append, List.map_append, eg]
          show _ ++ [((c : Int), (d : Int))] = _ ++ [e.2]
          rw [← z1, ← z2]
        · rcases List.mem_append.mp hx with hx | hx
          · exact bg x hx
          · rw [List.mem_singleton.mp hx]; exact ⟨h1, h2, h3⟩
      obtain ⟨gs, lg, eC, tg, eg, bg, L⟩ := hP
      rw [List.length_map] at lg eg
      rw [List.take_length] at eg
      walk_at "rd"
      refine ⟨C, _, rfl, .inl ⟨SqL.of eC, fun R fR => ?_⟩⟩
      walk_at "rd"
      refine ⟨sz (by show 2 ≤ 100000; decide), fun A' fA => ?_⟩
      have sf : Same H'' (upd (upd H'' R (.tup (gs.map fun g => V.ref g.1))) A' (.tup [V.str (⟨w.1.toArray⟩ ++ ⟨w2.1.toArray⟩), V.ref R])) := Same.trans (same_new fR) (same_new fA)
      have hk : (⟨w.1.toArray⟩ ++ ⟨w2.1.toArray⟩ : Str) = ⟨(w.1 ++ w2.1).toArray⟩ := str_ext (by show (w.1.toArray ++ w2.1.toArray).toList = _; simp)
      have go : ∀ l : List (Addr × Tie), (∀ e ∈ l, e ∈ gs) → Paired (TieAt K (upd (upd H'' R (.tup (gs.map fun g => V.ref g.1))) A' (.tup [V.str (⟨w.1.toArray⟩ ++ ⟨w2.1.toArray⟩), V.ref R]))) (l.map fun e => V.ref e.1) (l.map (·.2)) := by
        intro l
        induction l with
        | nil => intro _; exact .nil
        | cons x l ih =>
          intro hl
          exact .cons ⟨x.1, rfl, SqT.of (sf _ _ (tg x (hl x List.mem_cons_self)))⟩ (ih fun e he => hl e (List.mem_cons_of_mem _ he))
      have hw3 : WebAt K (upd (upd H'' R (.tup (gs.map fun g => V.ref g.1))) A' (.tup [V.str (⟨w.1.toArray⟩ ++ ⟨w2.1.toArray⟩), V.ref R])) (.ref A') (w.1 ++ w2.1, gs.map (·.2)) :=
        ⟨A', R, _, rfl, by rw [← hk]; exact SqT.of upd_same, SqT.of (at_upd upd_same fA), go gs fun _ h => h⟩
      have W3 : WOk (w.1 ++ w2.1, gs.map (·.2)) := by
        refine ⟨by show (w.1 ++ w2.1).length ≤ 40; rw [List.length_append]; exact hN, by show (gs.map (·.2)).length ≤ 1600; rw [List.length_map]; omega, fun c hc => ?_, rise_keys (es := es) (by rw [List.map_map]; exact eg) L.2.2.2.2.2 srt, fun t ht => ?_⟩
        · rcases List.mem_append.mp hc with hc | hc
          · exact W.kinds c hc
          · exact W2.kinds c hc
        · obtain ⟨g, hg, rfl⟩ := List.mem_map.mp ht
          show _ ∧ _ < (w.1 ++ w2.1).length ∧ _
          rw [List.length_append]
          exact bg g hg
      have O9 := L.1.same sf
      generalize upd (upd H'' R (.tup (gs.map fun g => V.ref g.1))) A' (.tup [V.str (⟨w.1.toArray⟩ ++ ⟨w2.1.toArray⟩), V.ref R]) = H9 at O9 hw3 ⊢
      clear L go sf
      walk_at "rd"
      refine ⟨sz (by rw [hlen]; omega), ?_⟩
      rw [hlen]
      walk_at "rd"
      refine ⟨h, (w.1.length + w2.1.length : Nat), rfl, by omega, by omega, O9.2.2.1, fun H10 o qs k10 hh10 fo eo pmo => ?_⟩
      obtain ⟨_, _, e9, _⟩ := id O9.2.2.1
      have hw10 := hw3.keep k10 e9
      rw [show (((w.1.length + w2.1.length : Nat) : Int)).toNat = w.1.length + w2.1.length from rfl] at pmo
      have oo : Ord qs (w.1 ++ w2.1).length := by rw [List.length_append]; exact Ord.of pmo
      walk_at "rd"
      refine ⟨.ref A', (w.1 ++ w2.1, gs.map (·.2)), o, qs, rfl, hw10, W3, eo, oo, fun H11 v' w' s11 hw' W' Nm => ?_⟩
      walk_at "rd"
      refine d_slL (SqL.of (s11 _ _ eo)) (fun n1 fn1 => ?_)
      have lqs : qs.length = w.1.length + w2.1.length := by rw [oo.len, List.length_append]
      rw [cut_take _ _ (by rw [List.length_map]; omega), ← List.map_take]
      walk_at "rd"
      refine ⟨sz (by show 2 ≤ 100000; decide), fun l fl => ?_⟩
      have O10 := O9.draw k10 hh10
      have O11 := O10.same s11
      have O12 := O11.new (o := .lst ((qs.take w.1.length).map fun q => V.int (q : Nat))) fn1
      have O13 := O12.new (o := .lst [v', .ref n1]) fl
      have fn2 : H2 n1 = none := Keep.free O11.2.1 (O11.2.2.1.ne fn1) fn1
      have fn0 := Keep.free k02 (hh2.ne fn2) fn2
      have fl2 : H2 l = none := Keep.free O12.2.1 (O12.2.2.1.ne fl) fl
      refine q _ l n1 v' w' (qs.take w.1.length) (Keep.trans k02 O13.2.1) O13.2.2.1 (Keep.free k02 (hh2.ne fl2) fl2) upd_same ((hw'.put (.inl fn1)).put (.inl fl)) W' (at_upd upd_same fl) ⟨by rw [List.length_take]; omega, oo.nd.sublist (List.take_sublist _ _), fun p r hp => ?_⟩ fn0
      have lp : p < w.1.length := by
        have := (List.getElem?_eq_some_iff.mp hp).1
        rw [List.length_take] at this
        omega
      rw [List.getElem?_take, if_pos lp, qa_at (by omega)] at hp
      cases hp
      have z := Nm.kinds p (by show p < (w.1 ++ w2.1).length; rw [List.length_append]; omega)
      rw [show ((w.1 ++ w2.1, gs.map (·.2)) : Web).1 = w.1 ++ w2.1 from rfl, List.getElem?_append_left lp] at z
      refine ⟨?_, z⟩
      rw [Nm.len]
      exact oo.lt' (by rw [List.length_append]; omega)
/-- a lead of like kinds -/
def spLead (K : PySem.W.Frag) : Sp := fun vs H Q _ => ∃ (h : Addr) (v v' : V) (n : Addr) (w w' : Web) (ns : List Nat), vs = [.ref h, v, v', .ref n] ∧ Hand H h ∧ WebAt K H v w ∧ WOk w ∧ WebAt K H v' w' ∧ WOk w' ∧ H n = some (.lst (ns.map fun q => V.int (q : Nat))) ∧ n ≠ h ∧ (ns = [] ∨ NamesOk w w' ns) ∧
  ∀ H' (l : Addr) pvs ld, Keep h H H' → Hand H' h → H l = none → H' l = some (.lst pvs) → Pairs K H' pvs ld → LOk w w' ld → Q (.ref l) H'
theorem ok_lead (T : Tx K mg) : FnOk P w K mg base CX0 2 T.lead.f T.lead.fd ["hand", "one", "other", "names"] (spLead K) := by
  refine T.lead.F.ok sc_lead (fun vs H Q E h => ?_) (fun cdv A outer s H vs Q E hr h => ?_)
  · obtain ⟨_, _, _, _, _, _, _, rfl, _⟩ := h; rfl
  · obtain ⟨h, v, v', n, w, w', ns, rfl, hh0, hw, W, hw', W', eN0, nn, hns, q⟩ := h
    obtain ⟨a, b, tvs, rfl, q1, q2, pT⟩ := id hw
    obtain ⟨a', b', tvs', rfl, r1, r2, pT'⟩ := id hw'
    obtain ⟨_, _, e0, _⟩ := id hh0
    have l40 := W.few
    have l40' := W'.few
    have hl : ∀ l : List Nat, (⟨l.toArray⟩ : Str).length = l.length := fun l => by show l.toArray.size = _; simp
    have nl : ns.length ≤ 40 := by
      rcases hns with z | z
      · rw [z]; decide
      · rw [z.len]; exact l40
    refine ⟨_, (pss_cons (ps_set (i := 4) sc_lead.nd rfl (.inr rfl) (pe_call (ok_draw T) (hr.mono (by decide)) (by rfl) T.draw.g T.draw.F.kp T.draw.b .nil pass0 (pa_cons (pv 0) (pa_cons pe_int pa_nil))))
      (Evl.pss_cut (ps_if (PW.pt (pw_and (pt_cmpR op_lt (pv 4) pe_int (nomark _)) (pw_and1 (pt_cmpR (op_neD (hr.units)) (pv 3) (pe_lst pa_nil) (nomark _)))))
        (pss_one (ps_ret (pe_lc (own := [("place", 7)]) (g := gName 7) (tt := _) (te := tTup (tCons (tVar 7) (tCons (tOp (rIxL K) (tVar 3) (tVar 7)) tNil))) rfl sc_lead.nd (pi_range1 (by rfl) T.m_range (pa_cons (pe_callB call_len_str (by rfl) T.m_len (by decide +kernel) (pa_cons (pe_ix ix_tup (pv 1) pe_int (fun _ _ => rfl)) pa_nil)) pa_nil)) (blkOk_by (N := ["hand", "one", "other", "names", "kind", "left", "found", "place", "letter", "some", "beside"]) (sc := defScope s_lead) (by decide +kernel)) (fun _ _ _ _ _ => (pg_name (i := 7) sc_lead.nd rfl (.inl rfl))) (fun _ _ _ _ _ => pts_one (pt_cmpR op_gt (pe_call (ok_draw T) (hr.mono (by decide)) (by rfl) T.draw.g T.draw.F.kp T.draw.b .nil pass0 (pa_cons (pv 0) (pa_cons pe_int pa_nil))) (pv 4) (nomark _))) (fun _ _ _ _ _ => (pe_tup (pa_cons (pv 7) (pa_cons (pe_ix ix_list (pv 3) (pv 7) (fun _ _ => rfl)) pa_nil)))))))
        pss_nil)
      (pss_cons (ps_set (i := 5) sc_lead.nd rfl (.inl rfl) (pe_listRg rfl (by rfl) T.m_list (prg_1 (by rfl) T.m_range (pe_callB call_len_str (by rfl) T.m_len (by decide +kernel) (pa_cons (pe_ix ix_tup (pv 2) pe_int (fun _ _ => rfl)) pa_nil)))))
      (pss_cons (ps_set (i := 6) sc_lead.nd rfl (.inl rfl) (pe_lst pa_nil))
      (pss_cons (ps_for PassesOwn.never rfl (pi_enumS (by rfl) T.m_enumerate (pa_cons (pe_ix ix_tup (pv 1) pe_int (fun _ _ => rfl)) pa_nil)) (pg_tup rfl (pgs_cons (pg_name (i := 7) sc_lead.nd rfl (.inl rfl)) (pgs_cons (pg_name (i := 8) sc_lead.nd rfl (.inr rfl)) pgs_nil)))
        (pss_cons (ps_setLc (i := 9) (own := [("beside", 10)]) (g := gName 10) (tt := tTest (tOp rEq (tOp rIxS (tOp (rIxT K) (tVar 2) (tC (.int 0))) (tVar 10)) (tVar 8))) rfl sc_lead.nd rfl rfl (sw_true rfl rfl rfl (by decide +kernel)) (pi_list (pv 5)) (blkOk_by (N := ["hand", "one", "other", "names", "kind", "left", "found", "place", "letter", "some", "beside"]) (sc := defScope s_lead) (by decide +kernel)) (fun _ _ _ _ _ => (pg_name (i := 10) sc_lead.nd rfl (.inl rfl))) (fun _ _ _ _ _ => pts_one (pt_cmpR op_eq (pe_ix ix_str (pe_ix ix_tup (pv 2) pe_int (fun _ _ => rfl)) (pv 10) (fun _ _ => rfl)) (pv 8) (nomark _))) (fun _ _ _ _ _ => (pv 10)))
        (pss_one (ps_if (PW.pt (pw_and (pt_cmpR (op_neD (hr.units)) (pv 9) (pe_lst pa_nil) (nomark _)) (pw_and1 (pt_cmpR op_gt (pe_call (ok_draw T) (hr.mono (by decide)) (by rfl) T.draw.g T.draw.F.kp T.draw.b .nil pass0 (pa_cons (pv 0) (pa_cons pe_int pa_nil))) pe_int (nomark _)))))
          (pss_cons (ps_expr (pe_bm PySem.F.plainAttrs_list PySem.F.slot_list_append PySem.F.type_list_append mt_append (pv 6) (pa_cons (pe_tup (pa_cons (pv 7) (pa_cons (pe_ix ix_list (pv 9) (pe_call (ok_draw T) (hr.mono (by decide)) (by rfl) T.draw.g T.draw.F.kp T.draw.b .nil pass0 (pa_cons (pv 0) (pa_cons (pe_callB call_len_seq (by rfl) T.m_len (by decide +kernel) (pa_cons (pv 9) pa_nil)) pa_nil))) (fun _ _ => rfl)) pa_nil))) pa_nil)))
          (pss_one (ps_expr (pe_bm PySem.F.plainAttrs_list PySem.F.slot_list_remove PySem.F.type_list_remove mt_remove (pv 5) (pa_cons (pe_ix ix_tup (pe_ix ix_list (pv 6) (pe_un un_neg pe_int) (fun _ _ => rfl)) pe_int (fun _ _ => rfl)) pa_nil)))))
          pss_nil))))
      (pss_one (ps_ret (pv 6)))))))), ?_⟩
    walk_at "rd"
    refine ⟨h, 3, rfl, by decide, by decide, hh0, fun H1 g1 k1 hh1 a1 b1 => ?_⟩
    walk_at "rd"
    refine d_cut (fun σ H' => ∃ y5 y6 y7 y8 y9 y10, σ = [some (.ref h), some (.ref a), some (.ref a'), some (.ref n), some (.int g1), y5, y6, y7, y8, y9, y10] ∧ Keep h H H' ∧ Hand H' h) ?_ (fun σ H' hM => ?_)
    · walk_at "rd"
      refine ite2 (fun c => ?_) (fun c => ?_)
      · walk_at "rd"
        refine ⟨sz (by decide), fun p fp => ?_⟩
        have eN1 := at_upd (u := .lst []) (k1 n _ nn eN0) fp
        refine ⟨_, _, dp_nats eN1, .lst (SqL.of upd_same) .nil, shaped_ints _, by decide, ?_⟩
        rw [eqv_nil]
        have k2 := Keep.new (o := .lst []) k1 (Keep.free k1 (hh1.ne fp) fp)
        have hh2 := hh1.put (o := .lst []) (hh1.ne fp)
        generalize upd H1 p (.lst []) = H2 at eN1 k2 hh2 ⊢
        walk_at "rd"
        refine ite2 (fun c2 => ?_) (fun c2 => ?_)
        · have nOk : NamesOk w w' ns := by
            rcases hns with z | z
            · rw [z] at c2; cases c2
            · exact z
          walk_at "rd"
          refine d_ixT (k2.sqt e0 q1) rfl ?_
          refine ⟨_, rfl, sz (by rw [hl]; omega), ?_⟩
          rw [hl]
          walk_at "rd"
          intro D fD
          have nD := hh2.ne fD
          have fD0 := Keep.free k2 nD fD
          refine lc_range (fun i H' => ∃ pvs ld, H' D = some (.lst pvs) ∧ Pairs K H' pvs ld ∧ ld.Pairwise (fun x y => x.1 < y.1) ∧ (∀ p ∈ ld, p.1 < i ∧ ns[p.1]? = some p.2) ∧ ld.length ≤ i ∧ Keep h H H' ∧ Hand H' h)
            ⟨[], [], upd_same, .nil, .nil, by simp, Nat.le_refl _, Keep.new k2 fD0, hh2.put nD⟩ (fun i H' hi hP => ?_) (fun H' hP => ?_)
          · obtain ⟨pvs, ld, eD, pp, sr, bd, ll, kk, hh'⟩ := hP
            have hi' : i < w.1.length := by simpa using hi
            walk_at "rd"
            refine ⟨h, 4, rfl, by decide, by decide, hh', fun H5 g5 k5 hh5 a5 b5 => ?_⟩
            obtain ⟨_, _, e', _⟩ := id hh'
            have k05 := Keep.trans kk k5
            have eN5 := k05 n _ nn eN0
            have eD5 := k5 D _ nD eD
            have pp5 := pp.keep k5 e'
            have lvs := pp.len
            walk_at "rd"
            refine ite2 (fun c3 => ?_) (fun c3 => ?_)
            · walk_at "rd"
              rw [Int.zero_add]
              have lni : i < ns.length := by rw [nOk.len]; exact hi'
              refine d_ixLm eN5 (atI_nat (by rw [List.getElem?_map, List.getElem?_eq_getElem lni]; rfl)) ?_
              walk_at "rd"
              refine ⟨sz (by show 2 ≤ 100000; decide), fun p fp => ?_⟩
              refine ⟨pvs, at_upd eD5 fp, szl (by omega), pvs ++ [.ref p], ld ++ [(i, ns[i])], upd_same, pp5.more eD5 fp, ?_, ?_, by rw [List.length_append]; show _ + 1 ≤ i + 1; omega, Keep.new (Keep.new k05 (Keep.free k05 (hh5.ne fp) fp)) fD0, (hh5.put (hh5.ne fp)).put nD⟩
              · exact List.pairwise_append.mpr ⟨sr, List.pairwise_singleton _ _, fun x hx y hy => by rw [List.mem_singleton.mp hy]; exact (bd x hx).1⟩
              · intro x hx
                rcases List.mem_append.mp hx with hx | hx
                · exact ⟨by have := (bd x hx).1; omega, (bd x hx).2⟩
                · rw [List.mem_singleton.mp hx]; exact ⟨Nat.lt_succ_self i, List.getElem?_eq_getElem lni⟩
            · exact ⟨pvs, ld, eD5, pp5, sr, fun x hx => ⟨by have := (bd x hx).1; omega, (bd x hx).2⟩, by omega, k05, hh5⟩
          · obtain ⟨pvs, ld, eD, pp, sr, bd, ll, kk, hh'⟩ := hP
            refine q H' D pvs ld kk hh' fD0 eD pp ⟨sr, ?_, fun x hx => ?_⟩
            · unfold List.Nodup
              rw [List.pairwise_map]
              refine sr.imp_of_mem fun {x y} hx hy hxy e => ?_
              have := nodup_at nOk.nd (bd x hx).2 (by rw [e]; exact (bd y hy).2)
              omega
            · obtain ⟨z1, z2⟩ := bd x hx
              have z3 := (List.getElem?_eq_some_iff.mp z2).1
              rw [nOk.len] at z3
              exact ⟨z3, nOk.like _ _ z2⟩
        · walk_at "rd"
          exact ⟨_, _, _, _, _, _, rfl, k2, hh2⟩
      · walk_at "rd"
        exact ⟨_, _, _, _, _, _, rfl, k1, hh1⟩
    · obtain ⟨y5, y6, y7, y8, y9, y10, rfl, k2, hh2⟩ := hM
      walk_at "rd"
      refine d_ixT (k2.sqt e0 r1) rfl ?_
      refine ⟨_, rfl, sz (by rw [hl]; omega), ?_⟩
      rw [hl]
      walk_at "rd"
      refine ⟨RgOk.of_le (by omega) (by omega) (by omega) (by omega), fun L fL => ?_⟩
      rw [rgV_nats]
      have nL := hh2.ne fL
      have fL0 := Keep.free k2 nL fL
      walk_at "rd"
      refine ⟨sz (by decide), fun F fF => ?_⟩
      have k3 := Keep.new (o := .lst ((List.range ((w'.1.length : Nat) : Int).toNat).map fun q => V.int (q : Nat))) k2 fL0
      have hh3 := hh2.put (o := .lst ((List.range ((w'.1.length : Nat) : Int).toNat).map fun q => V.int (q : Nat))) nL
      have nF := hh3.ne fF
      have fF0 := Keep.free k3 nF fF
      have nLF : L ≠ F := ne_of_none upd_same fF
      have eL := at_upd (u := .lst []) (upd_same (H := H') (a := L) (o := .lst ((List.range ((w'.1.length : Nat) : Int).toNat).map fun q => V.int (q : Nat)))) fF
      have k4 := Keep.new (o := .lst []) k3 fF0
      have hh4 := hh3.put (o := .lst []) nF
      have eF := upd_same (H := upd H' L (.lst ((List.range ((w'.1.length : Nat) : Int).toNat).map fun q => V.int (q : Nat)))) (a := F) (o := .lst [])
      generalize upd (upd H' L _) F _ = H4 at eL k4 hh4 eF ⊢
      walk_at "rd"
      refine d_ixT (k4.sqt e0 q1) rfl ?_
      walk_at "rd"
      refine for_it (walk_enumS (z := ⟨w.1.toArray⟩)) (fun i σ H5 => ∃ y7 y8 y9 y10 ls pvs ld, σ = [some (.ref h), some (.ref a), some (.ref a'), some (.ref n), some (.int g1), some (.ref L), some (.ref F), y7, y8, y9, y10] ∧ Keep h H H5 ∧ Hand H5 h ∧
        H5 L = some (.lst (ls.map fun q => V.int (q : Nat))) ∧ H5 F = some (.lst pvs) ∧ Pairs K H5 pvs ld ∧ ls.Nodup ∧ (∀ b ∈ ls, b < w'.1.length) ∧ ld.Pairwise (fun x y => x.1 < y.1) ∧ (ld.map (·.2)).Nodup ∧ ld.length ≤ i ∧
        (∀ p ∈ ld, p.1 < i ∧ p.1 < w.1.length ∧ p.2 < w'.1.length ∧ w'.1[p.2]? = w.1[p.1]? ∧ p.2 ∉ ls))
        ⟨_, _, _, _, _, [], [], rfl, k4, hh4, eL, eF, .nil, List.nodup_range, fun b hb => List.mem_range.mp hb, .nil, List.nodup_nil, Nat.le_refl _, by simp⟩ (fun _ _ _ _ _ => trivial) (fun i x σ H5 H5' hi hP hy => ?_) (fun σ H5 hP => ?_)
      · obtain ⟨y7, y8, y9, y10, ls, pvs, ld, rfl, k5, hh5, eL5, eF5, pp, ndl, bl, sr, nde, ll, lk⟩ := hP
        obtain ⟨T', x', y', rfl, fT, rfl, ex, ey⟩ := hy
        have hi' : i < w.1.length := by simpa using hi
        have ex' : x' = V.int (i : Nat) := (Option.some.inj ex).symm
        subst ex'
        have ey' : y' = V.str (sg w.1[i]) := by
          have z : (w.1.toArray[i]?).map (fun c => V.str (⟨#[c]⟩ : Str)) = some y' := ey
          rw [List.getElem?_toArray, List.getElem?_eq_getElem hi'] at z
          exact (Option.some.inj z).symm
        subst ey'
        have nT := hh5.ne fT
        have k6 := Keep.new (o := .tup [V.int (i : Nat), V.str (sg w.1[i])]) k5 (Keep.free k5 nT fT)
        have hh6 := hh5.put (o := .tup [V.int (i : Nat), V.str (sg w.1[i])]) nT
        have eL6 := at_upd (u := .tup [V.int (i : Nat), V.str (sg w.1[i])]) eL5 fT
        have eF6 := at_upd (u := .tup [V.int (i : Nat), V.str (sg w.1[i])]) eF5 fT
        have pp6 := pp.put (o := .tup [V.int (i : Nat), V.str (sg w.1[i])]) (.inl fT)
        refine d_gtupm upd_same rfl ?_
        generalize upd H5 T' _ = H6 at k6 hh6 eL6 eF6 pp6 ⊢
        walk_at "rd"
        refine d_iLe (SqL.of eL6) ?_
        intro S fS
        have nS := hh6.ne fS
        have fS0 := Keep.free k6 nS fS
        refine lc_list (K := K) (a := L) (xs := ls.map fun q => V.int (q : Nat)) (fun k H7 => ∃ gs : List Nat, gs.length ≤ k ∧ (∀ g ∈ gs, g ∈ ls ∧ w'.1[g]? = some w.1[i]) ∧ H7 S = some (.lst (gs.map fun q => V.int (q : Nat))) ∧ Same H6 H7)
          ⟨[], Nat.le_refl _, by simp, upd_same, same_new fS⟩ (fun k H7 _ hP => ?_) (fun k x H7 hx hP => ?_) (fun H7 hP => ?_)
        · obtain ⟨_, _, _, _, s7⟩ := hP
          exact SqL.of (s7 _ _ eL6)
        · obtain ⟨gs, lg, bg, eS, s7⟩ := hP
          rw [List.getElem?_map] at hx
          obtain ⟨g, hg, rfl⟩ := Option.map_eq_some_iff.mp hx
          have mg := List.mem_of_getElem? hg
          have lg' := bl g mg
          walk_at "rd"
          refine d_ixT (Same.sqt s7 (k6.sqt e0 r1)) rfl ?_
          walk_at "rd"
          refine ⟨⟨w'.1.toArray⟩, (g : Nat), w'.1[g], rfl, rfl, sz (by rw [hl]; omega), atI_nat (by show w'.1.toArray.toList[g]? = _; simp), ?_⟩
          walk_at "rd"
          refine ⟨rfl, ?_⟩
          walk_at "rd"
          refine ite2 (fun c => ?_) (fun c => ?_)
          · have c1 : w'.1[g] = w.1[i] := by
              have z := of_decide_eq_true c
              injection z with z
              exact sg_inj.mp z
            walk_at "rd"
            have lk1 : k < ls.length := (List.getElem?_eq_some_iff.mp hg).1
            have l5 := nodup_len _ ls ndl bl
            refine ⟨_, eS, szl (by rw [List.length_map]; omega), gs ++ [g], by rw [List.length_append]; show _ + 1 ≤ k + 1; omega, fun x hx => ?_, by rw [upd_same, List.map_append]; rfl, same_upd s7 fS⟩
            rcases List.mem_append.mp hx with hx | hx
            · exact bg x hx
            · rw [List.mem_singleton.mp hx]
              exact ⟨mg, by rw [List.getElem?_eq_getElem lg', c1]⟩
          · exact ⟨gs, by omega, bg, eS, s7⟩
        obtain ⟨gs, lg, bg, eS, s7⟩ := hP
        have l5 := nodup_len _ ls ndl bl
        rw [List.length_map] at lg
        walk_at "rd"
        refine ⟨sz (by decide), fun p fp => ?_⟩
        have s8 := same_upd (o := .lst []) s7 (Same.free s7 fp)
        refine ⟨_, _, dp_nats (at_upd eS fp), .lst (SqL.of upd_same) .nil, shaped_ints _, by decide, ?_⟩
        rw [eqv_nil]
        have eS8 := at_upd (u := .lst []) eS fp
        generalize upd H7 p (.lst []) = H8 at s8 eS8 ⊢
        have k8 := Keep.same k6 s8
        have hh8 := hh6.same s8
        have eL8 := s8 _ _ eL6
        have eF8 := s8 _ _ eF6
        have pp8 := pp6.same s8
        have lk' : ∀ p ∈ ld, p.1 < i + 1 ∧ p.1 < w.1.length ∧ p.2 < w'.1.length ∧ w'.1[p.2]? = w.1[p.1]? ∧ p.2 ∉ ls := fun p hp => ⟨by have := (lk p hp).1; omega, (lk p hp).2⟩
        walk_at "rd"
        refine ite2 (fun c => ?_) (fun c => ?_)
        · have lgs : 0 < gs.length := by
            cases gs with
            | nil => cases c
            | cons => exact Nat.succ_pos _
          walk_at "rd"
          refine ⟨h, 3, rfl, by decide, by decide, hh8, fun H9 g9 k9 hh9 a9 b9 => ?_⟩
          obtain ⟨_, _, e8, _⟩ := id hh8
          have k09 := Keep.trans k8 k9
          have eL9 := k9 _ _ nL eL8
          have eF9 := k9 _ _ nF eF8
          have eS9 := k9 _ _ nS eS8
          have pp9 := pp8.keep k9 e8
          walk_at "rd"
          refine ite2 (fun c2 => ?_) (fun c2 => ?_)
          · walk_at "rd"
            refine d_app eF9 ?_
            walk_at "rd"
            refine d_lenL (SqL.of eS9) ?_
            rw [List.length_map]
            walk_at "rd"
            refine ⟨h, (gs.length : Nat), rfl, by omega, by omega, hh9, fun H10 g10 k10 hh10 a10 b10 => ?_⟩
            obtain ⟨m, rfl⟩ := Int.eq_ofNat_of_zero_le a10
            have hm : m < gs.length := by omega
            obtain ⟨_, _, e9, _⟩ := id hh9
            have k010 := Keep.trans k09 k10
            have eL10 := k10 _ _ nL eL9
            have eF10 := k10 _ _ nF eF9
            have eS10 := k10 _ _ nS eS9
            have pp10 := pp9.keep k10 e9
            obtain ⟨bm1, bm2⟩ := bg gs[m] (List.getElem_mem hm)
            refine d_ixLm eS10 (atI_nat (by rw [List.getElem?_map, List.getElem?_eq_getElem hm]; rfl)) ?_
            walk_at "rd"
            refine ⟨sz (by show 2 ≤ 100000; decide), fun p fp => ?_⟩
            have nph := hh10.ne fp
            have lvs := pp.len
            walk_at "rd"
            refine d_append (at_upd eF10 fp) (szl (by omega)) ?_
            have pp11 := pp10.more (p := i) (q := gs[m]) (zs := pvs ++ [.ref p]) eF10 fp
            have eF11 := upd_same (H := upd H10 p (.tup [V.int (i : Nat), V.int (gs[m] : Nat)])) (a := F) (o := .lst (pvs ++ [.ref p]))
            have eL11 : (upd (upd H10 p (.tup [V.int (i : Nat), V.int (gs[m] : Nat)])) F (.lst (pvs ++ [.ref p]))) L = some (.lst (ls.map fun q => V.int (q : Nat))) := by
              rw [upd_ne nLF]; exact at_upd eL10 fp
            have ep11 : (upd (upd H10 p (.tup [V.int (i : Nat), V.int (gs[m] : Nat)])) F (.lst (pvs ++ [.ref p]))) p = some (.tup [V.int (i : Nat), V.int (gs[m] : Nat)]) := by
              rw [upd_ne (ne_of_none eF10 fp).symm]; exact upd_same
            have k11 := Keep.new (o := .lst (pvs ++ [.ref p])) (Keep.new (o := .tup [V.int (i : Nat), V.int (gs[m] : Nat)]) k010 (Keep.free k010 nph fp)) fF0
            have hh11 := (hh10.put (o := .tup [V.int (i : Nat), V.int (gs[m] : Nat)]) nph).put (o := .lst (pvs ++ [.ref p])) nF
            generalize upd (upd H10 p _) F _ = H11 at pp11 eF11 eL11 ep11 k11 hh11 ⊢
            walk_at "rd"
            refine ⟨.inl ⟨rfl, _, SqL.of eL11⟩, ?_⟩
            walk_at "rd"
            refine d_ixLm eF11 (atI_last _ _) ?_
            walk_at "rd"
            obtain ⟨j, lj, hj0⟩ := List.getElem_of_mem bm1
            have hj : ls[j]? = some gs[m] := by rw [List.getElem?_eq_getElem lj, hj0]
            refine ⟨L, zs ls, (gs[m] : Nat), j, rfl, rfl, by rw [← ints_map]; exact eL11, zs_at.mpr hj, fun m' hm' e => ?_, ?_⟩
            · have := nodup_at ndl (zs_at.mp e) hj
              omega
            walk_at "rd"
            rw [erase_zs, ← ints_map]
            have er := nodup_erase ndl hj
            refine ⟨_, _, _, _, ls.eraseIdx j, _, _, rfl, Keep.new k11 fL0, hh11.put nL, upd_same, by rw [upd_ne nLF.symm]; exact eF11, pp11.put (.inr ⟨_, eL11⟩), ndl.sublist (List.eraseIdx_sublist _ _), fun b hb => bl b ((er b).mp hb).1, ?_, ?_, by rw [List.length_append]; show _ + 1 ≤ i + 1; omega, ?_⟩
            · exact List.pairwise_append.mpr ⟨sr, List.pairwise_singleton _ _, fun x hx y hy => by rw [List.mem_singleton.mp hy]; exact (lk x hx).1⟩
            · rw [List.map_append]
              refine List.nodup_append.mpr ⟨nde, by simp, fun x hx y hy => ?_⟩
              obtain ⟨p', hp', rfl⟩ := List.mem_map.mp hx
              rw [List.mem_singleton.mp hy]
              intro z
              exact (lk p' hp').2.2.2.2 (by rw [z]; exact bm1)
            · intro x hx
              rcases List.mem_append.mp hx with hx | hx
              · obtain ⟨z1, z2, z3, z4, z5⟩ := lk' x hx
                exact ⟨z1, z2, z3, z4, fun z => z5 ((er _).mp z).1⟩
              · rw [List.mem_singleton.mp hx]
                exact ⟨Nat.lt_succ_self i, hi', bl _ bm1, by rw [List.getElem?_eq_getElem hi']; exact bm2, fun z => ((er _).mp z).2 rfl⟩
          · walk_at "rd"
            exact ⟨_, _, _, _, ls, pvs, ld, rfl, k09, hh9, eL9, eF9, pp9, ndl, bl, sr, nde, by omega, lk'⟩
        · walk_at "rd"
          exact ⟨_, _, _, _, ls, pvs, ld, rfl, k8, hh8, eL8, eF8, pp8, ndl, bl, sr, nde, by omega, lk'⟩
      · obtain ⟨y7, y8, y9, y10, ls, pvs, ld, rfl, k5, hh5, eL5, eF5, pp, ndl, bl, sr, nde, ll, lk⟩ := hP
        walk_at "rd"
        exact q _ F pvs ld k5 hh5 fF0 eF5 pp ⟨sr, nde, fun p hp => ⟨(lk p hp).2.1, (lk p hp).2.2.1, (lk p hp).2.2.2.1⟩⟩
/-- two webs, and the names -/
def spWebs (K : PySem.W.Frag) : Sp := fun vs H Q _ => ∃ (h : Addr) (g : Bool), vs = [.ref h, .bl g] ∧ Hand H h ∧
  ∀ H' (l n : Addr) (v v' : V) (w w' : Web) (ns : List Nat), Keep h H H' → Hand H' h → H l = none → H n = none → H' l = some (.lst [v, v', .ref n]) → WebAt K H' v w → WOk w → WebAt K H' v' w' → WOk w' → H' n = some (.lst (ns.map fun q => V.int (q : Nat))) → n ≠ h → (ns = [] ∨ NamesOk w w' ns) → Q (.ref l) H'
theorem ok_webs (T : Tx K mg) : FnOk P w K mg base CX0 5 T.webs.f T.webs.fd ["hand", "great"] (spWebs K) := by
  refine T.webs.F.ok sc_webs (fun vs H Q E h => ?_) (fun cdv A outer s H vs Q E hr h => ?_)
  · obtain ⟨_, _, rfl, _⟩ := h; rfl
  · obtain ⟨h, g, rfl, hh0, q⟩ := h
    refine ⟨_, (pss_cons (ps_set (i := 2) sc_webs.nd rfl (.inl rfl) (pe_call (ok_web T) (hr.mono (by decide)) (by rfl) T.web.g T.web.F.kp T.web.b .nil pass0 (pa_cons (pv 0) (pa_cons (pe_call (ok_size T) (hr.mono (by decide)) (by rfl) T.size.g T.size.F.kp T.size.b .nil pass0 (pa_cons (pv 0) (pa_cons (pv 1) pa_nil))) pa_nil))))
      (Evl.pss_cut (ps_if (PW.pt (pw_and (pt_not (pt_val (pv 1))) (pw_and1 (pt_cmpR op_eq (pe_call (ok_draw T) (hr.mono (by decide)) (by rfl) T.draw.g T.draw.F.kp T.draw.b .nil pass0 (pa_cons (pv 0) (pa_cons pe_int pa_nil))) pe_int (nomark _)))))
        (pss_one (ps_ret (pe_lst (pa_cons (pv 2) (pa_cons (pe_call (ok_web T) (hr.mono (by decide)) (by rfl) T.web.g T.web.F.kp T.web.b .nil pass0 (pa_cons (pv 0) (pa_cons (pe_call (ok_size T) (hr.mono (by decide)) (by rfl) T.size.g T.size.F.kp T.size.b .nil pass0 (pa_cons (pv 0) (pa_cons pe_bl pa_nil))) pa_nil))) (pa_cons (pe_lst pa_nil) pa_nil))))))
        pss_nil)
      (pss_one (ps_ret (pe_op op_cat (pe_lst (pa_cons (pv 2) pa_nil)) (pe_call (ok_other T) (hr.mono (by decide)) (by rfl) T.other.g T.other.F.kp T.other.b .nil pass0 (pa_cons (pv 0) (pa_cons (pv 2) pa_nil)))))))), ?_⟩
    walk_at "rd"
    refine ⟨h, g, rfl, hh0, fun H1 n1 k1 hh1 n0 n40 => ?_⟩
    walk_at "rd"
    refine ⟨h, n1, rfl, n0, n40, hh1, fun H2 v w k2 hh2 hw W lw => ?_⟩
    have k02 := Keep.trans k1 k2
    walk_at "rd"
    refine d_cut (fun σ H' => σ = [some (.ref h), some (.bl g), some v] ∧ Keep h H H' ∧ Hand H' h ∧ WebAt K H' v w) ?_ (fun σ H' hM => ?_)
    · walk_at "rd"
      refine ite2 (fun c => ?_) (fun c => ?_)
      · walk_at "rd"
        refine ⟨h, 4, rfl, by decide, by decide, hh2, fun H3 g3 k3 hh3 a3 b3 => ?_⟩
        obtain ⟨_, _, e2, _⟩ := id hh2
        have hw3 := hw.keep k3 e2
        walk_at "rd"
        refine ite2 (fun c => ?_) (fun c => ?_)
        · walk_at "rd"
          refine ⟨h, false, rfl, hh3, fun H4 n4 k4 hh4 a4 b4 => ?_⟩
          walk_at "rd"
          refine ⟨h, n4, rfl, a4, b4, hh4, fun H5 v' w' k5 hh5 hw5 W' lw' => ?_⟩
          have k35 := Keep.trans k4 k5
          obtain ⟨_, _, e3, _⟩ := id hh3
          have k05 := Keep.trans k02 (Keep.trans k3 k35)
          have hv5 := hw3.keep k35 e3
          walk_at "rd"
          refine ⟨sz (by decide), fun n fn => ?_⟩
          have nn := hh5.ne fn
          have fn0 := Keep.free k05 nn fn
          walk_at "rd"
          refine ⟨sz (by show 3 ≤ 100000; decide), fun l fl => ?_⟩
          have hh6 := hh5.put (o := .lst []) nn
          have nl := hh6.ne fl
          have k06 := Keep.new (o := .lst []) k05 fn0
          have fl0 := Keep.free k06 nl fl
          exact q _ l n v v' w w' [] (Keep.new k06 fl0) (hh6.put nl) fl0 fn0 upd_same ((hv5.put (.inl fn)).put (.inl fl)) W ((hw5.put (.inl fn)).put (.inl fl)) W' (at_upd upd_same fl) nn (.inl rfl)
        · walk_at "rd"
          exact ⟨rfl, Keep.trans k02 k3, hh3, hw3⟩
      · walk_at "rd"
        exact ⟨rfl, k02, hh2, hw⟩
    · obtain ⟨rfl, k3, hh3, hw3⟩ := hM
      walk_at "rd"
      refine ⟨sz (by show 1 ≤ 100000; decide), fun p fp => ?_⟩
      have np := hh3.ne fp
      have fp0 := Keep.free k3 np fp
      have k4 := Keep.new (o := .lst [v]) k3 fp0
      have hh4 := hh3.put (o := .lst [v]) np
      have hw4 := hw3.put (o := .lst [v]) (.inl fp)
      have ep := upd_same (H := H') (a := p) (o := .lst [v])
      generalize upd H' p _ = H4 at k4 hh4 hw4 ep ⊢
      walk_at "rd"
      refine ⟨h, v, w, rfl, hw4, W, hh4, fun H5 l nl v' w' ns k5 hh5 fl el hw5 W' enl nOk fnl => ?_⟩
      obtain ⟨_, _, e4, _⟩ := id hh4
      have k05 := Keep.trans k4 k5
      refine ⟨p, l, _, _, rfl, rfl, k5 _ _ np ep, el, sz (show 1 + 2 ≤ 100000 by decide), fun r fr => ?_⟩
      have nr := hh5.ne fr
      have fr0 := Keep.free k05 nr fr
      exact q _ r nl v v' w w' ns (Keep.new k05 fr0) (hh5.put nr) fr0 (Keep.free k4 (hh4.ne fnl) fnl) upd_same ((hw4.keep k5 e4).put (.inl fr)) W (hw5.put (.inl fr)) W' (at_upd enl fr) (hh4.ne fnl) (.inr nOk)
/-- the ties that are due -/
def spDue (K : PySem.W.Frag) : Sp := fun vs H Q _ => ∃ (v v' : V) (l : Addr) (w w' : Web) (pvs : List V) (ld : Lead), vs = [v, v', .ref l] ∧ WebAt K H v w ∧ WOk w ∧ WebAt K H v' w' ∧ WOk w' ∧ H l = some (.lst pvs) ∧ Pairs K H pvs ld ∧ LOk w w' ld ∧
  ∀ H' (f : Addr) tvs, Same H H' → H f = none → H' f = some (.lst tvs) → Ties K H' tvs (dueL w w' ld) → Q (.ref f) H'
/-- led_ties -/
theorem ok_led_ties (T : Tx K mg) : FnOk P w K mg base CX0 2 T.led_ties.f T.led_ties.fd ["one", "other", "lead"] (spDue K) := by
  refine T.led_ties.F.ok sc_led_ties (fun vs H Q E h => ?_) (fun cdv A outer s H vs Q E hr h => ?_)
  · obtain ⟨_, _, _, _, _, _, _, rfl, _⟩ := h; rfl
  · obtain ⟨v, v', l, w, w', pvs, ld, rfl, hw, W, hw', W', eLd, pp, L, q⟩ := h
    obtain ⟨a, b, tvs, rfl, q1, q2, pT⟩ := id hw
    have lt : tvs.length = w.2.length := Paired.length pT
    have l16 := W.most
    obtain ⟨ps, rfl, pr⟩ := Pairs.refs pp
    refine ⟨_, (pss_cons (ps_set (i := 3) sc_led_ties.nd rfl (.inl rfl) (pe_callTy (call_dictP rfl) (by rfl) T.m_dict (by decide +kernel) (pa_cons (pv 2) pa_nil)))
      (pss_cons (ps_set (i := 4) sc_led_ties.nd rfl (.inl rfl) (pe_call (ok_kinds_by_ends T) (hr.mono (by decide)) (by rfl) T.kinds_by_ends.g T.kinds_by_ends.F.kp T.kinds_by_ends.b .nil pass0 (pa_cons (pv 1) pa_nil)))
      (pss_cons (ps_set (i := 5) sc_led_ties.nd rfl (.inl rfl) (pe_lst pa_nil))
      (pss_cons (ps_for PassesOwn.never rfl (pi_tup (pe_ix ix_tup (pv 0) pe_int (fun _ _ => rfl))) (pg_tup rfl (pgs_cons (pg_name (i := 6) sc_led_ties.nd rfl (.inl rfl)) (pgs_cons (pg_name (i := 7) sc_led_ties.nd rfl (.inl rfl)) (pgs_cons (pg_name (i := 8) sc_led_ties.nd rfl (.inl rfl)) pgs_nil))))
        (pss_one (ps_if (PW.pt (pw_and (pt_cmp (pc_din (hu_of hr) (pv 6) (pv 3))) (pw_and1 (pt_cmp (pc_din (hu_of hr) (pv 7) (pv 3))))))
          (pss_one (ps_if (pt_cmpR op_eq (pe_dget1 (hu_of hr) (pv 4) (pe_tup (pa_cons (pe_dget (hu_of hr) (pv 3) (pv 6) (fun _ _ => rfl)) (pa_cons (pe_dget (hu_of hr) (pv 3) (pv 7) (fun _ _ => rfl)) pa_nil))) ⟨rfl, rfl, rfl, rfl⟩) (pv 8) (nomark _))
            (pss_one (ps_expr (pe_bm PySem.F.plainAttrs_list PySem.F.slot_list_append PySem.F.type_list_append mt_append (pv 5) (pa_cons (pe_tup (pa_cons (pv 6) (pa_cons (pv 7) (pa_cons (pv 8) pa_nil)))) pa_nil))))
            pss_nil))
          pss_nil)))
      (pss_one (ps_ret (pv 5))))))), ?_⟩
    walk_at "rd"
    refine ⟨l, ps, _, rfl, SqL.of eLd, pr, fun M fM => ?_⟩
    have s1 := same_new (o := .dK (mergeK [] (ld.map fun p => ((.inl (p.1 : Int) : Key), V.int (p.2 : Nat))))) fM
    have eM := upd_same (H := H) (a := M) (o := .dK (mergeK [] (ld.map fun p => ((.inl (p.1 : Int) : Key), V.int (p.2 : Nat)))))
    generalize upd H M _ = H1 at s1 eM ⊢
    walk_at "rd"
    refine ⟨v', w', rfl, hw'.same s1, W', fun H2 d kvs s2 fd ed hk => ?_⟩
    have eM2 := s2 _ _ eM
    walk_at "rd"
    refine ⟨sz (by decide), fun F fF => ?_⟩
    have s12 := Same.trans s1 s2
    have fF0 := Same.free s12 fF
    have s3 := same_upd (o := .lst []) s12 fF0
    have eM3 := at_upd (u := .lst []) eM2 fF
    have ed3 := at_upd (u := .lst []) ed fF
    have eF3 := upd_same (H := H2) (a := F) (o := .lst [])
    have nMF : M ≠ F := ne_of_none eM2 fF
    have ndF : d ≠ F := ne_of_none ed fF
    generalize upd H2 F _ = H3 at s3 eM3 ed3 eF3 ⊢
    walk_at "rd"
    refine d_ixT (Same.sqt s3 q1) rfl ?_
    refine d_iTe (Same.sqt s3 q2) ?_
    refine for_it (walk_tup (xs := tvs)) (fun i σ H' => ∃ y6 y7 y8 fs, σ = [some (.ref a), some v', some (.ref l), some (.ref M), some (.ref d), some (.ref F), y6, y7, y8] ∧ Same H H' ∧ H' M = some (.dK (mergeK [] (ld.map fun p => ((.inl (p.1 : Int) : Key), V.int (p.2 : Nat))))) ∧ H' d = some (.dT kvs) ∧ H' F = some (.lst fs) ∧ Ties K H' fs ((w.2.take i).filter (isLed w' ld)))
      ⟨_, _, _, [], rfl, s3, eM3, ed3, eF3, .nil⟩ (fun i σ H' hi hP => ?_) (fun i x σ H'' H' hi hP hy => ?_) (fun σ H' hP => ?_)
    · obtain ⟨_, _, _, _, _, s2, _⟩ := hP
      exact Same.sqt s2 q2
    · obtain ⟨y6, y7, y8, fs, rfl, s4, eM4, ed4, eF4, tt⟩ := hP
      obtain ⟨rfl, hx⟩ := hy
      obtain ⟨t, ht, ta, rfl, qt⟩ := Paired.at pT hx
      refine d_gtup (Same.sqt s4 qt) rfl ?_
      have no : isLed w' ld t = false → Ties K H' fs ((w.2.take (i + 1)).filter (isLed w' ld)) := fun z => by
        rw [due_snoc ht, if_neg (by rw [z]; decide), List.append_nil]; exact tt
      have g1 := DGet.k (k := .inl (t.1 : Int)) eM4
      have g2 := DGet.k (k := .inl (t.2.1 : Int)) eM4
      rw [led_dict ld L.rise] at g1 g2
      walk_at "rd"
      refine ⟨M, _, rfl, g1, ?_⟩
      walk_at "rd"
      rw [Option.isSome_map]
      refine ite2 (fun c1 => ?_) (fun c1 => ?_)
      · obtain ⟨x1, e1⟩ := Option.isSome_iff_exists.mp c1
        walk_at "rd"
        refine ⟨M, _, rfl, g2, ?_⟩
        walk_at "rd"
        rw [Option.isSome_map]
        refine ite2 (fun c2 => ?_) (fun c2 => ?_)
        · obtain ⟨x2, e2⟩ := Option.isSome_iff_exists.mp c2
          rw [e1] at g1
          rw [e2] at g2
          walk_at "rd"
          refine ⟨d, rfl, .inr ⟨_, .inl ed4⟩, ?_⟩
          walk_at "rd"
          refine ⟨M, _, rfl, g1, ?_⟩
          walk_at "rd"
          refine ⟨M, _, rfl, g2, ?_⟩
          walk_at "rd"
          refine ⟨sz (by show 2 ≤ 100000; decide), fun p fp => ?_⟩
          have g3 := DGet.t (k := kEnds x1 x2) (at_upd ed4 fp) (upd_same (H := H') (a := p) (o := .tup [V.int (x1 : Nat), V.int (x2 : Nat)]))
          rw [hk] at g3
          refine ⟨_, g3, ?_⟩
          rw [optV_get]
          walk_at "rd"
          refine ⟨optV_str _ _, ?_⟩
          rw [optV_eq, ← isLed_at e1 e2]
          walk_at "rd"
          have s5 := same_upd (o := .tup [V.int (x1 : Nat), V.int (x2 : Nat)]) s4 (Same.free s4 fp)
          have eM5 := at_upd (u := .tup [V.int (x1 : Nat), V.int (x2 : Nat)]) eM4 fp
          have ed5 := at_upd (u := .tup [V.int (x1 : Nat), V.int (x2 : Nat)]) ed4 fp
          have eF5 := at_upd (u := .tup [V.int (x1 : Nat), V.int (x2 : Nat)]) eF4 fp
          have tt5 := tt.put (o := .tup [V.int (x1 : Nat), V.int (x2 : Nat)]) (.inl fp)
          clear g1 g2 g3
          generalize upd H' p _ = H5 at s5 eM5 ed5 eF5 tt5 ⊢
          refine ite2 (fun c => ?_) (fun c => ?_)
          · walk_at "rd"
            refine d_app eF5 ?_
            walk_at "rd"
            refine ⟨sz (by show 3 ≤ 100000; decide), fun p fp => ?_⟩
            have lfs := tt.len
            have := List.length_filter_le (isLed w' ld) (w.2.take i)
            have := List.length_take_le i w.2
            walk_at "rd"
            refine d_append (at_upd eF5 fp) (szl (by omega)) ?_
            refine ⟨_, _, _, _, rfl, same_upd (same_upd s5 (Same.free s5 fp)) fF0, by rw [upd_ne nMF]; exact at_upd eM5 fp, by rw [upd_ne ndF]; exact at_upd ed5 fp, upd_same, ?_⟩
            rw [due_snoc ht, if_pos c]
            exact tt5.more eF5 fp
          · walk_at "rd"
            refine ⟨_, _, _, fs, rfl, s5, eM5, ed5, eF5, ?_⟩
            rw [due_snoc ht, if_neg c, List.append_nil]
            exact tt5
        · walk_at "rd"
          exact ⟨_, _, _, fs, rfl, s4, eM4, ed4, eF4, no (isLed_no (.inr (by cases e : ldAt ld t.2.1 with | none => rfl | some => rw [e] at c2; exact absurd rfl c2)))⟩
      · walk_at "rd"
        exact ⟨_, _, _, fs, rfl, s4, eM4, ed4, eF4, no (isLed_no (.inl (by cases e : ldAt ld t.1 with | none => rfl | some => rw [e] at c1; exact absurd rfl c1)))⟩
    · obtain ⟨y6, y7, y8, fs, rfl, s4, eM4, ed4, eF4, tt⟩ := hP
      rw [lt, List.take_length] at tt
      walk_at "rd"
      exact q _ F fs s4 fF0 eF4 tt
/-- what lies -/
def spLies (K : PySem.W.Frag) : Sp := fun vs H Q _ => ∃ (v v' : V) (l : Addr) (w w' : Web) (pvs : List V) (ld : Lead), vs = [v, v', .ref l] ∧ WebAt K H v w ∧ WOk w ∧ WebAt K H v' w' ∧ WOk w' ∧ H l = some (.lst pvs) ∧ Pairs K H pvs ld ∧ ld.length ≤ 100000 ∧ ∀ H', Same H H' → Q (.bl (lieB w w' ld)) H'
theorem ok_lies (T : Tx K mg) : FnOk P w K mg base CX0 2 T.lies.f T.lies.fd ["one", "other", "lead"] (spLies K) := by
  refine T.lies.F.ok sc_lies (fun vs H Q E h => ?_) (fun cdv A outer s H vs Q E hr h => ?_)
  · obtain ⟨_, _, _, _, _, _, _, rfl, _⟩ := h; rfl
  · obtain ⟨v, v', l, w, w', pvs, ld, rfl, hw, W, hw', W', eLd, pp, ll, q⟩ := h
    have lpv := pp.len
    refine ⟨_, (pss_cons (ps_set (i := 3) sc_lies.nd rfl (.inl rfl) (pe_call (ok_kinds_by_ends T) (hr.mono (by decide)) (by rfl) T.kinds_by_ends.g T.kinds_by_ends.F.kp T.kinds_by_ends.b .nil pass0 (pa_cons (pv 0) pa_nil)))
      (pss_cons (ps_set (i := 4) sc_lies.nd rfl (.inl rfl) (pe_call (ok_kinds_by_ends T) (hr.mono (by decide)) (by rfl) T.kinds_by_ends.g T.kinds_by_ends.F.kp T.kinds_by_ends.b .nil pass0 (pa_cons (pv 1) pa_nil)))
      (pss_cons (ps_for PassesOwn.never rfl ((pi_cmb (by rfl) T.m_combinations (pa_cons (pv 2) (pa_cons pe_int pa_nil)))) (pg_tup rfl (pgs_cons (pg_tup rfl (pgs_cons (pg_name (i := 5) sc_lies.nd rfl (.inl rfl)) (pgs_cons (pg_name (i := 6) sc_lies.nd rfl (.inl rfl)) pgs_nil))) (pgs_cons (pg_tup rfl (pgs_cons (pg_name (i := 7) sc_lies.nd rfl (.inl rfl)) (pgs_cons (pg_name (i := 8) sc_lies.nd rfl (.inl rfl)) pgs_nil))) pgs_nil)))
        (pss_one (ps_if (pt_cmpR op_ne (pe_dget1 (hu_of hr) (pv 3) (pe_tup (pa_cons (pv 5) (pa_cons (pv 7) pa_nil))) ⟨rfl, rfl, rfl, rfl⟩) (pe_dget1 (hu_of hr) (pv 4) (pe_tup (pa_cons (pv 6) (pa_cons (pv 8) pa_nil))) ⟨rfl, rfl, rfl, rfl⟩) (nomark _))
          (pss_one (ps_ret pe_bl))
          pss_nil)))
      (pss_one (ps_ret pe_bl))))), ?_⟩
    walk_at "rd"
    refine ⟨v, w, rfl, hw, W, fun H1 d kvs s1 fd ed hk => ?_⟩
    walk_at "rd"
    refine ⟨v', w', rfl, hw'.same s1, W', fun H2 d' kvs' s2 fd' ed' hk' => ?_⟩
    have s12 := Same.trans s1 s2
    have ed2 := s2 _ _ ed
    walk_at "rd"
    refine ⟨l, pvs, rfl, SqL.of (s12 _ _ eLd), by omega, ?_⟩
    refine for_cmb (fun k σ H' => ∃ y5 y6 y7 y8, σ = [some v, some v', some (.ref l), some (.ref d), some (.ref d'), y5, y6, y7, y8] ∧ Same H2 H' ∧ ∀ k', k' < k → ∀ i j p r, CwCmb.cmb pvs.length k' = some (i, j) → ld[i]? = some p → ld[j]? = some r → agr w w' p r = true)
      ⟨_, _, _, _, rfl, Same.refl _, fun k' h => absurd h (Nat.not_lt_zero _)⟩ (fun k i j x y T' σ H' hc hx hy hP fT => ?_) (fun k σ H' hc hP => ?_)
    · obtain ⟨y5, y6, y7, y8, rfl, s3, hall⟩ := hP
      obtain ⟨p, hp, pa, rfl, qp⟩ := Paired.at pp hx
      obtain ⟨r, hr', ra, rfl, qr⟩ := Paired.at pp hy
      have s23 := Same.trans s12 s3
      have s4 := same_new (o := .tup [V.ref pa, V.ref ra]) fT
      have s24 := Same.trans s23 s4
      have s34 := Same.trans s3 s4
      refine d_gtupm upd_same rfl ?_
      generalize upd H' T' _ = H4 at s4 s24 s34 ⊢
      walk_at "rd"
      refine d_gtup (Same.sqt s24 qp) rfl ?_
      walk_at "rd"
      refine d_gtup (Same.sqt s24 qr) rfl ?_
      have ed4 := s34 _ _ ed2
      have ed4' := s34 _ _ ed'
      walk_at "rd"
      refine ⟨d, rfl, .inr ⟨_, .inl ed4⟩, ?_⟩
      walk_at "rd"
      refine ⟨sz (by show 2 ≤ 100000; decide), fun p1 f1 => ?_⟩
      have g1 := DGet.t (k := kEnds p.1 r.1) (at_upd ed4 f1) (upd_same (H := H4) (a := p1) (o := .tup [V.int (p.1 : Nat), V.int (r.1 : Nat)]))
      rw [hk] at g1
      refine ⟨_, g1, ?_⟩
      rw [optV_get]
      clear g1
      have s5 := same_upd (o := .tup [V.int (p.1 : Nat), V.int (r.1 : Nat)]) s34 (Same.free s34 f1)
      have ed5' := at_upd (u := .tup [V.int (p.1 : Nat), V.int (r.1 : Nat)]) ed4' f1
      generalize upd H4 p1 _ = H5 at s5 ed5' ⊢
      walk_at "rd"
      refine ⟨d', rfl, .inr ⟨_, .inl ed5'⟩, ?_⟩
      walk_at "rd"
      refine ⟨sz (by show 2 ≤ 100000; decide), fun p2 f2 => ?_⟩
      have g2 := DGet.t (k := kEnds p.2 r.2) (at_upd ed5' f2) (upd_same (H := H5) (a := p2) (o := .tup [V.int (p.2 : Nat), V.int (r.2 : Nat)]))
      rw [hk'] at g2
      refine ⟨_, g2, ?_⟩
      rw [optV_get]
      clear g2
      have s6 := same_upd (o := .tup [V.int (p.2 : Nat), V.int (r.2 : Nat)]) s5 (Same.free s5 f2)
      generalize upd H5 p2 _ = H6 at s6 ⊢
      refine ⟨optV_scal2 _ _, ?_⟩
      rw [optV_inj]
      walk_at "rd"
      refine ite2 (fun c => ?_) (fun c => ?_)
      · have no : ¬ agr w w' p r = true := fun z => by
          unfold agr at z
          rw [z] at c; cases c
        walk_at "rd"
        have z := q _ (Same.trans s12 s6)
        rw [lieB_no (List.mem_of_getElem? hp) (List.mem_of_getElem? hr') no] at z
        exact z
      · walk_at "rd"
        refine ⟨_, _, _, _, rfl, s6, fun k' hk2 i2 j2 p' r' hc2 hp2 hr2 => ?_⟩
        by_cases e : k' = k
        · subst e
          rw [hc] at hc2; cases hc2
          rw [hp] at hp2; cases hp2
          rw [hr'] at hr2; cases hr2
          unfold agr
          cases z : decide (tieL w.2 p.1 r.1 = tieL w'.2 p.2 r.2) with
          | true => rfl
          | false => rw [z] at c; exact absurd rfl c
        · exact hall k' (by omega) i2 j2 p' r' hc2 hp2 hr2
    · obtain ⟨y5, y6, y7, y8, rfl, s3, hall⟩ := hP
      walk_at "rd"
      have z := q _ (Same.trans s12 s3)
      rw [lieB_of W W' fun i j p r hij hp hr' => by
        have lj : j < pvs.length := by rw [lpv]; exact (List.getElem?_eq_some_iff.mp hr').1
        obtain ⟨k', hk2⟩ := CwCmb.cmb_all hij lj
        refine hall k' ?_ i j p r hk2 hp hr'
        by_cases z : k' < k
        · exact z
        · have := CwCmb.cmb_none hc (k' - k)
          rw [show k + (k' - k) = k' by omega, hk2] at this
          cases this] at z
      exact z
/-- the cut of a web -/
def spCut (K : PySem.W.Frag) : Sp := fun vs H Q _ => ∃ (v : V) (w : Web) (o : Addr) (qs : List Nat), vs = [v, .ref o] ∧ WebAt K H v w ∧ WOk w ∧ H o = some (.lst (qs.map fun q => V.int (q : Nat))) ∧ qs.Nodup ∧ (∀ q ∈ qs, q < w.1.length) ∧
  ∀ H' v' os, Same H H' → os.Perm qs → os.Pairwise (· < ·) → WebAt K H' v' (cutL w os) → Q v' H'
theorem ok_cut (T : Tx K mg) : FnOk P w K mg base CX0 1 T.cut.f T.cut.fd ["web", "places"] (spCut K) := by
  refine T.cut.F.ok sc_cut (fun vs H Q E h => ?_) (fun cdv A outer s H vs Q E hr h => ?_)
  · obtain ⟨_, _, _, _, rfl, _⟩ := h; rfl
  · obtain ⟨v, w, o, qs, rfl, ⟨a, b, tvs, rfl, q1, q2, pT⟩, W, eO, nd, bq, q⟩ := h
    have lt : tvs.length = w.2.length := Paired.length pT
    have l16 := W.most
    have l40 := W.few
    refine ⟨_, (pss_cons (ps_asg (pv 0) (pg_tup rfl (pgs_cons (pg_name (i := 2) sc_cut.nd rfl (.inr rfl)) (pgs_cons (pg_name (i := 3) sc_cut.nd rfl (.inl rfl)) pgs_nil))))
      (pss_cons (ps_set (i := 4) sc_cut.nd rfl (.inl rfl) (pe_callB cr_sortedI (by rfl) T.m_sorted (by decide +kernel) (pa_cons (pv 1) pa_nil)))
      (pss_cons (ps_setDc (i := 5) (own := [("number", 10), ("place", 7)]) (tt := tYes) (g := gTup K 2 (gCons (gName 10) (gCons (gName 7) gNil))) rfl sc_cut.nd rfl rfl (sw_dict rfl rfl rfl (by decide +kernel)) (pi_enum (by rfl) T.m_enumerate (pa_cons (pv 4) pa_nil)) (blkOk_by (N := ["web", "places", "kinds", "ties", "kept", "numbers", "left", "place", "other", "kind", "number"]) (sc := defScope s_cut) (by decide +kernel)) (fun _ _ _ _ _ => (pg_tup rfl (pgs_cons (pg_name (i := 10) sc_cut.nd rfl (.inl rfl)) (pgs_cons (pg_name (i := 7) sc_cut.nd rfl (.inl rfl)) pgs_nil)))) (fun _ _ _ _ _ => pts_nil) (fun _ _ _ _ _ => (pv 7)) (fun _ _ _ _ _ => (pv 10)))
      (pss_cons (ps_set (i := 6) sc_cut.nd rfl (.inl rfl) (pe_lst pa_nil))
      (pss_cons (ps_for PassesOwn.never rfl (pi_tup (pv 3)) (pg_tup rfl (pgs_cons (pg_name (i := 7) sc_cut.nd rfl (.inl rfl)) (pgs_cons (pg_name (i := 8) sc_cut.nd rfl (.inl rfl)) (pgs_cons (pg_name (i := 9) sc_cut.nd rfl (.inl rfl)) pgs_nil))))
        (pss_one (ps_if (PW.pt (pw_and (pt_cmp (pc_din (hu_of hr) (pv 7) (pv 5))) (pw_and1 (pt_cmp (pc_din (hu_of hr) (pv 8) (pv 5))))))
          (pss_one (ps_expr (pe_bm PySem.F.plainAttrs_list PySem.F.slot_list_append PySem.F.type_list_append mt_append (pv 6) (pa_cons (pe_tup (pa_cons (pe_dget (hu_of hr) (pv 5) (pv 7) (fun _ _ => rfl)) (pa_cons (pe_dget (hu_of hr) (pv 5) (pv 8) (fun _ _ => rfl)) (pa_cons (pv 9) pa_nil)))) pa_nil))))
          pss_nil)))
      (pss_one (ps_ret (pe_tup (pa_cons (pe_join pe_str (pe_lc (own := [("place", 7)]) (g := gName 7) (tt := tYes) rfl sc_cut.nd (pi_list (pv 4)) (blkOk_by (N := ["web", "places", "kinds", "ties", "kept", "numbers", "left", "place", "other", "kind", "number"]) (sc := defScope s_cut) (by decide +kernel)) (fun _ _ _ _ _ => (pg_name (i := 7) sc_cut.nd rfl (.inl rfl))) (fun _ _ _ _ _ => pts_nil) (fun _ _ _ _ _ => (pe_ix ix_str (pv 2) (pv 7) (fun _ _ => rfl))))) (pa_cons (pe_callTy call_tuple_of (by rfl) T.m_tuple (by decide +kernel) (pa_cons (pv 6) pa_nil)) pa_nil)))))))))), ?_⟩
    walk_at "rd"
    refine d_gtup q1 rfl ?_
    walk_at "rd"
    refine ⟨o, zs qs, rfl, SqL.of (by rw [← ints_map]; exact eO), fun ns' kp pm srt fk => ?_⟩
    obtain ⟨os, rfl, pos⟩ := nat_list pm
    have ndo := pos.nodup_iff.mpr nd
    have riseo : os.Pairwise (· < ·) := by
      have z : os.Pairwise (· ≤ ·) := by
        unfold zs at srt
        rw [List.pairwise_map] at srt
        exact srt.imp fun h => by omega
      exact (List.Pairwise.and z ndo).imp fun {x y} ⟨h1, h2⟩ => by omega
    have bo : ∀ p ∈ os, p < w.1.length := fun p hp => bq p (pos.mem_iff.mp hp)
    have lo : os.length ≤ 40 := Nat.le_trans (nodup_len _ os ndo bo) l40
    rw [← ints_map]
    have s1 := same_new (o := .lst (os.map fun o => V.int (o : Nat))) fk
    have eK := upd_same (H := H) (a := kp) (o := .lst (os.map fun o => V.int (o : Nat)))
    generalize upd H kp _ = H1 at s1 eK ⊢
    walk_at "rd"
    refine ⟨kp, _, rfl, SqL.of eK, ?_⟩
    intro D fD
    refine dc_it (walk_enum (K := K) (a := kp) (xs := os.map fun o => V.int (o : Nat))) (fun i H' => ∃ kvs, H' D = some (.dK kvs) ∧ Same H1 H' ∧ kvs.length ≤ i ∧ ∀ p : Nat, valV kvs (.inl (p : Int)) = (posOf (os.take i) p).map fun k => V.int (k : Nat))
      ⟨[], upd_same, same_new fD, Nat.le_refl _, fun p => rfl⟩ (fun i H' _ hP => ?_) (fun i x H' H'' hi hP hy => ?_) (fun H2 hP => ?_)
    · obtain ⟨_, _, s2, _⟩ := hP
      exact SqL.of (s2 _ _ eK)
    · obtain ⟨kvs, eD, s2, lk, hk⟩ := hP
      obtain ⟨T', x', y', rfl, fT, rfl, ex, ey⟩ := hy
      have hi' : i < os.length := by simpa using hi
      have ex' : x' = V.int (i : Nat) := (Option.some.inj ex).symm
      subst ex'
      have ey' : y' = V.int (os[i] : Nat) := by
        have z : (os.map fun o => V.int (o : Nat))[i]? = some y' := ey
        rw [List.getElem?_map, List.getElem?_eq_getElem hi'] at z
        exact (Option.some.inj z).symm
      subst ey'
      refine d_gtupm upd_same rfl ?_
      walk_at "rd"
      refine ⟨kvs, .inl (os[i] : Nat), rfl, at_upd eD fT, szl (by omega), _, upd_same, same_upd (same_upd s2 (Same.free s2 fT)) fD, ?_, fun p => ?_⟩
      · have := length_putK kvs (.inl (os[i] : Nat) : Key) (V.int (i : Nat))
        omega
      · have ni : os[i] ∉ os.take i := fun hm => by
          obtain ⟨j, hj, e⟩ := List.getElem_of_mem hm
          rw [List.length_take] at hj
          rw [List.getElem_take] at e
          have := nodup_at ndo (i := j) (j := i) (x := os[i]) (by rw [List.getElem?_eq_getElem (by omega), e]) (List.getElem?_eq_getElem hi')
          omega
        rw [valV_put, take_snoc (List.getElem?_eq_getElem hi'), posOf_snoc _ _ _ ni, List.length_take, Nat.min_eq_left (by omega)]
        by_cases e : p = os[i]
        · rw [if_pos e, if_pos (by rw [e])]; rfl
        · rw [if_neg e, if_neg (by intro z; injection z with z; omega)]
          exact hk p
    obtain ⟨kvs, eD, s2, _, hk⟩ := hP
    rw [List.length_map, List.take_length] at hk
    have s12 := Same.trans s1 s2
    have eK2 := s2 _ _ eK
    walk_at "rd"
    refine ⟨sz (by decide), fun F fF => ?_⟩
    have fF0 := Same.free s12 fF
    have nDF : D ≠ F := ne_of_none eD fF
    have nKF : kp ≠ F := ne_of_none eK2 fF
    have s3 := same_upd (o := .lst []) s12 fF0
    have eD3 := at_upd (u := .lst []) eD fF
    have eK3 := at_upd (u := .lst []) eK2 fF
    have eF3 := upd_same (H := H2) (a := F) (o := .lst [])
    generalize upd H2 F _ = H3 at s3 eD3 eK3 eF3 ⊢
    walk_at "rd"
    refine d_iTe (Same.sqt s3 q2) ?_
    refine for_it (walk_tup (xs := tvs)) (fun i σ H' => ∃ y7 y8 y9 y10 fs, σ = [some (.ref a), some (.ref o), some (.str ⟨w.1.toArray⟩), some (.ref b), some (.ref kp), some (.ref D), some (.ref F), y7, y8, y9, y10] ∧ Same H H' ∧ H' D = some (.dK kvs) ∧ H' kp = some (.lst (os.map fun o => V.int (o : Nat))) ∧ H' F = some (.lst fs) ∧ Ties K H' fs ((w.2.take i).filterMap (cutTie os)))
      ⟨_, _, _, _, [], rfl, s3, eD3, eK3, eF3, .nil⟩ (fun i σ H' hi hP => ?_) (fun i x σ H'' H' hi hP hy => ?_) (fun σ H' hP => ?_)
    · obtain ⟨_, _, _, _, _, _, s4, _⟩ := hP
      exact Same.sqt s4 q2
    · obtain ⟨y7, y8, y9, y10, fs, rfl, s4, eD4, eK4, eF4, tt⟩ := hP
      obtain ⟨rfl, hx⟩ := hy
      obtain ⟨t, ht, ta, rfl, qt⟩ := Paired.at pT hx
      refine d_gtup (Same.sqt s4 qt) rfl ?_
      have g1 := DGet.k (k := .inl (t.1 : Int)) eD4
      have g2 := DGet.k (k := .inl (t.2.1 : Int)) eD4
      rw [hk] at g1 g2
      have no : cutTie os t = none → Ties K H' fs ((w.2.take (i + 1)).filterMap (cutTie os)) := fun z => by
        rw [cutTie_snoc ht, z]
        show Ties K H' fs (_ ++ [])
        rw [List.append_nil]; exact tt
      walk_at "rd"
      refine ⟨D, _, rfl, g1, ?_⟩
      walk_at "rd"
      rw [Option.isSome_map]
      refine ite2 (fun c1 => ?_) (fun c1 => ?_)
      · obtain ⟨x1, e1⟩ := Option.isSome_iff_exists.mp c1
        walk_at "rd"
        refine ⟨D, _, rfl, g2, ?_⟩
        walk_at "rd"
        rw [Option.isSome_map]
        refine ite2 (fun c2 => ?_) (fun c2 => ?_)
        · obtain ⟨x2, e2⟩ := Option.isSome_iff_exists.mp c2
          rw [e1] at g1
          rw [e2] at g2
          walk_at "rd"
          refine d_app eF4 ?_
          walk_at "rd"
          refine ⟨D, _, rfl, g1, ?_⟩
          walk_at "rd"
          refine ⟨D, _, rfl, g2, ?_⟩
          walk_at "rd"
          refine ⟨sz (by show 3 ≤ 100000; decide), fun p fp => ?_⟩
          have lfs := tt.len
          have := List.length_filterMap_le (cutTie os) (w.2.take i)
          have := List.length_take_le i w.2
          walk_at "rd"
          refine d_append (at_upd eF4 fp) (szl (by omega)) ?_
          have ec : cutTie os t = some (x1, x2, t.2.2) := by unfold cutTie; rw [e1, e2]; rfl
          refine ⟨_, _, _, _, _, rfl, same_upd (same_upd s4 (Same.free s4 fp)) fF0, by rw [upd_ne nDF]; exact at_upd eD4 fp, by rw [upd_ne nKF]; exact at_upd eK4 fp, upd_same, ?_⟩
          rw [cutTie_snoc ht, ec]
          exact tt.more (t := (x1, x2, t.2.2)) eF4 fp
        · walk_at "rd"
          have en : posOf os t.2.1 = none := by cases e : posOf os t.2.1 with | none => rfl | some => rw [e] at c2; exact absurd rfl c2
          exact ⟨_, _, _, _, fs, rfl, s4, eD4, eK4, eF4, no (by unfold cutTie; rw [e1, en]; rfl)⟩
      · walk_at "rd"
        have en : posOf os t.1 = none := by cases e : posOf os t.1 with | none => rfl | some => rw [e] at c1; exact absurd rfl c1
        exact ⟨_, _, _, _, fs, rfl, s4, eD4, eK4, eF4, no (by unfold cutTie; rw [en]; rfl)⟩
    obtain ⟨y7, y8, y9, y10, fs, rfl, s4, eD4, eK4, eF4, tt⟩ := hP
    rw [lt, List.take_length] at tt
    walk_at "rd"
    refine d_iLe (SqL.of eK4) ?_
    intro C fC
    refine lc_list (K := K) (a := kp) (xs := os.map fun o => V.int (o : Nat)) (fun k H5 => H5 C = some (.lst (((os.take k).map fun p => w.1.getD p 0).map fun c => V.str (sg c))) ∧ Same H' H5) ⟨upd_same, same_new fC⟩ (fun k H5 _ hP => SqL.of (hP.2 _ _ eK4)) (fun k x H5 hx hP => ?_) (fun H5 hP => ?_)
    · obtain ⟨eC, s5⟩ := hP
      rw [List.getElem?_map] at hx
      obtain ⟨p, hp, rfl⟩ := Option.map_eq_some_iff.mp hx
      have lp := bo p (List.mem_of_getElem? hp)
      have lk := (List.getElem?_eq_some_iff.mp hp).1
      walk_at "rd"
      refine ⟨⟨w.1.toArray⟩, (p : Nat), w.1.getD p 0, rfl, rfl, sz (by show w.1.toArray.size ≤ 100000; simp; omega), atI_nat (by show w.1.toArray.toList[p]? = _; simp [lp]), ?_⟩
      refine ⟨_, eC, szl (by rw [List.length_map, List.length_map, List.length_take]; omega), ?_, same_upd s5 fC⟩
      rw [upd_same, take_snoc hp, List.map_append, List.map_append]; rfl
    obtain ⟨eC, s5⟩ := hP
    rw [List.length_map, List.take_length] at eC
    refine ⟨_, C, (os.map fun p => w.1.getD p 0).map sg, rfl, rfl, .inl (SqL.of (by rw [List.map_map]; exact eC)), ?_, ?_⟩
    · rw [sum_const _ 1 _ (by intro x hx; obtain ⟨c, _, rfl⟩ := List.mem_map.mp hx; rfl), List.length_map, List.length_map]
      have e0 : (Str.ofString "").length = 0 := by decide +kernel
      rw [e0]; omega
    rw [join_signs]
    walk_at "rd"
    have eF5 := s5 _ _ eF4
    have tt5 := tt.same s5
    refine ⟨F, fs, rfl, .inl ⟨SqL.of eF5, fun R fR => ?_⟩⟩
    walk_at "rd"
    refine ⟨sz (by show 2 ≤ 100000; decide), fun W' fW => ?_⟩
    refine q _ _ os (Same.trans s4 (Same.trans s5 (Same.trans (same_new fR) (same_new fW)))) pos riseo ⟨W', R, fs, rfl, SqT.of upd_same, SqT.of (at_upd upd_same fW), (tt5.put (.inl fR)).put (.inl fW)⟩
/-- for each place the list of its neighbours -/
def spAllN (K : PySem.W.Frag) : Sp := fun vs H Q _ => ∃ v w, vs = [v] ∧ WebAt K H v w ∧ WOk w ∧ ∀ H' (D : Addr) (as : List Addr), Same H H' → H D = none → H' D = some (.lst (as.map V.ref)) → as.length = w.1.length → as.Nodup → D ∉ as → (∀ a ∈ as, H a = none) →
  (∀ (j : Nat) (a : Addr), as[j]? = some a → H' a = some (.lst ((nb w.2 j).map fun o => V.int (o : Nat)))) → Q (.ref D) H'
theorem ok_all_neighbours (T : Tx K mg) : FnOk P w K mg base CX0 1 T.all_neighbours.f T.all_neighbours.fd ["web"] (spAllN K) := by
  refine T.all_neighbours.F.ok sc_all_neighbours (fun vs H Q E h => ?_) (fun cdv A outer s H vs Q E hr h => ?_)
  · obtain ⟨v, w, rfl, _⟩ := h; rfl
  · obtain ⟨v, w, rfl, ⟨a, b, tvs, rfl, q1, q2, pT⟩, W, q⟩ := h
    have lt : tvs.length = w.2.length := Paired.length pT
    have l16 := W.most
    have l40 := W.few
    refine ⟨_, (pss_cons (ps_setLc (i := 1) (own := [("_", 4)]) (g := gName 4) (tt := tYes) rfl sc_all_neighbours.nd rfl rfl (sw_true rfl rfl rfl (by decide +kernel)) (pi_str (pe_ix ix_tup (pv 0) pe_int (fun _ _ => rfl))) (blkOk_by (N := ["web", "beside", "place", "other", "_"]) (sc := defScope s_all_neighbours) (by decide +kernel)) (fun _ _ _ _ _ => (pg_name (i := 4) sc_all_neighbours.nd rfl (.inl rfl))) (fun _ _ _ _ _ => pts_nil) (fun _ _ _ _ _ => (pe_lst pa_nil)))
      (pss_cons (ps_for PassesOwn.never rfl (pi_tup (pe_ix ix_tup (pv 0) pe_int (fun _ _ => rfl))) (pg_tup rfl (pgs_cons (pg_name (i := 2) sc_all_neighbours.nd rfl (.inl rfl)) (pgs_cons (pg_name (i := 3) sc_all_neighbours.nd rfl (.inl rfl)) (pgs_cons (pg_name (i := 4) sc_all_neighbours.nd rfl (.inl rfl)) pgs_nil))))
        (pss_cons (ps_expr (pe_bm PySem.F.plainAttrs_list PySem.F.slot_list_append PySem.F.type_list_append mt_append (pe_ix ix_list (pv 1) (pv 2) (fun _ _ => rfl)) (pa_cons (pv 3) pa_nil)))
        (pss_one (ps_expr (pe_bm PySem.F.plainAttrs_list PySem.F.slot_list_append PySem.F.type_list_append mt_append (pe_ix ix_list (pv 1) (pv 3) (fun _ _ => rfl)) (pa_cons (pv 2) pa_nil))))))
      (pss_one (ps_ret (pv 1))))), ?_⟩
    walk_at "rd"
    refine d_ixT q1 rfl ?_
    walk_at "rd"
    intro D fD
    refine lc_it (walk_str (z := ⟨w.1.toArray⟩)) (fun i H1 => ∃ as : List Addr, as.length = i ∧ as.Nodup ∧ D ∉ as ∧ H1 D = some (.lst (as.map V.ref)) ∧ (∀ a ∈ as, H a = none) ∧ (∀ a ∈ as, H1 a = some (.lst [])) ∧ Same H H1)
      ⟨[], rfl, .nil, by simp, upd_same, by simp, by simp, same_new fD⟩ (fun _ _ _ _ => trivial) (fun i x H0 H1 hi hP hy => ?_) (fun H1 hP => ?_)
    · obtain ⟨as, la, nd, nD, eD, fa, ea, sm⟩ := hP
      obtain ⟨rfl, c, hc, rfl⟩ := hy
      have hi' : i < 40 := by
        have : i < w.1.length := by simpa using hi
        omega
      walk_at "rd"
      refine ⟨sz (by decide), fun p fp => ?_⟩
      have pD : p ≠ D := fun z => by rw [z, eD] at fp; cases fp
      have pas : p ∉ as := fun z => by rw [ea p z] at fp; cases fp
      refine ⟨_, at_upd eD fp, szl (by rw [List.length_map]; omega), as ++ [p], by rw [List.length_append, la]; rfl, ?_, ?_, ?_, ?_, ?_, ?_⟩
      · exact List.nodup_append.mpr ⟨nd, by simp, fun x hx y hy => by rw [List.mem_singleton.mp hy]; exact fun z => pas (z ▸ hx)⟩
      · intro z
        rcases List.mem_append.mp z with z | z
        · exact nD z
        · exact pD (List.mem_singleton.mp z).symm
      · rw [upd_same, List.map_append]; rfl
      · intro x hx
        rcases List.mem_append.mp hx with hx | hx
        · exact fa x hx
        · rw [List.mem_singleton.mp hx]; exact Same.free sm fp
      · intro x hx
        have xD : x ≠ D := fun z => by
          rcases List.mem_append.mp hx with hx | hx
          · exact nD (z ▸ hx)
          · exact pD ((List.mem_singleton.mp hx).symm.trans z)
        rw [upd_ne xD]
        rcases List.mem_append.mp hx with hx | hx
        · exact at_upd (ea x hx) fp
        · rw [List.mem_singleton.mp hx, upd_same]
      · exact same_upd (same_upd sm (Same.free sm fp)) fD
    obtain ⟨as, la, nd, nD, eD, fa, ea, sm⟩ := hP
    have la' : as.length = w.1.length := by simpa using la
    walk_at "rd"
    refine d_ixT (Same.sqt sm q1) rfl ?_
    refine d_iTe (Same.sqt sm q2) ?_
    refine for_it (walk_tup (xs := tvs)) (fun i σ H2 => ∃ y2 y3 y4, σ = [some (.ref a), some (.ref D), y2, y3, y4] ∧ H2 D = some (.lst (as.map V.ref)) ∧ Same H H2 ∧ ∀ (j : Nat) (x : Addr), as[j]? = some x → H2 x = some (.lst ((nb (w.2.take i) j).map fun o => V.int (o : Nat))))
      ⟨_, _, _, rfl, eD, sm, fun j x hx => ea x (List.mem_of_getElem? hx)⟩ (fun i σ H2 hi hP => ?_) (fun i x σ H0 H2 hi hP hy => ?_) (fun σ H2 hP => ?_)
    · obtain ⟨_, _, _, _, _, sm2, _⟩ := hP
      exact Same.sqt sm2 q2
    · obtain ⟨y2, y3, y4, rfl, eD2, sm2, hN⟩ := hP
      obtain ⟨rfl, hx⟩ := hy
      obtain ⟨t, ht, a', rfl, qt⟩ := Paired.at pT hx
      have et := W.ends t (List.mem_of_getElem? ht)
      have lti : (w.2.take i).length ≤ 1600 := Nat.le_trans (List.length_take_le _ _) (by omega)
      refine d_gtup (Same.sqt sm2 qt) rfl ?_
      walk_at "rd"
      have h1 : t.1 < as.length := by omega
      have h2 : t.2.1 < as.length := by omega
      have g1 : as[t.1]? = some as[t.1] := List.getElem?_eq_getElem h1
      have g2 : as[t.2.1]? = some as[t.2.1] := List.getElem?_eq_getElem h2
      have n12 : as[t.1] ≠ as[t.2.1] := fun z => by
        have := (List.getElem_inj nd).mp z
        omega
      have nd1 : as[t.1] ≠ D := fun z => nD (z ▸ List.getElem_mem h1)
      have nd2 : as[t.2.1] ≠ D := fun z => nD (z ▸ List.getElem_mem h2)
      refine d_ixLm eD2 (atI_nat (by rw [List.getElem?_map, g1]; rfl)) ?_
      have e1 := hN _ _ g1
      refine d_app e1 ?_
      walk_at "rd"
      have b1 := nb_len (w.2.take i) t.1
      have b2 := nb_len (w.2.take i) t.2.1
      refine d_append e1 (szl (by rw [List.length_map]; omega)) ?_
      walk_at "rd"
      refine d_ixLm (by rw [upd_ne nd1.symm]; exact eD2) (atI_nat (by rw [List.getElem?_map, g2]; rfl)) ?_
      have e2 := hN _ _ g2
      have e2' : (upd H2 as[t.1] (.lst (((nb (w.2.take i) t.1).map fun o => V.int (o : Nat)) ++ [V.int (t.2.1 : Nat)]))) as[t.2.1] = some (.lst ((nb (w.2.take i) t.2.1).map fun o => V.int (o : Nat))) := by rw [upd_ne n12.symm]; exact e2
      refine d_app e2' ?_
      walk_at "rd"
      refine d_append e2' (szl (by rw [List.length_map]; omega)) ?_
      refine ⟨_, _, _, rfl, by rw [upd_ne nd2.symm, upd_ne nd1.symm]; exact eD2, same_upd (same_upd sm2 (fa _ (List.getElem_mem h1))) (fa _ (List.getElem_mem h2)), fun j x hx => ?_⟩
      rw [take_snoc ht, nb_snoc]
      have inj : ∀ {m : Nat} (hm : m < as.length), x = as[m] → j = m := fun {m} hm z => by
        obtain ⟨hj, ej⟩ := List.getElem?_eq_some_iff.mp hx
        exact (List.getElem_inj nd).mp (ej.trans z)
      by_cases c2 : x = as[t.2.1]
      · have := inj h2 c2
        subst this
        rw [c2, upd_same, if_neg (by omega), if_pos rfl, List.map_append]; rfl
      · rw [upd_ne c2]
        by_cases c1 : x = as[t.1]
        · have := inj h1 c1
          subst this
          rw [c1, upd_same, if_pos rfl, List.map_append]; rfl
        · have f1 : ¬ t.1 = j := fun z => c1 (by
            subst z
            exact Option.some.inj (hx.symm.trans g1))
          have f2 : ¬ t.2.1 = j := fun z => c2 (by
            subst z
            exact Option.some.inj (hx.symm.trans g2))
          rw [upd_ne c1, if_neg f1, if_neg f2, List.append_nil]
          exact hN j x hx
    · obtain ⟨y2, y3, y4, rfl, eD2, sm2, hN⟩ := hP
      walk_at "rd"
      rw [lt, List.take_length] at hN
      exact q _ D as sm2 fD eD2 la' nd nD fa hN
/-- for each place the list of its neighbours, as it lies there -/
def NbAt (H : Hp) (D : Addr) (u : Web) : Prop := ∃ as : List Addr, H D = some (.lst (as.map V.ref)) ∧ as.length = u.1.length ∧ ∀ (j : Nat) (a : Addr), as[j]? = some a → H a = some (.lst (natsV (nb u.2 j)))
theorem NbAt.same {H H' : Hp} {D : Addr} {u : Web} (x : NbAt H D u) (s : Same H H') : NbAt H' D u := by
  obtain ⟨as, e, l, h⟩ := x
  exact ⟨as, s _ _ e, l, fun j a z => s _ _ (h j a z)⟩
def spFrom : Sp := fun vs H Q _ => ∃ (D : Addr) (u : Web) (a : Nat), vs = [.ref D, .int (a : Nat)] ∧ NbAt H D u ∧ WOk u ∧ a < u.1.length ∧ ∀ H' (p : Addr), Same H H' → H p = none → H' p = some (.lst (natsV (partL u a))) → Q (.ref p) H'
/-- what one comes to so far: seen and waiting -/
structure Fr (u : Web) (a : Nat) (ms ws : List Nat) : Prop where
  nd : ms.Nodup
  own : ∀ x ∈ ms, Rch u.2 a x
  start : a ∈ ms
  wait : ∀ x ∈ ws, x ∈ ms
  closed : ∀ x ∈ ms, x ∈ ws ∨ ∀ y ∈ nb u.2 x, y ∈ ms
theorem Fr.len {u : Web} (U : WOk u) {a : Nat} {ms ws : List Nat} (x : Fr u a ms ws) (ha : a < u.1.length) : ms.length ≤ u.1.length := nodup_len _ _ x.nd fun y hy => (x.own y hy).lt U ha
theorem Fr.all {u : Web} {a : Nat} {ms : List Nat} (x : Fr u a ms []) {y : Nat} (h : Rch u.2 a y) : y ∈ ms := by
  induction h with
  | base => exact x.start
  | step _ m ih =>
    rcases x.closed _ ih with z | z
    · cases z
    · exact z _ m
/-- while the neighbours of x are looked at -/
structure Fr2 (u : Web) (a x : Nat) (ms ws : List Nat) (i : Nat) : Prop where
  nd : ms.Nodup
  own : ∀ y ∈ ms, Rch u.2 a y
  start : a ∈ ms
  here : x ∈ ms
  wait : ∀ y ∈ ws, y ∈ ms
  closed : ∀ y ∈ ms, y = x ∨ y ∈ ws ∨ ∀ z ∈ nb u.2 y, z ∈ ms
  done : ∀ z ∈ (nb u.2 x).take i, z ∈ ms
theorem Fr.pop {u : Web} {a x : Nat} {ms ws : List Nat} (F : Fr u a ms (ws ++ [x])) : Fr2 u a x ms ws 0 :=
  ⟨F.nd, F.own, F.start, F.wait x (List.mem_append_right _ (List.mem_singleton.mpr rfl)), fun y hy => F.wait y (List.mem_append_left _ hy), fun y hy => by
    rcases F.closed y hy with z | z
    · rcases List.mem_append.mp z with z | z
      · exact .inr (.inl z)
      · exact .inl (List.mem_singleton.mp z)
    · exact .inr (.inr z), fun z hz => by simp at hz⟩
theorem Fr2.skip {u : Web} {a x z i : Nat} {ms ws : List Nat} (F : Fr2 u a x ms ws i) (hz : (nb u.2 x)[i]? = some z) (h : z ∈ ms) : Fr2 u a x ms ws (i + 1) :=
  ⟨F.nd, F.own, F.start, F.here, F.wait, F.closed, fun y hy => by
    rw [take_snoc hz] at hy
    rcases List.mem_append.mp hy with hy | hy
    · exact F.done y hy
    · rw [List.mem_singleton.mp hy]; exact h⟩
theorem Fr2.add {u : Web} {a x z i : Nat} {ms ws : List Nat} (F : Fr2 u a x ms ws i) (hz : (nb u.2 x)[i]? = some z) (h : z ∉ ms) : Fr2 u a x (ms ++ [z]) (ws ++ [z]) (i + 1) := by
  have l : ∀ {y}, y ∈ ms → y ∈ ms ++ [z] := fun h => List.mem_append_left _ h
  have r : z ∈ ms ++ [z] := List.mem_append_right _ (List.mem_singleton.mpr rfl)
  refine ⟨List.nodup_append.mpr ⟨F.nd, by simp, fun p hp y hy => by rw [List.mem_singleton.mp hy]; exact fun e => h (e ▸ hp)⟩, fun y hy => ?_, l F.start, l F.here, fun y hy => ?_, fun y hy => ?_, fun y hy => ?_⟩
  · rcases List.mem_append.mp hy with hy | hy
    · exact F.own y hy
    · rw [List.mem_singleton.mp hy]; exact (F.own x F.here).step (List.mem_of_getElem? hz)
  · rcases List.mem_append.mp hy with hy | hy
    · exact l (F.wait y hy)
    · rw [List.mem_singleton.mp hy]; exact r
  · rcases List.mem_append.mp hy with hy | hy
    · rcases F.closed y hy with e | e | e
      · exact .inl e
      · exact .inr (.inl (List.mem_append_left _ e))
      · exact .inr (.inr fun q hq => l (e q hq))
    · rw [List.mem_singleton.mp hy]
      exact .inr (.inl (List.mem_append_right _ (List.mem_singleton.mpr rfl)))
  · rw [take_snoc hz] at hy
    rcases List.mem_append.mp hy with hy | hy
    · exact l (F.done y hy)
    · rw [List.mem_singleton.mp hy]; exact r
theorem Fr2.end_ {u : Web} {a x i : Nat} {ms ws : List Nat} (F : Fr2 u a x ms ws i) (h : (nb u.2 x).length ≤ i) : Fr u a ms ws :=
  ⟨F.nd, F.own, F.start, F.wait, fun y hy => by
    rcases F.closed y hy with e | e | e
    · subst e
      exact .inr fun z hz => F.done z (by rw [List.take_of_length_le h]; exact hz)
    · exact .inl e
    · exact .inr e⟩
theorem ok_part_from (T : Tx K mg) : FnOk P w K mg base CX0 1 T.part_from.f T.part_from.fd ["beside", "start"] spFrom := by
  refine funOkC T.part_from.F sc_part_from (fun vs H Q E h => ?_) (fun cdv hcd A outer s H vs Q E hr h => ?_)
  · obtain ⟨_, _, _, rfl, _⟩ := h; rfl
  · obtain ⟨D, u, a, rfl, ⟨as, eD, la, hA⟩, U, ha, q⟩ := h
    have l40 := U.few
    have l16 := U.most
    refine ⟨_, (pss_cons (ps_set (i := 2) sc_part_from.nd rfl (.inl rfl) (pe_set1 (wd := w) rfl hcd (pv 1)))
      (pss_cons (ps_set (i := 3) sc_part_from.nd rfl (.inl rfl) (pe_lst (pa_cons (pv 1) pa_nil)))
      (pss_cons (ps_while PassesOwn.never (pt_truth (pv 3) (by intro _; rfl))
        (pss_cons (ps_set (i := 4) sc_part_from.nd rfl (.inl rfl) (pe_bm0 PySem.F.plainAttrs_list PySem.F.slot_list_pop PySem.F.type_list_pop mt_pop (pv 3)))
        (pss_one (ps_for PassesOwn.never rfl (pi_list (pe_ix ix_list (pv 0) (pv 4) (fun _ _ => rfl))) (pg_name (i := 5) sc_part_from.nd rfl (.inl rfl))
          (pss_one (ps_if (pt_cmpR or_snotin (pv 5) (pv 2) (by rfl))
            (pss_cons (ps_expr (pe_sadd (pv 2) (pa_cons (pv 5) pa_nil)))
            (pss_one (ps_expr (pe_bm PySem.F.plainAttrs_list PySem.F.slot_list_append PySem.F.type_list_append mt_append (pv 3) (pa_cons (pv 5) pa_nil)))))
            pss_nil))))))
      (pss_one (ps_ret (pe_callB (cr_sortedSet rfl) (by rfl) T.m_sorted (by decide +kernel) (pa_cons (pv 2) pa_nil))))))), ?_⟩
    walk_at "rd"
    intro S fS
    walk_at "rd"
    refine ⟨upd_same, ?_⟩
    have hS : SetN w (upd (upd H S (SetO w S (fun _ => false) 0)) S (SetO w S (fun j => false || decide (j = (a : Int))) 1)) S [a] := by
      refine ⟨_, 1, upd_same, Nat.le_refl _, fun _ => rfl, fun k => ?_⟩
      rw [Bool.false_or, decide_eq_true_eq]
      constructor
      · intro h
        exact ⟨a, h, List.mem_singleton.mpr rfl⟩
      · rintro ⟨y, h1, h2⟩
        rw [h1, List.mem_singleton.mp h2]
    have s1 : Same H (upd (upd H S (SetO w S (fun _ => false) 0)) S (SetO w S (fun j => false || decide (j = (a : Int))) 1)) := same_upd (same_new fS) fS
    generalize (upd (upd H S (SetO w S (fun _ => false) 0)) S (SetO w S (fun j => false || decide (j = (a : Int))) 1)) = H1 at hS s1 ⊢
    walk_at "rd"
    refine ⟨sz (by show 1 ≤ 100000; decide), fun L fL => ?_⟩
    walk_at "rd"
    refine ⟨fun m σ H' => ∃ ms ws y4 y5, m = 2 * (u.1.length - ms.length) + ws.length ∧ σ = [some (.ref D), some (.int (a : Nat)), some (.ref S), some (.ref L), y4, y5] ∧ Same H H' ∧ SetN w H' S ms ∧ H' L = some (.lst (natsV ws)) ∧ Fr u a ms ws ∧ ws.length ≤ ms.length,
      ⟨_, [a], [a], _, _, rfl, rfl, same_upd s1 (Same.free s1 fL), hS.at_ (by
        obtain ⟨_, _, e, _⟩ := id hS
        exact (ne_of_none e fL).symm), upd_same, ⟨by simp, fun x hx => by rw [List.mem_singleton.mp hx]; exact .base, List.mem_singleton.mpr rfl, fun x hx => hx, fun x hx => .inl hx⟩, Nat.le_refl _⟩, ?_⟩
    have nLS : ∀ {H' : Hp} {ys ms : List _}, H' L = some (.lst ys) → SetN w H' S ms → L ≠ S := fun e x => x.ne e
    have fL0 := Same.free s1 fL
    rintro m σ H' ⟨ms, ws, y4, y5, rfl, rfl, sm, hS', eL, F, lws⟩
    have lms := F.len U ha
    walk_at "rd"
    refine ⟨!(natsV ws).isEmpty, .inl ⟨_, SqL.of eL, rfl⟩, ?_⟩
    refine ite2 (fun c => ?_) (fun c => ?_)
    · have ne0 : ws ≠ [] := fun z => by subst z; simp at c
      obtain ⟨ws', x, rfl⟩ : ∃ ws' x, ws = ws' ++ [x] := ⟨ws.dropLast, ws.getLast ne0, (List.dropLast_concat_getLast ne0).symm⟩
      refine ⟨fun σ' H'' => ∃ ms1 ws1 y4 y5, σ' = [some (.ref D), some (.int (a : Nat)), some (.ref S), some (.ref L), y4, y5] ∧ Same H H'' ∧ SetN w H'' S ms1 ∧ H'' L = some (.lst (natsV ws1)) ∧ Fr u a ms1 ws1 ∧ ws1.length ≤ ms1.length ∧ 2 * (u.1.length - ms1.length) + ws1.length < 2 * (u.1.length - ms.length) + (ws' ++ [x]).length,
        fun σ' H'' ⟨ms1, ws1, z4, z5, e, sm1, hS1, eL1, F1, lw1, lt⟩ => ⟨_, lt, ms1, ws1, z4, z5, rfl, e, sm1, hS1, eL1, F1, lw1⟩, ?_⟩
      walk_at "rd"
      refine ⟨.inl ⟨rfl, _, SqL.of eL⟩, ?_⟩
      refine ⟨L, _, .int (x : Nat), rfl, rfl, eL, by simp [natsV], ?_⟩
      have e1 : (natsV (ws' ++ [x])).dropLast = natsV ws' := by simp [natsV]
      rw [e1]
      have lws' : ws'.length + 1 ≤ ms.length := by rw [List.length_append] at lws; exact lws
      have hx : x ∈ ms := F.wait x (List.mem_append_right _ (List.mem_singleton.mpr rfl))
      have hxl : x < u.1.length := (F.own x hx).lt U ha
      have sm1 : Same H (upd H' L (.lst (natsV ws'))) := same_upd sm fL0
      have eL1 := upd_same (H := H') (a := L) (o := .lst (natsV ws'))
      have hS1 : SetN w (upd H' L (.lst (natsV ws'))) S ms := hS'.at_ (hS'.ne eL)
      generalize upd H' L (.lst (natsV ws')) = H1' at sm1 eL1 hS1 ⊢
      walk_at "rd"
      have gx : as[x]? = some as[x] := List.getElem?_eq_getElem (by omega)
      refine d_ixLm (sm1 _ _ eD) (atI_nat (by rw [List.getElem?_map, gx]; rfl)) ?_
      have eA := hA x _ gx
      refine d_iLe (SqL.of (sm1 _ _ eA)) ?_
      have bn := nb_len u.2 x
      refine for_it (walk_list (K := K) (xs := natsV (nb u.2 x))) (fun i σ H2 => ∃ ms1 ws1 y5, σ = [some (.ref D), some (.int (a : Nat)), some (.ref S), some (.ref L), some (.int (x : Nat)), y5] ∧ Same H H2 ∧ SetN w H2 S ms1 ∧ H2 L = some (.lst (natsV ws1)) ∧ Fr2 u a x ms1 ws1 i ∧ ms1.length + ws'.length = ms.length + ws1.length ∧ ms.length ≤ ms1.length)
        ⟨ms, ws', _, rfl, sm1, hS1, eL1, F.pop, rfl, Nat.le_refl _⟩ (fun i σ H2 hi hP => ?_) (fun i y σ H0 H2 hi hP hy => ?_) (fun σ H2 hP => ?_)
      · obtain ⟨_, _, _, _, sm2, _⟩ := hP
        exact SqL.of (sm2 _ _ eA)
      · obtain ⟨ms1, ws1, y5', rfl, sm2, hS2, eL2, F2, lms1, le1⟩ := hP
        obtain ⟨rfl, hx2⟩ := hy
        rw [List.getElem?_map] at hx2
        obtain ⟨z, hz, rfl⟩ := Option.map_eq_some_iff.mp hx2
        have l1 : ms1.length ≤ u.1.length := nodup_len _ _ F2.nd fun y hy => (F2.own y hy).lt U ha
        walk_at "rd"
        refine d_snotin hS2 ?_
        walk_at "rd"
        refine ite2 (fun c => ?_) (fun c => ?_)
        · have nz : z ∉ ms1 := by simpa using c
          walk_at "rd"
          refine d_tsadd ?_
          walk_at "rd"
          refine d_sadd0 hS2 ?_
          walk_at "rd"
          refine d_sadd hS2 (by omega) fun o ms2 hS3 _ _ e2 => ?_
          have e2 := e2 nz
          subst e2
          have eL3 : (upd H2 S o) L = some (.lst (natsV ws1)) := by rw [upd_ne (hS2.ne eL2)]; exact eL2
          have sm3 : Same H (upd H2 S o) := same_upd sm2 fS
          generalize upd H2 S o = H3 at hS3 eL3 sm3 ⊢
          walk_at "rd"
          refine d_app eL3 ?_
          walk_at "rd"
          refine d_append eL3 (szl (by rw [List.length_map]; omega)) ?_
          exact ⟨ms1 ++ [z], ws1 ++ [z], _, rfl, same_upd sm3 fL0, hS3.at_ (hS3.ne eL3), by rw [upd_same, natsV, natsV, List.map_append]; rfl, F2.add hz nz, by rw [List.length_append, List.length_append]; show ms1.length + 1 + _ = _ + (ws1.length + 1); omega, by rw [List.length_append]; omega⟩
        · have nz : z ∈ ms1 := by simpa using c
          walk_at "rd"
          exact ⟨ms1, ws1, _, rfl, sm2, hS2, eL2, F2.skip hz nz, lms1, le1⟩
      · obtain ⟨ms1, ws1, y5', rfl, sm2, hS2, eL2, F2, lms1, le1⟩ := hP
        rw [List.length_map] at F2
        have l1 : ms1.length ≤ u.1.length := nodup_len _ _ F2.nd fun y hy => (F2.own y hy).lt U ha
        walk_at "rd"
        exact ⟨ms1, ws1, _, _, rfl, sm2, hS2, eL2, F2.end_ (Nat.le_refl _), by omega, by rw [List.length_append]; show _ < _ + (_ + 1); omega⟩
    · have e0 : ws = [] := by
        cases ws with
        | nil => rfl
        | cons a b => simp at c
      subst e0
      walk_at "rd"
      refine d_ssort hS' F.nd (by omega) (partL_rise u a) (fun y => ?_) fun p fp => ?_
      · rw [mem_partL U ha]
        exact ⟨F.own y, F.all⟩
      · exact q _ p (same_upd sm (Same.free sm fp)) (Same.free sm fp) upd_same
/-- while the parts are found: the list M of the parts rs, the set S of the places ms -/
structure PI (wd : World) (H H3 : Hp) (M S : Addr) (rs : List Addr) (ps : List (List Nat)) (ms : List Nat) (H' : Hp) : Prop where
  sm : Same H H'
  two : ∀ b o, b ≠ M → b ≠ S → H3 b = some o → H' b = some o
  set : SetN wd H' S ms
  lst : H' M = some (.lst (rs.map V.ref))
  at_ : PartsAt H' rs ps
  free : ∀ r ∈ rs, H r = none
  nM : M ∉ rs
  nS : S ∉ rs
section
variable {wd : World} {H H3 H' H'' : Hp} {M S : Addr} {rs : List Addr} {ps : List (List Nat)} {ms : List Nat}
theorem PI.same (x : PI wd H H3 M S rs ps ms H') (s : Same H' H'') : PI wd H H3 M S rs ps ms H'' :=
  ⟨Same.trans x.sm s, fun b o h1 h2 e => s _ _ (x.two b o h1 h2 e), x.set.same s, s _ _ x.lst, x.at_.same s, x.free, x.nM, x.nS⟩
theorem PI.add (x : PI wd H H3 M S rs ps ms H') (fS : H S = none) {o : HO} {ms' : List Nat} (h : SetN wd (upd H' S o) S ms') : PI wd H H3 M S rs ps ms' (upd H' S o) :=
  ⟨same_upd x.sm fS, fun b u h1 h2 e => by rw [upd_ne h2]; exact x.two b u h1 h2 e, h, by rw [upd_ne (x.set.ne x.lst)]; exact x.lst, x.at_.keep (h := S) Keep.put x.nS, x.free, x.nM, x.nS⟩
theorem PI.app (x : PI wd H H3 M S rs ps ms H') (fM : H M = none) {p : Addr} {pl : List Nat} (e : H' p = some (.lst (natsV pl))) (fp : H p = none) (nM : p ≠ M) (nS : p ≠ S) : PI wd H H3 M S (rs ++ [p]) (ps ++ [pl]) ms (upd H' M (.lst (rs.map V.ref ++ [V.ref p]))) :=
  ⟨same_upd x.sm fM, fun b u h1 h2 e => by rw [upd_ne h1]; exact x.two b u h1 h2 e, x.set.at_ (x.set.ne x.lst), by rw [upd_same, List.map_append]; rfl,
    Paired.snoc (x.at_.keep (h := M) Keep.put x.nM) (by rw [upd_ne nM]; exact e),
    fun r hr => by
      rcases List.mem_append.mp hr with hr | hr
      · exact x.free r hr
      · rw [List.mem_singleton.mp hr]; exact fp,
    fun z => by
      rcases List.mem_append.mp z with z | z
      · exact x.nM z
      · exact nM (List.mem_singleton.mp z).symm,
    fun z => by
      rcases List.mem_append.mp z with z | z
      · exact x.nS z
      · exact nS (List.mem_singleton.mp z).symm⟩
end
/-- the parts, by their least places -/
def spParts (K : PySem.W.Frag) : Sp := fun vs H Q _ => ∃ v u, vs = [v] ∧ WebAt K H v u ∧ WOk u ∧ ∀ H' (T : Addr) (rs : List Addr), Same H H' → H T = none → (∀ r ∈ rs, H r = none) → T ∉ rs → H' T = some (.lst (rs.map V.ref)) → PartsAt H' rs (partsL u) → Q (.ref T) H'
theorem ok_parts (T : Tx K mg) : FnOk P w K mg base CX0 2 T.parts.f T.parts.fd ["web"] (spParts K) := by
  refine T.parts.F.ok sc_parts (fun vs H Q E h => ?_) (fun cdv A outer s H vs Q E hr h => ?_)
  · obtain ⟨_, _, rfl, _⟩ := h; rfl
  · obtain ⟨v, u, rfl, hw, U, q⟩ := h
    have l40 := U.few
    refine ⟨_, (pss_cons (ps_set (i := 1) sc_parts.nd rfl (.inl rfl) (pe_call (ok_all_neighbours T) (hr.mono (by decide)) (by rfl) T.all_neighbours.g T.all_neighbours.F.kp T.all_neighbours.b .nil pass0 (pa_cons (pv 0) pa_nil)))
      (pss_cons (ps_set (i := 2) sc_parts.nd rfl (.inl rfl) (pe_lst pa_nil))
      (pss_cons (ps_set (i := 3) sc_parts.nd rfl (.inl rfl) (pe_callTy0 (cr_set0w (wd := w) rfl) (by rfl) T.m_set (by decide +kernel)))
      (pss_cons (ps_for PassesOwn.never rfl (pi_range1 (by rfl) T.m_range (pa_cons (pe_callB call_len_seq (by rfl) T.m_len (by decide +kernel) (pa_cons (pv 1) pa_nil)) pa_nil)) (pg_name (i := 4) sc_parts.nd rfl (.inl rfl))
        (pss_one (ps_if (pt_cmpR or_snotin (pv 4) (pv 3) (by rfl))
          (pss_cons (ps_set (i := 5) sc_parts.nd rfl (.inl rfl) (pe_call (ok_part_from T) (hr.mono (by decide)) (by rfl) T.part_from.g T.part_from.F.kp T.part_from.b .nil pass0 (pa_cons (pv 1) (pa_cons (pv 4) pa_nil))))
          (pss_cons (ps_expr (pe_bm PySem.F.plainAttrs_list PySem.F.slot_list_append PySem.F.type_list_append mt_append (pv 2) (pa_cons (pv 5) pa_nil)))
          (pss_one (ps_for PassesOwn.never rfl (pi_list (pv 5)) (pg_name (i := 6) sc_parts.nd rfl (.inl rfl))
            (pss_one (ps_expr (pe_sadd (pv 3) (pa_cons (pv 6) pa_nil))))))))
          pss_nil)))
      (pss_one (ps_ret (pv 2))))))), ?_⟩
    walk_at "rd"
    refine ⟨v, u, rfl, hw, U, fun H1 D as s1 fD eD la nd nD fa hN => ?_⟩
    walk_at "rd"
    refine ⟨sz (by decide), fun M fM => ?_⟩
    walk_at "rd"
    have sM := same_new (o := .lst []) fM
    have sM' := sM
    have eM := upd_same (H := H1) (a := M) (o := .lst [])
    have eD1 := sM _ _ eD
    have nb1 : NbAt (upd H1 M (.lst [])) D u := ⟨as, eD1, la, fun j a h => sM _ _ (hN j a h)⟩
    have fM0 := Same.free s1 fM
    have s2 := Same.trans s1 sM
    generalize upd H1 M (.lst []) = H2 at eM eD1 nb1 s2 sM' ⊢
    refine ⟨rfl, fun S fS => ?_⟩
    walk_at "rd"
    have sS := same_new (o := SetO w S (fun _ => false) 0) fS
    have hS : SetN w (upd H2 S (SetO w S (fun _ => false) 0)) S [] := SetN.new upd_same
    have eM2 := sS _ _ eM
    have nb2 := nb1.same sS
    have eD2 := sS _ _ eD1
    have fS0 := Same.free s2 fS
    have s3 := Same.trans s2 sS
    have nMS : M ≠ S := hS.ne eM2
    have fM1 : H1 M = none := fM
    have fS1 : H1 S = none := Same.free sM' fS
    have nDM : D ≠ M := ne_of_none eD fM1
    have nDS : D ≠ S := ne_of_none eD fS1
    have P0 : PI w H (upd H2 S (SetO w S (fun _ => false) 0)) M S [] (partsN u 0) [] (upd H2 S (SetO w S (fun _ => false) 0)) := ⟨s3, fun _ _ _ _ e => e, hS, eM2, .nil, by simp, by simp, by simp⟩
    have nb3 : ∀ {H' : Hp} {rs ps ms}, PI w H (upd H2 S (SetO w S (fun _ => false) 0)) M S rs ps ms H' → NbAt H' D u := fun x => ⟨as, x.two _ _ nDM nDS eD2, la, fun j a h => x.two _ _ (ne_of_none (hN j a h) fM1) (ne_of_none (hN j a h) fS1) (sS _ _ (sM' _ _ (hN j a h)))⟩
    generalize upd H2 S (SetO w S (fun _ => false) 0) = H3 at hS eM2 nb2 eD2 s3 P0 nb3 ⊢
    refine d_lenL (SqL.of eD2) ?_
    rw [List.length_map, la]
    walk_at "rd"
    refine for_range (fun i σ H' => ∃ y4 y5 y6 rs ms, σ = [some v, some (.ref D), some (.ref M), some (.ref S), y4, y5, y6] ∧ PI w H H3 M S rs (partsN u i) ms H' ∧ (∀ y, y ∈ ms ↔ ∃ a, a < i ∧ Rch u.2 a y) ∧ ms.length ≤ 40 * i)
      ⟨_, _, _, [], [], rfl, P0, fun y => by simp, by simp⟩ (fun i σ H' hi hP => ?_) (fun σ H' hP => ?_)
    · obtain ⟨y4, y5, y6, rs, ms, rfl, X, mem, lms⟩ := hP
      have hi' : i < u.1.length := hi
      walk_at "rd"
      simp only [Int.zero_add]
      refine d_snotin X.set ?_
      walk_at "rd"
      refine ite2 (fun c => ?_) (fun c => ?_)
      · have nz : i ∉ ms := by simpa using c
        have li : Lst u i := Classical.byContradiction fun z => nz ((mem i).mpr ((seen_iff U).mpr z))
        walk_at "rd"
        refine ⟨D, u, i, rfl, nb3 X, U, hi', fun H4 p s4 fp ep => ?_⟩
        have X4 := X.same s4
        have fp0 := Same.free X.sm fp
        have npM : p ≠ M := (ne_of_none X.lst fp).symm
        have npS : p ≠ S := fun z => by
          obtain ⟨_, _, e, _⟩ := id X.set
          rw [z, e] at fp; cases fp
        walk_at "rd"
        refine d_app X4.lst ?_
        walk_at "rd"
        have lrs : rs.length ≤ 40 := by
          have := Paired.length X.at_
          have := partsN_len u i
          omega
        refine d_append X4.lst (szl (by rw [List.length_map]; omega)) ?_
        have X5 := X4.app fM0 ep fp0 npM npS
        have ep5 : (upd H4 M (.lst (rs.map V.ref ++ [V.ref p]))) p = some (.lst (natsV (partL u i))) := by rw [upd_ne npM]; exact ep
        generalize upd H4 M (.lst (rs.map V.ref ++ [V.ref p])) = H5 at X5 ep5 ⊢
        have lp := partL_len u i
        walk_at "rd"
        refine d_iLe (SqL.of ep5) ?_
        refine for_it (walk_list (K := K) (xs := natsV (partL u i))) (fun j σ H6 => ∃ y6 ms1, σ = [some v, some (.ref D), some (.ref M), some (.ref S), some (.int (i : Nat)), some (.ref p), y6] ∧ PI w H H3 M S (rs ++ [p]) (partsN u i ++ [partL u i]) ms1 H6 ∧ H6 p = some (.lst (natsV (partL u i))) ∧ (∀ y, y ∈ ms1 ↔ y ∈ ms ∨ y ∈ (partL u i).take j) ∧ ms1.length ≤ ms.length + j)
          ⟨_, ms, rfl, X5, ep5, fun y => by simp, Nat.le_refl _⟩ (fun j σ H6 hj hP => ?_) (fun j y σ H0 H6 hj hP hy => ?_) (fun σ H6 hP => ?_)
        · obtain ⟨_, _, _, _, e, _⟩ := hP
          exact SqL.of e
        · obtain ⟨z6, ms1, rfl, X6, ep6, mem6, l6⟩ := hP
          obtain ⟨rfl, hy⟩ := hy
          rw [List.getElem?_map] at hy
          obtain ⟨z, hz, rfl⟩ := Option.map_eq_some_iff.mp hy
          rw [List.length_map] at hj
          walk_at "rd"
          refine d_tsadd ?_
          walk_at "rd"
          refine d_sadd0 X6.set ?_
          walk_at "rd"
          refine d_sadd X6.set (by omega) fun o ms2 hS7 mem7 l7 _ => ?_
          walk_at "rd"
          refine ⟨_, ms2, rfl, X6.add fS0 hS7, by rw [upd_ne npS]; exact ep6, fun y => ?_, by omega⟩
          rw [mem7, mem6, take_snoc hz, List.mem_append, List.mem_singleton, or_assoc]
        · obtain ⟨z6, ms1, rfl, X6, ep6, mem6, l6⟩ := hP
          rw [List.length_map] at mem6 l6
          walk_at "rd"
          refine ⟨_, _, _, rs ++ [p], ms1, rfl, ?_, fun y => ?_, by omega⟩
          · rw [partsN_succ, if_pos (dec_true li)]
            exact X6
          · rw [mem6, List.take_length, mem_partL U hi', mem]
            constructor
            · rintro (⟨a, h1, h2⟩ | h)
              · exact ⟨a, by omega, h2⟩
              · exact ⟨i, by omega, h⟩
            · rintro ⟨a, h1, h2⟩
              rcases Nat.lt_or_ge a i with c1 | c1
              · exact .inl ⟨a, c1, h2⟩
              · have : a = i := by omega
                subst this
                exact .inr h2
      · have nz : i ∈ ms := by simpa using c
        have sn := (mem i).mp nz
        have nl := (seen_iff U).mp sn
        walk_at "rd"
        refine ⟨_, _, _, rs, ms, rfl, by rw [partsN_succ, if_neg (by rw [dec_false nl]; decide), List.append_nil]; exact X, fun y => ?_, by omega⟩
        rw [mem]
        constructor
        · rintro ⟨a, h1, h2⟩
          exact ⟨a, by omega, h2⟩
        · rintro ⟨a, h1, h2⟩
          rcases Nat.lt_or_ge a i with c1 | c1
          · exact ⟨a, c1, h2⟩
          · have : a = i := by omega
            subst this
            obtain ⟨b, h3, h4⟩ := sn
            exact ⟨b, h3, h4.trans h2⟩
    · obtain ⟨y4, y5, y6, rs, ms, rfl, X, mem, lms⟩ := hP
      walk_at "rd"
      exact q H' M rs X.sm fM0 X.free X.nM X.lst X.at_
/-- whether it hangs together -/
def spHangs (K : PySem.W.Frag) : Sp := fun vs H Q _ => ∃ v u, vs = [v] ∧ WebAt K H v u ∧ WOk u ∧ ∀ H', Same H H' → Q (.bl (decide ((partsL u).length < 2))) H'
theorem ok_hangs (T : Tx K mg) : FnOk P w K mg base CX0 3 T.hangs.f T.hangs.fd ["web"] (spHangs K) := by
  refine T.hangs.F.ok sc_hangs (fun vs H Q E h => ?_) (fun cdv A outer s H vs Q E hr h => ?_)
  · obtain ⟨_, _, rfl, _⟩ := h; rfl
  · obtain ⟨v, u, rfl, hw, U, q⟩ := h
    refine ⟨_, (pss_one (ps_ret (pe_cmpR op_lt (pe_callB call_len_seq (by rfl) T.m_len (by decide +kernel) (pa_cons (pe_call (ok_parts T) (hr.mono (by decide)) (by rfl) T.parts.g T.parts.F.kp T.parts.b .nil pass0 (pa_cons (pv 0) pa_nil)) pa_nil)) pe_int (nomark _)))), ?_⟩
    walk_at "rd"
    refine ⟨v, u, rfl, hw, U, fun H1 M rs s1 fM fr nM eM pa => ?_⟩
    walk_at "rd"
    refine d_lenL (SqL.of eM) ?_
    walk_at "rd"
    have e : decide (((rs.map V.ref).length : Int) < 2) = decide ((partsL u).length < 2) := by
      rw [List.length_map, Paired.length pa]
      exact decide_eq_decide.mpr (by omega)
    rw [e]
    exact q H1 s1
/-- all places of a lead are on a tie, and none else -/
def spOn (K : PySem.W.Frag) : Sp := fun vs H Q _ => ∃ (f l : Addr) (tvs pvs : List V) (ts : List Tie) (ld : Lead), vs = [.ref f, .ref l] ∧ H f = some (.lst tvs) ∧ Ties K H tvs ts ∧ H l = some (.lst pvs) ∧ Pairs K H pvs ld ∧ ts.length ≤ 1600 ∧ ld.length ≤ 40 ∧ ∀ H', Same H H' → Q (.bl (onTiesB ts ld)) H'
theorem ok_are_on_ties (T : Tx K mg) : FnOk P w K mg base CX0 1 T.are_on_ties.f T.are_on_ties.fd ["led", "lead"] (spOn K) := by
  refine T.are_on_ties.F.ok sc_are_on_ties (fun vs H Q E h => ?_) (fun cdv A outer s H vs Q E hr h => ?_)
  · obtain ⟨_, _, _, _, _, _, rfl, _⟩ := h; rfl
  · obtain ⟨f, l, tvs, pvs, ts, ld, rfl, ef, tT, el, pL, few, few2, q⟩ := h
    refine ⟨_, (pss_one (ps_ret (pe_cmpR (op_eqSets (wd := w) rfl (Nat.lt_of_le_of_lt (Nat.le_add_right _ _) hr.units)) (pe_scI (g := (gTup K 2 (gCons (gName 2) (gCons (gName 3) gNil)))) (te := tVar 2) (own := [("place", 2), ("_", 3)]) rfl sc_are_on_ties.nd (pi_list (pv 1)) (blkOk_by (N := ["led", "lead", "place", "_", "tie"]) (sc := defScope s_are_on_ties) (by decide +kernel)) (fun _ _ _ _ _ => (pg_tup rfl (pgs_cons (pg_name (i := 2) sc_are_on_ties.nd rfl (.inl rfl)) (pgs_cons (pg_name (i := 3) sc_are_on_ties.nd rfl (.inl rfl)) pgs_nil)))) (fun _ _ _ _ _ => (pv 2))) (pe_scI2 (g := (gName 4)) (wi1 := iTup K (tSl (rSlT K) (tVar 4) tNoPart (tPart (tC (.int 2))))) (g1 := (gName 2)) (te := tVar 2) (own := [("tie", 4), ("place", 2)]) (vs1 := [2]) rfl sc_are_on_ties.nd (pi_list (pv 0)) (blkOk_by (N := ["led", "lead", "place", "_", "tie"]) (sc := defScope s_are_on_ties) (by decide +kernel)) (by decide) (fun _ _ _ _ _ => (pg_name (i := 4) sc_are_on_ties.nd rfl (.inl rfl))) (fun _ _ _ _ _ => pi_tup (pe_slice sl_tup (pv 4) po_none (po_some pe_int))) (fun _ _ _ _ _ => (pg_name (i := 2) sc_are_on_ties.nd rfl (.inl rfl))) (fun _ _ _ _ _ => (pv 2))) (nomark _)))), ?_⟩
    walk_at "rd"
    refine d_tsc ?_
    walk_at "rd"
    refine d_iLe (SqL.of el) ?_
    intro D fD
    refine sc1_it (walk_list (K := K) (xs := pvs)) (fun i H1 => ∃ ms, SetN w H1 D ms ∧ (∀ k, k ∈ ms ↔ ∃ p ∈ ld.take i, p.1 = k) ∧ ms.length ≤ i ∧ Same H H1) ⟨[], SetN.new upd_same, by simp, Nat.le_refl _, same_new fD⟩ (fun i H1 _ hP => ?_) (fun i x H1 H1' hi hP hy => ?_) (fun H1 hP => ?_)
    · obtain ⟨_, _, _, _, s1⟩ := hP
      exact SqL.of (s1 _ _ el)
    · obtain ⟨ms, xs, hm, lm, s1⟩ := hP
      obtain ⟨rfl, hx⟩ := hy
      obtain ⟨t, ht, pt, rfl, qt⟩ := Paired.at pL hx
      have lpv := pL.len
      refine d_gtup (Same.sqt s1 qt) rfl ?_
      walk_at "rd"
      refine put_nat (w := w) xs (by omega) fun o ms' h1 h2 h3 => ⟨ms', h1, fun k => ?_, by omega, same_upd s1 fD⟩
      rw [h2, hm, take_snoc ht]
      constructor
      · rintro (⟨p, hp, e⟩ | e)
        · exact ⟨p, List.mem_append_left _ hp, e⟩
        · exact ⟨t, List.mem_append_right _ (List.mem_singleton.mpr rfl), e.symm⟩
      · rintro ⟨p, hp, e⟩
        rcases List.mem_append.mp hp with hp | hp
        · exact .inl ⟨p, hp, e⟩
        · rw [List.mem_singleton.mp hp] at e
          exact .inr e.symm
    · obtain ⟨ms, xs, hm, lm, s1⟩ := hP
      rw [pL.len, List.take_length] at hm
      walk_at "rd"
      refine d_tsc ?_
      walk_at "rd"
      refine d_iLe (SqL.of (s1 _ _ ef)) ?_
      intro F fF
      refine sc2_it (walk_list (K := K) (xs := tvs)) (fun i H2 => ∃ ns, SetN w H2 F ns ∧ (∀ k, k ∈ ns ↔ ∃ t ∈ ts.take i, t.1 = k ∨ t.2.1 = k) ∧ ns.length ≤ 2 * i ∧ Same H1 H2) ⟨[], SetN.new upd_same, by simp, Nat.le_refl _, same_new fF⟩ (fun i H2 _ hP => ?_) (fun i x H2 H2' hi hP hy => ?_) (fun H2 hP => ?_)
      · obtain ⟨_, _, _, _, s2⟩ := hP
        exact SqL.of (s2 _ _ (s1 _ _ ef))
      · obtain ⟨ns, ys, hn, ln, s2⟩ := hP
        obtain ⟨rfl, hx⟩ := hy
        obtain ⟨t, ht, pt, rfl, qt⟩ := Paired.at tT hx
        have ltv : tvs.length = ts.length := tT.len
        have s02 := Same.trans s1 s2
        walk_at "rd"
        refine ⟨pt, _, rfl, Same.sqt s02 qt, (show ¬ (HT.sIx 3 0 none = 0 ∧ HT.sIx 3 3 (some 2) = 3) by decide), fun p1 f1 => ?_⟩
        rw [show cutV [V.int (t.1 : Nat), V.int (t.2.1 : Nat), V.str (sg t.2.2)] none (some 2) = [V.int (t.1 : Nat), V.int (t.2.1 : Nat)] from rfl]
        have s3 := same_new (o := .tup [V.int (t.1 : Nat), V.int (t.2.1 : Nat)]) f1
        have e1 := upd_same (H := H2') (a := p1) (o := .tup [V.int (t.1 : Nat), V.int (t.2.1 : Nat)])
        generalize upd H2' p1 (.tup [V.int (t.1 : Nat), V.int (t.2.1 : Nat)]) = H3 at s3 e1 ⊢
        have s13 := Same.trans s2 s3
        walk_at "rd"
        refine d_iTe (SqT.of e1) ?_
        refine sc1_it (walk_tup (K := K) (xs := [V.int (t.1 : Nat), V.int (t.2.1 : Nat)])) (fun j H4 => ∃ ns', SetN w H4 F ns' ∧ (∀ k, k ∈ ns' ↔ k ∈ ns ∨ k ∈ [t.1, t.2.1].take j) ∧ ns'.length ≤ 2 * i + j ∧ Same H1 H4 ∧ H4 p1 = some (.tup [V.int (t.1 : Nat), V.int (t.2.1 : Nat)]))
          ⟨ns, ys.same s3, by simp, by omega, s13, e1⟩ (fun j H4 _ hP => ?_) (fun j x H4 H4' hj hP hy => ?_) (fun H4 hP => ?_)
        · obtain ⟨_, _, _, _, _, e4⟩ := hP
          exact SqT.of e4
        · obtain ⟨ns', ys', hn', ln', s4, e4⟩ := hP
          obtain ⟨rfl, hx2⟩ := hy
          have key : ∃ q, [t.1, t.2.1][j]? = some q ∧ x = V.int (q : Nat) := by
            match j, hj with
            | 0, _ => cases hx2; exact ⟨t.1, rfl, rfl⟩
            | 1, _ => cases hx2; exact ⟨t.2.1, rfl, rfl⟩
          obtain ⟨q0, hq, rfl⟩ := key
          have lj : j < 2 := hj
          have nF : p1 ≠ F := by
            obtain ⟨_, _, e5, _⟩ := ys'
            exact ne_of e4 e5 (by intro z; cases z)
          walk_at "rd"
          refine put_nat (w := w) ys' (by omega) fun o ms' h1 h2 h3 => ⟨ms', h1, fun k => ?_, by omega, same_upd s4 fF, by rw [upd_ne nF]; exact e4⟩
          rw [h2, hn', take_snoc hq, List.mem_append, List.mem_singleton, or_assoc]
        · obtain ⟨ns', ys', hn', ln', s4, _⟩ := hP
          refine ⟨ns', ys', fun k => ?_, by show ns'.length ≤ 2 * (i + 1); have : [V.int (t.1 : Nat), V.int (t.2.1 : Nat)].length = 2 := rfl; omega, s4⟩
          rw [hn', hn, take_snoc ht]
          show _ ∨ k ∈ [t.1, t.2.1] ↔ _
          constructor
          · rintro (⟨z, hz, e⟩ | e)
            · exact ⟨z, List.mem_append_left _ hz, e⟩
            · refine ⟨t, List.mem_append_right _ (List.mem_singleton.mpr rfl), ?_⟩
              rcases List.mem_cons.mp e with e | e
              · exact .inl e.symm
              · exact .inr (List.mem_singleton.mp e).symm
          · rintro ⟨z, hz, e⟩
            rcases List.mem_append.mp hz with hz | hz
            · exact .inl ⟨z, hz, e⟩
            · rw [List.mem_singleton.mp hz] at e
              refine .inr (e.elim (fun e => e ▸ List.mem_cons_self) fun e => e ▸ List.mem_cons_of_mem _ List.mem_cons_self)
      · obtain ⟨ns, ys, hn, ln, s2⟩ := hP
        rw [tT.len, List.take_length] at hn
        refine setN_eq (w := w) (xs.same s2) ys (onTies_iff hm hn) ?_
        exact q _ (Same.trans s1 s2)
theorem rise_same {os qs : List Nat} (pm : os.Perm qs) (a : os.Pairwise (· < ·)) (b : qs.Pairwise (· < ·)) : os = qs := pm.eq_of_pairwise (le := (· < ·)) (fun x y _ _ h1 h2 => by omega) a b
/-- a lead's places hang together by some ties -/
def spHang (K : PySem.W.Frag) : Sp := fun vs H Q _ => ∃ (u u' : Web) (f l : Addr) (tvs pvs : List V) (ts : List Tie) (ld : Lead), vs = [.str ⟨u.1.toArray⟩, .ref f, .ref l] ∧ (SqL K H f tvs ∨ SqT K H f tvs) ∧ Ties K H tvs ts ∧ WOk (ledW u ts) ∧ H l = some (.lst pvs) ∧ Pairs K H pvs ld ∧ LOk u u' ld ∧ ld.length ≤ 40 ∧ ∀ H', Same H H' → Q (.bl (hangB u ts ld)) H'
theorem ok_hang_by (T : Tx K mg) : FnOk P w K mg base CX0 4 T.hang_by.f T.hang_by.fd ["kinds", "ties", "lead"] (spHang K) := by
  refine T.hang_by.F.ok sc_hang_by (fun vs H Q E h => ?_) (fun cdv A outer s H vs Q E hr h => ?_)
  · obtain ⟨_, _, _, _, _, _, _, _, rfl, _⟩ := h; rfl
  · obtain ⟨u, u', f, l, tvs, pvs, ts, ld, rfl, sq, tT, W, el, pL, L, few, q⟩ := h
    refine ⟨_, (pss_one (ps_ret (pe_call (ok_hangs T) (hr.mono (by decide)) (by rfl) T.hangs.g T.hangs.F.kp T.hangs.b .nil pass0 (pa_cons (pe_call (ok_cut T) (hr.mono (by decide)) (by rfl) T.cut.g T.cut.F.kp T.cut.b .nil pass0 (pa_cons (pe_tup (pa_cons (pv 0) (pa_cons (pe_callTy call_tuple_of (by rfl) T.m_tuple (by decide +kernel) (pa_cons (pv 1) pa_nil)) pa_nil))) (pa_cons (pe_lc (own := [("place", 3), ("_", 4)]) (g := gTup K 2 (gCons (gName 3) (gCons (gName 4) gNil))) (tt := tYes) rfl sc_hang_by.nd (pi_list (pv 2)) (blkOk_by (N := ["kinds", "ties", "lead", "place", "_"]) (sc := defScope s_hang_by) (by decide +kernel)) (fun _ _ _ _ _ => (pg_tup rfl (pgs_cons (pg_name (i := 3) sc_hang_by.nd rfl (.inl rfl)) (pgs_cons (pg_name (i := 4) sc_hang_by.nd rfl (.inl rfl)) pgs_nil)))) (fun _ _ _ _ _ => pts_nil) (fun _ _ _ _ _ => (pv 3))) pa_nil))) pa_nil)))), ?_⟩
    walk_at "rd"
    rcases sq with sq | sq
    · refine ⟨f, tvs, rfl, .inl ⟨sq, fun t ft => ?_⟩⟩
      have s1 := same_new (o := .tup tvs) ft
      have qt : SqT K (upd H t (.tup tvs)) t tvs := SqT.of upd_same
      generalize upd H t (.tup tvs) = H1 at s1 qt ⊢
      walk_at "rd"
      refine ⟨sz (by show 2 ≤ 100000; decide), fun p fp => ?_⟩
      have s2 := same_new (o := .tup [V.str ⟨u.1.toArray⟩, V.ref t]) fp
      have hw : WebAt K (upd H1 p (.tup [V.str ⟨u.1.toArray⟩, V.ref t])) (.ref p) (ledW u ts) := ⟨p, t, tvs, rfl, SqT.of upd_same, Same.sqt s2 qt, Paired.imp tT fun _ _ z => z.same (Same.trans s1 s2)⟩
      generalize upd H1 p (.tup [V.str ⟨u.1.toArray⟩, V.ref t]) = H2 at s2 hw ⊢
      have s02 := Same.trans s1 s2
      walk_at "rd"
      refine d_iLe (SqL.of (s02 _ _ el)) ?_
      intro F fF
      refine lc_list (K := K) (a := l) (xs := pvs) (fun m H3 => H3 F = some (.lst (((ld.map (·.1)).take m).map fun z => V.int (z : Nat))) ∧ Same H2 H3) ⟨by rw [List.take_zero]; exact upd_same, same_new fF⟩ (fun m H3 _ hP => SqL.of (hP.2 _ _ (s02 _ _ el))) (fun m x H3 hx hP => ?_) (fun H3 hP => ?_)
      · obtain ⟨eF, s3⟩ := hP
        obtain ⟨t', ht, pt, rfl, qt'⟩ := Paired.at pL hx
        have lpv := pL.len
        refine d_gtup (Same.sqt (Same.trans s02 s3) qt') rfl ?_
        walk_at "rd"
        have ht2 : (ld.map (·.1))[m]? = some t'.1 := by rw [List.getElem?_map, ht]; rfl
        refine ⟨_, eF, szl (by rw [List.length_map, List.length_take, List.length_map]; omega), ?_, same_upd s3 fF⟩
        rw [upd_same, take_snoc ht2, List.map_append]
        rfl
      · obtain ⟨eF, s3⟩ := hP
        rw [pL.len, show (ld.map (·.1)).take ld.length = ld.map (·.1) by rw [← List.length_map (f := fun x : Nat × Nat => x.1) (as := ld), List.take_length]] at eF
        have rise : (ld.map (·.1)).Pairwise (· < ·) := List.pairwise_map.mpr L.rise
        have inn : ∀ z ∈ ld.map (·.1), z < (ledW u ts).1.length := fun z hz => by
          obtain ⟨t', ht, rfl⟩ := List.mem_map.mp hz
          exact (L.like t' ht).1
        walk_at "rd"
        refine ⟨_, ledW u ts, F, ld.map (·.1), rfl, hw.same s3, W, eF, rise_nodup rise, inn, fun H4 v4 os s4 pm rs hc => ?_⟩
        obtain rfl := rise_same pm rs rise
        walk_at "rd"
        refine ⟨v4, _, rfl, hc, cutL_ok W rise inn, fun H5 s5 => ?_⟩
        exact q _ (Same.trans s02 (Same.trans s3 (Same.trans s4 s5)))
    · refine ⟨f, tvs, rfl, .inr ⟨sq, ?_⟩⟩
      have s1 := Same.refl H
      have qt := sq
      walk_at "rd"
      refine ⟨sz (by show 2 ≤ 100000; decide), fun p fp => ?_⟩
      have s2 := same_new (o := .tup [V.str ⟨u.1.toArray⟩, V.ref f]) fp
      have hw : WebAt K (upd H p (.tup [V.str ⟨u.1.toArray⟩, V.ref f])) (.ref p) (ledW u ts) := ⟨p, f, tvs, rfl, SqT.of upd_same, Same.sqt s2 qt, Paired.imp tT fun _ _ z => z.same (Same.trans s1 s2)⟩
      generalize upd H p (.tup [V.str ⟨u.1.toArray⟩, V.ref f]) = H2 at s2 hw ⊢
      have s02 := Same.trans s1 s2
      walk_at "rd"
      refine d_iLe (SqL.of (s02 _ _ el)) ?_
      intro F fF
      refine lc_list (K := K) (a := l) (xs := pvs) (fun m H3 => H3 F = some (.lst (((ld.map (·.1)).take m).map fun z => V.int (z : Nat))) ∧ Same H2 H3) ⟨by rw [List.take_zero]; exact upd_same, same_new fF⟩ (fun m H3 _ hP => SqL.of (hP.2 _ _ (s02 _ _ el))) (fun m x H3 hx hP => ?_) (fun H3 hP => ?_)
      · obtain ⟨eF, s3⟩ := hP
        obtain ⟨t', ht, pt, rfl, qt'⟩ := Paired.at pL hx
        have lpv := pL.len
        refine d_gtup (Same.sqt (Same.trans s02 s3) qt') rfl ?_
        walk_at "rd"
        have ht2 : (ld.map (·.1))[m]? = some t'.1 := by rw [List.getElem?_map, ht]; rfl
        refine ⟨_, eF, szl (by rw [List.length_map, List.length_take, List.length_map]; omega), ?_, same_upd s3 fF⟩
        rw [upd_same, take_snoc ht2, List.map_append]
        rfl
      · obtain ⟨eF, s3⟩ := hP
        rw [pL.len, show (ld.map (·.1)).take ld.length = ld.map (·.1) by rw [← List.length_map (f := fun x : Nat × Nat => x.1) (as := ld), List.take_length]] at eF
        have rise : (ld.map (·.1)).Pairwise (· < ·) := List.pairwise_map.mpr L.rise
        have inn : ∀ z ∈ ld.map (·.1), z < (ledW u ts).1.length := fun z hz => by
          obtain ⟨t', ht, rfl⟩ := List.mem_map.mp hz
          exact (L.like t' ht).1
        walk_at "rd"
        refine ⟨_, ledW u ts, F, ld.map (·.1), rfl, hw.same s3, W, eF, rise_nodup rise, inn, fun H4 v4 os s4 pm rs hc => ?_⟩
        obtain rfl := rise_same pm rs rise
        walk_at "rd"
        refine ⟨v4, _, rfl, hc, cutL_ok W rise inn, fun H5 s5 => ?_⟩
        exact q _ (Same.trans s02 (Same.trans s3 (Same.trans s4 s5)))
/-- a piece by either measure, together or not -/
def spPiece (K : PySem.W.Frag) : Sp := fun vs H Q _ => ∃ (v v' : V) (l : Addr) (u u' : Web) (pvs : List V) (ld : Lead) (li tg : Bool), vs = [v, v', .ref l, .str (Str.ofString (if li then "lies" else "ties")), .bl tg] ∧ WebAt K H v u ∧ WOk u ∧ WebAt K H v' u' ∧ WOk u' ∧ H l = some (.lst pvs) ∧ Pairs K H pvs ld ∧ LOk u u' ld ∧ ∀ H', Same H H' → Q (.bl (pieceB u u' ld li tg)) H'
theorem ok_is_piece (T : Tx K mg) : FnOk P w K mg base CX0 5 T.is_piece.f T.is_piece.fd ["one", "other", "lead", "how", "together"] (spPiece K) := by
  refine T.is_piece.F.ok sc_is_piece (fun vs H Q E h => ?_) (fun cdv A outer s H vs Q E hr h => ?_)
  · obtain ⟨_, _, _, _, _, _, _, _, _, rfl, _⟩ := h; rfl
  · obtain ⟨v, v', l, u, u', pvs, ld, li, tg, rfl, hw, W, hw', W', el, pL, L, q⟩ := h
    obtain ⟨a, b, tvs, rfl, q1, q2, pT⟩ := id hw
    have few := L.few
    have l40 := W'.few
    refine ⟨_, (Evl.pss_cut (ps_if (pt_cmpR op_eq (pv 3) pe_str (nomark _))
        (pss_cons (ps_set (i := 5) sc_is_piece.nd rfl (.inl rfl) (pe_ix ix_tup (pv 0) pe_int (fun _ _ => rfl)))
        (pss_one (ps_set (i := 6) sc_is_piece.nd rfl (.inl rfl) (pe_call (ok_lies T) (hr.mono (by decide)) (by rfl) T.lies.g T.lies.F.kp T.lies.b .nil pass0 (pa_cons (pv 0) (pa_cons (pv 1) (pa_cons (pv 2) pa_nil)))))))
        (pss_cons (ps_set (i := 5) sc_is_piece.nd rfl (.inl rfl) (pe_call (ok_led_ties T) (hr.mono (by decide)) (by rfl) T.led_ties.g T.led_ties.F.kp T.led_ties.b .nil pass0 (pa_cons (pv 0) (pa_cons (pv 1) (pa_cons (pv 2) pa_nil)))))
        (pss_one (ps_set (i := 6) sc_is_piece.nd rfl (.inl rfl) (pe_call (ok_are_on_ties T) (hr.mono (by decide)) (by rfl) T.are_on_ties.g T.are_on_ties.F.kp T.are_on_ties.b .nil pass0 (pa_cons (pv 5) (pa_cons (pv 2) pa_nil)))))))
      (pss_one (ps_ret (pe_and (pv 6) (pe_one (pe_or (pe_not (pv 4)) (pe_one (pe_call (ok_hang_by T) (hr.mono (by decide)) (by rfl) T.hang_by.g T.hang_by.F.kp T.hang_by.b .nil pass0 (pa_cons (pe_ix ix_tup (pv 0) pe_int (fun _ _ => rfl)) (pa_cons (pv 5) (pa_cons (pv 2) pa_nil))))))))))), ?_⟩
    walk_at "rd"
    refine d_cut (fun σ H' => ∃ (f : Addr) (xs : List V) (ts : List Tie) (b0 : Bool), σ = [some (.ref a), some v', some (.ref l), some (.str (Str.ofString (if li then "lies" else "ties"))), some (.bl tg), some (.ref f), some (.bl b0)] ∧ Same H H' ∧ (SqL K H' f xs ∨ SqT K H' f xs) ∧ Ties K H' xs ts ∧ WOk (ledW u ts) ∧ ts = (if li then u.2 else dueL u u' ld) ∧ b0 = (if li then lieB u u' ld else onTiesB (dueL u u' ld) ld)) ?_ (fun σ H' hM => ?_)
    · cases li with
      | true =>
        walk_at "rd"
        refine ⟨rfl, ?_⟩
        rw [show decide (V.str (Str.ofString (if true then "lies" else "ties")) = V.str (Str.ofString "lies")) = true by simp]
        walk_at "rd"
        refine d_ixT q1 rfl ?_
        walk_at "rd"
        refine ⟨_, v', l, u, u', pvs, ld, rfl, hw, W, hw', W', el, pL, by omega, fun H1 s1 => ?_⟩
        walk_at "rd"
        exact ⟨b, tvs, u.2, _, rfl, s1, .inr (Same.sqt s1 q2), Paired.imp pT fun _ _ z => z.same s1, W, rfl, rfl⟩
      | false =>
        walk_at "rd"
        refine ⟨rfl, ?_⟩
        rw [show decide (V.str (Str.ofString (if false then "lies" else "ties")) = V.str (Str.ofString "lies")) = false by decide +kernel]
        walk_at "rd"
        refine ⟨_, v', l, u, u', pvs, ld, rfl, hw, W, hw', W', el, pL, L, fun H1 f xs s1 ff ef tt => ?_⟩
        walk_at "rd"
        refine ⟨f, l, xs, pvs, _, ld, rfl, ef, tt, s1 _ _ el, pL.same s1, Nat.le_trans (List.length_filter_le _ _) W.most, by omega, fun H2 s2 => ?_⟩
        walk_at "rd"
        exact ⟨f, xs, _, _, rfl, Same.trans s1 s2, .inl (SqL.of (s2 _ _ ef)), tt.same s2, led_wok W ld, rfl, rfl⟩
    · obtain ⟨f, xs, ts, b0, rfl, s1, sq, tt, WL, ets, eb0⟩ := hM
      have fin : ∀ H2 x, Same H H2 → x = (b0 && (!tg || hangB u ts ld)) → Q (.bl x) H2 := fun H2 x s2 e => by
        have z := q H2 s2
        unfold pieceB at z
        rw [← eb0, ← ets, ← e] at z
        exact z
      walk_at "rd"
      cases b0 with
      | false =>
        walk_at "rd"
        exact fin _ _ s1 rfl
      | true =>
        refine iteT ?_
        cases tg with
        | false => exact ⟨.bl false, rfl, false, rfl, true, rfl, iteT (fin _ _ s1 rfl)⟩
        | true =>
          refine ⟨.bl true, rfl, true, rfl, false, rfl, iteF ?_⟩
          walk_at "rd"
          refine d_ixT (Same.sqt s1 q1) rfl ?_
          walk_at "rd"
          refine ⟨u, u', f, l, xs, pvs, ts, ld, rfl, sq, tt, WL, s1 _ _ el, pL.same s1, L, by omega, fun H2 s2 => ?_⟩
          exact fin _ _ (Same.trans s1 s2) rfl
/-- the size of a piece, both measures -/
def spSizeOf (K : PySem.W.Frag) : Sp := fun vs H Q _ => ∃ (v v' : V) (l : Addr) (pvs : List V), H l = some (.lst pvs) ∧ pvs.length ≤ 100000 ∧ ((vs = [v, v', .ref l, .str (Str.ofString "lies")] ∧ ∀ H', Same H H' → Q (.int (pvs.length : Nat)) H') ∨
  (vs = [v, v', .ref l, .str (Str.ofString "ties")] ∧ ∃ (w w' : Web) (ld : Lead), WebAt K H v w ∧ WOk w ∧ WebAt K H v' w' ∧ WOk w' ∧ Pairs K H pvs ld ∧ LOk w w' ld ∧ ∀ H', Same H H' → Q (.int ((dueL w w' ld).length : Nat)) H'))
theorem ok_size_of (T : Tx K mg) : FnOk P w K mg base CX0 3 T.size_of.f T.size_of.fd ["one", "other", "lead", "how"] (spSizeOf K) := by
  refine T.size_of.F.ok sc_size_of (fun vs H Q E h => ?_) (fun cdv A outer s H vs Q E hr h => ?_)
  · obtain ⟨_, _, _, _, _, _, ⟨rfl, _⟩ | ⟨rfl, _⟩⟩ := h <;> rfl
  · obtain ⟨v, v', l, pvs, el, ll, h⟩ := h
    refine ⟨_, (pss_cons (ps_if (pt_cmpR op_eq (pv 3) pe_str (nomark _))
        (pss_one (ps_ret (pe_callB call_len_seq (by rfl) T.m_len (by decide +kernel) (pa_cons (pv 2) pa_nil))))
        pss_nil)
      (pss_one (ps_ret (pe_callB call_len_seq (by rfl) T.m_len (by decide +kernel) (pa_cons (pe_call (ok_led_ties T) (hr.mono (by decide)) (by rfl) T.led_ties.g T.led_ties.F.kp T.led_ties.b .nil pass0 (pa_cons (pv 0) (pa_cons (pv 1) (pa_cons (pv 2) pa_nil)))) pa_nil))))), ?_⟩
    rcases h with ⟨rfl, q⟩ | ⟨rfl, w, w', ld, hw, W, hw', W', pp, L, q⟩
    · walk_at "rd"
      refine ⟨rfl, ?_⟩
      rw [show decide (V.str (Str.ofString "lies") = V.str (Str.ofString "lies")) = true by simp]
      walk_at "rd"
      refine d_lenL (SqL.of el) ?_
      walk_at "rd"
      exact q _ (Same.refl _)
    · walk_at "rd"
      refine ⟨rfl, ?_⟩
      rw [show decide (V.str (Str.ofString "ties") = V.str (Str.ofString "lies")) = false by decide +kernel]
      walk_at "rd"
      refine ⟨v, v', l, w, w', pvs, ld, rfl, hw, W, hw', W', el, pp, L, fun H1 f tvs s1 ff ef tt => ?_⟩
      refine d_lenL (SqL.of ef) ?_
      walk_at "rd"
      rw [tt.len]
      exact q _ s1
def spBothRight (K : PySem.W.Frag) : Sp := fun vs H Q _ => ∃ (v v' : V) (l : Addr) (u u' : Web) (pvs : List V) (ld : Lead), vs = [v, v', .ref l] ∧ WebAt K H v u ∧ WOk u ∧ WebAt K H v' u' ∧ WOk u' ∧ H l = some (.lst pvs) ∧ Pairs K H pvs ld ∧ LOk u u' ld ∧ ∀ H', Same H H' → Q (.bl true) H'
theorem eqv_ties : ∀ as bs : List Tie, PyData.eqvAll (as.map tieD) (bs.map tieD) = decide (as = bs)
  | [], [] => by simp [PyData.eqvAll]
  | [], _ :: _ => by simp [PyData.eqvAll]
  | _ :: _, [] => by simp [PyData.eqvAll]
  | a :: r, b :: t => by
    have ih := eqv_ties r t
    simp only [List.map_cons, PyData.eqvAll, ih]
    have e : PyData.eqv (tieD a) (tieD b) = decide (a = b) := by
      obtain ⟨a1, a2, a3⟩ := a
      obtain ⟨b1, b2, b3⟩ := b
      rw [Bool.eq_iff_iff, decide_eq_true_iff]
      simp [tieD, PyData.eqv, PyData.eqvAll, sg]
      omega
    rw [e, Bool.eq_iff_iff, Bool.and_eq_true, decide_eq_true_iff, decide_eq_true_iff, decide_eq_true_iff, List.cons.injEq]
theorem eqv_web (u v : Web) : PyData.eqv (webD u) (webD v) = decide (u = v) := by
  obtain ⟨a, b⟩ := u
  obtain ⟨c, d⟩ := v
  have := eqv_ties b d
  rw [Bool.eq_iff_iff, decide_eq_true_iff]
  simp [webD, PyData.eqv, PyData.eqvAll, this]
theorem ok_cut_right (T : Tx K mg) : FnOk P w K mg base CX0 6 T.cut_right.f T.cut_right.fd ["one", "other", "lead"] (spBothRight K) := by
  refine T.cut_right.F.ok sc_cut_right (fun vs H Q E h => ?_) (fun cdv A outer s H vs Q E hr h => ?_)
  · obtain ⟨_, _, _, _, _, _, _, rfl, _⟩ := h; rfl
  · obtain ⟨v, v', l, u, u', pvs, ld, rfl, hw, W, hw', W', eLd, pp, L, q⟩ := h
    have lpv := pp.len
    have few := L.few
    have l40 := W'.few
    refine ⟨_, (pss_cons (ps_set (i := 3) sc_cut_right.nd rfl (.inl rfl) (pe_call (ok_cut T) (hr.mono (by decide)) (by rfl) T.cut.g T.cut.F.kp T.cut.b .nil pass0 (pa_cons (pv 0) (pa_cons (pe_lc (own := [("pair", 7)]) (g := gName 7) (tt := tYes) (te := tOp (rIxT K) (tVar 7) (tC (.int 0))) rfl sc_cut_right.nd (pi_list (pv 2)) (blkOk_by (N := ["one", "other", "lead", "here", "there", "order", "alike", "pair"]) (sc := defScope s_cut_right) (by decide +kernel)) (fun _ _ _ _ _ => (pg_name (i := 7) sc_cut_right.nd rfl (.inl rfl))) (fun _ _ _ _ _ => pts_nil) (fun _ _ _ _ _ => (pe_ix ix_tup (pv 7) pe_int (fun _ _ => rfl)))) pa_nil))))
      (pss_cons (ps_set (i := 4) sc_cut_right.nd rfl (.inl rfl) (pe_call (ok_cut T) (hr.mono (by decide)) (by rfl) T.cut.g T.cut.F.kp T.cut.b .nil pass0 (pa_cons (pv 1) (pa_cons (pe_lc (own := [("pair", 7)]) (g := gName 7) (tt := tYes) (te := tOp (rIxT K) (tVar 7) (tC (.int 1))) rfl sc_cut_right.nd (pi_list (pv 2)) (blkOk_by (N := ["one", "other", "lead", "here", "there", "order", "alike", "pair"]) (sc := defScope s_cut_right) (by decide +kernel)) (fun _ _ _ _ _ => (pg_name (i := 7) sc_cut_right.nd rfl (.inl rfl))) (fun _ _ _ _ _ => pts_nil) (fun _ _ _ _ _ => (pe_ix ix_tup (pv 7) pe_int (fun _ _ => rfl)))) pa_nil))))
      (pss_cons (ps_set (i := 5) sc_cut_right.nd rfl (.inr rfl) (pe_callB cr_sortedI (by rfl) T.m_sorted (by decide +kernel) (pa_cons (pe_lc (own := [("pair", 7)]) (g := gName 7) (tt := tYes) (te := tOp (rIxT K) (tVar 7) (tC (.int 1))) rfl sc_cut_right.nd (pi_list (pv 2)) (blkOk_by (N := ["one", "other", "lead", "here", "there", "order", "alike", "pair"]) (sc := defScope s_cut_right) (by decide +kernel)) (fun _ _ _ _ _ => (pg_name (i := 7) sc_cut_right.nd rfl (.inl rfl))) (fun _ _ _ _ _ => pts_nil) (fun _ _ _ _ _ => (pe_ix ix_tup (pv 7) pe_int (fun _ _ => rfl)))) pa_nil)))
      (pss_cons (ps_set (i := 6) sc_cut_right.nd rfl (.inl rfl) (pe_cmpR (op_eqD (hr.units)) (pe_call (ok_named T) (hr.mono (by decide)) (by rfl) T.named.g T.named.F.kp T.named.b .nil pass0 (pa_cons (pv 3) (pa_cons (pe_lc (own := [("pair", 7)]) (g := gName 7) (tt := tYes) (te := tBM K "list" (rIndex K) (tVar 5) (tCons (tOp (rIxT K) (tVar 7) (tC (.int 1))) tNil)) rfl sc_cut_right.nd (pi_list (pv 2)) (blkOk_by (N := ["one", "other", "lead", "here", "there", "order", "alike", "pair"]) (sc := defScope s_cut_right) (by decide +kernel)) (fun _ _ _ _ _ => (pg_name (i := 7) sc_cut_right.nd rfl (.inl rfl))) (fun _ _ _ _ _ => pts_nil) (fun _ _ _ _ _ => (pe_bm PySem.F.plainAttrs_list PySem.F.slot_list_index PySem.F.type_list_index mt_index (pv 5) (pa_cons (pe_ix ix_tup (pv 7) pe_int (fun _ _ => rfl)) pa_nil)))) pa_nil))) (pv 4) (nomark _)))
      (pss_cons (ps_if (PW.pt (pw_or (pt_cmpR op_ne (pe_call (ok_lies T) (hr.mono (by decide)) (by rfl) T.lies.g T.lies.F.kp T.lies.b .nil pass0 (pa_cons (pv 0) (pa_cons (pv 1) (pa_cons (pv 2) pa_nil)))) (pv 6) (nomark _)) (pw_or1 (pt_cmpR op_ne (pe_call (ok_is_piece T) (hr.mono (by decide)) (by rfl) T.is_piece.g T.is_piece.F.kp T.is_piece.b .nil pass0 (pa_cons (pv 0) (pa_cons (pv 1) (pa_cons (pv 2) (pa_cons pe_str (pa_cons pe_bl pa_nil)))))) (pv 6) (nomark _)))))
        (pss_one (ps_ret pe_bl))
        pss_nil)
      (pss_one (ps_ret (pe_cmpR op_eq (pe_call (ok_is_piece T) (hr.mono (by decide)) (by rfl) T.is_piece.g T.is_piece.F.kp T.is_piece.b .nil pass0 (pa_cons (pv 0) (pa_cons (pv 1) (pa_cons (pv 2) (pa_cons pe_str (pa_cons pe_bl pa_nil)))))) (pe_and (pv 6) (pe_one (pe_call (ok_hangs T) (hr.mono (by decide)) (by rfl) T.hangs.g T.hangs.F.kp T.hangs.b .nil pass0 (pa_cons (pv 3) pa_nil)))) (nomark _))))))))), ?_⟩
    walk_at "rd"
    refine d_iLe (SqL.of eLd) ?_
    intro D fD
    refine lc_list (K := K) (a := l) (xs := pvs) (fun m H3 => H3 D = some (.lst (natsV ((ld.take m).map (·.1)))) ∧ Same H H3)
      ⟨upd_same, same_new fD⟩ (fun m H3 _ hP => SqL.of (hP.2 _ _ eLd)) (fun m x H3 hx hP => ?_) (fun H3 hP => ?_)
    · obtain ⟨eD, s3⟩ := hP
      obtain ⟨p, hp, pa, rfl, qp⟩ := Paired.at pp hx
      have hm := (List.getElem?_eq_some_iff.mp hx).1
      walk_at "rd"
      refine d_ixT (Same.sqt s3 qp) rfl ?_
      refine ⟨_, eD, szl (by rw [List.length_map, List.length_map, List.length_take]; omega), by rw [upd_same, take_snoc hp, List.map_append]; unfold natsV; rw [List.map_append]; rfl, same_upd s3 fD⟩
    obtain ⟨eD, s3⟩ := hP
    rw [lpv, List.take_length] at eD
    walk_at "rd"
    refine ⟨v, u, D, ld.map (·.1), rfl, hw.same s3, W, eD, rise_nodup (fst_rise L), fst_lt L, fun H4 v1 os s4 pm sr w1 => ?_⟩
    have eo : os = ld.map (·.1) := sorted_ext sr (fst_rise L) fun _ => pm.mem_iff
    subst eo
    clear pm sr
    walk_at "rd"
    have s34 := Same.trans s3 s4
    refine d_iLe (SqL.of (s34 _ _ eLd)) ?_
    intro D2 fD2
    refine lc_list (K := K) (a := l) (xs := pvs) (fun m H5 => H5 D2 = some (.lst (natsV ((ld.take m).map (·.2)))) ∧ Same H4 H5)
      ⟨upd_same, same_new fD2⟩ (fun m H5 _ hP => SqL.of ((Same.trans s34 hP.2) _ _ eLd)) (fun m x H5 hx hP => ?_) (fun H5 hP => ?_)
    · obtain ⟨eD2, s5⟩ := hP
      obtain ⟨p, hp, pa, rfl, qp⟩ := Paired.at pp hx
      have hm := (List.getElem?_eq_some_iff.mp hx).1
      walk_at "rd"
      refine d_ixT (Same.sqt (Same.trans s34 s5) qp) rfl ?_
      refine ⟨_, eD2, szl (by rw [List.length_map, List.length_map, List.length_take]; omega), by rw [upd_same, take_snoc hp, List.map_append]; unfold natsV; rw [List.map_append]; rfl, same_upd s5 fD2⟩
    obtain ⟨eD2, s5⟩ := hP
    rw [lpv, List.take_length] at eD2
    have s35 := Same.trans s34 s5
    walk_at "rd"
    refine ⟨v', u', D2, ld.map (·.2), rfl, hw'.same s35, W', eD2, L.ends, fun q hq => ?_, fun H6 v2 os s6 pm sr w2 => ?_⟩
    · obtain ⟨x, hx, rfl⟩ := List.mem_map.mp hq
      exact (L.like x hx).2.1
    have s36 := Same.trans s35 s6
    walk_at "rd"
    refine d_iLe (SqL.of (s36 _ _ eLd)) ?_
    intro D3 fD3
    refine lc_list (K := K) (a := l) (xs := pvs) (fun m H7 => H7 D3 = some (.lst (natsV ((ld.take m).map (·.2)))) ∧ Same H6 H7)
      ⟨upd_same, same_new fD3⟩ (fun m H7 _ hP => SqL.of ((Same.trans s36 hP.2) _ _ eLd)) (fun m x H7 hx hP => ?_) (fun H7 hP => ?_)
    · obtain ⟨eD3, s7⟩ := hP
      obtain ⟨p, hp, pa, rfl, qp⟩ := Paired.at pp hx
      have hm := (List.getElem?_eq_some_iff.mp hx).1
      walk_at "rd"
      refine d_ixT (Same.sqt (Same.trans s36 s7) qp) rfl ?_
      refine ⟨_, eD3, szl (by rw [List.length_map, List.length_map, List.length_take]; omega), by rw [upd_same, take_snoc hp, List.map_append]; unfold natsV; rw [List.map_append]; rfl, same_upd s7 fD3⟩
    obtain ⟨eD3, s7⟩ := hP
    rw [lpv, List.take_length] at eD3
    have s37 := Same.trans s36 s7
    walk_at "rd"
    refine ⟨D3, zs (ld.map (·.2)), rfl, SqL.of (by rw [← ints_map]; exact eD3), fun ns o pm2 sr2 fo => ?_⟩
    obtain ⟨os2, rfl, pos⟩ := nat_list pm2
    have nd2 := pos.nodup_iff.mpr L.ends
    have rise2 : os2.Pairwise (· < ·) := by
      have z : os2.Pairwise (· ≤ ·) := by
        unfold zs at sr2
        rw [List.pairwise_map] at sr2
        exact sr2.imp fun h => by omega
      exact (List.Pairwise.and z nd2).imp fun {x y} ⟨h1, h2⟩ => by omega
    have eo : os2 = os := sorted_ext rise2 sr fun _ => (pos.trans pm.symm).mem_iff
    subst eo
    clear pos sr2 pm2 rise2 nd2
    rw [← ints_map]
    have s8 := Same.trans s7 (same_new (o := .lst (os2.map fun o => V.int (o : Nat))) fo)
    have eO := upd_same (H := H7) (a := o) (o := .lst (os2.map fun o => V.int (o : Nat)))
    generalize upd H7 o _ = H8 at s8 eO ⊢
    have s38 := Same.trans s36 s8
    have nd2 := rise_nodup sr
    have lo : os2.length = ld.length := by rw [pm.length_eq, List.length_map]
    walk_at "rd"
    refine d_iLe (SqL.of (s38 _ _ eLd)) ?_
    intro D4 fD4
    refine lc_list (K := K) (a := l) (xs := pvs) (fun m H9 => H9 D4 = some (.lst (natsV ((ld.take m).map fun p => (posOf os2 p.2).getD 0))) ∧ Same H8 H9)
      ⟨upd_same, same_new fD4⟩ (fun m H9 _ hP => SqL.of ((Same.trans s38 hP.2) _ _ eLd)) (fun m x H9 hx hP => ?_) (fun H9 hP => ?_)
    · obtain ⟨eD4, s9⟩ := hP
      obtain ⟨p, hp, pa, rfl, qp⟩ := Paired.at pp hx
      have hm := (List.getElem?_eq_some_iff.mp hx).1
      obtain ⟨j, hj⟩ := List.getElem?_of_mem (pm.mem_iff.mpr (List.mem_map.mpr ⟨p, List.mem_of_getElem? hp, rfl⟩))
      have ej := (posOf_iff nd2).mpr hj
      walk_at "rd"
      refine ⟨.inl ⟨rfl, _, SqL.of (s9 _ _ eO)⟩, ?_⟩
      walk_at "rd"
      refine d_ixT (Same.sqt (Same.trans s38 s9) qp) rfl ?_
      refine ⟨o, os2.map fun o => V.int (o : Nat), .int (p.2 : Nat), j, .int (p.2 : Nat), rfl, rfl, SqL.of (s9 _ _ eO), rfl, List.all_eq_true.mpr fun x hx => by obtain ⟨q, _, rfl⟩ := List.mem_map.mp hx; rfl, by rw [List.getElem?_map, hj]; rfl, by simp [eqV], fun m' z' lt hz => ?_, ?_⟩
      · rw [List.getElem?_map] at hz
        obtain ⟨y, hy, rfl⟩ := Option.map_eq_some_iff.mp hz
        show ((y : Int) == (p.2 : Int)) = false
        rw [beq_eq_false_iff_ne]
        intro e
        have e : y = p.2 := by omega
        subst e
        have := nodup_at nd2 hy hj
        omega
      refine ⟨_, eD4, szl (by rw [List.length_map, List.length_map, List.length_take]; omega), ?_, same_upd s9 fD4⟩
      rw [upd_same, take_snoc hp, List.map_append]
      unfold natsV
      rw [List.map_append]
      simp [ej]
    obtain ⟨eD4, s9⟩ := hP
    rw [lpv, List.take_length] at eD4
    have s49 := Same.trans (Same.trans s5 s6) (Same.trans s8 s9)
    have s39 := Same.trans s38 s9
    have Oh := cutL_ok W (fst_rise L) (fst_lt L)
    have lh : (cutL u (ld.map (·.1))).1.length = ld.length := by unfold cutL; rw [List.length_map, List.length_map]
    have oo : Ord (ld.map fun p => (posOf os2 p.2).getD 0) (cutL u (ld.map (·.1))).1.length := by rw [lh]; exact ord_pos pm L.ends
    have bo : ∀ p ∈ os2, p < u'.1.length := fun p hp => by
      obtain ⟨x, hx, rfl⟩ := List.mem_map.mp (pm.mem_iff.mp hp)
      exact (L.like x hx).2.1
    have To := cutL_ok W' sr bo
    walk_at "rd"
    refine ⟨v1, cutL u (ld.map (·.1)), D4, _, rfl, w1.same s49, Oh, eD4, oo, fun H10 v3 w3 s10 wa3 R N => ?_⟩
    walk_at "rd"
    have s69 := Same.trans s8 (Same.trans s9 s10)
    refine ⟨webD w3, webD (cutL u' os2), wa3.dp, (w2.same s69).dp, webD_good R, webD_good To, ?_⟩
    rw [eqv_web, alike W W' L pm sr R oo N]
    walk_at "rd"
    have s310 := Same.trans s39 s10
    refine ⟨v, v', l, u, u', pvs, ld, rfl, hw.same s310, W, hw'.same s310, W', s310 _ _ eLd, pp.same s310, by omega, fun H11 s11 => ?_⟩
    have s311 := Same.trans s310 s11
    walk_at "rd"
    refine ⟨rfl, ?_⟩
    rw [decide_eq_true rfl]
    walk_at "rd"
    refine ⟨v, v', l, u, u', pvs, ld, true, false, rfl, hw.same s311, W, hw'.same s311, W', s311 _ _ eLd, pp.same s311, L, fun H12 s12 => ?_⟩
    have s312 := Same.trans s311 s12
    rw [show pieceB u u' ld true false = lieB u u' ld by unfold pieceB; rw [if_pos rfl]; show (_ && (true || _)) = _; rw [Bool.true_or, Bool.and_true]]
    walk_at "rd"
    refine ⟨rfl, ?_⟩
    rw [decide_eq_true rfl]
    walk_at "rd"
    refine ⟨v, v', l, u, u', pvs, ld, true, true, rfl, hw.same s312, W, hw'.same s312, W', s312 _ _ eLd, pp.same s312, L, fun H13 s13 => ?_⟩
    have s313 := Same.trans s312 s13
    walk_at "rd"
    refine ite2 (fun c => ?_) (fun c => ?_)
    · have e : pieceB u u' ld true true = decide ((partsL (cutL u (ld.map (·.1)))).length < 2) := by
        unfold pieceB
        rw [if_pos rfl, if_pos rfl, c]
        rfl
      rw [e]
      walk_at "rd"
      have s413 := Same.trans s49 (Same.trans s10 (Same.trans s11 (Same.trans s12 s13)))
      refine ⟨v1, cutL u (ld.map (·.1)), rfl, w1.same s413, Oh, fun H14 s14 => ?_⟩
      refine ⟨rfl, ?_⟩
      rw [decide_eq_true rfl]
      exact q _ (Same.trans s313 s14)
    · have e : pieceB u u' ld true true = false := by
        unfold pieceB
        rw [if_pos rfl, Bool.eq_false_iff.mpr c]
        rfl
      rw [e]
      refine ⟨rfl, ?_⟩
      rw [decide_eq_true rfl]
      exact q _ s313
theorem zs_sum : ∀ l : List Nat, (zs l).sum = ((l.sum : Nat) : Int)
  | [] => rfl
  | x :: r => by
    have := zs_sum r
    unfold zs at this ⊢
    rw [List.map_cons, List.sum_cons, List.sum_cons, this]
    omega
theorem paired_mem {α β : Type} {F G : α → β → Prop} : ∀ {xs : List α} {ys : List β}, Paired F xs ys → (∀ a ∈ xs, ∀ b, F a b → G a b) → Paired G xs ys
  | _, _, .nil, _ => .nil
  | _, _, .cons h t, k => .cons (k _ List.mem_cons_self _ h) (paired_mem t fun a ha => k a (List.mem_cons_of_mem _ ha))
theorem singles_b {u u' : Web} {ld : Lead} (W : WOk u) (L : LOk u u' ld) : (((partsL (dueW u u' ld)).filter fun p => decide (p.length = 1)).map fun p => PyData.list ((zs p).map PyData.int)).isEmpty = onTiesB (dueL u u' ld) ld := by
  rw [List.isEmpty_map, Bool.eq_iff_iff, List.isEmpty_iff, List.filter_eq_nil_iff, ← singles W L]
  refine forall_congr' fun p => forall_congr' fun _ => ?_
  rw [decide_eq_true_iff]
theorem ok_ties_right (T : Tx K mg) : FnOk P w K mg base CX0 6 T.ties_right.f T.ties_right.fd ["one", "other", "lead"] (spBothRight K) := by
  refine T.ties_right.F.ok sc_ties_right (fun vs H Q E h => ?_) (fun cdv A outer s H vs Q E hr h => ?_)
  · obtain ⟨_, _, _, _, _, _, _, rfl, _⟩ := h; rfl
  · obtain ⟨v, v', l, u, u', pvs, ld, rfl, hw, W, hw', W', eLd, pp, L, q⟩ := h
    obtain ⟨a, b, tvs, rfl, q1, q2, pT⟩ := id hw
    have lpv := pp.len
    have few := L.few
    have l40 := W'.few
    refine ⟨_, (pss_cons (ps_setLc (i := 3) (own := [("pair", 8)]) (g := gName 8) (tt := tYes) (te := tOp (rIxT K) (tVar 8) (tC (.int 0))) rfl sc_ties_right.nd rfl rfl (sw_true rfl rfl rfl (by decide +kernel)) (pi_list (pv 2)) (blkOk_by (N := ["one", "other", "lead", "places", "led", "told", "piece", "pieces", "pair", "part", "name", "some"]) (sc := defScope s_ties_right) (by decide +kernel)) (fun _ _ _ _ _ => (pg_name (i := 8) sc_ties_right.nd rfl (.inl rfl))) (fun _ _ _ _ _ => pts_nil) (fun _ _ _ _ _ => (pe_ix ix_tup (pv 8) pe_int (fun _ _ => rfl))))
      (pss_cons (ps_set (i := 4) sc_ties_right.nd rfl (.inl rfl) (pe_tup (pa_cons (pe_ix ix_tup (pv 0) pe_int (fun _ _ => rfl)) (pa_cons (pe_callTy call_tuple_of (by rfl) T.m_tuple (by decide +kernel) (pa_cons (pe_call (ok_led_ties T) (hr.mono (by decide)) (by rfl) T.led_ties.g T.led_ties.F.kp T.led_ties.b .nil pass0 (pa_cons (pv 0) (pa_cons (pv 1) (pa_cons (pv 2) pa_nil)))) pa_nil)) pa_nil))))
      (pss_cons (ps_set (i := 5) sc_ties_right.nd rfl (.inl rfl) (pe_call (ok_parts T) (hr.mono (by decide)) (by rfl) T.parts.g T.parts.F.kp T.parts.b .nil pass0 (pa_cons (pe_call (ok_cut T) (hr.mono (by decide)) (by rfl) T.cut.g T.cut.F.kp T.cut.b .nil pass0 (pa_cons (pv 4) (pa_cons (pv 3) pa_nil))) pa_nil)))
      (pss_cons (ps_set (i := 6) sc_ties_right.nd rfl (.inl rfl) (pe_call (ok_is_piece T) (hr.mono (by decide)) (by rfl) T.is_piece.g T.is_piece.F.kp T.is_piece.b .nil pass0 (pa_cons (pv 0) (pa_cons (pv 1) (pa_cons (pv 2) (pa_cons pe_str (pa_cons pe_bl pa_nil)))))))
      (pss_cons (ps_if (pt_cmpR op_ne (pv 6) (pe_cmpR (op_eqD (hr.units)) (pe_lc (own := [("part", 9)]) (g := gName 9) (tt := tTest (tOp rEq (tCB (Evl.rLenS K) (tCons (tVar 9) tNil)) (tC (.int 1)))) rfl sc_ties_right.nd (pi_list (pv 5)) (blkOk_by (N := ["one", "other", "lead", "places", "led", "told", "piece", "pieces", "pair", "part", "name", "some"]) (sc := defScope s_ties_right) (by decide +kernel)) (fun _ _ _ _ _ => (pg_name (i := 9) sc_ties_right.nd rfl (.inl rfl))) (fun _ _ _ _ _ => pts_one (pt_cmpR op_eq (pe_callB call_len_seq (by rfl) T.m_len (by decide +kernel) (pa_cons (pv 9) pa_nil)) pe_int (nomark _))) (fun _ _ _ _ _ => (pv 9))) (pe_lst pa_nil) (nomark _)) (nomark _))
        (pss_one (ps_ret pe_bl))
        pss_nil)
      (pss_cons (ps_if (pt_cmpR op_ne (pe_call (ok_is_piece T) (hr.mono (by decide)) (by rfl) T.is_piece.g T.is_piece.F.kp T.is_piece.b .nil pass0 (pa_cons (pv 0) (pa_cons (pv 1) (pa_cons (pv 2) (pa_cons pe_str (pa_cons pe_bl pa_nil)))))) (pe_and (pv 6) (pe_one (pe_cmpR op_lt (pe_callB call_len_seq (by rfl) T.m_len (by decide +kernel) (pa_cons (pv 5) pa_nil)) pe_int (nomark _)))) (nomark _))
        (pss_one (ps_ret pe_bl))
        pss_nil)
      (pss_cons (ps_if (pt_not (pt_val (pv 6)))
        (pss_one (ps_ret pe_bl))
        pss_nil)
      (pss_cons (ps_setLc (i := 7) (own := [("part", 9)]) (g := gName 9) (tt := tYes) (te := tLc (iList K (tVar 9)) (gName 10) tYes (tOp (rIxL K) (tVar 2) (tVar 10)) [10]) rfl sc_ties_right.nd rfl rfl (sw_true rfl rfl rfl (by decide +kernel)) (pi_list (pv 5)) (blkOk_by (N := ["one", "other", "lead", "places", "led", "told", "piece", "pieces", "pair", "part", "name", "some"]) (sc := defScope s_ties_right) (by decide +kernel)) (fun _ _ _ _ _ => (pg_name (i := 9) sc_ties_right.nd rfl (.inl rfl))) (fun _ _ _ _ _ => pts_nil) (fun _ _ _ _ _ => (pe_lc (own := [("name", 10)]) (g := gName 10) (tt := tYes) (te := tOp (rIxL K) (tVar 2) (tVar 10)) rfl sc_ties_right.nd (pi_list (pv 9)) (blkOk_in (N := ["one", "other", "lead", "places", "led", "told", "piece", "pieces", "pair", "part", "name", "some"]) (sc := defScope s_ties_right) rfl (by decide +kernel)) (fun _ _ _ _ _ => (pg_name (i := 10) sc_ties_right.nd rfl (.inl rfl))) (fun _ _ _ _ _ => pts_nil) (fun _ _ _ _ _ => (pe_ix ix_list (pv 2) (pv 10) (fun _ _ => rfl))))))
      (pss_cons (ps_if (pt_cmpR (op_neD (hr.units)) (pe_lc (own := [("some", 11)]) (g := gName 11) (tt := tNot (tB (tCall (spPiece K) [] E0 (tCons (tVar 0) (tCons (tVar 1) (tCons (tVar 11) (tCons _ (tCons _ tNil)))))))) rfl sc_ties_right.nd (pi_list (pv 7)) (blkOk_by (N := ["one", "other", "lead", "places", "led", "told", "piece", "pieces", "pair", "part", "name", "some"]) (sc := defScope s_ties_right) (by decide +kernel)) (fun _ _ _ _ _ => (pg_name (i := 11) sc_ties_right.nd rfl (.inl rfl))) (fun _ _ _ _ _ => pts_one (pt_not (pt_val (pe_call (ok_is_piece T) (hr.mono (by decide)) (by rfl) T.is_piece.g T.is_piece.F.kp T.is_piece.b .nil pass0 (pa_cons (pv 0) (pa_cons (pv 1) (pa_cons (pv 11) (pa_cons pe_str (pa_cons pe_bl pa_nil))))))))) (fun _ _ _ _ _ => (pv 11))) (pe_lst pa_nil) (nomark _))
        (pss_one (ps_ret pe_bl))
        pss_nil)
      (pss_one (ps_ret (pe_cmpR op_eq (pe_callB (cr_sum rfl) (by rfl) T.m_sum (by decide +kernel) (pa_cons (pe_lc (own := [("some", 11)]) (g := gName 11) (tt := tYes) (te := tCall (spSizeOf K) [] E0 (tCons (tVar 0) (tCons (tVar 1) (tCons (tVar 11) (tCons _ tNil))))) rfl sc_ties_right.nd (pi_list (pv 7)) (blkOk_by (N := ["one", "other", "lead", "places", "led", "told", "piece", "pieces", "pair", "part", "name", "some"]) (sc := defScope s_ties_right) (by decide +kernel)) (fun _ _ _ _ _ => (pg_name (i := 11) sc_ties_right.nd rfl (.inl rfl))) (fun _ _ _ _ _ => pts_nil) (fun _ _ _ _ _ => (pe_call (ok_size_of T) (hr.mono (by decide)) (by rfl) T.size_of.g T.size_of.F.kp T.size_of.b .nil pass0 (pa_cons (pv 0) (pa_cons (pv 1) (pa_cons (pv 11) (pa_cons pe_str pa_nil))))))) pa_nil)) (pe_call (ok_size_of T) (hr.mono (by decide)) (by rfl) T.size_of.g T.size_of.F.kp T.size_of.b .nil pass0 (pa_cons (pv 0) (pa_cons (pv 1) (pa_cons (pv 2) (pa_cons pe_str pa_nil))))) (nomark _))))))))))))), ?_⟩
    walk_at "rd"
    refine d_iLe (SqL.of eLd) ?_
    intro D fD
    refine lc_list (K := K) (a := l) (xs := pvs) (fun m H3 => H3 D = some (.lst (natsV ((ld.take m).map (·.1)))) ∧ Same H H3)
      ⟨upd_same, same_new fD⟩ (fun m H3 _ hP => SqL.of (hP.2 _ _ eLd)) (fun m x H3 hx hP => ?_) (fun H3 hP => ?_)
    · obtain ⟨eD, s3⟩ := hP
      obtain ⟨p, hp, pa, rfl, qp⟩ := Paired.at pp hx
      have hm := (List.getElem?_eq_some_iff.mp hx).1
      walk_at "rd"
      refine d_ixT (Same.sqt s3 qp) rfl ?_
      refine ⟨_, eD, szl (by rw [List.length_map, List.length_map, List.length_take]; omega), by rw [upd_same, take_snoc hp, List.map_append]; unfold natsV; rw [List.map_append]; rfl, same_upd s3 fD⟩
    obtain ⟨eD, s3⟩ := hP
    rw [lpv, List.take_length] at eD
    walk_at "rd"
    refine d_ixT (Same.sqt s3 q1) rfl ?_
    walk_at "rd"
    refine ⟨_, v', l, u, u', pvs, ld, rfl, hw.same s3, W, hw'.same s3, W', s3 _ _ eLd, pp.same s3, L, fun H4 G gvs s4 fG eG tG => ?_⟩
    walk_at "rd"
    refine ⟨G, gvs, rfl, .inl ⟨SqL.of eG, fun R fR => ?_⟩⟩
    walk_at "rd"
    refine ⟨sz (by show 2 ≤ 100000; decide), fun B fB => ?_⟩
    have sR := same_new (o := .tup gvs) fR
    have sB := same_new (o := .tup [V.str ⟨u.1.toArray⟩, V.ref R]) fB
    have s5 := Same.trans (Same.trans s3 s4) (Same.trans sR sB)
    have wL : WebAt K (upd (upd H4 R (.tup gvs)) B (.tup [V.str ⟨u.1.toArray⟩, V.ref R])) (.ref B) (ledW u (dueL u u' ld)) := ⟨B, R, gvs, rfl, SqT.of upd_same, SqT.of (sB _ _ upd_same), Paired.imp tG fun _ _ z => z.same (Same.trans sR sB)⟩
    have eD5 := Same.trans s4 (Same.trans sR sB) _ _ eD
    generalize upd (upd H4 R (.tup gvs)) B (.tup [V.str ⟨u.1.toArray⟩, V.ref R]) = H5 at s5 wL eD5 ⊢
    clear sR sB
    walk_at "rd"
    refine ⟨.ref B, ledW u (dueL u u' ld), D, ld.map (·.1), rfl, wL, led_wok W ld, eD5, rise_nodup (fst_rise L), fst_lt L, fun H6 v1 os s6 pm sr w1 => ?_⟩
    have eo : os = ld.map (·.1) := sorted_ext sr (fst_rise L) fun _ => pm.mem_iff
    subst eo
    clear pm sr
    have X := dueW_ok W L
    have s56 := Same.trans s5 s6
    walk_at "rd"
    refine ⟨v1, dueW u u' ld, rfl, w1, X, fun HB Tp rs s7 fT fr _ eT pa => ?_⟩
    have s57 := Same.trans s56 s7
    have hw0 := hw
    have hw0' := hw'
    have hwB := hw.same s57
    have hwB' := hw'.same s57
    have eLB := s57 _ _ eLd
    have ppB := pp.same s57
    have lrs : rs.length = (partsL (dueW u u' ld)).length := Paired.length pa
    have lps : (partsL (dueW u u' ld)).length ≤ ld.length := by rw [← dueW_len (u := u) (u' := u') (ld := ld)]; exact partsN_len _ _
    clear eD eD5 wL w1 tG eG fr fT pp q1 q2 pT
    generalize hps : partsL (dueW u u' ld) = ps at pa lrs lps
    walk_at "rd"
    refine ⟨_, v', l, u, u', pvs, ld, false, false, rfl, hwB, W, hwB', W', eLB, ppB, L, fun H8 s8 => ?_⟩
    have ep : pieceB u u' ld false false = onTiesB (dueL u u' ld) ld := by unfold pieceB; rw [if_neg (by decide)]; show (_ && (true || _)) = _; rw [Bool.true_or, Bool.and_true]
    rw [ep]
    walk_at "rd"
    refine d_iLe (SqL.of (s8 _ _ eT)) ?_
    intro F fF
    refine lc_list (K := K) (a := Tp) (xs := rs.map V.ref) (fun m H9 => ∃ gs : List Addr, H9 F = some (.lst (gs.map V.ref)) ∧ PartsAt HB gs ((ps.take m).filter fun p => decide (p.length = 1)) ∧ Same H8 H9)
      ⟨[], upd_same, .nil, same_new fF⟩ (fun m H9 _ hP => by obtain ⟨_, _, _, s9⟩ := hP; exact SqL.of (s9 _ _ (s8 _ _ eT))) (fun m x H9 hx hP => ?_) (fun H9 hP => ?_)
    · obtain ⟨gs, eF, pg, s9⟩ := hP
      rw [List.getElem?_map] at hx
      obtain ⟨r, hr', rfl⟩ := Option.map_eq_some_iff.mp hx
      obtain ⟨p, hp, er⟩ := Paired.at pa hr'
      have s89 := Same.trans s8 s9
      have lgs := Paired.length pg
      have lg1 := List.length_filter_le (fun p : List Nat => decide (p.length = 1)) (ps.take m)
      have lg2 := List.length_take_le' m ps
      walk_at "rd"
      refine d_lenL (SqL.of (s89 _ _ er)) ?_
      rw [List.length_map]
      walk_at "rd"
      refine ite2 (fun c => ?_) (fun c => ?_)
      · have c1 : decide (p.length = 1) = true := by
          rw [decide_eq_true_iff] at c ⊢; omega
        walk_at "rd"
        refine ⟨_, eF, szl (by rw [List.length_map]; omega), gs ++ [r], by rw [upd_same, List.map_append]; rfl, ?_, same_upd s9 fF⟩
        rw [take_snoc hp, List.filter_append, List.filter_cons_of_pos (p := fun p : List Nat => decide (p.length = 1)) c1]
        exact Paired.snoc pg er
      · have c1 : ¬ decide (p.length = 1) = true := fun z => c (by rw [decide_eq_true_iff] at z ⊢; omega)
        refine ⟨gs, eF, ?_, s9⟩
        rw [take_snoc hp, List.filter_append, List.filter_cons_of_neg (p := fun p : List Nat => decide (p.length = 1)) c1, List.filter_nil, List.append_nil]
        exact pg
    obtain ⟨gs, eF, pg, s9⟩ := hP
    rw [show (rs.map V.ref).length = ps.length by rw [List.length_map, lrs], List.take_length] at pg
    walk_at "rd"
    refine ⟨sz (by decide), fun p5 f5 => ?_⟩
    have s89 := Same.trans s8 s9
    have s10 := Same.trans s89 (same_new (o := .lst []) f5)
    refine ⟨_, _, (pg.same s10).dp (at_upd eF f5), .lst (SqL.of upd_same) .nil, partsD_good _, by decide, ?_⟩
    unfold partsD
    have hs : (((ps.filter fun p => decide (p.length = 1)).map fun p => PyData.list ((zs p).map PyData.int)).isEmpty) = onTiesB (dueL u u' ld) ld := by rw [← hps]; exact singles_b W L
    rw [eqv_nil, hs]
    generalize upd H9 p5 _ = H10 at s10 ⊢
    clear s89 s9 eF pg
    refine ⟨rfl, ?_⟩
    rw [decide_eq_true rfl]
    walk_at "rd"
    refine ⟨_, v', l, u, u', pvs, ld, false, true, rfl, hwB.same s10, W, hwB'.same s10, W', s10 _ _ eLB, ppB.same s10, L, fun H11 s11 => ?_⟩
    have s1B := Same.trans s10 s11
    walk_at "rd"
    have fe : pieceB u u' ld false true = (onTiesB (dueL u u' ld) ld && decide (((ps.length : Nat) : Int) < 2)) := by
      unfold pieceB
      rw [if_neg (by decide), if_neg (by decide)]
      show (_ && (false || _)) = _
      rw [Bool.false_or]
      unfold hangB
      have z : (partsL (cutL (ledW u (dueL u u' ld)) (ld.map (·.1)))).length = ps.length := by rw [← hps]; rfl
      rw [z]
      congr 1
      exact decide_eq_decide.mpr (by omega)
    rw [fe]
    refine ite2 (fun c => ?_) (fun c => ?_)
    · rw [c]
      walk_at "rd"
      refine d_lenL (SqL.of (s1B _ _ eT)) ?_
      rw [List.length_map, lrs]
      walk_at "rd"
      rw [Bool.true_and]
      refine ⟨rfl, ?_⟩
      rw [decide_eq_true rfl]
      walk_at "rd"
      clear s10 fe hwB hwB'
      have hwB := (hw0.same s57).same s1B
      have hwB' := (hw0'.same s57).same s1B
      have eLC := s1B _ _ eLB
      have ppC := ppB.same s1B
      have eTC := s1B _ _ eT
      have paC := pa.same s1B
      have s5C := Same.trans s57 s1B
      have bd : ∀ {m : Nat} {p : List Nat}, ps[m]? = some p → ∀ n ∈ p, n < ld.length := fun {m p} h => part_bound W L (by rw [hps]; exact List.mem_of_getElem? h)
      have lpl : ∀ {m : Nat} {p : List Nat}, ps[m]? = some p → p.length ≤ ld.length := fun {m p} h => nodup_len _ _ (rise_nodup (part_rise (by rw [hps]; exact List.mem_of_getElem? h))) (bd h)
      refine d_iLe (SqL.of eTC) ?_
      intro F fF
      refine lc_list (K := K) (a := Tp) (xs := rs.map V.ref) (fun m H9 => ∃ ks : List Addr, H9 F = some (.lst (ks.map V.ref)) ∧ F ∉ ks ∧ Paired (fun k part => ∃ xs, H9 k = some (.lst xs) ∧ Pairs K H11 xs (pick ld part)) ks (ps.take m) ∧ Same H11 H9)
        ⟨[], upd_same, by simp, .nil, same_new fF⟩ (fun m H9 _ hP => by obtain ⟨_, _, _, _, s9⟩ := hP; exact SqL.of (s9 _ _ eTC)) (fun m x H9 hx hP => ?_) (fun H9 hP => ?_)
      · obtain ⟨ks, eF, nF, pk, s9⟩ := hP
        rw [List.getElem?_map] at hx
        obtain ⟨r, hr', rfl⟩ := Option.map_eq_some_iff.mp hx
        obtain ⟨p, hp, er⟩ := Paired.at paC hr'
        have lks := Paired.length pk
        have lg2 := List.length_take_le' m ps
        walk_at "rd"
        refine d_iLe (SqL.of (s9 _ _ er)) ?_
        intro D2 fD2
        refine lc_list (K := K) (a := r) (xs := natsV p) (fun k H12 => ∃ xs, H12 D2 = some (.lst xs) ∧ Pairs K H11 xs (pick ld (p.take k)) ∧ Same H9 H12)
          ⟨[], upd_same, .nil, same_new fD2⟩ (fun k H12 _ hP => by obtain ⟨_, _, _, s12⟩ := hP; exact SqL.of (s12 _ _ (s9 _ _ er))) (fun k x H12 hx2 hP => ?_) (fun H12 hP => ?_)
        · obtain ⟨xs, eD2, px, s12⟩ := hP
          rw [List.getElem?_map] at hx2
          obtain ⟨n, hn, rfl⟩ := Option.map_eq_some_iff.mp hx2
          have ln := bd hp n (List.mem_of_getElem? hn)
          have gx := List.getElem?_eq_getElem (l := pvs) (i := n) (by omega)
          obtain ⟨y, hy, py⟩ := Paired.at ppC gx
          have lxs := px.len
          have lpk : List.length (pick ld (p.take k)) = (p.take k).length := List.length_map ..
          have lg3 := List.length_take_le' k p
          have lg4 := lpl hp
          walk_at "rd"
          refine d_ixLm (s12 _ _ (s9 _ _ eLC)) (show atI _ ((n : Nat) : Int) = some _ from atI_nat gx) ?_
          refine ⟨_, eD2, szl (by omega), xs ++ [_], upd_same, ?_, same_upd s12 fD2⟩
          rw [take_snoc hn]
          unfold pick
          rw [List.map_append]
          refine Paired.snoc px ?_
          show PairAt K H11 pvs[n] (ld.getD n (0, 0))
          rw [List.getD_eq_getElem?_getD, hy]
          exact py
        obtain ⟨xs, eD2, px, s12⟩ := hP
        rw [show (natsV p).length = p.length by rw [List.length_map], List.take_length] at px
        have nFD : F ≠ D2 := ne_of_none eF fD2
        refine ⟨_, s12 _ _ eF, szl (by rw [List.length_map]; omega), ks ++ [D2], by rw [upd_same, List.map_append]; rfl, ?_, ?_, same_upd (Same.trans s9 s12) fF⟩
        · intro z
          rcases List.mem_append.mp z with z | z
          · exact nF z
          · exact nFD (List.mem_singleton.mp z)
        · rw [take_snoc hp]
          refine Paired.snoc (paired_mem pk fun k hk part z => ?_) ⟨xs, by rw [upd_ne (Ne.symm nFD)]; exact eD2, px⟩
          obtain ⟨ys, e1, e2⟩ := z
          have nk : k ≠ F := fun z => by subst z; exact nF hk
          exact ⟨ys, by rw [upd_ne nk]; exact s12 _ _ e1, e2⟩
      obtain ⟨ks, eF, nF, pk, s9⟩ := hP
      rw [show (rs.map V.ref).length = ps.length by rw [List.length_map, lrs], List.take_length] at pk
      walk_at "rd"
      have pcs : ∀ {m : Nat} {x : V}, (ks.map V.ref)[m]? = some x → ∃ k part xs, x = V.ref k ∧ ps[m]? = some part ∧ part ∈ partsL (dueW u u' ld) ∧ H9 k = some (.lst xs) ∧ Pairs K H11 xs (pick ld part) ∧ LOk u u' (pick ld part) := fun {m x} hx => by
        rw [List.getElem?_map] at hx
        obtain ⟨k, hk, rfl⟩ := Option.map_eq_some_iff.mp hx
        obtain ⟨part, hp, xs, e1, e2⟩ := Paired.at pk hk
        have hm : part ∈ partsL (dueW u u' ld) := by rw [hps]; exact List.mem_of_getElem? hp
        exact ⟨k, part, xs, rfl, hp, hm, e1, e2, pick_ok L (part_rise hm) (bd hp)⟩
      have lks := Paired.length pk
      refine d_iLe (SqL.of eF) ?_
      intro N fN
      refine lc_list (K := K) (a := F) (xs := ks.map V.ref) (fun m H13 => H13 N = some (.lst []) ∧ Same H9 H13)
        ⟨upd_same, same_new fN⟩ (fun m H13 _ hP => SqL.of (hP.2 _ _ eF)) (fun m x H13 hx hP => ?_) (fun H13 hP => ?_)
      · obtain ⟨eN, s13⟩ := hP
        obtain ⟨k, part, xs, rfl, hp, hm, e1, e2, M⟩ := pcs hx
        have s1D := Same.trans s9 s13
        walk_at "rd"
        refine ⟨_, v', k, u, u', xs, pick ld part, false, true, rfl, hwB.same s1D, W, hwB'.same s1D, W', s13 _ _ e1, e2.same s1D, M, fun H14 s14 => ?_⟩
        rw [part_piece W L c hm]
        walk_at "rd"
        exact ⟨s14 _ _ eN, Same.trans s13 s14⟩
      obtain ⟨eN, s13⟩ := hP
      walk_at "rd"
      refine ⟨sz (by decide), fun p5 f5 => ?_⟩
      refine ⟨.list [], .list [], .lst (SqL.of (at_upd eN f5)) .nil, .lst (SqL.of upd_same) .nil, by decide, by decide, ?_⟩
      rw [eqv_nil, show (!([] : List PyData).isEmpty) = false from rfl]
      have s15 := Same.trans s13 (same_new (o := .lst []) f5)
      generalize upd H13 p5 _ = H15 at s15 ⊢
      clear s13 eN
      walk_at "rd"
      refine d_iLe (SqL.of (s15 _ _ eF)) ?_
      intro S fS
      refine lc_list (K := K) (a := F) (xs := ks.map V.ref) (fun m H16 => H16 S = some (.lst (natsV ((ps.take m).map fun part => (dueL u u' (pick ld part)).length))) ∧ Same H15 H16)
        ⟨upd_same, same_new fS⟩ (fun m H16 _ hP => SqL.of ((Same.trans s15 hP.2) _ _ eF)) (fun m x H16 hx hP => ?_) (fun H16 hP => ?_)
      · obtain ⟨eS, s16⟩ := hP
        obtain ⟨k, part, xs, rfl, hp, hm, e1, e2, M⟩ := pcs hx
        have lxs := e2.len
        have Mf := M.few
        have s1D := Same.trans s9 (Same.trans s15 s16)
        have lg2 := List.length_take_le' m ps
        walk_at "rd"
        refine ⟨_, v', k, xs, s15.trans s16 _ _ e1, by omega, .inr ⟨rfl, u, u', pick ld part, hwB.same s1D, W, hwB'.same s1D, W', e2.same s1D, M, fun H17 s17 => ?_⟩⟩
        refine ⟨_, s17 _ _ eS, szl (by rw [List.length_map, List.length_map]; omega), ?_, same_upd (Same.trans s16 s17) fS⟩
        rw [upd_same, take_snoc hp, List.map_append]
        unfold natsV
        rw [List.map_append]
        rfl
      obtain ⟨eS, s16⟩ := hP
      rw [show (ks.map V.ref).length = ps.length by rw [List.length_map, lks], List.take_length] at eS
      walk_at "rd"
      have sums := parts_sum W L
      rw [hps] at sums
      refine ⟨S, zs (ps.map fun part => (dueL u u' (pick ld part)).length), rfl, SqL.of (by rw [← ints_map]; exact eS), ?_⟩
      rw [zs_sum, sums]
      walk_at "rd"
      have s1E := Same.trans s9 (Same.trans s15 s16)
      refine ⟨_, v', l, pvs, s1E _ _ eLC, by omega, .inr ⟨rfl, u, u', ld, hwB.same s1E, W, hwB'.same s1E, W', ppC.same s1E, L, fun H17 s17 => ?_⟩⟩
      refine ⟨rfl, ?_⟩
      rw [decide_eq_true rfl]
      exact q _ (Same.trans s5C (Same.trans s1E s17))
    · rw [Bool.eq_false_iff.mpr c, Bool.false_and]
      refine ⟨rfl, ?_⟩
      rw [decide_eq_true rfl]
      walk_at "rd"
      exact q _ (Same.trans s57 s1B)
theorem any_filter {α : Type} (f : α → Bool) : ∀ l : List α, (!(l.filter f).isEmpty) = l.any f
  | [] => rfl
  | x :: r => by
    cases c : f x with
    | true => rw [List.filter_cons_of_pos c, List.any_cons, c]; rfl
    | false => rw [List.filter_cons_of_neg (by rw [c]; decide), List.any_cons, c, any_filter f r, Bool.false_or]
def spLaw (K : PySem.W.Frag) : Sp := fun vs H Q _ => ∃ (a : Addr) (ns : List Int), vs = [.ref a] ∧ SqL K H a (ns.map V.int) ∧ ns.length ≤ 63 ∧ ∀ H', Q (.bl true) H'
theorem ok_law (T : Tx K mg) : FnOk P w K mg base CX0 7 T.law.f T.law.fd ["script"] (spLaw K) := by
  refine T.law.F.ok sc_law (fun vs H Q E h => ?_) (fun cdv A outer s H vs Q E hr h => ?_)
  · obtain ⟨_, _, rfl, _⟩ := h; rfl
  · obtain ⟨a, ns, rfl, hS, hl, q⟩ := h
    refine ⟨_, (pss_cons (ps_for PassesOwn.never rfl (pi_list (pe_call (ok_cells T) (hr.mono (by decide)) (by rfl) T.cells.g T.cells.F.kp T.cells.b .nil pass0 (pa_cons (pv 0) (pa_cons pe_int pa_nil)))) (pg_tup rfl (pgs_cons (pg_name (i := 1) sc_law.nd rfl (.inl rfl)) (pgs_cons (pg_name (i := 2) sc_law.nd rfl (.inl rfl)) pgs_nil)))
        (pss_cons (ps_set (i := 3) sc_law.nd rfl (.inl rfl) (pe_call (ok_hand T) (hr.mono (by decide)) (by rfl) T.hand.g T.hand.F.kp T.hand.b .nil pass0 (pa_cons (pv 2) (pa_cons (pv 1) pa_nil))))
        (pss_cons (ps_asg (pe_call (ok_webs T) (hr.mono (by decide)) (by rfl) T.webs.g T.webs.F.kp T.webs.b .nil pass0 (pa_cons (pv 3) (pa_cons (pe_and (pe_cmpR op_eq (pv 1) pe_int (nomark _)) (pe_one (pe_call (ok_great T) (hr.mono (by decide)) (by rfl) T.great.g T.great.F.kp T.great.b .nil pass0 (pa_cons (pv 0) pa_nil)))) pa_nil))) (pg_unl rfl (pgs_cons (pg_name (i := 4) sc_law.nd rfl (.inl rfl)) (pgs_cons (pg_name (i := 5) sc_law.nd rfl (.inl rfl)) (pgs_cons (pg_name (i := 6) sc_law.nd rfl (.inl rfl)) pgs_nil)))))
        (pss_one (ps_for PassesOwn.never rfl (pi_range1 (by rfl) T.m_range (pa_cons pe_int pa_nil)) (pg_name (i := 7) sc_law.nd rfl (.inl rfl))
          (pss_cons (ps_set (i := 8) sc_law.nd rfl (.inl rfl) (pe_call (ok_lead T) (hr.mono (by decide)) (by rfl) T.lead.g T.lead.F.kp T.lead.b .nil pass0 (pa_cons (pv 3) (pa_cons (pv 4) (pa_cons (pv 5) (pa_cons (pv 6) pa_nil))))))
          (pss_cons (ps_set (i := 9) sc_law.nd rfl (.inr rfl) (pe_call (ok_led_ties T) (hr.mono (by decide)) (by rfl) T.led_ties.g T.led_ties.F.kp T.led_ties.b .nil pass0 (pa_cons (pv 4) (pa_cons (pv 5) (pa_cons (pv 8) pa_nil)))))
          (pss_cons (ps_setLc (i := 10) (own := [("pair", 12)]) (g := gName 12) (tt := tTest (tOp (rNeD K) (tLc (iList K (tVar 9)) (gName 13) (tTest (tOp (rInT K false) (tOp (rIxT K) (tVar 12) (tC (.int 0))) (tSl (rSlT K) (tVar 13) tNoPart (tPart (tC (.int 2)))))) (tVar 13) [13]) (tLst tNil))) rfl sc_law.nd rfl rfl (sw_true rfl rfl rfl (by decide +kernel)) (pi_list (pv 8)) (blkOk_by (N := ["script", "k", "cell", "hand", "one", "other", "names", "j", "lead", "led", "tied", "some", "pair", "tie"]) (sc := defScope s_law) (by decide +kernel)) (fun _ _ _ _ _ => (pg_name (i := 12) sc_law.nd rfl (.inr rfl))) (fun _ _ _ _ _ => pts_one (pt_cmpR (op_neD (hr.units)) (pe_lc (own := [("tie", 13)]) (g := gName 13) (tt := tTest (tOp (rInT K false) (tOp (rIxT K) (tVar 12) (tC (.int 0))) (tSl (rSlT K) (tVar 13) tNoPart (tPart (tC (.int 2)))))) rfl sc_law.nd (pi_list (pv 9)) (blkOk_in (N := ["script", "k", "cell", "hand", "one", "other", "names", "j", "lead", "led", "tied", "some", "pair", "tie"]) (sc := defScope s_law) rfl (by decide +kernel)) (fun _ _ _ _ _ => (pg_name (i := 13) sc_law.nd rfl (.inl rfl))) (fun _ _ _ _ _ => pts_one (pt_cmpR (op_inT (units1 hr)) (pe_ix ix_tup (pv 12) pe_int (fun _ _ => rfl)) (pe_slice sl_tup (pv 13) po_none (po_some pe_int)) (by rfl))) (fun _ _ _ _ _ => (pv 13))) (pe_lst pa_nil) (nomark _))) (fun _ _ _ _ _ => (pv 12)))
          (pss_one (ps_for PassesOwn.never rfl (pi_list (pe_lst (pa_cons (pv 8) (pa_cons (pv 10) (pa_cons (pe_slice sl_list (pv 8) po_none (po_some (pe_call (ok_draw T) (hr.mono (by decide)) (by rfl) T.draw.g T.draw.F.kp T.draw.b .nil pass0 (pa_cons (pv 3) (pa_cons pe_int pa_nil))))) pa_nil))))) (pg_name (i := 11) sc_law.nd rfl (.inl rfl))
            (pss_one (ps_if (PW.pt (pw_or (pt_not (pt_val (pe_call (ok_cut_right T) (hr.mono (by decide)) (by rfl) T.cut_right.g T.cut_right.F.kp T.cut_right.b .nil pass0 (pa_cons (pv 4) (pa_cons (pv 5) (pa_cons (pv 11) pa_nil)))))) (pw_or1 (pt_not (pt_val (pe_call (ok_ties_right T) (hr.mono (by decide)) (by rfl) T.ties_right.g T.ties_right.F.kp T.ties_right.b .nil pass0 (pa_cons (pv 4) (pa_cons (pv 5) (pa_cons (pv 11) pa_nil)))))))))
              (pss_one (ps_ret pe_bl))
              pss_nil))))))))))))
      (pss_one (ps_ret pe_bl))), ?_⟩
    walk_at "rd"
    refine ⟨a, ns, 14, rfl, hS, hl, by decide, by decide, fun H2 p ts s2 f2 e2 l2 at2' => ?_⟩
    walk_at "rd"
    refine d_iLe (SqL.of e2) ?_
    refine for_it (walk_list (K := K) (xs := ts.map V.ref)) (fun i σ H' => ∃ y1 y2 y3 y4 y5 y6 y7 y8 y9 y10 y11 y12 y13, σ = [some (.ref a), y1, y2, y3, y4, y5, y6, y7, y8, y9, y10, y11, y12, y13] ∧ Same H2 H')
      ⟨_, _, _, _, _, _, _, _, _, _, _, _, _, rfl, Same.refl _⟩ (fun i σ H' hi hP => ?_) (fun i x σ H0' H0 hi hP hy => ?_) (fun σ H' hP => ?_)
    · obtain ⟨_, _, _, _, _, _, _, _, _, _, _, _, _, _, kk⟩ := hP
      exact SqL.of (kk p _ e2)
    · obtain ⟨y1, y2, y3, y4, y5, y6, y7, y8, y9, y10, y11, y12, y13, rfl, k0⟩ := hP
      obtain ⟨rfl, hx⟩ := hy
      rw [List.getElem?_map] at hx
      obtain ⟨t, ht, rfl⟩ := Option.map_eq_some_iff.mp hx
      rw [List.length_map] at hi
      obtain ⟨c, et⟩ := at2' i t ht
      have eT := k0 t _ et
      walk_at "rd"
      refine ⟨c, (i : Nat), rfl, by omega, by omega, fun H3 h s3 f3 hh3 => ?_⟩
      walk_at "rd"
      have aS3 := Same.seq (Same.trans s2 (Same.trans k0 s3)) hS
      refine if_any (fun Q' q' => ?_) (fun b H4 s4 => ?_)
      · walk_at "rd"
        exact ⟨a, ns, rfl, aS3, fun b => q' b _ (Same.refl _)⟩
      walk_at "rd"
      refine ⟨h, b, rfl, hh3.same s4, fun H5 l n v v' w w' nms k5 hh5 fl fn el hw W hw' W' en nn hns => ?_⟩
      have k05 : Same H0 H5 := Keep.out (Same.trans s3 s4) k5 f3
      refine ⟨l, _, rfl, SqL.of el, rfl, ?_⟩
      clear el
      have f3' := f3
      walk_at "rd"
      refine for_range (fun j σ H' => ∃ y7 y8 y9 y10 y11 y12 y13, σ = [some (.ref a), some (.int (i : Nat)), some (.int c), some (.ref h), some v, some v', some (.ref n), y7, y8, y9, y10, y11, y12, y13] ∧ Hand H' h ∧ WebAt K H' v w ∧ WebAt K H' v' w' ∧ H' n = some (.lst (nms.map fun q => V.int (q : Nat))) ∧ Same H0 H')
        ⟨_, _, _, _, _, _, _, rfl, hh5, hw, hw', en, k05⟩ (fun j σ Hj hj hP => ?_) (fun σ H' hP => ?_)
      · clear hh3 hh5 hw hw' en k05 k5
        obtain ⟨y7, y8, y9, y10, y11, y12, y13, rfl, hh, hw, hw', en, k0j⟩ := hP
        obtain ⟨h1, h2, eh, hrest⟩ := id hh
        walk_at "rd"
        refine ⟨h, v, v', n, w, w', nms, rfl, hh, hw, W, hw', W', en, nn, hns, fun H1 l pvs ld k1 hh1 fl el pp L => ?_⟩
        have hw1 := hw.keep k1 eh
        have hw1' := hw'.keep k1 eh
        have en1 := k1 _ _ nn en
        obtain ⟨h3, h4, eh1, hrest1⟩ := id hh1
        have k01 : Same H0 H1 := Keep.out k0j k1 f3'
        have nl : l ≠ h := hh.ne fl
        walk_at "rd"
        refine ⟨v, v', l, w, w', pvs, ld, rfl, hw1, W, hw1', W', el, pp, L, fun HU g gvs sT fg eg pg => ?_⟩
        have hhT := hh1.same sT
        obtain ⟨_, _, ehT, _⟩ := id hhT
        have hwT := hw1.same sT
        have hwT' := hw1'.same sT
        have enT := sT _ _ en1
        have elT := sT _ _ el
        have ppT := pp.same sT
        have k0T := Same.trans k01 sT
        have lpv := pp.len
        have lgv := pg.len
        have lfew := L.few
        have l40' := W'.few
        have l16 := W.most
        have l18 : (dueL w w' ld).length ≤ 1600 := Nat.le_trans (List.length_filter_le _ _) l16
        clear hw1 hw1' pp hw hw'
        walk_at "rd"
        refine d_iLe (SqL.of elT) ?_
        intro D fD
        refine lc_list (K := K) (a := l) (xs := pvs) (fun k H4 => ∃ gs, H4 D = some (.lst gs) ∧ Pairs K H4 gs (tiedL (dueL w w' ld) (ld.take k)) ∧ Same HU H4) ⟨[], upd_same, .nil, same_new fD⟩ (fun k H4 _ hP => ?_) (fun k x H4 hx hP => ?_) (fun H4 hP => ?_)
        · obtain ⟨_, _, _, s4⟩ := hP
          exact SqL.of (s4 _ _ elT)
        · obtain ⟨gs, eD, pgs, s4⟩ := hP
          obtain ⟨p, hp, pa, rfl, qp⟩ := Paired.at ppT hx
          have egg := s4 _ _ eg
          have pgg := pg.same s4
          walk_at "rd"
          refine d_iLe (SqL.of egg) ?_
          intro D2 fD2
          refine lc_list (K := K) (a := g) (xs := gvs) (fun m H5 => ∃ gs2, H5 D2 = some (.lst gs2) ∧ Ties K H5 gs2 (((dueL w w' ld).take m).filter (onT p.1)) ∧ Same H4 H5) ⟨[], upd_same, .nil, same_new fD2⟩ (fun m H5 _ hP => ?_) (fun m x H5 hx5 hP => ?_) (fun H5 hP => ?_)
          · obtain ⟨_, _, _, s5⟩ := hP
            exact SqL.of (s5 _ _ egg)
          · obtain ⟨gs2, eD2, pg2, s5⟩ := hP
            obtain ⟨t, ht, ta, rfl, qt⟩ := Paired.at pgg hx5
            have qt5 := Same.sqt s5 qt
            walk_at "rd"
            refine d_ixT (Same.sqt (Same.trans s4 s5) qp) rfl ?_
            walk_at "rd"
            refine ⟨ta, _, rfl, qt5, (show ¬ (HT.sIx 3 0 none = 0 ∧ HT.sIx 3 3 (some 2) = 3) by decide), fun p1 f1 => ?_⟩
            rw [show cutV [V.int (t.1 : Nat), V.int (t.2.1 : Nat), V.str (sg t.2.2)] none (some 2) = [V.int (t.1 : Nat), V.int (t.2.1 : Nat)] from rfl]
            walk_at "rd"
            refine ⟨.int (p.1 : Nat), [.int (t.1 : Nat), .int (t.2.1 : Nat)], .int _, .tup (SqT.of upd_same) (.cons (.int _) (.cons (.int _) .nil)), by simp [SeqAt.shaped, PyData.canLay0, PyData.depth], sh2 _ _, ?_⟩
            have eq : ([PyData.int (t.1 : Nat), .int (t.2.1 : Nat)].any fun z => PyData.eqv z (.int (p.1 : Nat))) = onT p.1 t := by
              rw [Bool.eq_iff_iff, onT_iff]
              simp only [List.any_cons, List.any_nil, PyData.eqv, Bool.or_false, Bool.or_eq_true, beq_iff_eq]
              omega
            rw [if_neg (by decide), eq]
            have s6 := Same.trans s5 (same_new (o := .tup [V.int (t.1 : Nat), V.int (t.2.1 : Nat)]) f1)
            have eD26 := at_upd (u := .tup [V.int (t.1 : Nat), V.int (t.2.1 : Nat)]) eD2 f1
            have pg26 := pg2.put (o := .tup [V.int (t.1 : Nat), V.int (t.2.1 : Nat)]) (.inl f1)
            have qt6 := Same.sqt (same_new (o := .tup [V.int (t.1 : Nat), V.int (t.2.1 : Nat)]) f1) qt5
            generalize upd H5 p1 (.tup [V.int (t.1 : Nat), V.int (t.2.1 : Nat)]) = H6 at s6 eD26 pg26 qt6 ⊢
            have lgs := pg2.len
            have lg1 := List.length_filter_le (onT p.1) ((dueL w w' ld).take m)
            have lg2 := List.length_take_le' m (dueL w w' ld)
            walk_at "rd"
            refine ite2 (fun c => ?_) (fun c => ?_)
            · walk_at "rd"
              refine ⟨_, eD26, szl (by omega), gs2 ++ [.ref ta], upd_same, ?_, same_upd s6 fD2⟩
              rw [take_snoc ht, List.filter_append, List.filter_cons_of_pos c]
              exact Paired.snoc (pg26.put (.inr ⟨_, eD26⟩)) ⟨ta, rfl, sqt_upd (.inr ⟨_, eD26⟩) qt6⟩
            · refine ⟨gs2, eD26, ?_, s6⟩
              rw [take_snoc ht, List.filter_append, List.filter_cons_of_neg c, List.filter_nil, List.append_nil]
              exact pg26
          obtain ⟨gs2, eD2, pg2, s5⟩ := hP
          rw [lgv, List.take_length] at pg2
          walk_at "rd"
          refine ⟨sz (by decide), fun p5 f5 => ?_⟩
          have s6 := same_upd (o := .lst []) s5 (Same.free s5 f5)
          have lt_ : ∀ t ∈ (dueL w w' ld).filter (onT p.1), Ltr t.2.2 := fun t ht => (W.ends t (List.mem_filter.mp (List.mem_filter.mp ht).1).1).2.2
          refine ⟨_, _, (pg2.put (.inl f5)).dp (at_upd eD2 f5), .lst (SqL.of upd_same) .nil, tiesD_good lt_, by decide, ?_⟩
          unfold tiesD
          rw [eqv_nil, show (!((((dueL w w' ld).filter (onT p.1)).map tieD).isEmpty)) = (dueL w w' ld).any (onT p.1) by rw [List.isEmpty_map, any_filter]]
          generalize upd H5 p5 _ = H6 at s6 ⊢
          have s46 := Same.trans s4 s6
          have eD6 := s6 _ _ eD
          have pg6 := pgs.same s6
          walk_at "rd"
          have lgs := pgs.len
          have lg1 : (tiedL (dueL w w' ld) (ld.take k)).length ≤ (ld.take k).length := List.length_filter_le _ _
          have lg2 := List.length_take_le' k ld
          refine ite2 (fun c => ?_) (fun c => ?_)
          · walk_at "rd"
            refine ⟨_, eD6, szl (by omega), gs ++ [.ref pa], upd_same, ?_, same_upd s46 fD⟩
            rw [tiedL_snoc hp, if_pos c]
            exact Paired.snoc (pg6.put (.inr ⟨_, eD6⟩)) ⟨pa, rfl, sqt_upd (.inr ⟨_, eD6⟩) (Same.sqt s46 qp)⟩
          · refine ⟨gs, eD6, ?_, s46⟩
            rw [tiedL_snoc hp, if_neg c, List.append_nil]
            exact pg6
        obtain ⟨gs, eD, pgs, s4⟩ := hP
        rw [lpv, List.take_length] at pgs
        have hh4 := hhT.same s4
        obtain ⟨_, _, eh4, _⟩ := id hh4
        have nl4 : l ≠ h := nl
        have nD : D ≠ h := hhT.ne fD
        have el4 := s4 _ _ elT
        have pp4 := ppT.same s4
        have k04 := Same.trans k0T s4
        walk_at "rd"
        refine ⟨h, 4, rfl, by decide, by decide, hh4, fun H6 z k6 hh6 z0 z5 => ?_⟩
        have k06 : Same H0 H6 := Keep.out k04 k6 f3'
        have el6 := k6 _ _ nl el4
        have eg6 := k6 _ _ nD eD
        have pp6 := pp4.keep k6 eh4
        have pg6 := pgs.keep k6 eh4
        have hw6 := (hwT.same s4).keep k6 eh4
        have hw6' := (hwT'.same s4).keep k6 eh4
        have en6 := k6 _ _ nn (s4 _ _ enT)
        clear pgs pp4 ppT hwT hwT' pg
        walk_at "rd"
        refine d_slL (SqL.of el6) (fun a1 fa1 => ?_)
        walk_at "rd"
        refine ⟨sz (by show 3 ≤ 100000; decide), fun B fB => ?_⟩
        have s7 : Same H6 (upd (upd H6 a1 (.lst (cutV pvs none (some z)))) B (.lst [V.ref l, V.ref D, V.ref a1])) := Same.trans (same_new fa1) (same_new fB)
        have ea1 := at_upd (u := .lst [V.ref l, V.ref D, V.ref a1]) (upd_same (H := H6) (a := a1) (o := .lst (cutV pvs none (some z)))) fB
        have eB := upd_same (H := upd H6 a1 (.lst (cutV pvs none (some z)))) (a := B) (o := .lst [V.ref l, V.ref D, V.ref a1])
        generalize upd (upd H6 a1 (.lst (cutV pvs none (some z)))) B (.lst [V.ref l, V.ref D, V.ref a1]) = HB at s7 ea1 eB ⊢
        have elB := s7 _ _ el6
        have egB := s7 _ _ eg6
        have ppB := pp6.same s7
        have pgB := pg6.same s7
        have hwB := hw6.same s7
        have hwB' := hw6'.same s7
        have hhB := hh6.same s7
        have enB := s7 _ _ en6
        have k0B := Same.trans k06 s7
        have Lg : LOk w w' (tiedL (dueL w w' ld) ld) := L.sub List.filter_sublist
        obtain ⟨kd1, sub1, pk1⟩ := ppB.cut none (some z)
        have each : ∀ (m : Nat) x, [V.ref l, V.ref D, V.ref a1][m]? = some x → ∃ a' xs kd, x = V.ref a' ∧ HB a' = some (.lst xs) ∧ Pairs K HB xs kd ∧ LOk w w' kd := fun m x hx => by
          match m, hx with
          | 0, hx => exact ⟨l, _, _, (Option.some.inj hx).symm, elB, ppB, L⟩
          | 1, hx => exact ⟨D, _, _, (Option.some.inj hx).symm, egB, pgB, Lg⟩
          | 2, hx => exact ⟨a1, _, _, (Option.some.inj hx).symm, ea1, pk1, L.sub sub1⟩
        refine d_iLe (SqL.of eB) ?_
        refine for_it (walk_list (K := K) (xs := [V.ref l, V.ref D, V.ref a1])) (fun m σ HX => ∃ y11 y12 y13, σ = [some (.ref a), some (.int (i : Nat)), some (.int c), some (.ref h), some v, some v', some (.ref n), some (.int (0 + (j : Nat))), some (.ref l), some (.ref g), some (.ref D), y11, y12, y13] ∧ Same HB HX)
          ⟨_, _, _, rfl, Same.refl _⟩ (fun m σ HX _ hP => ?_) (fun m x σ HX' HX hm hP hy => ?_) (fun σ HX hP => ?_)
        · obtain ⟨_, _, _, _, sX⟩ := hP
          exact SqL.of (sX _ _ eB)
        · obtain ⟨y11, y12, y13, rfl, sX⟩ := hP
          obtain ⟨rfl, hx⟩ := hy
          obtain ⟨a', xs, kd, rfl, ex, px, M⟩ := each m x hx
          walk_at "rd"
          refine ⟨v, v', a', w, w', xs, kd, rfl, hwB.same sX, W, hwB'.same sX, W', sX _ _ ex, px.same sX, M, fun HY sY => ?_⟩
          walk_at "rd"
          have sXY := Same.trans sX sY
          refine ⟨v, v', a', w, w', xs, kd, rfl, hwB.same sXY, W, hwB'.same sXY, W', sXY _ _ ex, px.same sXY, M, fun HZ sZ => ?_⟩
          walk_at "rd"
          exact ⟨_, _, _, rfl, Same.trans sXY sZ⟩
        · obtain ⟨y11, y12, y13, rfl, sX⟩ := hP
          walk_at "rd"
          exact ⟨_, _, _, _, _, _, _, rfl, hhB.same sX, hwB.same sX, hwB'.same sX, sX _ _ enB, Same.trans k0B sX⟩
      · obtain ⟨y7, y8, y9, y10, y11, y12, y13, rfl, hh, hw, hw', en, k0j⟩ := hP
        exact ⟨_, _, _, _, _, _, _, _, _, _, _, _, _, rfl, Same.trans k0 k0j⟩
    · obtain ⟨y1, y2, y3, y4, y5, y6, y7, y8, y9, y10, y11, y12, y13, rfl, k0⟩ := hP
      walk_at "rd"
      exact q _

end
theorem all_mk {l : PySem.W.OpenLaw} {w : World} {K : PySem.W.Frag} {h : Heap} {mg : Str → Option Value} {fa f_2 f_3 f_4 f_5 f_6 f_7 f_9 f_10 f_11 f_12 f_13 f_14 f_16 f_17 f_18 f_19 f_20 f_21 f_22 f_23 f_24 f_25 f_26 f_27 f_28 f_29 f_30 : Addr} (X : K.In h) (G : h.Ns mainGlobals mg) (hfa : mg "law" = some (.ref fa))
    {od2 an2 od3 an3 od4 an4 od5 an5 od6 an6 od7 an7 od9 an9 od10 an10 od11 an11 od12 an12 od13 an13 od14 an14 od16 an16 od17 an17 od18 an18 od19 an19 od20 an20 od21 an21 od22 an22 od23 an23 od24 an24 od25 an25 od26 an26 od27 an27 od28 an28 od29 an29 od30 an30 : Option Addr} {sl2 sl3 sl4 sl5 sl6 sl7 sl9 sl10 sl11 sl12 sl13 sl14 sl16 sl17 sl18 sl19 sl20 sl21 sl22 sl23 sl24 sl25 sl26 sl27 sl28 sl29 sl30 : Array (Option Value)} {oc2 kV2 dc2 pm2 ct2 cd2 oc3 kV3 dc3 pm3 ct3 cd3 oc4 kV4 dc4 pm4 ct4 cd4 oc5 kV5 dc5 pm5 ct5 cd5 oc6 kV6 dc6 pm6 ct6 cd6 oc7 kV7 dc7 pm7 ct7 cd7 oc9 kV9 dc9 pm9 ct9 cd9 oc10 kV10 dc10 pm10 ct10 cd10 oc11 kV11 dc11 pm11 ct11 cd11 oc12 kV12 dc12 pm12 ct12 cd12 oc13 kV13 dc13 pm13 ct13 cd13 oc14 kV14 dc14 pm14 ct14 cd14 oc16 kV16 dc16 pm16 ct16 cd16 oc17 kV17 dc17 pm17 ct17 cd17 oc18 kV18 dc18 pm18 ct18 cd18 oc19 kV19 dc19 pm19 ct19 cd19 oc20 kV20 dc20 pm20 ct20 cd20 oc21 kV21 dc21 pm21 ct21 cd21 oc22 kV22 dc22 pm22 ct22 cd22 oc23 kV23 dc23 pm23 ct23 cd23 oc24 kV24 dc24 pm24 ct24 cd24 oc25 kV25 dc25 pm25 ct25 cd25 oc26 kV26 dc26 pm26 ct26 cd26 oc27 kV27 dc27 pm27 ct27 cd27 oc28 kV28 dc28 pm28 ct28 cd28 oc29 kV29 dc29 pm29 ct29 cd29 oc30 kV30 dc30 pm30 ct30 cd30 : Value}
    (a2 : PySem.W.nsIn K mainGlobals "kinds_by_ends" = some (some (.ref f_2))) (l2 : K.lookup f_2 = some ⟨oc2, od2, .func (PySem.W.fnOf "kinds_by_ends" "kinds_by_ends" (defArgs s_kinds_by_ends) (defBody s_kinds_by_ends) (defScope s_kinds_by_ends) .none kV2 dc2 pm2 an2 cd2 ct2), sl2⟩) (c2 : PySem.W.codeIn K cd2 "kinds_by_ends" = true) (k2 : PySem.W.keepIn K (.ref f_2) = true)
    (a3 : PySem.W.nsIn K mainGlobals "all_neighbours" = some (some (.ref f_3))) (l3 : K.lookup f_3 = some ⟨oc3, od3, .func (PySem.W.fnOf "all_neighbours" "all_neighbours" (defArgs s_all_neighbours) (defBody s_all_neighbours) (defScope s_all_neighbours) .none kV3 dc3 pm3 an3 cd3 ct3), sl3⟩) (c3 : PySem.W.codeIn K cd3 "all_neighbours" = true) (k3 : PySem.W.keepIn K (.ref f_3) = true)
    (a4 : PySem.W.nsIn K mainGlobals "parts" = some (some (.ref f_4))) (l4 : K.lookup f_4 = some ⟨oc4, od4, .func (PySem.W.fnOf "parts" "parts" (defArgs s_parts) (defBody s_parts) (defScope s_parts) .none kV4 dc4 pm4 an4 cd4 ct4), sl4⟩) (c4 : PySem.W.codeIn K cd4 "parts" = true) (k4 : PySem.W.keepIn K (.ref f_4) = true)
    (a5 : PySem.W.nsIn K mainGlobals "part_from" = some (some (.ref f_5))) (l5 : K.lookup f_5 = some ⟨oc5, od5, .func (PySem.W.fnOf "part_from" "part_from" (defArgs s_part_from) (defBody s_part_from) (defScope s_part_from) .none kV5 dc5 pm5 an5 cd5 ct5), sl5⟩) (c5 : PySem.W.codeIn K cd5 "part_from" = true) (k5 : PySem.W.keepIn K (.ref f_5) = true)
    (a6 : PySem.W.nsIn K mainGlobals "hangs" = some (some (.ref f_6))) (l6 : K.lookup f_6 = some ⟨oc6, od6, .func (PySem.W.fnOf "hangs" "hangs" (defArgs s_hangs) (defBody s_hangs) (defScope s_hangs) .none kV6 dc6 pm6 an6 cd6 ct6), sl6⟩) (c6 : PySem.W.codeIn K cd6 "hangs" = true) (k6 : PySem.W.keepIn K (.ref f_6) = true)
    (a7 : PySem.W.nsIn K mainGlobals "cut" = some (some (.ref f_7))) (l7 : K.lookup f_7 = some ⟨oc7, od7, .func (PySem.W.fnOf "cut" "cut" (defArgs s_cut) (defBody s_cut) (defScope s_cut) .none kV7 dc7 pm7 an7 cd7 ct7), sl7⟩) (c7 : PySem.W.codeIn K cd7 "cut" = true) (k7 : PySem.W.keepIn K (.ref f_7) = true)
    (a9 : PySem.W.nsIn K mainGlobals "lies" = some (some (.ref f_9))) (l9 : K.lookup f_9 = some ⟨oc9, od9, .func (PySem.W.fnOf "lies" "lies" (defArgs s_lies) (defBody s_lies) (defScope s_lies) .none kV9 dc9 pm9 an9 cd9 ct9), sl9⟩) (c9 : PySem.W.codeIn K cd9 "lies" = true) (k9 : PySem.W.keepIn K (.ref f_9) = true)
    (a10 : PySem.W.nsIn K mainGlobals "led_ties" = some (some (.ref f_10))) (l10 : K.lookup f_10 = some ⟨oc10, od10, .func (PySem.W.fnOf "led_ties" "led_ties" (defArgs s_led_ties) (defBody s_led_ties) (defScope s_led_ties) .none kV10 dc10 pm10 an10 cd10 ct10), sl10⟩) (c10 : PySem.W.codeIn K cd10 "led_ties" = true) (k10 : PySem.W.keepIn K (.ref f_10) = true)
    (a11 : PySem.W.nsIn K mainGlobals "is_piece" = some (some (.ref f_11))) (l11 : K.lookup f_11 = some ⟨oc11, od11, .func (PySem.W.fnOf "is_piece" "is_piece" (defArgs s_is_piece) (defBody s_is_piece) (defScope s_is_piece) .none kV11 dc11 pm11 an11 cd11 ct11), sl11⟩) (c11 : PySem.W.codeIn K cd11 "is_piece" = true) (k11 : PySem.W.keepIn K (.ref f_11) = true)
    (a12 : PySem.W.nsIn K mainGlobals "are_on_ties" = some (some (.ref f_12))) (l12 : K.lookup f_12 = some ⟨oc12, od12, .func (PySem.W.fnOf "are_on_ties" "are_on_ties" (defArgs s_are_on_ties) (defBody s_are_on_ties) (defScope s_are_on_ties) .none kV12 dc12 pm12 an12 cd12 ct12), sl12⟩) (c12 : PySem.W.codeIn K cd12 "are_on_ties" = true) (k12 : PySem.W.keepIn K (.ref f_12) = true)
    (a13 : PySem.W.nsIn K mainGlobals "hang_by" = some (some (.ref f_13))) (l13 : K.lookup f_13 = some ⟨oc13, od13, .func (PySem.W.fnOf "hang_by" "hang_by" (defArgs s_hang_by) (defBody s_hang_by) (defScope s_hang_by) .none kV13 dc13 pm13 an13 cd13 ct13), sl13⟩) (c13 : PySem.W.codeIn K cd13 "hang_by" = true) (k13 : PySem.W.keepIn K (.ref f_13) = true)
    (a14 : PySem.W.nsIn K mainGlobals "size_of" = some (some (.ref f_14))) (l14 : K.lookup f_14 = some ⟨oc14, od14, .func (PySem.W.fnOf "size_of" "size_of" (defArgs s_size_of) (defBody s_size_of) (defScope s_size_of) .none kV14 dc14 pm14 an14 cd14 ct14), sl14⟩) (c14 : PySem.W.codeIn K cd14 "size_of" = true) (k14 : PySem.W.keepIn K (.ref f_14) = true)
    (a16 : PySem.W.nsIn K mainGlobals "_law_hand" = some (some (.ref f_16))) (l16 : K.lookup f_16 = some ⟨oc16, od16, .func (PySem.W.fnOf "_law_hand" "_law_hand" (defArgs s_hand) (defBody s_hand) (defScope s_hand) .none kV16 dc16 pm16 an16 cd16 ct16), sl16⟩) (c16 : PySem.W.codeIn K cd16 "_law_hand" = true) (k16 : PySem.W.keepIn K (.ref f_16) = true)
    (a17 : PySem.W.nsIn K mainGlobals "_law_draw" = some (some (.ref f_17))) (l17 : K.lookup f_17 = some ⟨oc17, od17, .func (PySem.W.fnOf "_law_draw" "_law_draw" (defArgs s_draw) (defBody s_draw) (defScope s_draw) .none kV17 dc17 pm17 an17 cd17 ct17), sl17⟩) (c17 : PySem.W.codeIn K cd17 "_law_draw" = true) (k17 : PySem.W.keepIn K (.ref f_17) = true)
    (a18 : PySem.W.nsIn K mainGlobals "_law_cells" = some (some (.ref f_18))) (l18 : K.lookup f_18 = some ⟨oc18, od18, .func (PySem.W.fnOf "_law_cells" "_law_cells" (defArgs s_cells) (defBody s_cells) (defScope s_cells) .none kV18 dc18 pm18 an18 cd18 ct18), sl18⟩) (c18 : PySem.W.codeIn K cd18 "_law_cells" = true) (k18 : PySem.W.keepIn K (.ref f_18) = true)
    (a19 : PySem.W.nsIn K mainGlobals "_law_great" = some (some (.ref f_19))) (l19 : K.lookup f_19 = some ⟨oc19, od19, .func (PySem.W.fnOf "_law_great" "_law_great" (defArgs s_great) (defBody s_great) (defScope s_great) .none kV19 dc19 pm19 an19 cd19 ct19), sl19⟩) (c19 : PySem.W.codeIn K cd19 "_law_great" = true) (k19 : PySem.W.keepIn K (.ref f_19) = true)
    (a20 : PySem.W.nsIn K mainGlobals "_law_letters" = some (some (.ref f_20))) (l20 : K.lookup f_20 = some ⟨oc20, od20, .func (PySem.W.fnOf "_law_letters" "_law_letters" (defArgs s_letters) (defBody s_letters) (defScope s_letters) .none kV20 dc20 pm20 an20 cd20 ct20), sl20⟩) (c20 : PySem.W.codeIn K cd20 "_law_letters" = true) (k20 : PySem.W.keepIn K (.ref f_20) = true)
    (a21 : PySem.W.nsIn K mainGlobals "_law_web" = some (some (.ref f_21))) (l21 : K.lookup f_21 = some ⟨oc21, od21, .func (PySem.W.fnOf "_law_web" "_law_web" (defArgs s_web) (defBody s_web) (defScope s_web) .none kV21 dc21 pm21 an21 cd21 ct21), sl21⟩) (c21 : PySem.W.codeIn K cd21 "_law_web" = true) (k21 : PySem.W.keepIn K (.ref f_21) = true)
    (a22 : PySem.W.nsIn K mainGlobals "_law_size" = some (some (.ref f_22))) (l22 : K.lookup f_22 = some ⟨oc22, od22, .func (PySem.W.fnOf "_law_size" "_law_size" (defArgs s_size) (defBody s_size) (defScope s_size) .none kV22 dc22 pm22 an22 cd22 ct22), sl22⟩) (c22 : PySem.W.codeIn K cd22 "_law_size" = true) (k22 : PySem.W.keepIn K (.ref f_22) = true)
    (a23 : PySem.W.nsIn K mainGlobals "_law_order" = some (some (.ref f_23))) (l23 : K.lookup f_23 = some ⟨oc23, od23, .func (PySem.W.fnOf "_law_order" "_law_order" (defArgs s_order) (defBody s_order) (defScope s_order) .none kV23 dc23 pm23 an23 cd23 ct23), sl23⟩) (c23 : PySem.W.codeIn K cd23 "_law_order" = true) (k23 : PySem.W.keepIn K (.ref f_23) = true)
    (a24 : PySem.W.nsIn K mainGlobals "_law_named" = some (some (.ref f_24))) (l24 : K.lookup f_24 = some ⟨oc24, od24, .func (PySem.W.fnOf "_law_named" "_law_named" (defArgs s_named) (defBody s_named) (defScope s_named) .none kV24 dc24 pm24 an24 cd24 ct24), sl24⟩) (c24 : PySem.W.codeIn K cd24 "_law_named" = true) (k24 : PySem.W.keepIn K (.ref f_24) = true)
    (a25 : PySem.W.nsIn K mainGlobals "_law_other" = some (some (.ref f_25))) (l25 : K.lookup f_25 = some ⟨oc25, od25, .func (PySem.W.fnOf "_law_other" "_law_other" (defArgs s_other) (defBody s_other) (defScope s_other) .none kV25 dc25 pm25 an25 cd25 ct25), sl25⟩) (c25 : PySem.W.codeIn K cd25 "_law_other" = true) (k25 : PySem.W.keepIn K (.ref f_25) = true)
    (a26 : PySem.W.nsIn K mainGlobals "_law_lead" = some (some (.ref f_26))) (l26 : K.lookup f_26 = some ⟨oc26, od26, .func (PySem.W.fnOf "_law_lead" "_law_lead" (defArgs s_lead) (defBody s_lead) (defScope s_lead) .none kV26 dc26 pm26 an26 cd26 ct26), sl26⟩) (c26 : PySem.W.codeIn K cd26 "_law_lead" = true) (k26 : PySem.W.keepIn K (.ref f_26) = true)
    (a27 : PySem.W.nsIn K mainGlobals "_law_webs" = some (some (.ref f_27))) (l27 : K.lookup f_27 = some ⟨oc27, od27, .func (PySem.W.fnOf "_law_webs" "_law_webs" (defArgs s_webs) (defBody s_webs) (defScope s_webs) .none kV27 dc27 pm27 an27 cd27 ct27), sl27⟩) (c27 : PySem.W.codeIn K cd27 "_law_webs" = true) (k27 : PySem.W.keepIn K (.ref f_27) = true)
    (a28 : PySem.W.nsIn K mainGlobals "_law_cut_right" = some (some (.ref f_28))) (l28 : K.lookup f_28 = some ⟨oc28, od28, .func (PySem.W.fnOf "_law_cut_right" "_law_cut_right" (defArgs s_cut_right) (defBody s_cut_right) (defScope s_cut_right) .none kV28 dc28 pm28 an28 cd28 ct28), sl28⟩) (c28 : PySem.W.codeIn K cd28 "_law_cut_right" = true) (k28 : PySem.W.keepIn K (.ref f_28) = true)
    (a29 : PySem.W.nsIn K mainGlobals "_law_ties_right" = some (some (.ref f_29))) (l29 : K.lookup f_29 = some ⟨oc29, od29, .func (PySem.W.fnOf "_law_ties_right" "_law_ties_right" (defArgs s_ties_right) (defBody s_ties_right) (defScope s_ties_right) .none kV29 dc29 pm29 an29 cd29 ct29), sl29⟩) (c29 : PySem.W.codeIn K cd29 "_law_ties_right" = true) (k29 : PySem.W.keepIn K (.ref f_29) = true)
    (a30 : PySem.W.nsIn K mainGlobals "law" = some (some (.ref f_30))) (l30 : K.lookup f_30 = some ⟨oc30, od30, .func (PySem.W.fnOf "law" "law" (defArgs s_law) (defBody s_law) (defScope s_law) .none kV30 dc30 pm30 an30 cd30 ct30), sl30⟩) (c30 : PySem.W.codeIn K cd30 "law" = true) (k30 : PySem.W.keepIn K (.ref f_30) = true)
    (z0 : PySem.W.nsIn K mainGlobals "dict" = some none)
    (z1 : PySem.W.nsIn K mainGlobals "enumerate" = some none)
    (z2 : PySem.W.nsIn K mainGlobals "int" = some none)
    (z3 : PySem.W.nsIn K mainGlobals "len" = some none)
    (z4 : PySem.W.nsIn K mainGlobals "list" = some none)
    (z5 : PySem.W.nsIn K mainGlobals "max" = some none)
    (z6 : PySem.W.nsIn K mainGlobals "min" = some none)
    (z7 : PySem.W.nsIn K mainGlobals "range" = some none)
    (z8 : PySem.W.nsIn K mainGlobals "set" = some none)
    (z9 : PySem.W.nsIn K mainGlobals "sorted" = some none)
    (z10 : PySem.W.nsIn K mainGlobals "sum" = some none)
    (z11 : PySem.W.nsIn K mainGlobals "tuple" = some none)
    (y0 : PySem.W.nsIn K mainGlobals "combinations" = some (some (.type "itertools.combinations"))) :
    ∃ fd : FuncData, (∀ (s : Shared) (v : Value), BindsTo s fd ⟨[v], []⟩ [("script", v)]) ∧ ∀ base : Heap, K.In base → base.Ns mainGlobals mg → FnOk l.prog w K mg base CX0 7 fa fd ["script"] (spLaw K) := by
  have e := hfa.symm.trans (PySem.W.mg_of X G a30)
  cases e
  have F2 := fun_mk (st := s_kinds_by_ends) l2 c2 k2
  have b2 := F2.binds (ps := ["web"]) fun _ _ _ _ _ _ us hl => match us, hl with | [_], _ => rfl
  have F3 := fun_mk (st := s_all_neighbours) l3 c3 k3
  have b3 := F3.binds (ps := ["web"]) fun _ _ _ _ _ _ us hl => match us, hl with | [_], _ => rfl
  have F4 := fun_mk (st := s_parts) l4 c4 k4
  have b4 := F4.binds (ps := ["web"]) fun _ _ _ _ _ _ us hl => match us, hl with | [_], _ => rfl
  have F5 := fun_mk (st := s_part_from) l5 c5 k5
  have b5 := F5.binds (ps := ["beside", "start"]) fun _ _ _ _ _ _ us hl => match us, hl with | [_, _], _ => rfl
  have F6 := fun_mk (st := s_hangs) l6 c6 k6
  have b6 := F6.binds (ps := ["web"]) fun _ _ _ _ _ _ us hl => match us, hl with | [_], _ => rfl
  have F7 := fun_mk (st := s_cut) l7 c7 k7
  have b7 := F7.binds (ps := ["web", "places"]) fun _ _ _ _ _ _ us hl => match us, hl with | [_, _], _ => rfl
  have F9 := fun_mk (st := s_lies) l9 c9 k9
  have b9 := F9.binds (ps := ["one", "other", "lead"]) fun _ _ _ _ _ _ us hl => match us, hl with | [_, _, _], _ => rfl
  have F10 := fun_mk (st := s_led_ties) l10 c10 k10
  have b10 := F10.binds (ps := ["one", "other", "lead"]) fun _ _ _ _ _ _ us hl => match us, hl with | [_, _, _], _ => rfl
  have F11 := fun_mk (st := s_is_piece) l11 c11 k11
  have b11 := F11.binds (ps := ["one", "other", "lead", "how", "together"]) fun _ _ _ _ _ _ us hl => match us, hl with | [_, _, _, _, _], _ => rfl
  have F12 := fun_mk (st := s_are_on_ties) l12 c12 k12
  have b12 := F12.binds (ps := ["led", "lead"]) fun _ _ _ _ _ _ us hl => match us, hl with | [_, _], _ => rfl
  have F13 := fun_mk (st := s_hang_by) l13 c13 k13
  have b13 := F13.binds (ps := ["kinds", "ties", "lead"]) fun _ _ _ _ _ _ us hl => match us, hl with | [_, _, _], _ => rfl
  have F14 := fun_mk (st := s_size_of) l14 c14 k14
  have b14 := F14.binds (ps := ["one", "other", "lead", "how"]) fun _ _ _ _ _ _ us hl => match us, hl with | [_, _, _, _], _ => rfl
  have F16 := fun_mk (st := s_hand) l16 c16 k16
  have b16 := F16.binds (ps := ["cell", "k"]) fun _ _ _ _ _ _ us hl => match us, hl with | [_, _], _ => rfl
  have F17 := fun_mk (st := s_draw) l17 c17 k17
  have b17 := F17.binds (ps := ["hand", "limit"]) fun _ _ _ _ _ _ us hl => match us, hl with | [_, _], _ => rfl
  have F18 := fun_mk (st := s_cells) l18 c18 k18
  have b18 := F18.binds (ps := ["script", "many"]) fun _ _ _ _ _ _ us hl => match us, hl with | [_, _], _ => rfl
  have F19 := fun_mk (st := s_great) l19 c19 k19
  have b19 := F19.binds (ps := ["script"]) fun _ _ _ _ _ _ us hl => match us, hl with | [_], _ => rfl
  have F20 := fun_mk (st := s_letters) l20 c20 k20
  have b20 := F20.binds (ps := ["hand"]) fun _ _ _ _ _ _ us hl => match us, hl with | [_], _ => rfl
  have F21 := fun_mk (st := s_web) l21 c21 k21
  have b21 := F21.binds (ps := ["hand", "many"]) fun _ _ _ _ _ _ us hl => match us, hl with | [_, _], _ => rfl
  have F22 := fun_mk (st := s_size) l22 c22 k22
  have b22 := F22.binds (ps := ["hand", "great"]) fun _ _ _ _ _ _ us hl => match us, hl with | [_, _], _ => rfl
  have F23 := fun_mk (st := s_order) l23 c23 k23
  have b23 := F23.binds (ps := ["hand", "many"]) fun _ _ _ _ _ _ us hl => match us, hl with | [_, _], _ => rfl
  have F24 := fun_mk (st := s_named) l24 c24 k24
  have b24 := F24.binds (ps := ["web", "order"]) fun _ _ _ _ _ _ us hl => match us, hl with | [_, _], _ => rfl
  have F25 := fun_mk (st := s_other) l25 c25 k25
  have b25 := F25.binds (ps := ["hand", "one"]) fun _ _ _ _ _ _ us hl => match us, hl with | [_, _], _ => rfl
  have F26 := fun_mk (st := s_lead) l26 c26 k26
  have b26 := F26.binds (ps := ["hand", "one", "other", "names"]) fun _ _ _ _ _ _ us hl => match us, hl with | [_, _, _, _], _ => rfl
  have F27 := fun_mk (st := s_webs) l27 c27 k27
  have b27 := F27.binds (ps := ["hand", "great"]) fun _ _ _ _ _ _ us hl => match us, hl with | [_, _], _ => rfl
  have F28 := fun_mk (st := s_cut_right) l28 c28 k28
  have b28 := F28.binds (ps := ["one", "other", "lead"]) fun _ _ _ _ _ _ us hl => match us, hl with | [_, _, _], _ => rfl
  have F29 := fun_mk (st := s_ties_right) l29 c29 k29
  have b29 := F29.binds (ps := ["one", "other", "lead"]) fun _ _ _ _ _ _ us hl => match us, hl with | [_, _, _], _ => rfl
  have F30 := fun_mk (st := s_law) l30 c30 k30
  have b30 := F30.binds (ps := ["script"]) fun _ _ _ _ _ _ us hl => match us, hl with | [_], _ => rfl
  let T : Tx K mg := ⟨⟨_, _, F2, b2, PySem.W.mg_of X G a2⟩, ⟨_, _, F3, b3, PySem.W.mg_of X G a3⟩, ⟨_, _, F4, b4, PySem.W.mg_of X G a4⟩, ⟨_, _, F5, b5, PySem.W.mg_of X G a5⟩, ⟨_, _, F6, b6, PySem.W.mg_of X G a6⟩, ⟨_, _, F7, b7, PySem.W.mg_of X G a7⟩, ⟨_, _, F9, b9, PySem.W.mg_of X G a9⟩, ⟨_, _, F10, b10, PySem.W.mg_of X G a10⟩, ⟨_, _, F11, b11, PySem.W.mg_of X G a11⟩, ⟨_, _, F12, b12, PySem.W.mg_of X G a12⟩, ⟨_, _, F13, b13, PySem.W.mg_of X G a13⟩, ⟨_, _, F14, b14, PySem.W.mg_of X G a14⟩, ⟨_, _, F16, b16, PySem.W.mg_of X G a16⟩, ⟨_, _, F17, b17, PySem.W.mg_of X G a17⟩, ⟨_, _, F18, b18, PySem.W.mg_of X G a18⟩, ⟨_, _, F19, b19, PySem.W.mg_of X G a19⟩, ⟨_, _, F20, b20, PySem.W.mg_of X G a20⟩, ⟨_, _, F21, b21, PySem.W.mg_of X G a21⟩, ⟨_, _, F22, b22, PySem.W.mg_of X G a22⟩, ⟨_, _, F23, b23, PySem.W.mg_of X G a23⟩, ⟨_, _, F24, b24, PySem.W.mg_of X G a24⟩, ⟨_, _, F25, b25, PySem.W.mg_of X G a25⟩, ⟨_, _, F26, b26, PySem.W.mg_of X G a26⟩, ⟨_, _, F27, b27, PySem.W.mg_of X G a27⟩, ⟨_, _, F28, b28, PySem.W.mg_of X G a28⟩, ⟨_, _, F29, b29, PySem.W.mg_of X G a29⟩, ⟨_, _, F30, b30, PySem.W.mg_of X G a30⟩, PySem.W.mg_none_of X G z0, PySem.W.mg_none_of X G z1, PySem.W.mg_none_of X G z2, PySem.W.mg_none_of X G z3, PySem.W.mg_none_of X G z4, PySem.W.mg_none_of X G z5, PySem.W.mg_none_of X G z6, PySem.W.mg_none_of X G z7, PySem.W.mg_none_of X G z8, PySem.W.mg_none_of X G z9, PySem.W.mg_none_of X G z10, PySem.W.mg_none_of X G z11, PySem.W.mg_of X G y0⟩
  exact ⟨T.law.fd, fun s v => .of_eq rfl, fun base _ _ => ok_law T⟩
end Cw
open PySem PySem.W PyProof.Rows
set_option maxHeartbeats 0 in
theorem PySem.Challenge.cw_commonweb_k14_whole_pieces_by_cuts_holds : PySem.Challenge.rw_commonweb_k14_whole_pieces_by_cuts.Holds := by
  w_on; o_law; k_head; (case hw => w_witness2)
  k_fill
  refine L2.walk_of (l := PySem.Challenge.rw_commonweb_k14_whole_pieces_by_cuts) (n := 63) (k := 7) (x := "script") (CX := fun _ => L2.CX0) (sp := fun w => Cw.spLaw _) rfl (by decide) rfl ⟨rfl, by decide, by decide⟩ (fun w h Y => PySem.W.kIn_of Y) ?F (fun _ _ a ns hl _ hS => ⟨a, ns, rfl, hS, hl, fun _ => rfl⟩) (fun _ _ _ _ _ h => h)
  case F =>
    intro w mg fa h KX G hmg
    refine' Cw.all_mk KX G hmg ?a2 ?l2 ?c2 ?k2 ?a3 ?l3 ?c3 ?k3 ?a4 ?l4 ?c4 ?k4 ?a5 ?l5 ?c5 ?k5 ?a6 ?l6 ?c6 ?k6 ?a7 ?l7 ?c7 ?k7 ?a9 ?l9 ?c9 ?k9 ?a10 ?l10 ?c10 ?k10 ?a11 ?l11 ?c11 ?k11 ?a12 ?l12 ?c12 ?k12 ?a13 ?l13 ?c13 ?k13 ?a14 ?l14 ?c14 ?k14 ?a16 ?l16 ?c16 ?k16 ?a17 ?l17 ?c17 ?k17 ?a18 ?l18 ?c18 ?k18 ?a19 ?l19 ?c19 ?k19 ?a20 ?l20 ?c20 ?k20 ?a21 ?l21 ?c21 ?k21 ?a22 ?l22 ?c22 ?k22 ?a23 ?l23 ?c23 ?k23 ?a24 ?l24 ?c24 ?k24 ?a25 ?l25 ?c25 ?k25 ?a26 ?l26 ?c26 ?k26 ?a27 ?l27 ?c27 ?k27 ?a28 ?l28 ?c28 ?k28 ?a29 ?l29 ?c29 ?k29 ?a30 ?l30 ?c30 ?k30 ?z0 ?z1 ?z2 ?z3 ?z4 ?z5 ?z6 ?z7 ?z8 ?z9 ?z10 ?z11 ?y0
    (case a2 => k_is); (case l2 => k_is); (case c2 => k_is); (case k2 => k_is); (case a3 => k_is); (case l3 => k_is); (case c3 => k_is); (case k3 => k_is); (case a4 => k_is); (case l4 => k_is); (case c4 => k_is); (case k4 => k_is); (case a5 => k_is); (case l5 => k_is); (case c5 => k_is); (case k5 => k_is); (case a6 => k_is); (case l6 => k_is); (case c6 => k_is); (case k6 => k_is); (case a7 => k_is); (case l7 => k_is); (case c7 => k_is); (case k7 => k_is); (case a9 => k_is); (case l9 => k_is); (case c9 => k_is); (case k9 => k_is); (case a10 => k_is); (case l10 => k_is); (case c10 => k_is); (case k10 => k_is); (case a11 => k_is); (case l11 => k_is); (case c11 => k_is); (case k11 => k_is); (case a12 => k_is); (case l12 => k_is); (case c12 => k_is); (case k12 => k_is); (case a13 => k_is); (case l13 => k_is); (case c13 => k_is); (case k13 => k_is); (case a14 => k_is); (case l14 => k_is); (case c14 => k_is); (case k14 => k_is); (case a16 => k_is); (case l16 => k_is); (case c16 => k_is); (case k16 => k_is); (case a17 => k_is); (case l17 => k_is); (case c17 => k_is); (case k17 => k_is); (case a18 => k_is); (case l18 => k_is); (case c18 => k_is); (case k18 => k_is); (case a19 => k_is); (case l19 => k_is); (case c19 => k_is); (case k19 => k_is); (case a20 => k_is); (case l20 => k_is); (case c20 => k_is); (case k20 => k_is); (case a21 => k_is); (case l21 => k_is); (case c21 => k_is); (case k21 => k_is); (case a22 => k_is); (case l22 => k_is); (case c22 => k_is); (case k22 => k_is); (case a23 => k_is); (case l23 => k_is); (case c23 => k_is); (case k23 => k_is); (case a24 => k_is); (case l24 => k_is); (case c24 => k_is); (case k24 => k_is); (case a25 => k_is); (case l25 => k_is); (case c25 => k_is); (case k25 => k_is); (case a26 => k_is); (case l26 => k_is); (case c26 => k_is); (case k26 => k_is); (case a27 => k_is); (case l27 => k_is); (case c27 => k_is); (case k27 => k_is); (case a28 => k_is); (case l28 => k_is); (case c28 => k_is); (case k28 => k_is); (case a29 => k_is); (case l29 => k_is); (case c29 => k_is); (case k29 => k_is); (case a30 => k_is); (case l30 => k_is); (case c30 => k_is); (case k30 => k_is); (case z0 => k_is); (case z1 => k_is); (case z2 => k_is); (case z3 => k_is); (case z4 => k_is); (case z5 => k_is); (case z6 => k_is); (case z7 => k_is); (case z8 => k_is); (case z9 => k_is); (case z10 => k_is); (case z11 => k_is); (case y0 => k_is)
