import PyProof.Rows.All
import Wide.All
import OpenK.AllK
import Wide.FinOn
import PySem.Challenge.RW_commonweb_k39_bounds_by_kinds
import HandS.ForMost
import HandS.Conv
import KE.KItemsList
import KE.KDictZip
import HandS.Deep
import HandS.Evl
import HandS.IsInst
import HandS.Zip
import HandS.Walk
import KE.KEqSeq
import KE.KEqDeep
import HandS.SortRule
import HandS.DictTup
import KE.KDictSum
import PyProof.Draws
import HandS.SetFor
import PyProof.P3Eq
import HandS.NoneIn
import KE.DataFind
import PyProof.WalkInts
import PyProof.PureStr
set_option Elab.async false
set_option linter.all false
set_option maxRecDepth 100000
set_option maxHeartbeats 4000000
/-! list(enumerate(xs)) -/
namespace Cw
open PySem PySem.Spec PySem.Calls PyProof.Rows L2

theorem en_nolen : typeLookup (.type "enumerate") "__len__" = pure none := am_miss_of_fast (by decide +kernel)
theorem en_nohint : typeLookup (.type "enumerate") "__length_hint__" = pure none := am_miss_of_fast (by decide +kernel)

/-- how the iterator stands ahead of turn i -/
def EnSt (h : Heap) (e it l S : Addr) (items : Array Value) (i : Nat) : Prop :=
  h.IsListIter it l i ∧ h.IsList l items ∧ ((∃ old, IsEnum h e it i old) ∨ ∃ old T f oT, IsEnumHeld h e it i old T f ∧ h.get? T = some oT ∧ T ≠ e ∧ T ≠ it ∧ T ≠ S)

theorem EnSt.keep {h h' : Heap} {e it l S : Addr} {items : Array Value} {i : Nat} (x : EnSt h e it l S items i) (hk : ∀ b o, b ≠ S → h.get? b = some o → h'.get? b = some o) (h1 : e ≠ S) (h2 : it ≠ S) (h3 : l ≠ S) : EnSt h' e it l S items i := by
  obtain ⟨a, b, c⟩ := x
  refine ⟨a.at fun o q => hk it o h2 q, b.at fun o q => hk l o h3 q, ?_⟩
  rcases c with ⟨old, c⟩ | ⟨old, T, f, oT, c, hT, r1, r2, r3⟩
  · exact .inl ⟨old, hk _ _ h1 c⟩
  · exact .inr ⟨old, T, f, oT, hk _ _ h1 c, hk _ _ r3 hT, r1, r2, r3⟩

section
variable {prog : Program} {w : World} {A : Around} {E : Value → Shared → Prop} {s : Shared} {e it l S : Addr} {items : Array Value}

theorem en_item {i : Nat} {x : Value} {Q : Option Value → Shared → Prop} (st : EnSt s.heap e it l S items i) (hei : e ≠ it) (hle : l ≠ e) (hli : l ≠ it) (hS : S < s.heap.objs.size) (hx : items[i]? = some x)
    (hQ : ∀ h' t, EnSt h' e it l S items (i + 1) → h'.get? s.heap.objs.size = some { cls := .type "tuple", data := .seq #[.int i t, x] } → h'.objs.size = s.heap.objs.size + 1 →
      (∀ b o, b ≠ e → b ≠ it → s.heap.get? b = some o → h'.get? b = some o) → ∀ tk, Q (some (.ref s.heap.objs.size)) { s with heap := h', toks := tk }) : wpAny (model prog w) A (pyNext (.ref e)) Q E s := by
  obtain ⟨a, b, c⟩ := st
  have ec : ((i + 1 : Nat) : Int) = (i : Int) + 1 := by omega
  have nit : s.heap.objs.size ≠ it := let ⟨_, q, _⟩ := a; Nat.ne_of_gt (Heap.lt_size q)
  rcases c with ⟨old, c⟩ | ⟨old, T, f, oT, c, hT, r1, r2, r3⟩
  · refine wpAny_pyNext_enum_item c a b hx hei fun h' ho hit' hT hsz hk => hQ h' _ ⟨hit', b.at fun o q => hk l o hle hli q, .inr ⟨_, s.heap.objs.size, false, _, (by rw [ec]; exact ho), hT, Nat.ne_of_gt (Heap.lt_size c), nit, Nat.ne_of_gt hS⟩⟩ hT hsz hk _
  · refine wpAny_pyNext_enum_item_held c hT r1 r2 a b hx hei fun h' ho hit' hT' hsz hk => hQ h' _ ⟨hit', b.at fun o q => hk l o hle hli q, .inr ⟨old, T, true, oT, (by rw [ec]; exact ho), hk _ _ r1 r2 hT, r1, r2, r3⟩⟩ hT' hsz hk _

theorem en_done {i : Nat} {Q : Option Value → Shared → Prop} (hh : A.handled = none) (st : EnSt s.heap e it l S items i) (hx : items[i]? = none)
    (hQ : ∀ h', Heap.ExtBut it s.heap h' → Q none { s with heap := h' }) : wpAny (model prog w) A (pyNext (.ref e)) Q E s := by
  obtain ⟨a, b, c⟩ := st
  rcases c with ⟨old, c⟩ | ⟨old, T, f, oT, c, hT, r1, r2, r3⟩
  · exact wpAny_pyNext_enum_end hh c a b hx hQ
  · exact wpAny_pyNext_enum_end_held hh c a b hx hQ

/-- the tuples made so far -/
structure EnG (items : Array Value) (lo : Addr) (h : Heap) (as : List Addr) : Prop where
  rise : as.Pairwise (· < ·)
  above : ∀ a ∈ as, lo < a
  pairs : ∀ (j : Nat) (a : Addr), as[j]? = some a → ∃ t x, items[j]? = some x ∧ h.get? a = some { cls := .type "tuple", data := .seq #[.int j t, x] }
theorem EnG.there {lo : Addr} {h : Heap} {as : List Addr} (g : EnG items lo h as) {a : Addr} (ha : a ∈ as) : a < h.objs.size := by
  obtain ⟨j, hj⟩ := List.mem_iff_getElem?.mp ha
  obtain ⟨_, _, _, z⟩ := g.pairs j a hj
  exact Heap.lt_size z

theorem en_loop {R : Result → Shared → Prop} (hh : A.handled = none) (hei : e ≠ it) (hle : l ≠ e) (hli : l ≠ it) (heS : e < S) (hiS : it < S) (hlS : l < S) (hn : items.size ≤ sizeLine) (res : Value) {h₁ : Heap}
    (hR : ∀ h' tk acc c as, (∀ b o, b ≠ S → b ≠ e → b ≠ it → h₁.get? b = some o → h'.get? b = some o) → h'.get? S = some { cls := .type "list", dict := none, data := .seq acc c, slots := #[] } → as.length = items.size → EnG items S h' as →
      acc.toList = as.map Value.ref → R (.ok (.ret res)) { s with heap := h', toks := tk }) :
    ∀ (k i : Nat) (h : Heap) (tk c : Nat) (acc : Array Value) (as : List Addr), items.size - i = k → i ≤ items.size → EnSt h e it l S items i → (∀ b o, b ≠ S → b ≠ e → b ≠ it → h₁.get? b = some o → h.get? b = some o) →
      h.get? S = some { cls := .type "list", dict := none, data := .seq acc c, slots := #[] } → acc.toList = as.map Value.ref → as.length = i → EnG items S h as →
      codeAny (model prog w) A (.builtin "list.extend.loop" ⟨[.ref S, .ref e, res], []⟩) R { s with heap := h, toks := tk } := by
  have neS : e ≠ S := Nat.ne_of_lt heS
  have niS : it ≠ S := Nat.ne_of_lt hiS
  have nlS : l ≠ S := Nat.ne_of_lt hlS
  intro k
  induction k with
  | zero =>
    intro i h tk c acc as hk hi hst hkeep hS hacc hal hG
    refine codeAny_builtin (prog := prog) (w := w) PySem.F.entry_extend_loop ?_
    rw [Around.under_plainId (A := A) PySem.F.plain_extend_loop _]
    show wpAny _ A.in1 (pyNext (.ref e) >>= _) _ _ _
    refine wpAny_bind (en_done (s := { s with heap := h, toks := tk }) (A := A.in1) hh hst (Array.getElem?_eq_none (by omega)) fun h' he => ?_)
    refine wpAny_pure (hR h' tk acc c as (fun b o h1 h2 h3 q => he b o h3 (hkeep b o h1 h2 h3 q)) (he S _ niS.symm hS) (by omega) ⟨hG.rise, hG.above, fun j a hj => ?_⟩ hacc)
    obtain ⟨t, x, z1, z2⟩ := hG.pairs j a hj
    exact ⟨t, x, z1, he a _ (Nat.ne_of_gt (Nat.lt_trans hiS (hG.above a (List.mem_of_getElem? hj)))) z2⟩
  | succ k ih =>
    intro i h tk c acc as hk hi hst hkeep hS hacc hal hG
    have hlt : i < items.size := by omega
    have hx : items[i]? = some items[i] := Array.getElem?_eq_getElem hlt
    have hsz : acc.size = i := by rw [← Array.length_toList, hacc, List.length_map, hal]
    refine codeAny_builtin (prog := prog) (w := w) PySem.F.entry_extend_loop ?_
    rw [Around.under_plainId (A := A) PySem.F.plain_extend_loop _]
    show wpAny _ A.in1 (pyNext (.ref e) >>= _) _ _ _
    refine wpAny_bind (en_item (s := { s with heap := h, toks := tk }) (S := S) hst hei hle hli (Heap.lt_size hS) hx fun h' t hst' ht hz hkp tk' => ?_)
    dsimp only at ht hz hkp ⊢
    have hS' := hkp S _ neS.symm niS.symm hS
    have up : ∀ b o, b ≠ S → h'.get? b = some o → (h'.update S (Obj.mapSeq (·.push (Value.ref h.objs.size)))).get? b = some o := fun b o hb q => (Heap.get?_update_other _ _ (Ne.symm hb)).trans q
    have hSl : S < h.objs.size := Heap.lt_size hS
    show wpAny _ A.in1 (updateSeq S (·.push (Value.ref h.objs.size)) >>= _) _ _ _
    refine wpAny_bind (wpAny_updateSeq hS' rfl (wpAny_pure ⟨plainId_quiet PySem.F.plain_extend_loop _, ih (i + 1) _ tk' _ (acc.push (Value.ref h.objs.size)) (as ++ [h.objs.size]) (by omega) hlt (hst'.keep up neS niS nlS)
      (fun b o h1 h2 h3 q => up b o h1 (hkp b o h2 h3 (hkeep b o h1 h2 h3 q))) (Heap.get?_update_self _ hS' rfl) (by rw [Array.toList_push, hacc, List.map_append]; rfl) (by rw [List.length_append, hal]; rfl) ⟨?_, ?_, ?_⟩⟩) (by rw [hsz]; omega) (by show (acc.push (Value.ref h.objs.size)).size ≤ sizeLine + 1; rw [Array.size_push, hsz]; omega))
    · refine List.pairwise_append.mpr ⟨hG.rise, List.pairwise_singleton _ _, fun a ha b hb => ?_⟩
      rw [List.mem_singleton.mp hb]; exact hG.there ha
    · intro a ha
      rcases List.mem_append.mp ha with ha | ha
      · exact hG.above a ha
      · rw [List.mem_singleton.mp ha]; exact hSl
    · intro j b hj
      rcases Nat.lt_trichotomy j as.length with h1 | h1 | h1
      · rw [List.getElem?_append_left h1] at hj
        obtain ⟨t', x', z1, z2⟩ := hG.pairs j b hj
        have hb := hG.above b (List.mem_of_getElem? hj)
        exact ⟨t', x', z1, up b _ (Nat.ne_of_gt hb) (hkp b _ (Nat.ne_of_gt (Nat.lt_trans heS hb)) (Nat.ne_of_gt (Nat.lt_trans hiS hb)) z2)⟩
      · subst h1
        have hb : h.objs.size = b := by simpa using hj
        subst hb
        exact ⟨t, _, by rw [hal]; exact hx, by rw [hal]; exact up _ _ (Nat.ne_of_gt hSl) ht⟩
      · have hnone : (as ++ [h.objs.size])[j]? = none := List.getElem?_eq_none (by rw [List.length_append, List.length_singleton]; omega)
        rw [hnone] at hj; cases hj

theorem en_hint (hT : s.TypeIs (.ref e) "enumerate") {Q : Bool → Shared → Prop} (h : Q true s) : wpAny (model prog w) A (Builtin.List.listLengthHint (.ref e)) Q E s := by
  unfold Builtin.List.listLengthHint
  refine wpAny_bind (wpAny_specialOf hT en_nolen ?_)
  show wpAny _ _ (specialOf (Value.ref e) (Str.ofString "__length_hint__") >>= _) _ _ _
  refine wpAny_bind (wpAny_specialOf hT en_nohint ?_)
  exact wpAny_pure h

theorem en_extend {R : Result → Shared → Prop} (hh : A.handled = none) (he : IsEnum s.heap e it 0 .none) (hit : s.heap.IsListIter it l 0) (hl : s.heap.IsList l items) (hei : e ≠ it) (hle : l ≠ e) (hli : l ≠ it) (heS : e < S) (hiS : it < S) (hlS : l < S) (res : Value) (c₀ : Nat) (hS : s.heap.get? S = some { cls := .type "list", data := .seq #[] c₀ })
    (hR : ∀ h' tk acc c as, (∀ b o, b ≠ S → b ≠ e → b ≠ it → s.heap.get? b = some o → h'.get? b = some o) → h'.get? S = some { cls := .type "list", dict := none, data := .seq acc c, slots := #[] } → as.length = items.size → EnG items S h' as →
      acc.toList = as.map Value.ref → R (.ok (.ret res)) { s with heap := h', toks := tk }) (hn : items.size ≤ sizeLine) :
    wpAny (model prog w) A.in1 (Builtin.List.listExtendWith (.ref S) (.ref e) res)
      (fun fin s' => match fin with | .done f => R (.ok f) s' | .again c' => c'.quiet = true ∧ codeAny (model prog w) A c' R s') (fun e s' => R (.error e) s') s := by
  have hSr : S ≠ e := Nat.ne_of_gt heS
  have hTy : s.TypeIs (.ref e) "enumerate" := ⟨_, he, rfl⟩
  have key : ∀ (h : Heap) (c₁ tk : Nat), (∀ b o, b ≠ S → s.heap.get? b = some o → h.get? b = some o) → h.get? S = some { cls := .type "list", data := .seq #[] c₁ } → codeAny (model prog w) A (.builtin "list.extend.loop" ⟨[.ref S, .ref e, res], []⟩) R { s with heap := h, toks := tk } := by
    intro h c₁ tk hk hS₁
    refine en_loop (s := s) (h₁ := s.heap) hh hei hle hli heS hiS hlS hn res hR items.size 0 h tk c₁ #[] [] (Nat.sub_zero _) (Nat.zero_le _) ⟨hit.at fun o q => hk it o (Nat.ne_of_lt hiS) q, hl.at fun o q => hk l o (Nat.ne_of_lt hlS) q, .inl ⟨_, hk _ _ (Nat.ne_of_lt heS) he⟩⟩
      (fun b o h1 _ _ q => hk b o h1 q) hS₁ rfl rfl ⟨List.Pairwise.nil, (fun _ ha => nomatch ha), (fun j a hj => by simp at hj)⟩
  unfold Builtin.List.listExtendWith
  refine wpAny_bind (wpAny_typeOf (T := "enumerate") hTy ?_)
  have h1 : Builtin.List.listSameRef (.ref S) (.ref e) = false := by simp [Builtin.List.listSameRef, hSr]
  have h2 : (Value.type "enumerate" == Value.type "list") = false := by decide
  have h3 : (Value.type "enumerate" == Value.type "tuple") = false := by decide
  simp only [h1, h2, h3, Bool.or_false, Bool.false_eq_true, if_false]
  refine wpAny_bind (wpAny_pyIter_enum he ?_)
  refine wpAny_bind (wpAny_holding (en_hint hTy ?_))
  refine wpAny_ite_split (fun _ => ?_) (fun _ => wpAny_pure ⟨plainId_quiet PySem.F.plain_extend_loop _, key _ c₀ _ (fun b o _ q => q) hS⟩)
  refine wpAny_bind (wpAny_rule (wpAny_bind ?_))
  · show wpAny _ _ (updateSeq S (·.push .none) >>= fun _ => updateSeq S (·.pop)) _ _ _
    refine wpAny_bind (wpAny_updateSeq hS rfl ?_)
    have hS₂ := Heap.get?_update_self (Obj.mapSeq (·.push Value.none)) hS rfl
    refine wpAny_updateSeq (hz := by seq_fits) hS₂ rfl ?_
    have hS₃ := Heap.get?_update_self (Obj.mapSeq (·.pop)) hS₂ rfl
    refine wpAny_pure ⟨plainId_quiet PySem.F.plain_extend_loop _, key _ _ _ (fun b o hb q => ?_) hS₃⟩
    exact (Heap.get?_update_other _ _ (Ne.symm hb)).trans ((Heap.get?_update_other _ _ (Ne.symm hb)).trans q)

theorem EnG.low {lo lo' : Addr} {h : Heap} {as : List Addr} (g : EnG items lo h as) (hl : lo' ≤ lo) : EnG items lo' h as := ⟨g.rise, fun a ha => Nat.lt_of_le_of_lt hl (g.above a ha), g.pairs⟩

/-- list(e), e an enumerate that nobody has asked yet -/
theorem en_call {Q : Value → Shared → Prop} (hh : A.handled = none) (he : IsEnum s.heap e it 0 .none) (hit : s.heap.IsListIter it l 0) (hl : s.heap.IsList l items) (hei : e ≠ it) (hle : l ≠ e) (hli : l ≠ it) (hn : items.size ≤ sizeLine)
    (hQ : ∀ h' tk acc c as, (∀ b o, b ≠ e → b ≠ it → s.heap.get? b = some o → h'.get? b = some o) → h'.get? s.heap.objs.size = some { cls := .type "list", dict := none, data := .seq acc c, slots := #[] } → as.length = items.size → EnG items s.heap.objs.size h' as →
      acc.toList = as.map Value.ref → Q (.ref s.heap.objs.size) { s with heap := h', toks := tk }) : wpAny (model prog w) A (call (.type "list") [.ref e]) Q E s := by
  refine callType_codes (Q₁ := fun obj s₁ => obj = .ref s.heap.objs.size ∧ s₁ = { s with heap := s.heap.push { cls := .type "list", data := .seq #[] } }) PySem.F.called_list (PySem.F.typeCall_list_1 _) PySem.F.entry_list_init (code_list_new _ ⟨rfl, rfl⟩) fun obj s₁ h₁ => ?_
  obtain ⟨rfl, rfl⟩ := h₁
  have hS : (s.heap.push { cls := .type "list", data := .seq #[] }).get? s.heap.objs.size = some { cls := .type "list", data := .seq #[] } := Heap.get?_push_size _ rfl
  have k1 : ∀ b o, s.heap.get? b = some o → (s.heap.push { cls := .type "list", data := .seq #[] }).get? b = some o := fun b o q => Heap.get?_push_of_some _ q
  have heS : e < s.heap.objs.size := Heap.lt_size he
  have hiS : it < s.heap.objs.size := by obtain ⟨_, q, _⟩ := hit; exact Heap.lt_size q
  have hlS : l < s.heap.objs.size := by obtain ⟨_, q, _⟩ := hl; exact Heap.lt_size q
  refine ⟨⟨_, hS, rfl⟩, PySem.F.args_list_init_2 _ _, ?_⟩
  show wpAny _ _ (do let old ← Builtin.List.listItems (.ref s.heap.objs.size); Builtin.List.listUpdate (.ref s.heap.objs.size) (fun _ => #[]); letGo old.toList.reverse; Builtin.List.listExtendWith (.ref s.heap.objs.size) (.ref e) .none) _ _ _
  refine wpAny_bind ?_; unfold Builtin.List.listItems; refine wpAny_bind (wpAny_seqItems hS rfl (wpAny_pure ?_))
  show wpAny _ _ (updateSeq s.heap.objs.size (fun _ => #[]) >>= fun _ => letGo (#[] : Array Value).toList.reverse >>= fun _ => Builtin.List.listExtendWith (.ref s.heap.objs.size) (.ref e) .none) _ _ _
  refine wpAny_bind (wpAny_updateSeq hS rfl (wpAny_bind (wpAny_letGo ?_)))
  have hS₂ := Heap.get?_update_self (Obj.mapSeq (fun _ => (#[] : Array Value))) hS rfl
  have k2 : ∀ b o, b ≠ s.heap.objs.size → s.heap.get? b = some o → ((s.heap.push { cls := .type "list", data := .seq #[] }).update s.heap.objs.size (Obj.mapSeq (fun _ => (#[] : Array Value)))).get? b = some o := fun b o hb q => (Heap.get?_update_other _ _ (Ne.symm hb)).trans (k1 b o q)
  refine en_extend (A := A.in1) (s := { s with heap := (s.heap.push { cls := .type "list", data := .seq #[] }).update s.heap.objs.size (Obj.mapSeq (fun _ => (#[] : Array Value))) }) hh (k2 _ _ (Nat.ne_of_lt heS) he) (hit.at fun o q => k2 it o (Nat.ne_of_lt hiS) q) (hl.at fun o q => k2 l o (Nat.ne_of_lt hlS) q) hei hle hli heS hiS hlS .none _ hS₂ (fun h' tk acc c as hk hS' hl' hG hacc => ?_) hn
  exact ⟨rfl, hQ h' tk acc c as (fun b o h1 h2 q => hk b o (Nat.ne_of_lt (Heap.lt_size q)) h1 h2 (k2 b o (Nat.ne_of_lt (Heap.lt_size q)) q)) hS' hl' hG hacc⟩
end

/-- the tuples tracked at their addresses -/
def putE : Hp → List Addr → List V → Nat → Hp
  | H, a :: as, x :: xs, j => putE (upd H a (.tup [.int j, x])) as xs (j + 1)
  | H, _, _, _ => H
theorem putE_off {b : Addr} : ∀ (as : List Addr) (xs : List V) (j : Nat) (H : Hp), b ∉ as → putE H as xs j b = H b
  | [], _, _, _, _ => rfl
  | _ :: _, [], _, _, _ => rfl
  | a :: as, x :: xs, j, H, h => by
    show putE (upd H a (.tup [.int j, x])) as xs (j + 1) b = H b
    rw [putE_off as xs _ _ (fun z => h (List.mem_cons_of_mem _ z)), upd_ne (fun z => h (by rw [z]; exact List.mem_cons_self))]
theorem putE_at : ∀ (as : List Addr) (xs : List V) (j : Nat) (H : Hp), as.Nodup → ∀ i t x, as[i]? = some t → xs[i]? = some x → putE H as xs j t = some (.tup [.int ((j + i : Nat) : Int), x])
  | [], _, _, _, _, _, _, _, h, _ => by simp at h
  | _ :: _, [], _, _, _, _, _, _, _, h => by simp at h
  | a :: as, y :: xs, j, H, hn, 0, t, x, h1, h2 => by
    have e1 : a = t := Option.some.inj h1
    have e2 : y = x := Option.some.inj h2
    subst e1; subst e2
    show putE (upd H a (.tup [.int j, y])) as xs (j + 1) a = _
    rw [putE_off as xs _ _ (List.nodup_cons.mp hn).1, upd_same]; rfl
  | a :: as, y :: xs, j, H, hn, i + 1, t, x, h1, h2 => by
    have ih := putE_at as xs (j + 1) (upd H a (.tup [.int j, y])) (List.nodup_cons.mp hn).2 i t x h1 h2
    show putE (upd H a (.tup [.int j, y])) as xs (j + 1) t = _
    rw [ih, show j + 1 + i = j + (i + 1) by omega]
theorem refs_vals : ∀ as : List Addr, Vals (as.map V.ref) (as.map Value.ref)
  | [] => .nil
  | _ :: as => .cons rfl (refs_vals as)
def rLstEn (K : PySem.W.Frag) : List V → Hp → VK → Prop := fun vs H Q => ∃ (a : Addr) (xs : List V), vs = [.ref a] ∧ SqL K H a xs ∧
  ∀ (H' : Hp) (p : Addr) (ts : List Addr), Same H H' → H p = none → (∀ t ∈ ts, H t = none) → p ∉ ts → H' p = some (.lst (ts.map V.ref)) → ts.length = xs.length → (∀ j t x, ts[j]? = some t → xs[j]? = some x → H' t = some (.tup [.int (j : Nat), x])) → Q (.ref p) H'
def tLstEn (K : PySem.W.Frag) (ta : TA) : TE := fun σ H Q => ta σ H fun vs H1 => rLstEn K vs H1 Q
section
variable {X : Cx} {e : Expr} {ta : TA} {p1 p2 pos pos2 : Pos}
theorem enum_laid {pins : List (Addr × Obj)} {σ : L2.St} {H : Hp} {s : Shared} {h' : Heap} {tk S : Nat} {xs : List V} {its : List Value} {acc : Array Value} {c : Nat} {as : List Addr} (I : Inv X pins σ H s) (hz : xs.length ≤ sizeLine) (rv : Vals xs its)
    (hk : ∀ b o, s.heap.get? b = some o → h'.get? b = some o) (hS0 : s.heap.objs.size ≤ S) (hS : h'.get? S = some { cls := .type "list", dict := none, data := .seq acc c, slots := #[] }) (hl : as.length = its.toArray.size) (hG : EnG its.toArray S h' as) (hacc : acc.toList = as.map Value.ref) :
    ∃ H' : Hp, Same H H' ∧ H S = none ∧ (∀ t ∈ as, H t = none) ∧ S ∉ as ∧ H' S = some (.lst (as.map V.ref)) ∧ (∀ j t x, as[j]? = some t → xs[j]? = some x → H' t = some (.tup [.int (j : Nat), x])) ∧ Inv X pins σ H' { s with heap := h', toks := tk } := by
  have lk : xs.length = its.length := Vals.length rv
  have hl' : as.length = xs.length := by rw [hl, List.size_toArray, lk]
  have hSn : S ∉ as := fun z => Nat.lt_irrefl _ (hG.above _ z)
  have nd : as.Nodup := List.Pairwise.imp (fun {a b} (h : a < b) => Nat.ne_of_lt h) hG.rise
  have new : ∀ t ∈ as, H t = none := fun t ht => I.hok.fresh (Nat.le_trans hS0 (Nat.le_of_lt (hG.above t ht)))
  have newS : H S = none := I.hok.fresh hS0
  have off : ∀ b, b ∉ as → b ≠ S → putE (upd H S (.lst (as.map V.ref))) as xs 0 b = H b := fun b h1 h2 => by rw [putE_off as xs _ _ h1, upd_ne h2]
  have low : ∀ b o, s.heap.get? b = some o → b ∉ as ∧ b ≠ S := fun b o q => ⟨fun z => absurd (Heap.lt_size q) (Nat.not_lt.mpr (Nat.le_trans hS0 (Nat.le_of_lt (hG.above b z)))), Nat.ne_of_lt (Nat.lt_of_lt_of_le (Heap.lt_size q) hS0)⟩
  have kp : Same H (putE (upd H S (.lst (as.map V.ref))) as xs 0) := fun b u q => by
    rw [off b (fun z => by rw [new b z] at q; cases q) (fun z => by rw [z, newS] at q; cases q)]
    exact q
  have eS : putE (upd H S (.lst (as.map V.ref))) as xs 0 S = some (.lst (as.map V.ref)) := by rw [putE_off as xs _ _ hSn, upd_same]
  have atP : ∀ j t x, as[j]? = some t → xs[j]? = some x → putE (upd H S (.lst (as.map V.ref))) as xs 0 t = some (.tup [.int (j : Nat), x]) := fun j t x h1 h2 => by
    rw [putE_at as xs 0 _ nd j t x h1 h2, Nat.zero_add]
  refine ⟨_, kp, newS, new, hSn, eS, atP, ?_⟩
  refine I.call' (ch := []) rfl ⟨fun b o q _ _ _ => hk b o q, fun b o q _ _ _ => ⟨o.slots, hk b o q⟩, fun b o q n _ => (off b (low b o q).1 (low b o q).2).trans n, fun b o q _ => ⟨o, hk b o q⟩, fun b xs q => kp b _ q, fun b o u q => kp b _ q, fun b ps q => ⟨#[], by rw [kp b _ q]; simp⟩⟩ (fun b u q => ?_) I.bare fun b z => by simp at z
  by_cases hb : b ∈ as
  · obtain ⟨j, e1⟩ := List.mem_iff_getElem?.mp hb
    have hj : j < xs.length := by
      have := (List.getElem?_eq_some_iff.mp e1).1
      omega
    have e2 : xs[j]? = some xs[j] := List.getElem?_eq_getElem hj
    rw [atP j b _ e1 e2] at q
    cases q
    obtain ⟨t, x, f1, f2⟩ := hG.pairs j b e1
    obtain ⟨u, g1, g2⟩ := rv.get e2
    have f1' : its[j]? = some x := by simpa using f1
    rw [g1] at f1'
    cases f1'
    exact ⟨by show 2 ≤ sizeLine; decide, [.int j t, x], .cons ⟨t, rfl⟩ (.cons g2 .nil), ⟨_, f2, rfl, _, rfl⟩⟩
  · by_cases hb2 : b = S
    · rw [hb2] at q ⊢
      rw [eS] at q
      cases q
      refine ⟨by rw [List.length_map]; omega, acc.toList, c, by rw [hacc]; exact refs_vals as, ?_⟩
      rw [Array.toArray_toList]; exact hS
    · rw [off b hb hb2] at q
      exact (I.hok b u q).stay (fun d v _ y => hk d v y) (fun d y => kp d _ y) fun d xs y => kp d _ y
/-- list(enumerate(e)) -/
theorem pe_listEnum (hc : X.calm = true) (hg : Gl X "list") (hm : X.mg "list" = none) (hg2 : Gl X "enumerate") (hm2 : X.mg "enumerate" = none) (ha : PA X [e] ta)
    (hs : starEach [.Call (.Name "enumerate" p2) [e] [] pos2] X.env = [(false, eval (.Call (.Name "enumerate" p2) [e] [] pos2) X.env)] := by rfl) (hs2 : starEach [e] X.env = [(false, eval e X.env)] := by rfl) :
    PE X (.Call (.Name "list" p1) [.Call (.Name "enumerate" p2) [e] [] pos2] [] pos) (tLstEn X.K ta) := by
  refine ⟨fun pins s σ H Q I hq => ?_⟩
  refine Call_ (ld_blt I hg hm boot_list (PyProof.Rows.callWith_type1 ?_ hs rfl))
  rw [hs]
  show wpAny _ _ (spliced ((false, eval (.Call (.Name "enumerate" p2) [e] [] pos2) X.env) :: backTo pos [])) _ _ s
  refine Calls.spliced_cons (Call_ (ld_blt I hg2 hm2 boot_enumerate (PyProof.Rows.callWith_type1 (thn (ha.run pos2 pins s σ H _ I hq) fun us s1 ⟨vs, H1, I1, r1, q1⟩ => ?_) hs2 rfl)))
  obtain ⟨a, xs, ex, hq, q⟩ := q1
  subst ex
  cases r1 with
  | cons r rr =>
    cases rr; cases r
    obtain ⟨its, rv, p', hz⟩ := I1.list hq
    have hl0 : a < s1.heap.objs.size := by obtain ⟨_, z, _⟩ := p'.isList; exact Heap.lt_size z
    refine call_enumerate_list p'.isList fun h' he hit hsz hk => ?_
    have I2 : Inv X pins σ H1 { s1 with heap := h' } := I1.kept (t' := s1.toks) hk
    refine Calls.spliced_nil ?_
    refine en_call (s := { s1 with heap := h' }) (I1.ok.hd hc) he hit (p'.isList.at fun o z => hk a o z) (Nat.succ_ne_self _) (Nat.ne_of_lt (Nat.lt_succ_of_lt hl0)) (Nat.ne_of_lt hl0) (by rw [List.size_toArray, ← rv.length]; exact hz) fun h'' tk acc c as hk2 hS hl hG hacc => ?_
    have hk3 : ∀ b o, s1.heap.get? b = some o → h''.get? b = some o := fun b o z => hk2 b o (Nat.ne_of_lt (Nat.lt_succ_of_lt (Heap.lt_size z))) (Nat.ne_of_lt (Heap.lt_size z)) (hk b o z)
    obtain ⟨H', k1, k2, k3, k4, k5, k6, J⟩ := enum_laid (tk := tk) I1 hz rv hk3 (by show s1.heap.objs.size ≤ h'.objs.size; omega) hS hl hG hacc
    exact ⟨.ref _, H', J, rfl, q H' _ as k1 k2 k3 k4 k5 (by rw [hl, List.size_toArray, rv.length]) k6⟩
end
end Cw

namespace Cw
open PySem PySem.Spec PyProof.Rows L2

/-! ### a def of the text, called by its name -/
structure Df (K : PySem.W.Frag) (mg : Str → Option Value) (x : Str) (st : Stmt) (ps : List Str) where
  f : Addr
  fd : FuncData
  F : Fun K x x st f fd
  b : Binds K fd ps []
  g : mg x = some (.ref f)

theorem units1 {k : Nat} {A : Around} (r : Room k A) : A.units + 65 < cLine := by have := r.un; omega
theorem blkOk_in {N : List Str} {sc scO scope : Scope} {own : List (Str × Nat)} {cl : List (Str × Addr)} {C : Addr} {env : Env} (he : env.scope = sc) (h : blkC N (relS scO sc) scope own = true) : BlkOk N (compEnvC scO cl C env).scope scope own := by
  subst he
  exact blkOk_by h
/-! ### heaps -/
/-- all but h is as it was -/
def Keep (h : Addr) (H H' : Hp) : Prop := ∀ b o, b ≠ h → H b = some o → H' b = some o
theorem Keep.refl (h : Addr) (H : Hp) : Keep h H H := fun _ _ _ e => e
theorem Keep.trans {h : Addr} {H H1 H2 : Hp} (a : Keep h H H1) (b : Keep h H1 H2) : Keep h H H2 := fun c o n e => b c o n (a c o n e)
theorem Keep.same {h : Addr} {H H1 H2 : Hp} (a : Keep h H H1) (b : Same H1 H2) : Keep h H H2 := fun c o n e => b c o (a c o n e)
theorem Same.keep {h : Addr} {H H1 : Hp} (a : Same H H1) : Keep h H H1 := fun c o _ e => a c o e
theorem Keep.put {h : Addr} {H : Hp} {o : HO} : Keep h H (upd H h o) := fun c u n e => by rw [upd_ne n]; exact e
/-- what was new ahead of it is not told -/
theorem Keep.out {h : Addr} {H0 H H1 : Hp} (s : Same H0 H) (k : Keep h H H1) (n : H0 h = none) : Same H0 H1 := fun c o e => k c o (ne_of_none e n) (s c o e)
theorem same_new {H : Hp} {p : Addr} {o : HO} (h : H p = none) : Same H (upd H p o) := fun b x e => by rw [upd_ne (ne_of_none e h)]; exact e
theorem same_upd {H H' : Hp} {p : Addr} {o : HO} (s : Same H H') (h : H p = none) : Same H (upd H' p o) := fun b x e => by rw [upd_ne (ne_of_none e h)]; exact s b x e
theorem Same.sqt {K : PySem.W.Frag} {H H' : Hp} {a : Addr} {xs : List V} (e : Same H H') (h : SqT K H a xs) : SqT K H' a xs := by
  rcases h with (h | ⟨o, h⟩) | h
  · exact .inl (.inl (e _ _ h))
  · exact .inl (.inr ⟨o, e _ _ h⟩)
  · exact .inr h
theorem at_upd {H : Hp} {a b : Addr} {o u : HO} (h : H a = some o) (n : H b = none) : upd H b u a = some o := by rw [upd_ne (ne_of_none h n)]; exact h

theorem Keep.new {h p : Addr} {H H' : Hp} {o : HO} (k : Keep h H H') (n : H p = none) : Keep h H (upd H' p o) := fun b u nb e => by rw [upd_ne (ne_of_none e n)]; exact k b u nb e
theorem Keep.free {h p : Addr} {H H' : Hp} (k : Keep h H H') (ne : p ≠ h) (n : H' p = none) : H p = none := by
  cases q : H p with
  | none => rfl
  | some o => rw [k p o ne q] at n; cases n
theorem Keep.self {h : Addr} {H H' : Hp} {o : HO} (k : Keep h H H') : Keep h H (upd H' h o) := fun b u nb e => by rw [upd_ne nb]; exact k b u nb e
theorem Keep.seqN {K : PySem.W.Frag} {H H' : Hp} {a h : Addr} {xs : List V} (k : Keep h H H') (n : H h = none) (q : SqL K H a xs) : SqL K H' a xs := by
  rcases q with (q | ⟨o, q⟩) | q
  · exact .inl (.inl (k _ _ (ne_of_none q n) q))
  · exact .inl (.inr ⟨o, k _ _ (ne_of_none q n) q⟩)
  · exact .inr q
/-- a tuple stands behind a store at a new place, at a list -/
theorem sqt_upd {K : PySem.W.Frag} {H : Hp} {a b : Addr} {xs : List V} {o : HO} (n : H b = none ∨ ∃ ys, H b = some (.lst ys)) (q : SqT K H a xs) : SqT K (upd H b o) a xs := by
  have ne : ∀ u, H a = some u → (∀ ys, u ≠ .lst ys) → a ≠ b := fun u e hu z => by
    subst z
    rcases n with n | ⟨ys, n⟩
    · rw [n] at e; cases e
    · rw [n] at e; exact hu ys (Option.some.inj e).symm
  rcases q with (q | ⟨o', q⟩) | q
  · exact .inl (.inl (by rw [upd_ne (ne _ q (by intro ys z; cases z))]; exact q))
  · exact .inl (.inr ⟨o', by rw [upd_ne (ne _ q (by intro ys z; cases z))]; exact q⟩)
  · exact .inr q
/-- x in (a, b, ..), data at any depth -/
def rInT (K : PySem.W.Frag) (neg : Bool) : R2 := fun x y H Q => ∃ d ds, Dp K H x d ∧ Dp K H y (.tuple ds) ∧ SeqAt.shaped d = true ∧ SeqAt.shaped (.tuple ds) = true ∧ Q (.bl (if neg then !(ds.any fun z => PyData.eqv z d) else ds.any fun z => PyData.eqv z d)) H
theorem op_inT {X : Cx} (hu : X.A.units + 65 < cLine) : OpR X (compareOp .In) (rInT X.K false) := by
  intro pins s σ H x y v u Q I rx ry h
  obtain ⟨d, ds, hd, he, sd, se, q⟩ := h
  obtain ⟨as, r1⟩ := Dp.reads I d x v hd rx
  obtain ⟨bs, r2⟩ := Dp.reads I (.tuple ds) y u he ry
  exact SeqAt.in_tuple_reads r2 r1 (SeqAt.canLay_of_shaped se) (SeqAt.canLay_of_shaped sd) (room_in_shaped sd hu) ⟨.bl _, H, I, rfl, q⟩
/-! ### readings, step by step -/
section
variable {K : PySem.W.Frag} {σ : L2.St} {H : Hp} {Q : VK} {QA : List V → Hp → Prop} {QT : Bool → Hp → Prop} {D : Ends} {ta tb tc te : TE} {tr t1 : TA} {tt tu : TT} {t u : TS} {r r' : R2} {v x y : V} {i j : Int} {n : Nat} {p : Addr} {xs : List V}
theorem d_var {i : Nat} (e : σ[i]? = some (some v)) (h : Q v H) : tVar i σ H Q := ⟨v, e, h⟩
theorem d_c (h : Q v H) : tC v σ H Q := h
theorem d_op (h : ta σ H fun x H1 => tb σ H1 fun y H2 => r x y H2 Q) : tOp r ta tb σ H Q := h
theorem d_un {r : V → Hp → VK → Prop} (h : ta σ H fun x H1 => r x H1 Q) : tUn r ta σ H Q := h
theorem d_cons (h : ta σ H fun x H1 => tr σ H1 fun xs H2 => QA (x :: xs) H2) : tCons ta tr σ H QA := h
theorem d_nil (h : QA [] H) : tNil σ H QA := h
theorem d_cb {r : List V → Hp → VK → Prop} (h : tr σ H fun vs H1 => r vs H1 Q) : tCB r tr σ H Q := h
theorem d_call {sp : Sp} {dvs : List V} {E : XK} (h : tr σ H fun vs H1 => sp (vs ++ dvs) H1 Q E) : tCall sp dvs E tr σ H Q := h
theorem d_tup (h : tr σ H fun xs H1 => xs.length ≤ sizeLine ∧ ∀ p, H1 p = none → Q (.ref p) (upd H1 p (.tup xs))) : tTup tr σ H Q := h
theorem d_lst (h : tr σ H fun xs H1 => xs.length ≤ sizeLine ∧ ∀ p, H1 p = none → Q (.ref p) (upd H1 p (.lst xs))) : tLst tr σ H Q := h
theorem d_rI {C : Int → Int → Prop} {g : Int → Int → V} (hc : C i j) (h : Q (g i j) H) : rI C g (.int i) (.int j) H Q := ⟨i, j, rfl, rfl, hc, h⟩
theorem d_rI0 {g : Int → Int → V} (h : Q (g i j) H) : rI0 g (.int i) (.int j) H Q := ⟨i, j, rfl, rfl, h⟩
theorem d_rU {g : Int → V} (h : Q (g i) H) : rU g (.int i) H Q := ⟨i, rfl, h⟩
theorem d_eqI (h : Q (.bl (decide (i = j))) H) : rEq (.int i) (.int j) H Q := ⟨rfl, by
  rw [show decide (V.int i = V.int j) = decide (i = j) by rw [Bool.eq_iff_iff]; simp]; exact h⟩
theorem d_neI (h : Q (.bl (!decide (i = j))) H) : rNe (.int i) (.int j) H Q := ⟨rfl, by
  rw [show decide (V.int i = V.int j) = decide (i = j) by rw [Bool.eq_iff_iff]; simp]; exact h⟩
theorem d_ixL (h : SqL K H p xs) (e : atI xs i = some v) (q : Q v H) : rIxL K (.ref p) (.int i) H Q := ⟨p, xs, i, v, rfl, rfl, h, e, q⟩
theorem d_ixLm (h : H p = some (.lst xs)) (e : atI xs i = some v) (q : Q v H) : rIxL K (.ref p) (.int i) H Q := ⟨p, xs, i, v, rfl, rfl, SqL.of h, e, q⟩
theorem d_ixT (h : SqT K H p xs) (e : atI xs i = some v) (q : Q v H) : rIxT K (.ref p) (.int i) H Q := ⟨p, xs, i, v, rfl, rfl, h, e, q⟩
theorem d_ixTm (h : H p = some (.tup xs)) (e : atI xs i = some v) (q : Q v H) : rIxT K (.ref p) (.int i) H Q := ⟨p, xs, i, v, rfl, rfl, SqT.of h, e, q⟩
theorem d_test (h : te σ H fun x H' => ∃ k, x = .bl k ∧ QT k H') : tTest te σ H QT := h
theorem d_tB (h : te σ H fun x H' => ∃ k, x = .bl k ∧ QT k H') : tB te σ H QT := h
theorem d_bl {b : Bool} {C : Bool → Prop} (h : C b) : ∃ k, V.bl b = .bl k ∧ C k := ⟨b, rfl, h⟩
theorem d_not (h : tt σ H fun c H1 => QT (!c) H1) : tNot tt σ H QT := h
theorem d_and (h : tt σ H fun c H1 => if c = true then tu σ H1 QT else QT false H1) : tAnd tt tu σ H QT := h
theorem d_or (h : tt σ H fun c H1 => if c = true then QT true H1 else tu σ H1 QT) : tOr tt tu σ H QT := h
theorem d_if (h : tt σ H fun c H1 => if c = true then ta σ H1 Q else tb σ H1 Q) : tIf tt ta tb σ H Q := h
theorem d_andV (h : ta σ H fun x H1 => ∃ c, x = .bl c ∧ if c = true then tb σ H1 Q else Q (.bl false) H1) : tAndV ta tb σ H Q := h
theorem d_sl {r : V → Option Int → Option Int → Hp → VK → Prop} {tl th : TO} (h : te σ H fun x H1 => tl σ H1 fun l H2 => th σ H2 fun u H3 => r x l u H3 Q) : tSl r te tl th σ H Q := h
theorem d_nop {QO : Option Int → Hp → Prop} (h : QO none H) : tNoPart σ H QO := h
theorem d_part {QO : Option Int → Hp → Prop} (h : te σ H fun x H1 => ∃ i, x = .int i ∧ QO (some i) H1) : tPart te σ H QO := h
theorem d_in {C : Int → Prop} (h : C i) : ∃ k, V.int i = .int k ∧ C k := ⟨i, rfl, h⟩
theorem d_bm {T : String} {r : V → List V → Hp → VK → Prop} (h : te σ H fun x H1 => tyV K T x H1 ∧ tr σ H1 fun xs H2 => r x xs H2 Q) : tBM K T r te tr σ H Q := h
theorem d_bm0 {T : String} {r : V → List V → Hp → VK → Prop} (h : te σ H fun x H1 => tyV K T x H1 ∧ r x [] H1 Q) : tBM0 K T r te σ H Q := h
theorem d_m1 {r : V → List V → Hp → VK → Prop} (h : ta σ H fun x H1 => (∃ a, x = .str a) ∧ te σ H1 fun y H2 => r x [y] H2 Q) : tM1 r ta te σ H Q := h
theorem d_exs {A : Str} {C : Prop} (h : C) : (∃ a, V.str A = .str a) ∧ C := ⟨⟨_, rfl⟩, h⟩
theorem d_app {l : Addr} {ys : List V} (h : H l = some (.lst ys)) (q : tr σ H fun zs H2 => rAppend (.ref l) zs H2 Q) : tyV K "list" (.ref l) H ∧ tr σ H fun zs H2 => rAppend (.ref l) zs H2 Q := ⟨.inl ⟨rfl, _, SqL.of h⟩, q⟩
theorem d_append {l : Addr} {ys : List V} (h : H l = some (.lst ys)) (hl : ys.length < sizeLine) (q : Q .non (upd H l (.lst (ys ++ [y])))) : rAppend (.ref l) [y] H Q := ⟨l, ys, y, rfl, rfl, h, hl, q⟩
theorem d_setL {QU : Hp → Prop} {l : Addr} {ys : List V} {j : Nat} (h : H l = some (.lst ys)) (e : ixN ys.length i = some j) (q : QU (upd H l (.lst (ys.set j v)))) : rSetL (.ref l) (.int i) v H QU := ⟨l, ys, i, j, rfl, rfl, h, e, q⟩
theorem d_lenL {C : List V → Prop} (h : SqL K H p xs) (q : C xs) : ∃ p' ys, [V.ref p] = [.ref p'] ∧ (SqL K H p' ys ∨ SqT K H p' ys) ∧ C ys := ⟨p, xs, rfl, .inl h, q⟩
theorem d_lenT {C : List V → Prop} (h : SqT K H p xs) (q : C xs) : ∃ p' ys, [V.ref p] = [.ref p'] ∧ (SqL K H p' ys ∨ SqT K H p' ys) ∧ C ys := ⟨p, xs, rfl, .inr h, q⟩
theorem d_lenS {C : Str → Prop} {z : Str} (h : z.length ≤ sizeLine) (q : C z) : ∃ z', [V.str z] = [.str z'] ∧ z'.length ≤ sizeLine ∧ C z' := ⟨z, rfl, h, q⟩
theorem d_isN {C : Prop} (q : C) : V.non = .non ∧ C := ⟨rfl, q⟩
-- statements
theorem d_next (h : D.nx σ H) : tNext D σ H := h
theorem d_seq (h : t { D with nx := u D } σ H) : tSeq t u D σ H := h
theorem d_asg {g : TG} (h : te σ H fun x H1 => g x σ H1 D.nx) : tAsg te g D σ H := h
theorem d_drop (h : te σ H fun _ H1 => D.nx σ H1) : tDrop te D σ H := h
theorem d_ret (h : te σ H D.rt) : tRet te D σ H := h
theorem d_retN (h : D.rt .non H) : tRetN D σ H := h
theorem d_ifS (h : tt σ H fun b H1 => if b = true then t D σ H1 else u D σ H1) : tIfS tt t u D σ H := h
theorem d_brk (h : D.bk σ H) : tBreak D σ H := h
theorem d_ct (h : D.ct σ H) : tCont D σ H := h
theorem d_aug {i : Nat} {ti : TIp} (e : σ[i]? = some (some x)) (h : te σ H fun y H1 => ti x y H1 fun z H2 => D.nx (σ.set i (some z)) H2) : tAug i te ti D σ H := ⟨x, e, h⟩
theorem d_gname {i : Nat} {QS : L2.St → Hp → Prop} (h : QS (σ.set i (some v)) H) : gName i v σ H QS := h
theorem d_gnil {QS : L2.St → Hp → Prop} (h : QS σ H) : gNil [] σ H QS := ⟨rfl, h⟩
theorem d_gcons {t : TG} {u : TGs} {vs : List V} {QS : L2.St → Hp → Prop} (h : t v σ H fun σ' H' => u vs σ' H' QS) : gCons t u (v :: vs) σ H QS := ⟨v, vs, rfl, h⟩
theorem d_gtup {t : TGs} {QS : L2.St → Hp → Prop} (h : SqT K H p xs) (hl : xs.length = n) (q : t xs σ H QS) : gTup K n t (.ref p) σ H QS := ⟨p, xs, rfl, h, hl, q⟩
theorem d_gtupm {t : TGs} {QS : L2.St → Hp → Prop} (h : H p = some (.tup xs)) (hl : xs.length = n) (q : t xs σ H QS) : gTup K n t (.ref p) σ H QS := ⟨p, xs, rfl, SqT.of h, hl, q⟩
theorem d_gsub {ti : TE} {s : TSet} {QS : L2.St → Hp → Prop} (h : ta σ H fun o H1 => ti σ H1 fun i H2 => s o i v H2 fun H3 => QS σ H3) : gSub ta ti s v σ H QS := h
-- what is walked
theorem d_for {wi : TI} {g : TG} (h : wi σ H fun J H1 => ∃ W : Nat → Nat → L2.St → Hp → Prop, (∃ m, W 0 m σ H1) ∧ ∀ i m σ H, W i m σ H →
  (J.stop i H ∧ D.nx σ H) ∨ (J.go i H ∧ ∃ N : L2.St → Hp → Prop, (∀ σ' H', N σ' H' → ∃ m', m' < m ∧ W (i + 1) m' σ' H') ∧ ∀ x H', J.yld i H x H' → g x σ H' fun σ2 H2 => t { D with nx := N, ct := N, bk := D.nx } σ2 H2)) : tFor wi g t D σ H := h
theorem d_lc {wi : TI} {g : TG} {vs : List Nat} (h : wi σ H fun J H1 => ∀ D, H1 D = none → ∃ W : Nat → Nat → Hp → Prop, (∃ m, W 0 m (upd H1 D (.lst []))) ∧ ∀ i m H, W i m H →
  (J.stop i H ∧ Q (.ref D) H) ∨ (J.go i H ∧ ∃ Nx : Hp → Prop, (∀ H', Nx H' → ∃ m', m' < m ∧ W (i + 1) m' H') ∧ ∀ x H', J.yld i H x H' → g x (wipe σ vs) H' fun σ2 H2 => wipe σ2 vs = wipe σ vs ∧ tt σ2 H2 fun b H3 =>
    if b = true then te σ2 H3 fun y H4 => ∃ acc, H4 D = some (.lst acc) ∧ acc.length < sizeLine ∧ Nx (upd H4 D (.lst (acc ++ [y]))) else Nx H3)) : tLc wi g tt te vs σ H Q := h
theorem d_iR1 {R : It → Hp → Prop} (h : tr σ H fun vs H1 => ∃ j : Int, vs = [.int j] ∧ -(2 ^ 62) ≤ j ∧ j < 2 ^ 62 ∧ R (Itr 0 j.toNat) H1) : iRng1 tr σ H R := h
theorem d_iR2 {R : It → Hp → Prop} (h : tr σ H fun vs H1 => ∃ i j : Int, vs = [.int i, .int j] ∧ (-(2 ^ 62) ≤ i ∧ i < 2 ^ 62 ∧ -(2 ^ 62) ≤ j ∧ j < 2 ^ 62) ∧ R (Itr i (j - i).toNat) H1) : iRng2 tr σ H R := h
theorem d_iR1e {C : Int → Prop} (h1 : -(2 ^ 62) ≤ j) (h2 : j < 2 ^ 62) (h : C j) : ∃ k : Int, [V.int j] = [.int k] ∧ -(2 ^ 62) ≤ k ∧ k < 2 ^ 62 ∧ C k := ⟨j, rfl, h1, h2, h⟩
theorem d_iR2e {C : Int → Int → Prop} (h1 : -(2 ^ 62) ≤ i ∧ i < 2 ^ 62 ∧ -(2 ^ 62) ≤ j ∧ j < 2 ^ 62) (h : C i j) : ∃ k l : Int, [V.int i, V.int j] = [.int k, .int l] ∧ (-(2 ^ 62) ≤ k ∧ k < 2 ^ 62 ∧ -(2 ^ 62) ≤ l ∧ l < 2 ^ 62) ∧ C k l := ⟨i, j, rfl, h1, h⟩
theorem d_iL {R : It → Hp → Prop} (h : te σ H fun x H1 => ∃ a, x = .ref a ∧ (∃ xs, SqL K H1 a xs) ∧ R (Itl K a) H1) : iList K te σ H R := h
theorem d_iT {R : It → Hp → Prop} (h : te σ H fun x H1 => ∃ a, x = .ref a ∧ (∃ xs, SqT K H1 a xs) ∧ R (Itt K a) H1) : iTup K te σ H R := h
theorem d_iTe {C : Addr → Prop} {a : Addr} (h : SqT K H a xs) (q : C a) : ∃ a', V.ref a = .ref a' ∧ (∃ xs, SqT K H a' xs) ∧ C a' := ⟨a, rfl, ⟨xs, h⟩, q⟩
theorem d_iLe {C : Addr → Prop} {a : Addr} (h : SqL K H a xs) (q : C a) : ∃ a', V.ref a = .ref a' ∧ (∃ xs, SqL K H a' xs) ∧ C a' := ⟨a, rfl, ⟨xs, h⟩, q⟩
theorem d_iS {R : It → Hp → Prop} (h : te σ H fun v H1 => ∃ x, v = .str x ∧ R (Its x) H1) : iStr te σ H R := h
theorem d_iSe {C : Str → Prop} {z : Str} (q : C z) : ∃ x, V.str z = .str x ∧ C x := ⟨z, rfl, q⟩
theorem d_yes (h : QT true H) : tYes σ H QT := h
theorem d_dget1 {td ty : TE} (h : td σ H fun x H1 => ∃ a, x = .ref a ∧ IsD H1 a ∧ ty σ H1 fun y H2 => ∃ o, DGet H2 a y o ∧ Q (o.getD .non) H2) : tDGet1 td ty σ H Q := h
theorem d_dget2 {td ty tx : TE} (h : td σ H fun x H1 => ∃ a, x = .ref a ∧ IsD H1 a ∧ ty σ H1 fun y H2 => tx σ H2 fun z H3 => ∃ o, DGet H3 a y o ∧ Q (o.getD z) H3) : tDGet2 td ty tx σ H Q := h
theorem d_daug {td ty tv : TE} {rd : V → V → Hp → VK → Prop} (h : td σ H fun x H1 => ty σ H1 fun y H2 => ∃ a v, x = .ref a ∧ DGet H2 a y (some v) ∧ tv σ H2 fun y2 H3 => rd v y2 H3 fun z H4 => ∃ H5, DPut H4 a y z H5 ∧ D.nx σ H5) : sDAug td ty tv rd D σ H := h
theorem d_notV (h : ta σ H fun x H1 => ∃ c, x = .bl c ∧ Q (.bl (!c)) H1) : tNotV ta σ H Q := h
theorem d_par {i j : Nat} (h : tr σ H fun vs H1 => ∃ v w, vs = [v, w] ∧ D.nx ((σ.set i (some v)).set j (some w)) H1) : tPar i j tr D σ H := h
theorem d_par2 {C : V → V → Prop} (h : C x y) : ∃ v w, [x, y] = [v, w] ∧ C v w := ⟨x, y, rfl, h⟩
theorem d_dget {td ty : TE} (h : td σ H fun x H1 => ty σ H1 fun y H2 => ∃ a v, x = .ref a ∧ DGet H2 a y (some v) ∧ Q v H2) : tDGet td ty σ H Q := h
theorem d_dput {td ty tv : TE} (h : tv σ H fun v H1 => td σ H1 fun x H2 => ty σ H2 fun y H3 => ∃ a H4, x = .ref a ∧ DPut H3 a y v H4 ∧ D.nx σ H4) : sDPut td ty tv D σ H := h
theorem d_din {td ty : TE} (h : ty σ H fun y H1 => td σ H1 fun x H2 => ∃ a o, x = .ref a ∧ DGet H2 a y o ∧ Q (.bl o.isSome) H2) : tDIn ty td σ H Q := h
theorem d_dnewT (h : ∀ p, H p = none → Q (.ref p) (upd H p (.dT []))) : tDNewT σ H Q := h
theorem d_dnewK (h : ∀ p, H p = none → Q (.ref p) (upd H p (.dK []))) : tDNewK σ H Q := h
theorem iteNT {A B : Prop} (h : B) : if (!true) = true then A else B := h
theorem iteNF {A B : Prop} (h : A) : if (!false) = true then A else B := h
theorem d_cut (M : L2.St → Hp → Prop) (h : t { D with nx := M } σ H) (k : ∀ σ' H', M σ' H' → u D σ' H') : Evl.tCut t u D σ H := ⟨M, h, k⟩
/-- a and b where b only looks -/
theorem if_any {c : Bool} {tb : TE} (hb : ∀ Q' : VK, (∀ b H', Same H H' → Q' (.bl b) H') → tb σ H Q') (q : ∀ b H', Same H H' → Q (.bl b) H') : if c = true then tb σ H Q else Q (.bl false) H := by
  cases c with
  | true => exact iteT (hb Q q)
  | false => exact iteF (q _ _ (Same.refl _))
theorem d_wipe {σ2 σ3 : L2.St} {vs : List Nat} {C : Prop} (e : wipe σ2 vs = wipe σ3 vs) (h : C) : wipe σ2 vs = wipe σ3 vs ∧ C := ⟨e, h⟩
theorem d_lsten (h : tr σ H fun vs H1 => rLstEn K vs H1 Q) : tLstEn K tr σ H Q := h
theorem d_slL {a : Addr} {lo hi : Option Int} (h : SqL K H a xs) (q : ∀ p, H p = none → Q (.ref p) (upd H p (.lst (cutV xs lo hi)))) : rSlL K (.ref a) lo hi H Q := ⟨a, xs, rfl, h, q⟩
theorem d_lrg {tg : L2.St → Hp → (Int → Int → Hp → Prop) → Prop} (h : tg σ H fun a b H1 => RgOk a b ∧ ∀ q, H1 q = none → Q (.ref q) (upd H1 q (.lst (rgV a b)))) : tLstRg tg σ H Q := h
theorem d_rg1 {R : Int → Int → Hp → Prop} (h : te σ H fun x H1 => ∃ n, x = .int n ∧ R 0 n H1) : tRg1 te σ H R := h
end
/-- the law's hand: two whole numbers -/
def Hand (H : Hp) (h : Addr) : Prop := ∃ d m : Int, H h = some (.lst [.int d, .int m]) ∧ 0 ≤ d ∧ 0 ≤ m ∧ m < 2147483587
theorem Hand.same {H H' : Hp} {h : Addr} (x : Hand H h) (s : Same H H') : Hand H' h := by
  obtain ⟨d, m, e, r⟩ := x
  exact ⟨d, m, s _ _ e, r⟩
theorem Hand.ne {H : Hp} {h p : Addr} (x : Hand H h) (n : H p = none) : p ≠ h := by
  obtain ⟨d, m, e, r⟩ := x
  exact (ne_of_none e n).symm
theorem Hand.put {H : Hp} {h p : Addr} {o : HO} (x : Hand H h) (n : p ≠ h) : Hand (upd H p o) h := by
  obtain ⟨d, m, e, r⟩ := x
  exact ⟨d, m, by rw [upd_ne n.symm]; exact e, r⟩
/-- a tuple stays where a list changes -/
theorem Keep.sqt {K : PySem.W.Frag} {h : Addr} {H H' : Hp} {a : Addr} {xs ys : List V} (k : Keep h H H') (e : H h = some (.lst ys)) (q : SqT K H a xs) : SqT K H' a xs := by
  rcases q with (q | ⟨o, q⟩) | q
  · exact .inl (.inl (k _ _ (ne_of q e (by intro z; cases z)) q))
  · exact .inl (.inr ⟨o, k _ _ (ne_of q e (by intro z; cases z)) q⟩)
  · exact .inr q
mutual
theorem dp_same {K : PySem.W.Frag} {H H' : Hp} (s : Same H H') : ∀ (d : PyData) (v : V), Dp K H v d → Dp K H' v d
  | .none, _, h => by cases h; exact .non
  | .bool b, _, h => by cases h; exact .bl b
  | .int i, _, h => by cases h; exact .int i
  | .str x, _, h => by cases h; exact .str x
  | .list ds, _, h => by
    cases h with
    | lst hs ha => exact .lst (Same.seq s hs) (dpa_same s ds _ ha)
  | .tuple ds, _, h => by
    cases h with
    | tup hs ha => exact .tup (Same.sqt s hs) (dpa_same s ds _ ha)
  | .dict _, _, h => by cases h
theorem dpa_same {K : PySem.W.Frag} {H H' : Hp} (s : Same H H') : ∀ (ds : List PyData) (vs : List V), DpAll K H vs ds → DpAll K H' vs ds
  | [], _, h => by cases h; exact .nil
  | d :: ds, _, h => by
    cases h with
    | cons a b => exact .cons (dp_same s d _ a) (dpa_same s ds _ b)
end
theorem dpa_ints {K : PySem.W.Frag} {H : Hp} : ∀ ns : List Int, DpAll K H (ns.map V.int) (ns.map PyData.int)
  | [] => .nil
  | n :: r => .cons (.int n) (dpa_ints r)
theorem shaped_ints (ns : List Int) : SeqAt.shaped (.list (ns.map PyData.int)) = true := PySem.W.ke_shaped_ints ns
/-- one sign -/
abbrev sg (c : Nat) : Str := ⟨#[c]⟩
def Ltr (c : Nat) : Prop := 97 ≤ c ∧ c ≤ 122
abbrev Tie := Nat × Nat × Nat
/-- places' kinds, ties -/
abbrev Web := List Nat × List Tie
def TieAt (K : PySem.W.Frag) (H : Hp) (v : V) (t : Tie) : Prop := ∃ a, v = .ref a ∧ SqT K H a [.int (t.1 : Nat), .int (t.2.1 : Nat), .str (sg t.2.2)]
def WebAt (K : PySem.W.Frag) (H : Hp) (v : V) (w : Web) : Prop := ∃ a b tvs, v = .ref a ∧ SqT K H a [.str ⟨w.1.toArray⟩, .ref b] ∧ SqT K H b tvs ∧ Paired (TieAt K H) tvs w.2
def tlt (s t : Tie) : Prop := s.1 < t.1 ∨ (s.1 = t.1 ∧ s.2.1 < t.2.1)
structure WOk (w : Web) : Prop where
  few : w.1.length ≤ 40
  most : w.2.length ≤ 1600
  kinds : ∀ c ∈ w.1, Ltr c
  rise : w.2.Pairwise tlt
  ends : ∀ t ∈ w.2, t.1 < t.2.1 ∧ t.2.1 < w.1.length ∧ Ltr t.2.2
theorem Paired.imp {α β : Type} {F G : α → β → Prop} {xs : List α} {ys : List β} (p : Paired F xs ys) (h : ∀ a b, F a b → G a b) : Paired G xs ys := by
  induction p with
  | nil => exact .nil
  | cons a _ ih => exact .cons (h _ _ a) ih
theorem TieAt.same {K : PySem.W.Frag} {H H' : Hp} {v : V} {t : Tie} (x : TieAt K H v t) (s : Same H H') : TieAt K H' v t := by
  obtain ⟨a, e, q⟩ := x
  exact ⟨a, e, Same.sqt s q⟩
theorem TieAt.keep {K : PySem.W.Frag} {H H' : Hp} {v : V} {t : Tie} {h : Addr} {ys : List V} (x : TieAt K H v t) (k : Keep h H H') (e : H h = some (.lst ys)) : TieAt K H' v t := by
  obtain ⟨a, e', q⟩ := x
  exact ⟨a, e', k.sqt e q⟩
theorem WebAt.same {K : PySem.W.Frag} {H H' : Hp} {v : V} {w : Web} (x : WebAt K H v w) (s : Same H H') : WebAt K H' v w := by
  obtain ⟨a, b, tvs, e, q1, q2, q3⟩ := x
  exact ⟨a, b, tvs, e, Same.sqt s q1, Same.sqt s q2, Paired.imp q3 fun _ _ z => z.same s⟩
theorem WebAt.keep {K : PySem.W.Frag} {H H' : Hp} {v : V} {w : Web} {h : Addr} {ys : List V} (x : WebAt K H v w) (k : Keep h H H') (e : H h = some (.lst ys)) : WebAt K H' v w := by
  obtain ⟨a, b, tvs, e', q1, q2, q3⟩ := x
  exact ⟨a, b, tvs, e', k.sqt e q1, k.sqt e q2, Paired.imp q3 fun _ _ z => z.keep k e⟩
theorem TieAt.put {K : PySem.W.Frag} {H : Hp} {v : V} {t : Tie} {b : Addr} {o : HO} (x : TieAt K H v t) (n : H b = none ∨ ∃ ys, H b = some (.lst ys)) : TieAt K (upd H b o) v t := by
  obtain ⟨a, e, q⟩ := x
  exact ⟨a, e, sqt_upd n q⟩
theorem WebAt.put {K : PySem.W.Frag} {H : Hp} {v : V} {w : Web} {b : Addr} {o : HO} (x : WebAt K H v w) (n : H b = none ∨ ∃ ys, H b = some (.lst ys)) : WebAt K (upd H b o) v w := by
  obtain ⟨a, b, tvs, e', q1, q2, q3⟩ := x
  exact ⟨a, b, tvs, e', sqt_upd n q1, sqt_upd n q2, Paired.imp q3 fun _ _ z => z.put n⟩
theorem Paired.at {α β : Type} {F : α → β → Prop} : ∀ {xs : List α} {ys : List β}, Paired F xs ys → ∀ {i : Nat} {x : α}, xs[i]? = some x → ∃ y, ys[i]? = some y ∧ F x y
  | _, _, .nil, i, x, h => by cases h
  | _, _, .cons r t, 0, x, h => by
    cases h
    exact ⟨_, rfl, r⟩
  | _, _, .cons r t, i + 1, x, h => Paired.at t h
open TL in
theorem joinL_nil : ∀ ps : List (List Nat), joinL [] ps = ps.flatten
  | [] => rfl
  | [p] => by show p = [p].flatten; simp
  | p :: q :: r => by
    show p ++ ([] ++ joinL [] (q :: r)) = (p :: q :: r).flatten
    rw [joinL_nil (q :: r)]; simp
theorem str_ext {x y : Str} (h : x.cps.toList = y.cps.toList) : x = y := by
  cases x; cases y
  simpa using h
open TL in
theorem join_signs (cs : List Nat) : Txt.join (Str.ofString "") (cs.map sg) = ⟨cs.toArray⟩ := by
  rw [join_eq]
  apply str_ext
  show tl (Str.join (Str.ofString "") (cs.map sg)) = cs
  rw [tl_join, show tl (Str.ofString "") = [] from by decide +kernel, joinL_nil, List.map_map]
  induction cs with
  | nil => rfl
  | cons c r ih =>
    rw [List.map_cons, List.flatten_cons, ih]
    rfl
theorem sum_const {α : Type} (f : α → Nat) (n : Nat) : ∀ l : List α, (∀ x ∈ l, f x = n) → (l.map f).sum = l.length * n
  | [], _ => by simp
  | a :: r, h => by
    rw [List.map_cons, List.sum_cons, sum_const f n r fun x hx => h x (List.mem_cons_of_mem _ hx), h a List.mem_cons_self, List.length_cons, Nat.succ_mul]
    omega
theorem sz {n : Nat} (h : n ≤ 100000) : n ≤ sizeLine := Nat.le_trans h (by decide)
theorem szl {n : Nat} (h : n ≤ 100000) : n < sizeLine := Nat.lt_of_le_of_lt h (by decide)
end Cw

namespace Cw
open PySem PySem.Spec PyProof.Rows L2
/-! ### ties -/
def at2 (a b : Nat) (t : Tie) : Bool := (t.1 == a && t.2.1 == b) || (t.1 == b && t.2.1 == a)
def tieL (ts : List Tie) (a b : Nat) : Option Nat := (ts.find? (at2 a b)).map (·.2.2)
def beside (p : Nat) (t : Tie) : Option Nat := if t.1 = p then some t.2.1 else if t.2.1 = p then some t.1 else none
def nb (ts : List Tie) (p : Nat) : List Nat := ts.filterMap (beside p)
theorem at2_iff {a b : Nat} {t : Tie} : at2 a b t = true ↔ (t.1 = a ∧ t.2.1 = b) ∨ (t.1 = b ∧ t.2.1 = a) := by
  simp [at2]
theorem at2_swap (a b : Nat) (t : Tie) : at2 a b t = at2 b a t := by
  unfold at2; rw [Bool.or_comm]
theorem tieL_swap (ts : List Tie) (a b : Nat) : tieL ts a b = tieL ts b a := by
  unfold tieL
  rw [show at2 a b = at2 b a from funext (at2_swap a b)]
theorem tieL_isSome {ts : List Tie} {a b : Nat} : (tieL ts a b).isSome = true ↔ ∃ t ∈ ts, at2 a b t = true := by
  unfold tieL
  rw [Option.isSome_map, List.find?_isSome]
theorem tieL_none {ts : List Tie} {a b : Nat} (h : ∀ t ∈ ts, at2 a b t = false) : tieL ts a b = none := by
  unfold tieL
  rw [List.find?_eq_none.mpr (fun t ht => by rw [h t ht]; simp)]; rfl
theorem tieL_snoc (l : List Tie) (t : Tie) (a b : Nat) : tieL (l ++ [t]) a b = (tieL l a b).or (if at2 a b t = true then some t.2.2 else none) := by
  unfold tieL
  rw [List.find?_append]
  cases l.find? (at2 a b) with
  | some x => rfl
  | none =>
    show ((none : Option Tie).or ([t].find? (at2 a b))).map (·.2.2) = (none : Option Nat).or _
    rw [Option.none_or, Option.none_or]
    by_cases h : at2 a b t = true
    · rw [if_pos h, List.find?_cons_of_pos h]; rfl
    · rw [if_neg h, List.find?_cons_of_neg h]; rfl
theorem nb_snoc (l : List Tie) (t : Tie) (p : Nat) : nb (l ++ [t]) p = nb l p ++ (if t.1 = p then [t.2.1] else if t.2.1 = p then [t.1] else []) := by
  unfold nb
  rw [List.filterMap_append]
  congr 1
  by_cases h1 : t.1 = p
  · rw [if_pos h1]; simp [beside, h1]
  · by_cases h2 : t.2.1 = p
    · rw [if_neg h1, if_pos h2]; simp [beside, h1, h2]
    · rw [if_neg h1, if_neg h2]; simp [beside, h1, h2]
theorem nb_len (l : List Tie) (p : Nat) : (nb l p).length ≤ l.length := List.length_filterMap_le _ _
theorem take_snoc {α : Type} {l : List α} {i : Nat} {x : α} (h : l[i]? = some x) : l.take (i + 1) = l.take i ++ [x] := by
  rw [List.take_add_one, h]; rfl
/-- no tie stands twice -/
theorem tieL_new {ts : List Tie} (s : ts.Pairwise tlt) (e : ∀ t ∈ ts, t.1 < t.2.1) {i : Nat} {t : Tie} (h : ts[i]? = some t) : tieL (ts.take i) t.1 t.2.1 = none := by
  refine tieL_none fun u hu => ?_
  have hl : (ts.take i ++ [t]).Pairwise tlt := by rw [← take_snoc h]; exact s.sublist (List.take_sublist _ _)
  have lt := (List.pairwise_append.mp hl).2.2 u hu t List.mem_cons_self
  have e1 := e u (List.mem_of_mem_take hu)
  have e2 := e t (List.mem_of_getElem? h)
  cases q : at2 t.1 t.2.1 u with
  | false => rfl
  | true =>
    rcases at2_iff.mp q with ⟨a, b⟩ | ⟨a, b⟩
    · rcases lt with z | ⟨_, z⟩ <;> omega
    · omega
theorem sorted_ext : ∀ {l m : List Nat}, l.Pairwise (· < ·) → m.Pairwise (· < ·) → (∀ x, x ∈ l ↔ x ∈ m) → l = m
  | [], [], _, _, _ => rfl
  | [], y :: m, _, _, h => absurd ((h y).mpr List.mem_cons_self) (by simp)
  | x :: l, [], _, _, h => absurd ((h x).mp List.mem_cons_self) (by simp)
  | x :: l, y :: m, hl, hm, h => by
    obtain ⟨l1, l2⟩ := List.pairwise_cons.mp hl
    obtain ⟨m1, m2⟩ := List.pairwise_cons.mp hm
    have hx : x = y := by
      rcases List.mem_cons.mp ((h x).mp List.mem_cons_self) with z | z
      · exact z
      · rcases List.mem_cons.mp ((h y).mpr List.mem_cons_self) with z' | z'
        · exact z'.symm
        · have a := m1 x z
          have b := l1 y z'
          omega
    subst hx
    congr 1
    refine sorted_ext l2 m2 fun z => ⟨fun hz => ?_, fun hz => ?_⟩
    · rcases List.mem_cons.mp ((h z).mp (List.mem_cons_of_mem _ hz)) with q | q
      · have := l1 z hz; omega
      · exact q
    · rcases List.mem_cons.mp ((h z).mpr (List.mem_cons_of_mem _ hz)) with q | q
      · have := m1 z hz; omega
      · exact q
theorem beside_iff {p o : Nat} {t : Tie} (e : t.1 < t.2.1) : beside p t = some o ↔ at2 p o t = true := by
  rw [at2_iff]
  unfold beside
  by_cases h1 : t.1 = p
  · rw [if_pos h1]
    constructor
    · intro z; exact .inl ⟨h1, Option.some.inj z⟩
    · rintro (⟨_, z⟩ | ⟨z1, z2⟩)
      · rw [z]
      · omega
  · rw [if_neg h1]
    by_cases h2 : t.2.1 = p
    · rw [if_pos h2]
      constructor
      · intro z; exact .inr ⟨Option.some.inj z, h2⟩
      · rintro (⟨z, _⟩ | ⟨z1, z2⟩)
        · exact absurd z h1
        · rw [z1]
    · rw [if_neg h2]
      constructor
      · intro z; cases z
      · rintro (⟨z, _⟩ | ⟨_, z⟩)
        · exact absurd z h1
        · exact absurd z h2
theorem nb_rise {ts : List Tie} (s : ts.Pairwise tlt) (e : ∀ t ∈ ts, t.1 < t.2.1) (p : Nat) : (nb ts p).Pairwise (· < ·) := by
  unfold nb
  rw [List.pairwise_filterMap]
  refine List.Pairwise.imp_of_mem (fun {t u} ht hu lt a ha b hb => ?_) s
  have e1 := e t ht
  have e2 := e u hu
  rcases at2_iff.mp ((beside_iff e1).mp ha) with ⟨a1, a2⟩ | ⟨a1, a2⟩ <;> rcases at2_iff.mp ((beside_iff e2).mp hb) with ⟨b1, b2⟩ | ⟨b1, b2⟩ <;> rcases lt with z | ⟨z1, z2⟩ <;> omega
theorem nb_eq {w : Web} (W : WOk w) (p : Nat) : nb w.2 p = (List.range w.1.length).filter fun o => (tieL w.2 p o).isSome := by
  refine sorted_ext (nb_rise W.rise (fun t ht => (W.ends t ht).1) p) (List.Pairwise.filter _ List.pairwise_lt_range) fun o => ?_
  rw [List.mem_filter, tieL_isSome, List.mem_range]
  unfold nb
  rw [List.mem_filterMap]
  constructor
  · rintro ⟨t, ht, hb⟩
    have q := (beside_iff (W.ends t ht).1).mp hb
    refine ⟨?_, t, ht, q⟩
    have r := W.ends t ht
    rcases at2_iff.mp q with ⟨_, a⟩ | ⟨a, _⟩ <;> omega
  · rintro ⟨_, t, ht, q⟩
    exact ⟨t, ht, (beside_iff (W.ends t ht).1).mpr q⟩
theorem tieL_self {w : Web} (W : WOk w) (p : Nat) : tieL w.2 p p = none := by
  refine tieL_none fun t ht => ?_
  have r := W.ends t ht
  cases q : at2 p p t with
  | false => rfl
  | true => rcases at2_iff.mp q with ⟨a, b⟩ | ⟨a, b⟩ <;> omega
/-- a tie's kind, or None -/
def optV : Option Nat → V
  | some c => .str (sg c)
  | none => .non
theorem optV_non (o : Option Nat) : (!decide (optV o = .non)) = o.isSome := by cases o <;> rfl
theorem optV_scal (o : Option Nat) : scal (optV o) (optV o) = true := by cases o <;> rfl
def zs (l : List Nat) : List Int := l.map fun (o : Nat) => (o : Int)
theorem ints_map (l : List Nat) : (l.map fun o => V.int (o : Nat)) = (zs l).map V.int := by
  unfold zs; rw [List.map_map]; rfl
theorem eqv_ints (l : List Int) : PyData.eqv (.list (l.map PyData.int)) (.list (l.map PyData.int)) = true := by
  show PyData.eqvAll _ _ = true
  rw [PySem.W.ked_eqvAll, decide_eq_true rfl]
theorem dp_nats {K : PySem.W.Frag} {H : Hp} {a : Addr} {l : List Nat} (h : H a = some (.lst (l.map fun o => V.int (o : Nat)))) : Dp K H (.ref a) (.list ((zs l).map PyData.int)) := by
  rw [ints_map] at h
  exact .lst (SqL.of h) (dpa_ints _)
/-- the heap without one object -/
def del (H : Hp) (a : Addr) : Hp := fun b => if b = a then none else H b
theorem del_ne {H : Hp} {a b : Addr} (n : b ≠ a) : del H a b = H b := by unfold del; rw [if_neg n]
theorem del_at {H : Hp} {a b : Addr} {o : HO} (n : b ≠ a) (h : H b = some o) : del H a b = some o := by rw [del_ne n]; exact h
theorem del_same (H : Hp) (a : Addr) : Same (del H a) H := fun b o e => by
  by_cases n : b = a
  · unfold del at e; rw [if_pos n] at e; cases e
  · rw [del_ne n] at e; exact e
theorem Keep.del {h : Addr} {H H' : Hp} (k : Keep h H H') : Same (del H h) (del H' h) := fun b o e => by
  by_cases n : b = h
  · unfold Cw.del at e; rw [if_pos n] at e; cases e
  · rw [del_ne n] at e ⊢; exact k b o n e
theorem dpa_snoc {K : PySem.W.Frag} {H : Hp} : ∀ {vs : List V} {ds : List PyData} {v : V} {d : PyData}, DpAll K H vs ds → Dp K H v d → DpAll K H (vs ++ [v]) (ds ++ [d])
  | [], [], _, _, _, h => .cons h .nil
  | _ :: _, _ :: _, _, _, .cons a b, h => .cons a (dpa_snoc b h)
/-- what is held: pairs of equal lists of whole numbers -/
def hD (x : List Int) : PyData := .list [.list (x.map PyData.int), .list (x.map PyData.int)]
def Held (K : PySem.W.Frag) (H : Hp) (hd : Addr) (m : Nat) : Prop := ∃ (hs : List V) (xs : List (List Int)), H hd = some (.lst hs) ∧ hs.length ≤ m ∧ DpAll K (del H hd) hs (xs.map hD)
theorem Held.same {K : PySem.W.Frag} {H H' : Hp} {hd : Addr} {m : Nat} (x : Held K H hd m) (s : Same H H') : Held K H' hd m := by
  obtain ⟨hs, xs, e, l, a⟩ := x
  exact ⟨hs, xs, s _ _ e, l, dpa_same (Keep.del (Same.keep s)) _ _ a⟩
theorem Held.mono {K : PySem.W.Frag} {H : Hp} {hd : Addr} {m n : Nat} (x : Held K H hd m) (h : m ≤ n) : Held K H hd n := by
  obtain ⟨hs, xs, e, l, a⟩ := x
  exact ⟨hs, xs, e, Nat.le_trans l h, a⟩
theorem dpa_at {K : PySem.W.Frag} {H : Hp} : ∀ {vs : List V} {ds : List PyData} (i : Nat) {v : V}, DpAll K H vs ds → vs[i]? = some v → ∃ d, ds[i]? = some d ∧ Dp K H v d
  | [], _, _, _, _, h => by simp at h
  | _ :: _, _ :: _, 0, _, .cons a b, h => by
    cases h
    exact ⟨_, rfl, a⟩
  | _ :: _, _ :: _, i + 1, _, .cons a b, h => dpa_at i b (by simpa using h)
theorem rgV_nats (n : Int) : rgV 0 n = (List.range n.toNat).map fun q => V.int (q : Nat) := by
  unfold rgV
  rw [Int.sub_zero]
  congr 1
  funext i
  rw [Int.zero_add]
end Cw

namespace Cw
open PySem PySem.Spec PyProof.Rows L2 Srt

/-! ### triples (whole number, whole number, one sign), by all three -/
abbrev Tri := Int × Int × Nat
def lexT (p q : Tri) : Bool := if p.1 = q.1 then (if p.2.1 = q.2.1 then decide (p.2.2 < q.2.2) else decide (p.2.1 < q.2.1)) else decide (p.1 < q.1)
theorem lexT_iff {p q : Tri} : lexT p q = true ↔ p.1 < q.1 ∨ (p.1 = q.1 ∧ (p.2.1 < q.2.1 ∨ (p.2.1 = q.2.1 ∧ p.2.2 < q.2.2))) := by
  unfold lexT
  by_cases e : p.1 = q.1
  · rw [if_pos e]
    by_cases e2 : p.2.1 = q.2.1
    · rw [if_pos e2, decide_eq_true_eq]; omega
    · rw [if_neg e2, decide_eq_true_eq]; omega
  · rw [if_neg e, decide_eq_true_eq]; omega
theorem lexT_no {p q : Tri} : lexT p q = false ↔ ¬ (p.1 < q.1 ∨ (p.1 = q.1 ∧ (p.2.1 < q.2.1 ∨ (p.2.1 = q.2.1 ∧ p.2.2 < q.2.2)))) := by
  rw [← lexT_iff]
  cases lexT p q <;> simp
theorem swo_T {α : Type} (k : α → Tri) : SrtO.Swo fun v u => lexT (k v) (k u) := by
  refine ⟨fun x y h => ?_, fun x y z h1 h2 => ?_⟩
  · have a := lexT_iff.mp h
    exact lexT_no.mpr (by omega)
  · have a := lexT_no.mp h1
    have b := lexT_no.mp h2
    exact lexT_no.mpr (by omega)
def IsTri (h : Heap) (v : Value) (p : Tri) : Prop := ∃ a o t u t3 n, v = .ref a ∧ h.get? a = some o ∧ o.cls = .type "tuple" ∧ o.data = .seq #[.int p.1 t, .int p.2.1 u, .str (sg p.2.2) t3] n
theorem IsTri.keeps {h h' : Heap} {v : Value} {p : Tri} (x : IsTri h v p) (k : ∀ b o, h.get? b = some o → o.cls = .type "tuple" → h'.get? b = some o) : IsTri h' v p := by
  obtain ⟨a, o, t, u, t3, n, e, ho, hc, hd⟩ := x
  exact ⟨a, o, t, u, t3, n, e, k _ _ ho hc, hc, hd⟩
theorem sg_lt (c d : Nat) : decide ((sg c).cps.toList < (sg d).cps.toList) = decide (c < d) := by
  rw [Bool.eq_iff_iff, decide_eq_true_eq, decide_eq_true_eq]
  show ([c] : List Nat) < [d] ↔ c < d
  rw [List.cons_lt_cons_iff]
  constructor
  · rintro (h | ⟨_, h⟩)
    · exact h
    · exact absurd h (List.not_lt_nil _)
  · intro h; exact .inl h
theorem sg_inj {c d : Nat} : sg c = sg d ↔ c = d := by
  constructor
  · intro h
    have e : (sg c).cps.toList = (sg d).cps.toList := by rw [h]
    simpa using e
  · rintro rfl; rfl
section
variable {prog : Program} {w : World} {A : Around} {E : Value → Shared → Prop} {s : Shared}
theorem tri_cmp {vs : List Value} {k : Value → Tri} (hp : ∀ v ∈ vs, IsTri s.heap v (k v)) : SrtO.Cmp prog w A s (tuples' true) (fun p => p.1 ∈ vs) (SrtO.lt2 fun v u => lexT (k v) (k u)) := by
  intro p q hm hm'
  have h1 := hp _ hm
  have h2 := hp _ hm'
  show wpAny (model prog w) A (keyLt' (tuples' true) p.1 q.1) (fun r s' => s' = s ∧ r = lexT (k p.1) (k q.1)) (fun _ _ => False) s
  generalize k p.1 = P at h1 ⊢
  generalize k q.1 = R at h2 ⊢
  obtain ⟨x, y, c⟩ := P
  obtain ⟨x', y', c'⟩ := R
  obtain ⟨a, o, t, u, t3, n, e, ho, hc, hd⟩ := h1
  obtain ⟨a', o', t', u', t3', n', e', ho', hc', hd'⟩ := h2
  dsimp only at hd hd'
  rw [e, e']
  refine PySem.W.kat_lt ho hd ho' hd' ?_
  show PySem.W.KatLex prog w A true (decide (3 < 3)) _ [(.int x t, .int x' t'), (.int y u, .int y' u'), (.str (sg c) t3, .str (sg c') t3')] 0 s
  refine PySem.W.kat_cons (SeqAt.EqAt.int_int x t x' t' prog w _ _ (PySem.W.kat_go (fun e1 => ?_) (fun e1 => ?_)))
  · have ex : x = x' := by simpa using e1
    subst ex
    refine PySem.W.kat_yes (PySem.W.kat_cons (SeqAt.EqAt.int_int y u y' u' prog w _ _ (PySem.W.kat_go (fun e2 => ?_) (fun e2 => ?_))))
    · have ey : y = y' := by simpa using e2
      subst ey
      refine PySem.W.kat_yes (PySem.W.kat_cons (wpAny_eqBool_str (PySem.W.kat_go (fun e3 => ?_) (fun e3 => ?_))))
      · have ec : c = c' := sg_inj.mp (by simpa using e3)
        subst ec
        exact PySem.W.kat_yes (PySem.W.kat_nil ⟨rfl, (lexT_no.mpr (by show ¬ (x < x ∨ (x = x ∧ (y < y ∨ (y = y ∧ c < c)))); omega)).symm⟩)
      · refine PySem.W.kat_no (PySem.W.kat_one _ _ (PyProof.Rows.lt_str ?_))
        refine (show s = s ∧ decide ((sg c).cps.toList < (sg c').cps.toList) = lexT (x, y, c) (x, y, c') from ⟨rfl, ?_⟩)
        rw [sg_lt]
        unfold lexT
        rw [if_pos rfl, if_pos rfl]
    · have ey : ¬ y = y' := by simpa using e2
      refine PySem.W.kat_no (PySem.W.kat_one _ _ (PyProof.Rows.lt_int ?_))
      refine (show s = s ∧ decide (y < y') = lexT (x, y, c) (x, y', c') from ⟨rfl, ?_⟩)
      unfold lexT
      rw [if_pos rfl, if_neg ey]
  · have ex : ¬ x = x' := by simpa using e1
    refine PySem.W.kat_no (oneLt_int ⟨rfl, ?_⟩)
    unfold lexT
    rw [if_neg ex]
theorem tri_firsts {h : Heap} : ∀ {vs : List Value}, (∀ v ∈ vs, ∃ p, IsTri h v p) → ∃ fs : List Value, PySem.W.KatTups h vs fs ∧ fs.length = vs.length ∧ ∀ f ∈ fs, ∃ x t, f = Value.int x t
  | [], _ => ⟨[], PySem.W.KatTups.nil, rfl, fun _ hm => by simp at hm⟩
  | v :: vs, hp => by
    obtain ⟨fs, h1, h2, h3⟩ := tri_firsts (vs := vs) fun v' hm => hp v' (List.mem_cons_of_mem _ hm)
    obtain ⟨p, a, o, t, u, t3, n, e, ho, hc, hd⟩ := hp v List.mem_cons_self
    subst e
    refine ⟨.int p.1 t :: fs, PySem.W.KatTups.cons ho hc hd rfl h1, by rw [List.length_cons, List.length_cons, h2], fun f hm => ?_⟩
    rcases List.mem_cons.mp hm with rfl | hm
    · exact ⟨_, t, rfl⟩
    · exact h3 f hm
theorem tri_sortable {a : Addr} {vs : List Value} {k : Value → Tri} (h0 : 0 < vs.length) (hp : ∀ v ∈ vs, IsTri s.heap v (k v)) (ha : ∀ o, s.heap.get? a = some o → o.cls ≠ .type "tuple") : SrtO.SortableO prog w A s a vs fun v u => lexT (k v) (k u) := by
  intro h' keep
  have hp' : ∀ v ∈ vs, IsTri h' v (k v) := fun v hm => (hp v hm).keeps fun b o e c => keep b o (fun z => by subst z; exact ha o e c) e
  obtain ⟨fs, h1, h2, h3⟩ := tri_firsts fun v hm => ⟨_, hp' v hm⟩
  refine ⟨tuples' true, fun Q E hq => PySem.W.kat_kind (T := .type "int") h1 (by omega) (fun f hm => ?_) (by rfl) ?_, tri_cmp hp'⟩
  · obtain ⟨x, t, rfl⟩ := h3 f hm
    exact PySem.W.Looks.now
  · rw [show (Value.type "int" != Value.type "tuple") = true by decide +kernel]; exact hq
theorem sorted_tris {l : Addr} {vs : List Value} {k : Value → Tri} {Q : Value → Shared → Prop} (hl : s.heap.IsList l vs.toArray) (hz : vs.length ≤ sizeLine) (hp : ∀ v ∈ vs, IsTri s.heap v (k v))
    (h : ∀ (h' : Heap) (d : Addr) (out : List Value), SrtO.Srtd (fun v u => lexT (k v) (k u)) out → out.Perm vs → (∀ b o, s.heap.get? b = some o → h'.get? b = some o) → s.heap.objs.size ≤ d → (∃ n, h'.get? d = some (seqObj "list" out.toArray n)) → Q (.ref d) { s with heap := h' }) :
    wpAny (model prog w) A (call (.builtin "sorted") [.ref l]) Q E s := by
  refine SrtO.sorted_ord (swo_T k) hl hz (fun h2 h₁ a ha kk => tri_sortable (s := { s with heap := h₁ }) (by omega) (fun v hm => (hp v hm).keeps fun b o e _ => (kk b o e).2) fun o e c => ?_) fun out hs hb => ?_
  · have e' : some o = some (seqObj "list" vs.toArray 0) := e.symm.trans ha
    cases e'
    exact absurd (Value.type.inj c) (by decide)
  · exact h _ _ out hs hb.perm (fun b o e => sortedAll_old e) (Nat.le_succ _) (sortedAll_at s.heap vs out.toArray)
end
def triV (p : Tri) : List V := [.int p.1, .int p.2.1, .str (sg p.2.2)]
/-- sorted(ties): the same tuples, by their three -/
def rSorted3 (K : PySem.W.Frag) : List V → Hp → VK → Prop := fun vs H Q => ∃ (a : Addr) (es : List (Addr × Tri)), vs = [V.ref a] ∧ SqL K H a (es.map fun e => V.ref e.1) ∧ (∀ e ∈ es, H e.1 = some (.tup (triV e.2))) ∧
  ∀ (es' : List (Addr × Tri)) p, es'.Perm es → (es'.map (·.2)).Pairwise (fun x y => lexT y x = false) → H p = none → Q (.ref p) (upd H p (.lst (es'.map fun e => V.ref e.1)))
section
variable {X : Cx}
theorem cr_sorted3 : CallR X (.builtin "sorted") (rSorted3 X.K) := by
  intro pins s σ H vs us Q I r h
  obtain ⟨a, es, rfl, hs, hx, q⟩ := h
  obtain ⟨its, rv, hl, hz⟩ := I.list hs
  obtain ⟨u, rfl, ru⟩ := vals1 r
  obtain rfl : u = Value.ref a := ru
  -- the items, by their addresses
  have eits : its = es.map fun e => Value.ref e.1 := by
    have : ∀ {xs : List (Addr × Tri)} {us : List Value}, Vals (xs.map fun e => V.ref e.1) us → us = xs.map fun e => Value.ref e.1 := by
      intro xs
      induction xs with
      | nil => intro us r; cases r; rfl
      | cons x xs ih =>
        intro us r
        cases r with
        | cons r1 r2 => rw [ih r2, (show _ = Value.ref x.1 from r1)]; rfl
    exact this rv
  -- the key, read off the heap
  let kA : Addr → Tri := fun b => match H b with
    | some (.tup [.int x, .int y, .str z]) => (x, y, (z.cps.toList.headD 0))
    | _ => (0, 0, 0)
  have kA_eq : ∀ e ∈ es, kA e.1 = e.2 := fun e he => by
    show (match H e.1 with
      | some (.tup [.int x, .int y, .str z]) => (x, y, (z.cps.toList.headD 0))
      | _ => (0, 0, 0)) = e.2
    rw [hx e he]; rfl
  let kV' : Value → Tri := fun v => match v with
    | .ref b => kA b
    | _ => (0, 0, 0)
  refine sorted_tris (k := kV') hl.isList (by rw [← rv.length]; exact hz) (fun v hv => ?_) fun h' d out h1 h2 kp hd hn => ?_
  · rw [eits] at hv
    obtain ⟨e, he, rfl⟩ := List.mem_map.mp hv
    obtain ⟨_, its2, r2, o, ho, hc, n, hd⟩ := I.hok _ _ (hx e he)
    have ek : kV' (Value.ref e.1) = e.2 := kA_eq e he
    rw [ek]
    cases r2 with
    | cons ra rr =>
      cases rr with
      | cons rb rr =>
        cases rr with
        | cons rc rr =>
          cases rr
          obtain ⟨t1, rfl⟩ := ra
          obtain ⟨t2, rfl⟩ := rb
          obtain ⟨t3, rfl⟩ := rc
          exact ⟨e.1, o, t1, t2, t3, n, rfl, ho, hc, hd⟩
  · obtain ⟨n, hn⟩ := hn
    rw [eits] at h2
    have hmem : ∀ v ∈ out, ∃ e ∈ es, v = Value.ref e.1 := fun v hv => by
      obtain ⟨e, he, e'⟩ := List.mem_map.mp (h2.mem_iff.mp hv)
      exact ⟨e, he, e'.symm⟩
    -- back to pairs
    let back : Value → Addr × Tri := fun v => match v with
      | .ref b => (b, kA b)
      | _ => (0, (0, 0, 0))
    have p1 : (out.map back).Perm es := by
      have z := h2.map back
      rw [List.map_map] at z
      have e2 : es.map (back ∘ fun e => Value.ref e.1) = es := by
        conv => rhs; rw [← List.map_id es]
        refine List.map_congr_left fun e he => ?_
        show (e.1, kA e.1) = e
        rw [kA_eq e he]
      rw [e2] at z
      exact z
    have e3 : (out.map back).map (fun e => V.ref e.1) = out.map backV := by
      rw [List.map_map]
      refine List.map_congr_left fun v hv => ?_
      obtain ⟨e, he, rfl⟩ := hmem v hv
      rfl
    have srt : ((out.map back).map (·.2)).Pairwise (fun x y => lexT y x = false) := by
      rw [List.map_map, List.pairwise_map]
      refine h1.imp_of_mem fun {x y} hx' hy' hxy => ?_
      obtain ⟨e, he, rfl⟩ := hmem x hx'
      obtain ⟨e', he', rfl⟩ := hmem y hy'
      exact hxy
    have g := q (out.map back) d p1 srt (I.hok.fresh hd)
    rw [e3] at g
    have hzo : (out.map backV).length ≤ sizeLine := by
      rw [List.length_map, h2.length_eq, List.length_map]
      rw [List.length_map] at hz
      exact hz
    have hvb : Vals (out.map backV) out := vals_back fun u hu => by
      obtain ⟨e, he, rfl⟩ := hmem u hu
      exact ⟨_, rfl⟩
    exact ⟨.ref d, upd H d (.lst (out.map backV)), I.laid (t' := s.toks) kp hd (show ObjOk X.prog X.w _ _ _ (.lst (out.map backV)) from ⟨hzo, out, n, hvb, hn⟩), rfl, g⟩

/-- sorted(d), the keys pairs of whole numbers -/
def rSortedD : List V → Hp → VK → Prop := fun vs H Q => ∃ (d : Addr) (kvs : List (List Key × V)), vs = [V.ref d] ∧ H d = some (.dT kvs) ∧ (∀ p ∈ kvs, ∃ i j : Int, p.1 = [.inl i, .inl j]) ∧
  ∀ (es : List (Addr × Int × Int)) p, (es.map fun e => ([.inl e.2.1, .inl e.2.2] : List Key)).Perm (kvs.map (·.1)) → (∀ e ∈ es, H e.1 = some (.tup [.int e.2.1, .int e.2.2])) → (es.map (·.2)).Pairwise (fun x y => SrtO.lexB y x = false) → H p = none → Q (.ref p) (upd H p (.lst (es.map fun e => V.ref e.1)))
theorem cr_sortedD (hc : X.calm = true) : CallR X (.builtin "sorted") rSortedD := by
  intro pins s σ H vs us Q I r h
  obtain ⟨d, kvs, rfl, hd, hk, q⟩ := h
  obtain ⟨u, rfl, ru⟩ := vals1 r
  obtain rfl : u = Value.ref d := ru
  obtain ⟨z, lo, ks, pr, o, es0, ep, ho, hx, hdt, he, hn⟩ := (show ObjOk X.prog X.w H s.heap d (.dT kvs) from I.hok d _ hd)
  have l1 : es0.size = ks.length := size_of_entries he
  have l2 : kvs.length = ks.length := Paired.length pr
  refine Calls.call_function_entry PyProof.Rows.kind_sorted PyProof.Rows.plain_sorted PyProof.Rows.entry_sorted (PyProof.Rows.args_sorted1 _) ?_; unfold Builtin.«sorted»
  refine wpAny_bind (m := checkCount "sorted" 1 1 _) (wpAny_pure (wpAny_bind (PySem.W.kdu_collect (A := X.A.in1) (kdl_raw lo hx hdt) (I.ok.hd hc) ho (by omega) fun h' tk acc hk' hacc => ?_)))
  -- the collected keys
  have ea : acc.toList = ks.map fun x => Value.ref x.2.1 := by
    have hl : acc.toList.length = ks.length := by rw [Array.length_toList, hacc.1]; exact l1
    refine List.ext_getElem? fun j => ?_
    rw [List.getElem?_map]
    cases hj : acc.toList[j]? with
    | none => rw [List.getElem?_eq_none (by have := List.getElem?_eq_none_iff.mp hj; omega)]; rfl
    | some v =>
      obtain ⟨en, hen, hv⟩ := hacc.2 j v (by rw [← Array.getElem?_toList]; exact hj)
      have qe := entry_at he j
      rw [hen] at qe
      cases hb : ks[j]? with
      | none => rw [hb] at qe; cases qe
      | some b =>
        rw [hb] at qe
        have e2 : en = entryOfKey (tupleKind (mixKind X.prog X.w)) b := Option.some.inj qe
        rw [hv, e2]; rfl
  have pk : ∀ x ∈ ks, ∃ i j : Int, x.1 = [.inl i, .inl j] ∧ H x.2.1 = some (.tup [.int i, .int j]) := by
    have go : ∀ {kvs : List (List Key × V)} {ks : List (List Key × Addr × Value)}, Paired (fun (p : List Key × V) (q : List Key × Addr × Value) => p.1 = q.1 ∧ H q.2.1 = some (.tup (p.1.map kV)) ∧ RelV p.2 q.2.2) kvs ks → (∀ p ∈ kvs, ∃ i j : Int, p.1 = [.inl i, .inl j]) → ∀ x ∈ ks, ∃ i j : Int, x.1 = [.inl i, .inl j] ∧ H x.2.1 = some (.tup [.int i, .int j]) := by
      intro kvs ks pr
      induction pr with
      | nil => intro _ x hx; simp at hx
      | cons a _ ih =>
        intro hk x hx
        rcases List.mem_cons.mp hx with rfl | hx
        · obtain ⟨i, j, e⟩ := hk _ List.mem_cons_self
          refine ⟨i, j, a.1.symm.trans e, ?_⟩
          have := a.2.1
          rw [e] at this
          exact this
        · exact ih (fun p hp => hk p (List.mem_cons_of_mem _ hp)) x hx
    exact go pr hk
  have ek : ks.map (·.1) = kvs.map (·.1) := by
    have go : ∀ {kvs : List (List Key × V)} {ks : List (List Key × Addr × Value)}, Paired (fun (p : List Key × V) (q : List Key × Addr × Value) => p.1 = q.1 ∧ H q.2.1 = some (.tup (p.1.map kV)) ∧ RelV p.2 q.2.2) kvs ks → ks.map (·.1) = kvs.map (·.1) := by
      intro kvs ks pr
      induction pr with
      | nil => rfl
      | cons a _ ih => rw [List.map_cons, List.map_cons, ih, a.1]
    exact go pr
  let kA : Addr → Int × Int := fun b => match H b with
    | some (.tup [.int x, .int y]) => (x, y)
    | _ => (0, 0)
  have kA_eq : ∀ {b : Addr} {i j : Int}, H b = some (.tup [.int i, .int j]) → kA b = (i, j) := fun {b i j} e => by
    show (match H b with
      | some (.tup [.int x, .int y]) => (x, y)
      | _ => (0, 0)) = (i, j)
    rw [e]
  let kW : Value → Int × Int := fun v => match v with
    | .ref b => kA b
    | _ => (0, 0)
  have I1 : Inv X pins σ H { s with heap := h', toks := tk } := I.kept hk'
  have hal : acc.toList.length ≤ sizeLine := by rw [ea, List.length_map]; omega
  refine wpAny_bind (wpAny_newList ?_ hal)
  have hoL : (h'.push (seqObj "list" acc.toList.toArray 0)).get? h'.objs.size = some (seqObj "list" acc.toList.toArray 0) := Heap.get?_push_size _ rfl
  have hpair : ∀ v ∈ acc.toList, Srt.IsPair (h'.push (seqObj "list" acc.toList.toArray 0)) v (kW v).1 (kW v).2 := fun v hv => by
    rw [ea] at hv
    obtain ⟨x, hx', rfl⟩ := List.mem_map.mp hv
    obtain ⟨i, j, _, e⟩ := pk x hx'
    obtain ⟨_, its2, r2, o', ho', hc', n', hd'⟩ := I1.hok _ _ e
    have e2 : kW (Value.ref x.2.1) = (i, j) := kA_eq e
    rw [e2]
    obtain ⟨u1, u2, rfl, ⟨t1, rfl⟩, ⟨t2, rfl⟩⟩ := vals2 r2
    exact ⟨x.2.1, o', t1, t2, n', rfl, Heap.get?_push_of_some _ ho', hc', hd'⟩
  show wpAny _ _ _ _ _ { s with heap := h'.push (seqObj "list" acc.toList.toArray 0), toks := tk }
  refine wpAny_bind (wpAny_holding (wpAny_call_entry PyProof.Rows.slot_list_sort ⟨_, hoL, rfl⟩ PyProof.Rows.entry_list_sort
    (SrtO.list_sort_ord (s := { s with heap := h'.push (seqObj "list" acc.toList.toArray 0), toks := tk }) (SrtO.swo_lex kW) hoL hal (fun h2 => SrtO.pairs_sortableO (by omega) hpair fun o e c => ?_) fun out hs hb => ⟨_, rfl, ?_⟩) (PyProof.Rows.args_list_sort _)))
  · have e' : some o = some (seqObj "list" acc.toList.toArray 0) := e.symm.trans hoL
    cases e'
    exact absurd (Value.type.inj c) (by decide)
  obtain ⟨n, hn2⟩ := PyProof.Rows.sortedHeap_at (vs := acc.toList) (out := out.toArray) hoL
  have h2 := hb.perm
  rw [ea] at h2
  have hmem : ∀ v ∈ out, ∃ x ∈ ks, v = Value.ref x.2.1 := fun v hv => by
    obtain ⟨x, hx', e'⟩ := List.mem_map.mp (h2.mem_iff.mp hv)
    exact ⟨x, hx', e'.symm⟩
  let back : Value → Addr × Int × Int := fun v => match v with
    | .ref b => (b, kA b)
    | _ => (0, (0, 0))
  have g := q (out.map back) h'.objs.size (by
      have z := h2.map fun v => ([.inl (back v).2.1, .inl (back v).2.2] : List Key)
      rw [List.map_map] at z
      have e2 : ks.map ((fun v => ([.inl (back v).2.1, .inl (back v).2.2] : List Key)) ∘ fun x => Value.ref x.2.1) = ks.map (·.1) := by
        refine List.map_congr_left fun x hx' => ?_
        obtain ⟨i, j, e3, e4⟩ := pk x hx'
        show ([.inl (kA x.2.1).1, .inl (kA x.2.1).2] : List Key) = x.1
        rw [kA_eq e4, e3]
      rw [e2, ek] at z
      rw [List.map_map]
      exact z) (fun e he' => by
      obtain ⟨v, hv, rfl⟩ := List.mem_map.mp he'
      obtain ⟨x, hx', rfl⟩ := hmem v hv
      obtain ⟨i, j, e3, e4⟩ := pk x hx'
      show H x.2.1 = some (.tup [.int (kA x.2.1).1, .int (kA x.2.1).2])
      rw [kA_eq e4, e4]) (by
      rw [List.map_map, List.pairwise_map]
      refine hs.imp_of_mem fun {x y} hx' hy' hxy => ?_
      obtain ⟨e1, _, rfl⟩ := hmem x hx'
      obtain ⟨e2, _, rfl⟩ := hmem y hy'
      exact hxy) (I1.hok.fresh (Nat.le_refl _))
  have e3 : (out.map back).map (fun e => V.ref e.1) = out.map backV := by
    rw [List.map_map]
    refine List.map_congr_left fun v hv => ?_
    obtain ⟨e, he', rfl⟩ := hmem v hv
    rfl
  rw [e3] at g
  have hzo : (out.map backV).length ≤ sizeLine := by
    rw [List.length_map, h2.length_eq, List.length_map]; omega
  have hvb : Vals (out.map backV) out := vals_back fun u hu => by
    obtain ⟨e, _, rfl⟩ := hmem u hu
    exact ⟨_, rfl⟩
  refine wpAny_pure ⟨_, rfl, .ref h'.objs.size, upd H h'.objs.size (.lst (out.map backV)), I1.laid (t' := tk) (fun b u e => ?_) (Nat.le_refl _) (show ObjOk X.prog X.w _ _ _ (.lst (out.map backV)) from ⟨hzo, out, n, hvb, hn2⟩), rfl, g⟩
  have hb' : b < h'.objs.size := Heap.lt_size e
  rw [PyProof.Rows.sortedHeap_old (Nat.ne_of_lt hb') (by rw [size_push']; exact Nat.lt_succ_of_lt hb')]; exact Heap.get?_push_of_some _ e

/-- d.pop(k), k a tuple that is there -/
def rPop1 : V → List V → Hp → VK → Prop := fun x xs H Q => ∃ (a : Addr) (kvs : List (List Key × V)) (k : List Key) (b : Addr) (v : V), x = .ref a ∧ xs = [.ref b] ∧ H a = some (.dT kvs) ∧ H b = some (.tup (k.map kV)) ∧ valV kvs k = some v ∧ Q v (upd H a (.dT (dropK kvs k)))
end
section
variable {prog : Program} {w : World} {K : Type} [DecidableEq K] {knd : HeapKind prog w K}
theorem meets_pop1 {d b : Addr} {k : K} (hd : (d == sysModules) = false) :
    MeetsIn prog w (Builtin.«dict.pop» ⟨[.ref d, .ref b], []⟩) (fun A R s => ∃ xs p0, knd.room A.in1 ∧ knd.is s.heap k b ∧ s.heap.DictOfH knd d xs ∧ xs.length ≤ sizeLine ∧ atKey xs k = some p0 ∧
      ∀ p, atKey xs k = some p → ∀ h' tk, h'.DictOfH knd d (DT.dropH xs k) → Heap.SameBut d s.heap h' → R (.ok (.ret p.2)) { s with heap := h', toks := tk }) :=
  .of_wp fun A R s ⟨xs, p0, hu, hkey, hm, hsz, hp0, hsome⟩ => by
    obtain ⟨o, es, ep, ho, hc, hdat, he, his, hn⟩ := id hm
    have hes : es.size = xs.length := size_of_entries he
    have hne : xs ≠ [] := fun z => by rw [z] at hp0; cases hp0
    have hem : es.isEmpty = false := by
      cases q : es.isEmpty with
      | false => rfl
      | true =>
        have z : es.size = 0 := by simpa using q
        exact absurd (List.length_eq_zero_iff.mp (by omega)) hne
    unfold Builtin.«dict.pop»
    refine wpAny_bind ?_; unfold Builtin.Dict.keyAndDefault
    refine wpAny_bind (wpAny_notOrdered_dict hm.typeIs ?_)
    show wpAny _ _ (pure (d, Value.ref b, (none : Option Value))) _ _ s
    refine wpAny_pure ?_
    simp only [show (keyPart (Value.ref b)).isSome = false from rfl, Bool.false_eq_true, if_false]
    refine wpAny_bind (wpAny_dictEntries ho hdat (wpAny_bind (wpAny_pure ?_)))
    simp only [hem, Bool.false_eq_true, if_false]
    refine wpAny_bind (DT.takeH hu hkey hm hsz (fun hno => ?_) fun p e hp hev h' hm' hs' => ?_)
    · rw [hno] at hp0; cases hp0
    · simp only [Option.isNone_some, Bool.false_eq_true, if_false]
      exact wpAny_bind (wpAny_letGo (wpAny_pure ⟨e.val, rfl, by rw [hev]; exact hsome p hp h' _ hm' hs'⟩))
end
section
variable {X : Cx}
theorem mt_pop1T (hu : X.A.units + 1 < cLine) : MtR X "dict.pop" rPop1 := by
  intro pins s σ H x xs v us Q I rx rxs h
  obtain ⟨a, kvs, k, b, v0, rfl, rfl, ha, hb, hv0, q⟩ := h
  cases rx
  obtain ⟨u1, rfl, r1⟩ := vals1 rxs
  cases r1
  obtain ⟨z, hd, xs', rel, dd⟩ := dt_of I.hok ha
  have hz : xs'.length ≤ sizeLine := by rw [← Paired.length rel]; exact z
  have r := rel.val k
  rw [hv0] at r
  obtain ⟨p0, hp0, rv⟩ : ∃ p0, atKey xs' k = some p0 ∧ RelV v0 p0.2 := by
    cases ev : atKey xs' k with
    | none => rw [ev] at r; exact (show False from r).elim
    | some p0 => rw [ev] at r; exact ⟨p0, rfl, r⟩
  refine call_meetsIn PySem.F.slot_dict_pop dd.typeIs PySem.F.entry_dict_pop (PySem.F.args_dict_pop_2 _ _) (meets_pop1 (knd := tupleKind (mixKind X.prog X.w)) (k := k) hd) ⟨xs', p0, tupleKind_room_in1 hu, key_of I.hok hb, dd, hz, hp0, fun p hp h' tk dd' hs => ?_⟩
  rw [hp0] at hp
  cases hp
  obtain ⟨o, es, ep, hq, h2, h3, h4, _, h5⟩ := dd'
  have I2 : Inv X pins σ (upd H a (.dT (dropK kvs k))) { s with heap := h', toks := tk } :=
    d_write I (by rw [ha]; exact True.intro) hs ⟨o, hq⟩ ⟨Nat.le_trans (dropK_le kvs k) z, hd, _, (L2.DX.KT_drop k rel).keeps (fun c ys ec => (by rw [upd_ne (ne_of ec ha (fun z => nomatch z))]; exact ec)), o, es, ep, hq, h2, h3, h4, h5⟩
  show EP X pins σ Q p0.2 _
  exact ⟨v0, _, I2, rv, q⟩
end
/-- a text's signs with their places -/
def Itse (x : Str) : It := ⟨fun i _ => i < x.cps.size, fun i H v H' => ∃ T c, v = .ref T ∧ H T = none ∧ H' = upd H T (.tup [.int (i : Nat), .str ⟨#[c]⟩]) ∧ x.cps[i]? = some c, fun i _ => x.cps.size ≤ i⟩
theorem turn_enumS {P : Program} {w : World} {K : PySem.W.Frag} {elts : List Expr} {kk : Nat} {tpos : Pos} (e it : Addr) (x : Str) (t : Tok) (ty : String) (hty : ty = "str_ascii_iterator" ∨ ty = "str_iterator") :
    Turn P w K (.Tuple elts kk tpos) (Itse x) [e, it] e (fun i h => (∃ old, IsEnum h e it i old) ∧ h.IsStrIter it ty x t i ∧ e ≠ it ∧ i ≤ x.cps.size) where
  mem := by simp
  obj := fun i h st b hb => by
    obtain ⟨⟨old, he⟩, ⟨o, ho, hc, hd⟩, _⟩ := st
    have e' : b = e ∨ b = it := by simpa using hb
    rcases e' with z | z
    · rw [z]; exact ⟨_, he, fun v q => nomatch q⟩
    · rw [z]; exact ⟨o, ho, fun v q => by rw [hd] at q; cases q⟩
  keep := fun i h h' st k => by
    obtain ⟨⟨old, he⟩, ⟨o, ho, r⟩, hne⟩ := st
    exact ⟨⟨old, k e (by simp) _ he⟩, ⟨o, k it (by simp) o ho, r⟩, hne⟩
  item := by
    intro X hP hw hK hc i pins s σ H E I hf st hg
    subst hP hw hK
    obtain ⟨⟨old, he⟩, hit, hne, hi⟩ := st
    have hg' : i < x.cps.size := hg
    have hel : e < s.heap.objs.size := Heap.lt_size he
    have hil : it < s.heap.objs.size := by obtain ⟨_, q, _⟩ := hit; exact Heap.lt_size q
    have D : Draws X.prog X.w X.A.in1 it [it] x.cps.size (fun i v => ∃ c u, x.cps[i]? = some c ∧ v = .str ⟨#[c]⟩ u) (fun i h => h.IsStrIter it ty x t i) := by
      rcases hty with z | z
      · rw [z]; exact Draws.strAscii (A := X.A.in1) (I.ok.hd hc) it x t
      · rw [z]; exact Draws.strWide (A := X.A.in1) (I.ok.hd hc) it x t
    refine wpAny_pyNext_enum_itemD D he hit hg hne (by simpa using hne) fun v h' tk hv ho hit' hT hsz hk => ?_
    obtain ⟨c, u, hcx, rfl⟩ := hv
    refine ⟨_, rfl, wpAny_letOwnedTupleGo_enum (s := { s with heap := h', toks := tk + 1 }) ho fun h'' he' sb => ?_⟩
    have hT2 : h''.get? s.heap.objs.size = some { cls := .type "tuple", data := .seq #[.int i tk, .str ⟨#[c]⟩ u] } := (sb.2 _ (Nat.ne_of_gt hel)).trans hT
    have new : ObjOk X.prog X.w (upd H s.heap.objs.size (.tup [.int (i : Nat), .str ⟨#[c]⟩])) h'' s.heap.objs.size (.tup [.int (i : Nat), .str ⟨#[c]⟩]) :=
      ⟨(by show 2 ≤ sizeLine; decide), [.int i tk, .str ⟨#[c]⟩ u], .cons ⟨_, rfl⟩ (.cons ⟨u, rfl⟩ .nil), ⟨_, hT2, rfl, _, rfl⟩⟩
    have I1 : Inv X pins σ (upd H s.heap.objs.size (.tup [.int (i : Nat), .str ⟨#[c]⟩])) { s with heap := h'', toks := tk + 1 } :=
      I.turnedNew (ch := [e, it]) (fun b ob hb q => (sb.2 b (fun z => hb (by simp [z]))).trans (hk b ob (fun z => hb (by simp [z])) (fun z => hb (by simp [z])) q)) hf (Nat.le_refl _) new
    refine ⟨.ref s.heap.objs.size, _, I1, rfl, ⟨_, c, rfl, I.hok.fresh (Nat.le_refl _), rfl, hcx⟩, ⟨⟨.str ⟨#[c]⟩ u, ?_⟩, (by obtain ⟨o, a, b⟩ := hit'; exact ⟨o, (sb.2 it (Ne.symm hne)).trans a, b⟩), hne, hg'⟩, fun b hb => ?_⟩
    · rw [show ((i + 1 : Nat) : Int) = (i : Int) + 1 by omega]; exact he'
    · have hb' : b < s.heap.objs.size := by
        have z : b = e ∨ b = it := by simpa using hb
        rcases z with z | z
        · rw [z]; exact hel
        · rw [z]; exact hil
      rw [upd_ne (Nat.ne_of_lt hb')]; exact (hf b hb).1
  done := by
    intro X hP hw hK hc i pins s σ H E I hf st hg
    subst hP hw hK
    obtain ⟨⟨old, he⟩, hit, hne, hi⟩ := st
    have hg' : x.cps.size ≤ i := hg
    obtain rfl : i = x.cps.size := by omega
    have D : Draws X.prog X.w X.A.in1 it [it] x.cps.size (fun i v => ∃ c u, x.cps[i]? = some c ∧ v = .str ⟨#[c]⟩ u) (fun i h => h.IsStrIter it ty x t i) := by
      rcases hty with z | z
      · rw [z]; exact Draws.strAscii (A := X.A.in1) (I.ok.hd hc) it x t
      · rw [z]; exact Draws.strWide (A := X.A.in1) (I.ok.hd hc) it x t
    obtain ⟨f0, f1, f2, f3, f4, f5⟩ := hf it (by simp)
    exact wpAny_pyNext_enum_endD D he hit fun h' eb => ⟨rfl, I.turned (t' := s.toks) (fun b o hb q => eb b o hb q) f0 f1 f3 f4 f5⟩
  self := fun A i s Q E st h => by
    obtain ⟨⟨old, he⟩, _, _⟩ := st
    exact wpAny_pyIter_enum he h
def iEnumS (ta : TA) : TI := fun σ H R => ta σ H fun vs H1 => ∃ x, vs = [.str x] ∧ R (Itse x) H1
theorem strIter_ty (x : Str) : strIterType x = "str_ascii_iterator" ∨ strIterType x = "str_iterator" := by
  unfold strIterType
  cases x.cps.all (· < 128)
  · exact .inr rfl
  · exact .inl rfl
theorem pi_enumS {X : Cx} {e : Expr} {ta : TA} {p pos tpos : Pos} {elts : List Expr} {kk : Nat} (hg : Gl X "enumerate") (hm : X.mg "enumerate" = none) (ha : PA X [e] ta) (hs : starEach [e] X.env = [(false, eval e X.env)] := by rfl) :
    PI X (.Tuple elts kk tpos) (.Call (.Name "enumerate" p) [e] [] pos) (iEnumS ta) := by
  refine ⟨fun pins s σ H R I h => Call_ (ld_blt I hg hm boot_enumerate (PyProof.Rows.callWith_type1 (thn (ha.run pos pins s σ H _ I h) fun us s1 ⟨vs, H1, I1, r1, q1⟩ => ?_) hs rfl))⟩
  obtain ⟨x, ex, q⟩ := q1
  subst ex
  cases r1 with
  | cons r rr =>
    cases rr
    obtain ⟨t, rfl⟩ := r
    refine call_enumerate_str fun h' he hit hsz hk => wpAny_pyIter_enum he ?_
    have I2 : Inv X pins σ H1 { s1 with heap := h' } := I1.kept (t' := s1.toks) hk
    refine ⟨s1.heap.objs.size + 1, [s1.heap.objs.size + 1, s1.heap.objs.size], _, _, H1, rfl, I2, turn_enumS (s1.heap.objs.size + 1) s1.heap.objs.size x t (strIterType x) (strIter_ty x), ⟨⟨.none, he⟩, hit, Nat.succ_ne_self _, Nat.zero_le _⟩, fun b hb => ?_, q⟩
    have hle : s1.heap.objs.size ≤ b := by
      have z : b = s1.heap.objs.size + 1 ∨ b = s1.heap.objs.size := by simpa using hb
      rcases z with z | z
      · rw [z]; exact Nat.le_add_right _ _
      · rw [z]; exact Nat.le_refl _
    exact I1.fpOk hle (I1.hok.fresh hle)
theorem walk_enumS {z : Str} : Walk (Itse z) z.cps.size (fun _ => True) (YPair (fun i => some (.int (i : Nat))) (fun i => z.cps[i]?.map fun c => V.str ⟨#[c]⟩)) := by
  refine ⟨fun _ _ hi _ => hi, fun _ _ => Nat.le_refl _, fun i H v H' _ _ y => ?_⟩
  obtain ⟨T, c, h1, h2, h3, h4⟩ := y
  exact ⟨T, .int (i : Nat), .str ⟨#[c]⟩, h1, h2, h3, rfl, by show (z.cps[i]?).map _ = _; rw [h4]; rfl⟩
theorem d_iEnS {ta : TA} {σ : L2.St} {H : Hp} {R : It → Hp → Prop} (h : ta σ H fun vs H1 => ∃ x, vs = [.str x] ∧ R (Itse x) H1) : iEnumS ta σ H R := h
theorem d_iEnSe {C : Str → Prop} {z : Str} (q : C z) : ∃ x, [V.str z] = [.str x] ∧ C x := ⟨z, rfl, q⟩
theorem d_iEn {K : PySem.W.Frag} {ta : TA} {σ : L2.St} {H : Hp} {R : It → Hp → Prop} (h : ta σ H fun vs H1 => ∃ a xs, vs = [.ref a] ∧ SqL K H1 a xs ∧ R (Ite K a) H1) : iEnum K ta σ H R := h
end Cw

namespace Cw
open PySem PySem.Spec PyProof.Rows L2
theorem erase_map {α β : Type} (f : α → β) : ∀ (l : List α) (m : Nat), (l.map f).eraseIdx m = (l.eraseIdx m).map f
  | [], m => by simp
  | _ :: _, 0 => rfl
  | x :: l, m + 1 => by
    show f x :: (l.map f).eraseIdx m = f x :: (l.eraseIdx m).map f
    rw [erase_map f l m]
theorem erase_perm {α : Type} : ∀ (l : List α) (m : Nat) (h : m < l.length), (l[m] :: l.eraseIdx m).Perm l
  | [], m, h => absurd h (Nat.not_lt_zero _)
  | x :: l, 0, _ => List.Perm.refl _
  | x :: l, m + 1, h => by
    have hm : m < l.length := Nat.lt_of_succ_lt_succ h
    have ih := erase_perm l m hm
    exact (List.Perm.swap x l[m] _).trans (ih.cons x)
/-- as many different numbers below n as there are, at most -/
theorem nodup_len : ∀ (n : Nat) (l : List Nat), l.Nodup → (∀ x ∈ l, x < n) → l.length ≤ n
  | 0, l, _, h => by
    cases l with
    | nil => exact Nat.le_refl _
    | cons x r => exact absurd (h x List.mem_cons_self) (Nat.not_lt_zero _)
  | n + 1, l, hn, h => by
    by_cases hm : n ∈ l
    · have ih := nodup_len n (l.erase n) (hn.erase n) fun x hx => by
        have h1 := h x (List.mem_of_mem_erase hx)
        have h2 : x ≠ n := fun z => by
          subst z
          exact absurd hx (List.Nodup.not_mem_erase hn)
        omega
      rw [List.length_erase_of_mem hm] at ih
      omega
    · have ih := nodup_len n l hn fun x hx => by
        have h1 := h x hx
        have h2 : x ≠ n := fun z => hm (z ▸ hx)
        omega
      omega
/-! ### places called otherwise -/
def qa (qs : List Nat) (p : Nat) : Nat := qs.getD p 0
def mapTie (qs : List Nat) (t : Tie) : Tie := (min (qa qs t.1) (qa qs t.2.1), max (qa qs t.1) (qa qs t.2.1), t.2.2)
theorem qa_at {qs : List Nat} {p : Nat} (h : p < qs.length) : qs[p]? = some (qa qs p) := by
  unfold qa
  rw [List.getD_eq_getElem?_getD, List.getElem?_eq_getElem h]; rfl
structure Ord (qs : List Nat) (n : Nat) : Prop where
  len : qs.length = n
  nd : qs.Nodup
  lt : ∀ q ∈ qs, q < n
  all : ∀ j, j < n → j ∈ qs
theorem Ord.of {qs : List Nat} {n : Nat} (p : qs.Perm (List.range n)) : Ord qs n :=
  ⟨by rw [p.length_eq, List.length_range], p.nodup_iff.mpr List.nodup_range, fun q hq => List.mem_range.mp (p.mem_iff.mp hq), fun j hj => p.mem_iff.mpr (List.mem_range.mpr hj)⟩
theorem Ord.inj {qs : List Nat} {n p r : Nat} (o : Ord qs n) (hp : p < n) (hr : r < n) (h : qa qs p = qa qs r) : p = r := by
  have h1 : p < qs.length := by rw [o.len]; exact hp
  have h2 : r < qs.length := by rw [o.len]; exact hr
  have e1 := qa_at h1
  have e2 := qa_at h2
  rw [List.getElem?_eq_getElem h1] at e1
  rw [List.getElem?_eq_getElem h2] at e2
  exact (List.getElem_inj o.nd).mp ((Option.some.inj e1).trans (h.trans (Option.some.inj e2).symm))
theorem Ord.lt' {qs : List Nat} {n p : Nat} (o : Ord qs n) (hp : p < n) : qa qs p < n := o.lt _ (List.mem_of_getElem? (qa_at (by rw [o.len]; exact hp)))
theorem Ord.onto {qs : List Nat} {n j : Nat} (o : Ord qs n) (hj : j < n) : ∃ p, p < n ∧ qa qs p = j := by
  obtain ⟨p, hp⟩ := List.mem_iff_getElem?.mp (o.all j hj)
  have h1 : p < qs.length := (List.getElem?_eq_some_iff.mp hp).1
  rw [qa_at h1] at hp
  exact ⟨p, by rw [← o.len]; exact h1, Option.some.inj hp⟩
def ends (t : Tie) : Nat × Nat := (t.1, t.2.1)
structure Named (w : Web) (qs : List Nat) (w' : Web) : Prop where
  len : w'.1.length = w.1.length
  kinds : ∀ p, p < w.1.length → w'.1[qa qs p]? = w.1[p]?
  ties : w'.2.Perm (w.2.map (mapTie qs))
theorem mapTie_ends {w : Web} {qs : List Nat} (W : WOk w) (o : Ord qs w.1.length) : (w.2.map (mapTie qs)).Pairwise (fun x y => ends x ≠ ends y) := by
  rw [List.pairwise_map]
  refine List.Pairwise.imp_of_mem (fun {t u} ht hu lt e => ?_) W.rise
  have r1 := W.ends t ht
  have r2 := W.ends u hu
  unfold ends mapTie at e
  simp only [Prod.mk.injEq] at e
  obtain ⟨e1, e2⟩ := e
  by_cases c : qa qs t.1 = qa qs u.1
  · have a := o.inj (by omega) (by omega) c
    have c2 : qa qs t.2.1 = qa qs u.2.1 := by omega
    have b := o.inj (by omega) (by omega) c2
    rcases lt with z | ⟨_, z⟩ <;> omega
  · have c1 : qa qs t.1 = qa qs u.2.1 := by omega
    have c2 : qa qs t.2.1 = qa qs u.1 := by omega
    have a := o.inj (by omega) (by omega) c1
    have b := o.inj (by omega) (by omega) c2
    omega
/-- sorted ties of different ends rise -/
theorem rise_of {ts : List Tie} (s : ts.Pairwise (fun x y => lexT ((y.1 : Int), (y.2.1 : Int), y.2.2) ((x.1 : Int), (x.2.1 : Int), x.2.2) = false)) (d : ts.Pairwise (fun x y => ends x ≠ ends y)) : ts.Pairwise tlt := by
  refine (s.and d).imp fun {x y} h => ?_
  obtain ⟨h1, h2⟩ := h
  have a := lexT_no.mp h1
  unfold ends at h2
  simp only [ne_eq, Prod.mk.injEq, not_and] at h2
  dsimp only at a
  unfold tlt
  by_cases c : x.1 = y.1
  · have := h2 c
    right
    omega
  · left
    omega
theorem named_ok {w w' : Web} {qs : List Nat} (W : WOk w) (o : Ord qs w.1.length) (N : Named w qs w') (s : w'.2.Pairwise (fun x y => lexT ((y.1 : Int), (y.2.1 : Int), y.2.2) ((x.1 : Int), (x.2.1 : Int), x.2.2) = false)) : WOk w' := by
  refine ⟨by rw [N.len]; exact W.few, by rw [N.ties.length_eq, List.length_map]; exact W.most, fun c hc => ?_, rise_of s ?_, fun t ht => ?_⟩
  · obtain ⟨j, hj⟩ := List.mem_iff_getElem?.mp hc
    have hj' : j < w.1.length := by rw [← N.len]; exact (List.getElem?_eq_some_iff.mp hj).1
    obtain ⟨p, hp, rfl⟩ := o.onto hj'
    rw [N.kinds p hp] at hj
    exact W.kinds c (List.mem_of_getElem? hj)
  · exact (List.Perm.pairwise_iff (fun {x y} h => h.symm) N.ties).mpr (mapTie_ends W o)
  · obtain ⟨u, hu, rfl⟩ := List.mem_map.mp (N.ties.mem_iff.mp ht)
    have r := W.ends u hu
    have a := o.lt' (p := u.1) (by omega)
    have b := o.lt' (p := u.2.1) (by omega)
    have n : qa qs u.1 ≠ qa qs u.2.1 := fun z => by
      have := o.inj (by omega) (by omega) z
      omega
    refine ⟨?_, ?_, r.2.2⟩
    · show min _ _ < max _ _; omega
    · show max _ _ < w'.1.length; rw [N.len]; omega
theorem flat_rep (n : Nat) (x : V) : (List.replicate n [x]).flatten = List.replicate n x := by
  induction n with
  | zero => rfl
  | succ n ih => rw [List.replicate_succ, List.flatten_cons, ih, List.replicate_succ]; rfl
end Cw

namespace Cw
open PySem PySem.Spec PyProof.Rows L2
/-! ### a dict of ties by their ends -/
def kE (a b : Int) : List Key := [.inl a, .inl b]
structure DictOk (n : Nat) (kvs : List (List Key × V)) : Prop where
  nd : (kvs.map (·.1)).Nodup
  ok : ∀ p ∈ kvs, ∃ a b c : Nat, p = (kE a b, V.str (sg c)) ∧ a < b ∧ b < n ∧ Ltr c
theorem DictOk.nil (n : Nat) : DictOk n [] := ⟨List.nodup_nil, fun p hp => by simp at hp⟩
theorem valV_mem {kvs : List (List Key × V)} {k : List Key} {v : V} (h : valV kvs k = some v) : (k, v) ∈ kvs := by
  unfold valV at h
  obtain ⟨p, hp, rfl⟩ := Option.map_eq_some_iff.mp h
  have h1 := List.find?_some hp
  have h2 := List.mem_of_find?_eq_some hp
  have e : p.1 = k := of_decide_eq_true h1
  subst e
  exact h2
theorem DictOk.at {n : Nat} {kvs : List (List Key × V)} (d : DictOk n kvs) {k : List Key} {v : V} (h : valV kvs k = some v) : ∃ a b c : Nat, k = kE a b ∧ v = V.str (sg c) ∧ a < b ∧ b < n ∧ Ltr c := by
  obtain ⟨a, b, c, e, r⟩ := d.ok _ (valV_mem h)
  cases e
  exact ⟨a, b, c, rfl, rfl, r⟩
theorem DictOk.put {n : Nat} {kvs : List (List Key × V)} (d : DictOk n kvs) {a b c : Nat} (h1 : a < b) (h2 : b < n) (h3 : Ltr c) : DictOk n (putK kvs (kE a b) (.str (sg c))) := by
  unfold putK
  by_cases h : (kvs.any fun kv => decide (kv.1 = kE a b)) = true
  · rw [if_pos h]
    refine ⟨?_, fun p hp => ?_⟩
    · rw [List.map_map]
      have e : kvs.map ((·.1) ∘ fun kv => if kv.1 = kE a b then (kv.1, V.str (sg c)) else kv) = kvs.map (·.1) := by
        refine List.map_congr_left fun x _ => ?_
        show (if x.1 = kE a b then (x.1, V.str (sg c)) else x).1 = x.1
        split <;> rfl
      rw [e]
      exact d.nd
    · obtain ⟨x, hx, rfl⟩ := List.mem_map.mp hp
      by_cases e : x.1 = kE a b
      · rw [if_pos e, e]
        exact ⟨a, b, c, rfl, h1, h2, h3⟩
      · rw [if_neg e]
        exact d.ok x hx
  · rw [if_neg h]
    have hno : kE a b ∉ kvs.map (·.1) := fun hm => by
      obtain ⟨x, hx, e⟩ := List.mem_map.mp hm
      exact h (List.any_eq_true.mpr ⟨x, hx, decide_eq_true e⟩)
    refine ⟨?_, fun p hp => ?_⟩
    · rw [List.map_append]
      exact List.nodup_append.mpr ⟨d.nd, by simp, fun x hx y hy => by rw [List.mem_singleton.mp hy]; intro z; exact hno (by rw [← (show x = kE a b from z)]; exact hx)⟩
    · rcases List.mem_append.mp hp with hp | hp
      · exact d.ok p hp
      · rw [List.mem_singleton.mp hp]
        exact ⟨a, b, c, rfl, h1, h2, h3⟩
theorem DictOk.drop {n : Nat} {kvs : List (List Key × V)} (d : DictOk n kvs) (k : List Key) : DictOk n (dropK kvs k) :=
  ⟨d.nd.sublist ((List.filter_sublist).map _), fun p hp => d.ok p (List.mem_filter.mp hp).1⟩
theorem valV_drop {kvs : List (List Key × V)} {k j : List Key} (h : j ≠ k) : valV (dropK kvs k) j = valV kvs j := by
  unfold valV dropK
  congr 1
  induction kvs with
  | nil => rfl
  | cons x kvs ih =>
    by_cases e : x.1 = k
    · have e2 : ¬ x.1 = j := fun z => h (z.symm.trans e)
      rw [List.filter_cons_of_neg (by simp [e]), List.find?_cons_of_neg (by simp [e2])]
      exact ih
    · rw [List.filter_cons_of_pos (by simp [e])]
      by_cases e2 : x.1 = j
      · rw [List.find?_cons_of_pos (by simp [e2]), List.find?_cons_of_pos (by simp [e2])]
      · rw [List.find?_cons_of_neg (by simp [e2]), List.find?_cons_of_neg (by simp [e2])]
        exact ih
theorem DictOk.has {n : Nat} {kvs : List (List Key × V)} {k : List Key} (d : DictOk n kvs) (h : k ∈ kvs.map (·.1)) : ∃ v, valV kvs k = some v := by
  obtain ⟨x, hx, rfl⟩ := List.mem_map.mp h
  cases e : valV kvs x.1 with
  | some v => exact ⟨v, rfl⟩
  | none => exact absurd (List.mem_map.mpr ⟨x, hx, rfl⟩) (valV_not e)
theorem DictOk.len {n : Nat} {kvs : List (List Key × V)} (d : DictOk n kvs) (hn : n ≤ 40) : kvs.length ≤ 1600 := by
  let code : List Key × V → Nat := fun p => match p.1 with
    | [.inl a, .inl b] => a.toNat * 40 + b.toNat
    | _ => 0
  have hc : ∀ p ∈ kvs, ∃ a b : Nat, p.1 = kE a b ∧ code p = a * 40 + b ∧ a < 40 ∧ b < 40 := fun p hp => by
    obtain ⟨a, b, c, rfl, h1, h2, _⟩ := d.ok p hp
    exact ⟨a, b, rfl, rfl, by omega, by omega⟩
  have l := nodup_len 1600 (kvs.map code) (by
    have z := d.nd
    unfold List.Nodup at z ⊢
    rw [List.pairwise_map] at z ⊢
    refine List.Pairwise.imp_of_mem (fun {x y} hx hy hne e => ?_) z
    obtain ⟨a, b, e1, e2, b1, b2⟩ := hc x hx
    obtain ⟨a', b', e1', e2', b1', b2'⟩ := hc y hy
    rw [e2, e2'] at e
    have : a = a' ∧ b = b' := by omega
    rw [e1, e1', this.1, this.2] at hne
    exact hne rfl) (fun x hx => by
    obtain ⟨p, hp, rfl⟩ := List.mem_map.mp hx
    obtain ⟨a, b, _, e2, b1, b2⟩ := hc p hp
    rw [e2]; omega)
  rw [List.length_map] at l
  exact l
theorem DictOk.pairs {n : Nat} {kvs : List (List Key × V)} (d : DictOk n kvs) : ∀ p ∈ kvs, ∃ i j : Int, p.1 = [.inl i, .inl j] := fun p hp => by
  obtain ⟨a, b, c, rfl, _⟩ := d.ok p hp
  exact ⟨a, b, rfl⟩
/-- the web's other, in the making -/
def OI (h d : Addr) (H3 : Hp) (N : Nat) (kvs : List (List Key × V)) (H' : Hp) : Prop := H' d = some (.dT kvs) ∧ Keep h H3 H' ∧ Hand H' h ∧ DictOk N kvs
section
variable {h d p : Addr} {H3 H' H'' : Hp} {N : Nat} {kvs : List (List Key × V)} {o : HO}
theorem OI.new (x : OI h d H3 N kvs H') (f : H' p = none) : OI h d H3 N kvs (upd H' p o) := by
  obtain ⟨e, k, hh, dk⟩ := x
  exact ⟨at_upd e f, Keep.new k (Keep.free k (hh.ne f) f), hh.put (hh.ne f), dk⟩
theorem OI.draw (x : OI h d H3 N kvs H') (k' : Keep h H' H'') (hh' : Hand H'' h) : OI h d H3 N kvs H'' := by
  obtain ⟨e, k, hh, dk⟩ := x
  obtain ⟨_, _, eh, _⟩ := hh
  exact ⟨k' d _ (ne_of e eh (by intro z; cases z)) e, Keep.trans k k', hh', dk⟩
theorem OI.same (x : OI h d H3 N kvs H') (s : Same H' H'') : OI h d H3 N kvs H'' := x.draw (Same.keep s) (x.2.2.1.same s)
theorem OI.set (x : OI h d H3 N kvs H') (f : H3 d = none) {kvs' : List (List Key × V)} (dk' : DictOk N kvs') : OI h d H3 N kvs' (upd H' d (.dT kvs')) := by
  obtain ⟨e, k, hh, dk⟩ := x
  obtain ⟨_, _, eh, _⟩ := id hh
  exact ⟨upd_same, Keep.new k f, hh.put (ne_of e eh (by intro z; cases z)), dk'⟩
end
theorem putK_keys {kvs : List (List Key × V)} {k j : List Key} {v : V} (h : j ∈ kvs.map (·.1)) : j ∈ (putK kvs k v).map (·.1) := by
  obtain ⟨x, hx, rfl⟩ := List.mem_map.mp h
  unfold putK
  split
  · refine List.mem_map.mpr ⟨_, List.mem_map.mpr ⟨x, hx, rfl⟩, ?_⟩
    split <;> rfl
  · exact List.mem_map.mpr ⟨x, List.mem_append_left _ hx, rfl⟩
theorem dropK_keys {kvs : List (List Key × V)} {k j : List Key} (h : j ∈ kvs.map (·.1)) (n : j ≠ k) : j ∈ (dropK kvs k).map (·.1) := by
  obtain ⟨x, hx, rfl⟩ := List.mem_map.mp h
  exact List.mem_map.mpr ⟨x, List.mem_filter.mpr ⟨hx, decide_eq_true n⟩, rfl⟩
/-- the web's other, its keys being gone through -/
def OL (h d : Addr) (H3 : Hp) (N : Nat) (p : Addr) (es : List (Addr × Int × Int)) (i : Nat) (kvs : List (List Key × V)) (H' : Hp) : Prop :=
  OI h d H3 N kvs H' ∧ H' p = some (.lst (es.map fun e => V.ref e.1)) ∧ p ≠ h ∧ (∀ e ∈ es, H' e.1 = some (.tup [.int e.2.1, .int e.2.2])) ∧ (∀ j e, i ≤ j → es[j]? = some e → kE e.2.1 e.2.2 ∈ kvs.map (·.1)) ∧ (es.map fun e => kE e.2.1 e.2.2).Nodup
section
variable {h d p b : Addr} {H3 H' H'' : Hp} {N i : Nat} {kvs : List (List Key × V)} {o : HO} {es : List (Addr × Int × Int)}
theorem OL.start (x : OI h d H3 N kvs H') (f : H' p = none) (pm : (es.map fun e => kE e.2.1 e.2.2).Perm (kvs.map (·.1))) (he : ∀ e ∈ es, H' e.1 = some (.tup [.int e.2.1, .int e.2.2])) : OL h d H3 N p es 0 kvs (upd H' p (.lst (es.map fun e => V.ref e.1))) :=
  ⟨x.new f, upd_same, x.2.2.1.ne f, fun e h => at_upd (he e h) f, fun j e _ h => pm.mem_iff.mp (List.mem_map.mpr ⟨e, List.mem_of_getElem? h, rfl⟩), pm.nodup_iff.mpr x.2.2.2.nd⟩
theorem OL.next (x : OL h d H3 N p es i kvs H') : OL h d H3 N p es (i + 1) kvs H' := ⟨x.1, x.2.1, x.2.2.1, x.2.2.2.1, fun j e hj => x.2.2.2.2.1 j e (by omega), x.2.2.2.2.2⟩
theorem OL.new (x : OL h d H3 N p es i kvs H') (f : H' b = none) : OL h d H3 N p es i kvs (upd H' b o) := ⟨x.1.new f, at_upd x.2.1 f, x.2.2.1, fun e h => at_upd (x.2.2.2.1 e h) f, x.2.2.2.2⟩
theorem OL.list (x : OL h d H3 N p es i kvs H') {ys ys' : List V} (e : H' b = some (.lst ys)) (np : b ≠ p) (nh : b ≠ h) (f : H3 b = none) : OL h d H3 N p es i kvs (upd H' b (.lst ys')) := by
  obtain ⟨⟨ed, k, hh, dk⟩, ep, n, he, r⟩ := x
  exact ⟨⟨by rw [upd_ne (ne_of ed e (by intro z; cases z))]; exact ed, Keep.new k f, hh.put nh, dk⟩, by rw [upd_ne np.symm]; exact ep, n, fun t h => by rw [upd_ne (ne_of (he t h) e (by intro z; cases z))]; exact he t h, r⟩
theorem OL.draw (x : OL h d H3 N p es i kvs H') (k' : Keep h H' H'') (hh' : Hand H'' h) : OL h d H3 N p es i kvs H'' := by
  obtain ⟨O, ep, np, he, r⟩ := x
  obtain ⟨_, _, eh, _⟩ := id O.2.2.1
  exact ⟨O.draw k' hh', k' p _ np ep, np, fun e h => k' _ _ (ne_of (he e h) eh (by intro z; cases z)) (he e h), r⟩
theorem OL.set (x : OL h d H3 N p es i kvs H') (f : H3 d = none) {c c2 t : Nat} (h1 : c < c2) (h2 : c2 < N) (h3 : Ltr t) : OL h d H3 N p es i (putK kvs (kE c c2) (.str (sg t))) (upd H' d (.dT (putK kvs (kE c c2) (.str (sg t))))) := by
  obtain ⟨O, ep, np, he, hk, nd⟩ := x
  exact ⟨O.set f (O.2.2.2.put h1 h2 h3), by rw [upd_ne (ne_of ep O.1 (by intro z; cases z))]; exact ep, np, fun e h => by rw [upd_ne (ne_of (he e h) O.1 (by intro z; cases z))]; exact he e h, fun j e hj h => putK_keys (hk j e hj h), nd⟩
theorem OL.pop (x : OL h d H3 N p es i kvs H') (f : H3 d = none) {e : Addr × Int × Int} (h0 : es[i]? = some e) : OL h d H3 N p es (i + 1) (dropK kvs (kE e.2.1 e.2.2)) (upd H' d (.dT (dropK kvs (kE e.2.1 e.2.2)))) := by
  obtain ⟨O, ep, np, he, hk, nd⟩ := x
  refine ⟨O.set f (O.2.2.2.drop _), by rw [upd_ne (ne_of ep O.1 (by intro z; cases z))]; exact ep, np, fun e h => by rw [upd_ne (ne_of (he e h) O.1 (by intro z; cases z))]; exact he e h, fun j e' hj h => dropK_keys (hk j e' (by omega) h) fun z => ?_, nd⟩
  have li : i < es.length := (List.getElem?_eq_some_iff.mp h0).1
  have lj : j < es.length := (List.getElem?_eq_some_iff.mp h).1
  have e1 := (List.getElem?_eq_some_iff.mp h0).2
  have e2 := (List.getElem?_eq_some_iff.mp h).2
  have ne := List.pairwise_iff_getElem.mp nd i j (by rw [List.length_map]; exact li) (by rw [List.length_map]; exact lj) (by omega)
  simp only [List.getElem_map, e1, e2] at ne
  exact ne z.symm
end
theorem valV_mem' {kvs : List (List Key × V)} {n : Nat} (d : DictOk n kvs) {k : List Key} (h : k ∈ kvs.map (·.1)) : ∃ a b c : Nat, k = kE a b ∧ valV kvs k = some (V.str (sg c)) ∧ a < b ∧ b < n ∧ Ltr c := by
  obtain ⟨v, e⟩ := d.has h
  obtain ⟨a, b, c, e1, rfl, r⟩ := d.at e
  exact ⟨a, b, c, e1, e, r⟩
theorem kE_inj {a b c d : Int} (h : kE a b = kE c d) : a = c ∧ b = d := by
  unfold kE at h
  injection h with h1 h2
  injection h1 with h1
  injection h2 with h2
  injection h2 with h2
  exact ⟨h1, h2⟩
theorem rise_keys {es : List (Addr × Int × Int)} {ts : List Tie} (e : ts.map (fun t => ((t.1 : Int), (t.2.1 : Int))) = es.map (·.2)) (nd : (es.map fun e => kE e.2.1 e.2.2).Nodup)
    (s : (es.map (·.2)).Pairwise (fun x y => SrtO.lexB y x = false)) : ts.Pairwise tlt := by
  rw [← e, List.pairwise_map] at s
  have e2 : (es.map fun e => kE e.2.1 e.2.2) = ts.map fun t => kE t.1 t.2.1 := by
    have z := congrArg (List.map fun q : Int × Int => kE q.1 q.2) e
    rw [List.map_map, List.map_map] at z
    exact z.symm
  rw [e2] at nd
  have nd' := List.pairwise_map.mp nd
  refine (List.Pairwise.and s nd').imp fun {x y} ⟨h1, h2⟩ => ?_
  have h3 : ¬ ((y.1 : Int) < x.1 ∨ ((y.1 : Int) = x.1 ∧ (y.2.1 : Int) < x.2.1)) := fun z => by
    rw [← SrtO.lexB_iff (p := ((y.1 : Int), (y.2.1 : Int))) (q := ((x.1 : Int), (x.2.1 : Int)))] at z
    rw [z] at h1; cases h1
  have h4 : ¬ (x.1 = y.1 ∧ x.2.1 = y.2.1) := fun z => h2 (by rw [z.1, z.2])
  unfold tlt
  omega
/-- names that lead each place of the one to a like place of the other -/
structure NamesOk (w w' : Web) (ns : List Nat) : Prop where
  len : ns.length = w.1.length
  nd : ns.Nodup
  like : ∀ p q : Nat, ns[p]? = some q → q < w'.1.length ∧ w'.1[q]? = w.1[p]?
theorem cut_take (xs : List V) (n : Nat) (h : n ≤ xs.length) : cutV xs none (some (n : Nat)) = xs.take n := by
  unfold cutV
  have e : HT.sIx xs.length xs.length (some ((n : Nat) : Int)) = min n xs.length := HT.sIx_nat xs.length xs.length n
  rw [HT.sIx_none, e, List.drop_zero, Nat.sub_zero, Nat.min_eq_left h]
end Cw

namespace Cw
open PySem PySem.Spec PyProof.Rows L2
/-! ### leads -/
abbrev Lead := List (Nat × Nat)
structure LOk (w w' : Web) (ld : Lead) : Prop where
  rise : ld.Pairwise (fun x y => x.1 < y.1)
  ends : (ld.map (·.2)).Nodup
  like : ∀ p ∈ ld, p.1 < w.1.length ∧ p.2 < w'.1.length ∧ w'.1[p.2]? = w.1[p.1]?
def PairAt (K : PySem.W.Frag) (H : Hp) (v : V) (p : Nat × Nat) : Prop := ∃ a, v = .ref a ∧ SqT K H a [.int (p.1 : Nat), .int (p.2 : Nat)]
theorem PairAt.same {K : PySem.W.Frag} {H H' : Hp} {v : V} {p : Nat × Nat} (x : PairAt K H v p) (s : Same H H') : PairAt K H' v p := by
  obtain ⟨a, e, q⟩ := x
  exact ⟨a, e, Same.sqt s q⟩
theorem PairAt.keep {K : PySem.W.Frag} {H H' : Hp} {v : V} {p : Nat × Nat} {h : Addr} {ys : List V} (x : PairAt K H v p) (k : Keep h H H') (e : H h = some (.lst ys)) : PairAt K H' v p := by
  obtain ⟨a, e', q⟩ := x
  exact ⟨a, e', k.sqt e q⟩
theorem PairAt.put {K : PySem.W.Frag} {H : Hp} {v : V} {p : Nat × Nat} {b : Addr} {o : HO} (x : PairAt K H v p) (n : H b = none ∨ ∃ ys, H b = some (.lst ys)) : PairAt K (upd H b o) v p := by
  obtain ⟨a, e, q⟩ := x
  exact ⟨a, e, sqt_upd n q⟩
def Pairs (K : PySem.W.Frag) (H : Hp) (pvs : List V) (ld : Lead) : Prop := Paired (PairAt K H) pvs ld
section
variable {K : PySem.W.Frag} {H H' : Hp} {pvs : List V} {ld : Lead} {h b : Addr} {ys : List V} {o : HO}
theorem Pairs.same (x : Pairs K H pvs ld) (s : Same H H') : Pairs K H' pvs ld := Paired.imp x fun _ _ z => z.same s
theorem Pairs.keep (x : Pairs K H pvs ld) (k : Keep h H H') (e : H h = some (.lst ys)) : Pairs K H' pvs ld := Paired.imp x fun _ _ z => z.keep k e
theorem Pairs.put (x : Pairs K H pvs ld) (n : H b = none ∨ ∃ ys, H b = some (.lst ys)) : Pairs K (upd H b o) pvs ld := Paired.imp x fun _ _ z => z.put n
/-- one more pair, at a new place, and the list itself -/
theorem Pairs.more {p q : Nat} {l : Addr} {zs : List V} (x : Pairs K H pvs ld) (e : H l = some (.lst ys)) (f : H b = none) : Pairs K (upd (upd H b (.tup [.int (p : Nat), .int (q : Nat)])) l (.lst zs)) (pvs ++ [.ref b]) (ld ++ [(p, q)]) := by
  have el : (upd H b (.tup [.int (p : Nat), .int (q : Nat)])) l = some (.lst ys) := at_upd e f
  exact Paired.snoc ((x.put (.inl f)).put (.inr ⟨_, el⟩)) ⟨b, rfl, sqt_upd (.inr ⟨_, el⟩) (SqT.of upd_same)⟩
theorem Pairs.len (x : Pairs K H pvs ld) : pvs.length = ld.length := Paired.length x
end
theorem LOk.few {w w' : Web} {ld : Lead} (l : LOk w w' ld) : ld.length ≤ w'.1.length := by
  have := nodup_len w'.1.length (ld.map (·.2)) l.ends fun x hx => by
    obtain ⟨p, hp, rfl⟩ := List.mem_map.mp hx
    exact (l.like p hp).2.1
  rwa [List.length_map] at this
theorem eqv_nil (ds : List PyData) : PyData.eqv (.list ds) (.list []) = ds.isEmpty := by
  cases ds <;> simp [PyData.eqv, PyData.eqvAll]
theorem erase_zs (ls : List Nat) (j : Nat) : (zs ls).eraseIdx j = zs (ls.eraseIdx j) := erase_map _ _ _
theorem zs_at {ls : List Nat} {j x : Nat} : (zs ls)[j]? = some (x : Int) ↔ ls[j]? = some x := by
  unfold zs
  rw [List.getElem?_map, Option.map_eq_some_iff]
  constructor
  · rintro ⟨a, ha, e⟩
    rw [ha]; congr 1; omega
  · intro h
    exact ⟨x, h, rfl⟩
theorem nodup_at {ls : List Nat} (nd : ls.Nodup) {i j x : Nat} (h1 : ls[i]? = some x) (h2 : ls[j]? = some x) : i = j := by
  obtain ⟨l1, e1⟩ := List.getElem?_eq_some_iff.mp h1
  obtain ⟨l2, e2⟩ := List.getElem?_eq_some_iff.mp h2
  rcases Nat.lt_trichotomy i j with z | z | z
  · exact absurd (e1.trans e2.symm) (List.pairwise_iff_getElem.mp nd i j l1 l2 z)
  · exact z
  · exact absurd (e2.trans e1.symm) (List.pairwise_iff_getElem.mp nd j i l2 l1 z)
theorem nodup_erase {ls : List Nat} (nd : ls.Nodup) {j x : Nat} (h : ls[j]? = some x) : ∀ y, y ∈ ls.eraseIdx j ↔ y ∈ ls ∧ y ≠ x := by
  intro y
  obtain ⟨l1, e1⟩ := List.getElem?_eq_some_iff.mp h
  have p := erase_perm ls j l1
  rw [e1] at p
  have nd2 := p.nodup_iff.mpr nd
  rw [List.nodup_cons] at nd2
  have m := p.mem_iff (a := y)
  rw [List.mem_cons] at m
  constructor
  · intro hy
    exact ⟨m.mp (.inr hy), fun z => nd2.1 (z ▸ hy)⟩
  · rintro ⟨hy, ne⟩
    rcases m.mpr hy with z | z
    · exact absurd z ne
    · exact z
/-! ### led ties -/
def ldAt (ld : Lead) (p : Nat) : Option Nat := (ld.find? fun q => q.1 == p).map (·.2)
def isLed (w' : Web) (ld : Lead) (t : Tie) : Bool := match ldAt ld t.1, ldAt ld t.2.1 with
  | some a, some b => decide (tieL w'.2 a b = some t.2.2)
  | _, _ => false
def dueL (w w' : Web) (ld : Lead) : List Tie := w.2.filter (isLed w' ld)
theorem ldAt_nil (p : Nat) : ldAt [] p = none := rfl
theorem ldAt_pos {x : Nat × Nat} {r : Lead} {p : Nat} (e : x.1 = p) : ldAt (x :: r) p = some x.2 := by
  unfold ldAt; rw [List.find?_cons_of_pos (by simp [e])]; rfl
theorem ldAt_neg {x : Nat × Nat} {r : Lead} {p : Nat} (e : x.1 ≠ p) : ldAt (x :: r) p = ldAt r p := by
  unfold ldAt; rw [List.find?_cons_of_neg (by simp [e])]
theorem ldAt_none {ld : Lead} {p : Nat} (h : ∀ q ∈ ld, q.1 ≠ p) : ldAt ld p = none := by
  unfold ldAt
  rw [List.find?_eq_none.mpr fun q hq => by simp [h q hq]]; rfl
theorem filt_at (p : Nat) : ∀ ld : Lead, ld.Pairwise (fun x y => x.1 < y.1) → (ld.filter fun q => q.1 == p).map (·.2) = (ldAt ld p).toList
  | [], _ => rfl
  | x :: r, s => by
    obtain ⟨h, t⟩ := List.pairwise_cons.mp s
    by_cases e : x.1 = p
    · rw [ldAt_pos e, List.filter_cons_of_pos (by simp [e]), List.map_cons, filt_at p r t, ldAt_none fun q hq => by have := h q hq; omega]; rfl
    · rw [ldAt_neg e, List.filter_cons_of_neg (by simp [e])]; exact filt_at p r t
theorem ldAt_mem {ld : Lead} {p q : Nat} (h : ldAt ld p = some q) : (p, q) ∈ ld := by
  unfold ldAt at h
  obtain ⟨x, hx, rfl⟩ := Option.map_eq_some_iff.mp h
  have e : x.1 = p := by simpa using List.find?_some hx
  subst e
  exact List.mem_of_find?_eq_some hx
theorem led_merge (k : Nat) : ∀ (ld : Lead) (acc : List (Key × V)), ld.Pairwise (fun x y => x.1 < y.1) → valV (mergeK acc (ld.map fun p => ((.inl (p.1 : Int) : Key), V.int (p.2 : Nat)))) (.inl (k : Int)) = ((ldAt ld k).map fun q => V.int (q : Nat)).or (valV acc (.inl (k : Int)))
  | [], acc, _ => rfl
  | x :: r, acc, s => by
    obtain ⟨h, t⟩ := List.pairwise_cons.mp s
    show valV (mergeK (putK acc (.inl (x.1 : Int)) (V.int (x.2 : Nat))) (r.map _)) _ = _
    rw [led_merge k r _ t, valV_put]
    by_cases e : x.1 = k
    · rw [ldAt_pos e, ldAt_none fun q hq => by have := h q hq; omega, e, if_pos rfl]; rfl
    · rw [ldAt_neg e, if_neg (by intro z; injection z with z; omega)]
theorem led_dict (ld : Lead) (s : ld.Pairwise (fun x y => x.1 < y.1)) (k : Nat) : valV (mergeK [] (ld.map fun p => ((.inl (p.1 : Int) : Key), V.int (p.2 : Nat)))) (.inl (k : Int)) = (ldAt ld k).map fun q => V.int (q : Nat) := by
  rw [led_merge k ld [] s]
  show Option.or _ none = _
  rw [Option.or_none]
theorem optV_get (o : Option Nat) : (o.map fun c => V.str (sg c)).getD .non = optV o := by cases o <;> rfl
theorem optV_str (o : Option Nat) (c : Nat) : scal (optV o) (.str (sg c)) = true := by cases o <;> rfl
theorem optV_eq (o : Option Nat) (c : Nat) : decide (optV o = .str (sg c)) = decide (o = some c) := by
  cases o with
  | none => rfl
  | some d =>
    rw [Bool.eq_iff_iff, decide_eq_true_eq, decide_eq_true_eq]
    constructor
    · intro z
      injection z with z
      rw [sg_inj.mp z]
    · intro z
      cases z; rfl
theorem due_snoc {w' : Web} {ld : Lead} {ts : List Tie} {i : Nat} {t : Tie} (h : ts[i]? = some t) : (ts.take (i + 1)).filter (isLed w' ld) = (ts.take i).filter (isLed w' ld) ++ if isLed w' ld t = true then [t] else [] := by
  rw [take_snoc h, List.filter_append]
  congr 1
  by_cases c : isLed w' ld t = true
  · rw [if_pos c, List.filter_cons_of_pos c]; rfl
  · rw [if_neg c, List.filter_cons_of_neg c]; rfl
def Ties (K : PySem.W.Frag) (H : Hp) (xs : List V) (ts : List Tie) : Prop := Paired (TieAt K H) xs ts
section
variable {K : PySem.W.Frag} {H H' : Hp} {xs : List V} {ts : List Tie} {h b : Addr} {ys : List V} {o : HO}
theorem Ties.same (x : Ties K H xs ts) (s : Same H H') : Ties K H' xs ts := Paired.imp x fun _ _ z => z.same s
theorem Ties.keep (x : Ties K H xs ts) (k : Keep h H H') (e : H h = some (.lst ys)) : Ties K H' xs ts := Paired.imp x fun _ _ z => z.keep k e
theorem Ties.put (x : Ties K H xs ts) (n : H b = none ∨ ∃ ys, H b = some (.lst ys)) : Ties K (upd H b o) xs ts := Paired.imp x fun _ _ z => z.put n
theorem Ties.more {t : Tie} {l : Addr} {zs : List V} (x : Ties K H xs ts) (e : H l = some (.lst ys)) (f : H b = none) : Ties K (upd (upd H b (.tup [.int (t.1 : Nat), .int (t.2.1 : Nat), .str (sg t.2.2)])) l (.lst zs)) (xs ++ [.ref b]) (ts ++ [t]) := by
  have el : (upd H b (.tup [.int (t.1 : Nat), .int (t.2.1 : Nat), .str (sg t.2.2)])) l = some (.lst ys) := at_upd e f
  exact Paired.snoc ((x.put (.inl f)).put (.inr ⟨_, el⟩)) ⟨b, rfl, sqt_upd (.inr ⟨_, el⟩) (SqT.of upd_same)⟩
theorem Ties.len (x : Ties K H xs ts) : xs.length = ts.length := Paired.length x
end
theorem two_led {ld : Lead} {t : Tie} (h : ((ldAt ld t.1).toList ++ (ldAt ld t.2.1).toList).length = 2) : ∃ x y, ldAt ld t.1 = some x ∧ ldAt ld t.2.1 = some y := by
  cases e1 : ldAt ld t.1 <;> cases e2 : ldAt ld t.2.1 <;> rw [e1, e2] at h <;> simp at h
  exact ⟨_, _, rfl, rfl⟩
theorem not_two {w' : Web} {ld : Lead} {t : Tie} (h : ¬ ((ldAt ld t.1).toList ++ (ldAt ld t.2.1).toList).length = 2) : isLed w' ld t = false := by
  unfold isLed
  cases e1 : ldAt ld t.1 <;> cases e2 : ldAt ld t.2.1 <;> rw [e1, e2] at h <;> simp at h <;> rfl
theorem isLed_at {w' : Web} {ld : Lead} {t : Tie} {x y : Nat} (h1 : ldAt ld t.1 = some x) (h2 : ldAt ld t.2.1 = some y) : isLed w' ld t = decide (tieL w'.2 x y = some t.2.2) := by
  unfold isLed; rw [h1, h2]
theorem isLed_no {w' : Web} {ld : Lead} {t : Tie} (h : ldAt ld t.1 = none ∨ ldAt ld t.2.1 = none) : isLed w' ld t = false := by
  unfold isLed
  rcases h with h | h
  · rw [h]
  · rw [h]; cases ldAt ld t.1 <;> rfl
theorem Pairs.refs {K : PySem.W.Frag} {H : Hp} : ∀ {pvs : List V} {ld : Lead}, Pairs K H pvs ld → ∃ ps : List Addr, pvs = ps.map V.ref ∧ Paired (fun p (kv : Key × V) => SqT K H p [kV kv.1, kv.2]) ps (ld.map fun p => ((.inl (p.1 : Int) : Key), V.int (p.2 : Nat)))
  | _, _, .nil => ⟨[], rfl, .nil⟩
  | _, _, .cons h t => by
    obtain ⟨a, rfl, q⟩ := h
    obtain ⟨ps, rfl, r⟩ := Pairs.refs t
    exact ⟨a :: ps, rfl, .cons q r⟩
end Cw

namespace Cw
open PySem PySem.Spec PyProof.Rows L2
/-! ### data told -/
def tieD (t : Tie) : PyData := .tuple [.int (t.1 : Nat), .int (t.2.1 : Nat), .str (sg t.2.2)]
def pairD (p : Nat × Nat) : PyData := .tuple [.int (p.1 : Nat), .int (p.2 : Nat)]
def tiesD (ts : List Tie) : PyData := .list (ts.map tieD)
def pairsD (ld : Lead) : PyData := .list (ld.map pairD)
theorem Ties.dpa {K : PySem.W.Frag} {H : Hp} : ∀ {xs : List V} {ts : List Tie}, Ties K H xs ts → DpAll K H xs (ts.map tieD)
  | _, _, .nil => .nil
  | _, _, .cons h t => by
    obtain ⟨a, rfl, q⟩ := h
    exact .cons (.tup q (.cons (.int _) (.cons (.int _) (.cons (.str _) .nil)))) (Ties.dpa t)
theorem Pairs.dpa {K : PySem.W.Frag} {H : Hp} : ∀ {xs : List V} {ts : Lead}, Pairs K H xs ts → DpAll K H xs (ts.map pairD)
  | _, _, .nil => .nil
  | _, _, .cons h t => by
    obtain ⟨a, rfl, q⟩ := h
    exact .cons (.tup q (.cons (.int _) (.cons (.int _) .nil))) (Pairs.dpa t)
theorem Ties.dp {K : PySem.W.Frag} {H : Hp} {xs : List V} {ts : List Tie} {l : Addr} (x : Ties K H xs ts) (e : H l = some (.lst xs)) : Dp K H (.ref l) (tiesD ts) := .lst (SqL.of e) x.dpa
theorem Pairs.dp {K : PySem.W.Frag} {H : Hp} {xs : List V} {ts : Lead} {l : Addr} (x : Pairs K H xs ts) (e : H l = some (.lst xs)) : Dp K H (.ref l) (pairsD ts) := .lst (SqL.of e) x.dpa
theorem lay_all : ∀ {ds : List PyData} {k : Nat}, (∀ d ∈ ds, d.canLay0 = true ∧ d.depth ≤ k) → PyData.canLayAll0 ds = true ∧ PyData.depthAll ds ≤ k
  | [], k, _ => ⟨by simp [PyData.canLayAll0], by simp [PyData.depthAll]⟩
  | d :: ds, k, h => by
    obtain ⟨h1, h2⟩ := lay_all (ds := ds) (k := k) fun x hx => h x (List.mem_cons_of_mem _ hx)
    obtain ⟨h3, h4⟩ := h d List.mem_cons_self
    exact ⟨by simp [PyData.canLayAll0, h1, h3], by simp only [PyData.depthAll]; omega⟩
theorem shaped_list {ds : List PyData} {k : Nat} (hk : k ≤ 63) (h : ∀ d ∈ ds, d.canLay0 = true ∧ d.depth ≤ k) : SeqAt.shaped (.list ds) = true := by
  obtain ⟨h1, h2⟩ := lay_all h
  have : PyData.depth (.list ds) ≤ 64 := by simp only [PyData.depth]; omega
  simp [SeqAt.shaped, PyData.canLay0, h1, this]
theorem good_eqv {d : PyData} (h : SeqAt.shaped d = true) : PyData.eqv d d = true := SeqAt.eqv_refl d (SeqAt.canLay_of_shaped h)
theorem str_ok : ∀ c : Nat, c < 123 → PyData.strOk (sg c) = true := fun c h => by
  unfold PyData.strOk sg
  simp; omega
theorem tieD_lay {t : Tie} (h : Ltr t.2.2) : (tieD t).canLay0 = true ∧ (tieD t).depth ≤ 1 := by
  have := str_ok t.2.2 (by unfold Ltr at h; omega)
  unfold tieD
  simp [PyData.canLay0, PyData.canLayAll0, PyData.depth, PyData.depthAll, this]
theorem pairD_lay (p : Nat × Nat) : (pairD p).canLay0 = true ∧ (pairD p).depth ≤ 1 := by
  unfold pairD
  simp [PyData.canLay0, PyData.canLayAll0, PyData.depth, PyData.depthAll]
theorem tiesD_good {ts : List Tie} (h : ∀ t ∈ ts, Ltr t.2.2) : SeqAt.shaped (tiesD ts) = true := shaped_list (k := 1) (by decide) fun d hd => by
  obtain ⟨t, ht, rfl⟩ := List.mem_map.mp hd
  exact tieD_lay (h t ht)
theorem pairsD_good (ld : Lead) : SeqAt.shaped (pairsD ld) = true := shaped_list (k := 1) (by decide) fun d hd => by
  obtain ⟨t, ht, rfl⟩ := List.mem_map.mp hd
  exact pairD_lay t
theorem due_good {w w' : Web} (W : WOk w) (ld : Lead) : SeqAt.shaped (tiesD (dueL w w' ld)) = true := tiesD_good fun t ht => (W.ends t (List.mem_filter.mp ht).1).2.2
/-! ### what is held -/
def HeldG (K : PySem.W.Frag) (H : Hp) (hd : Addr) (m : Nat) : Prop := ∃ (hs : List V) (xs : List PyData), H hd = some (.lst hs) ∧ hs.length ≤ m ∧ DpAll K (del H hd) hs (xs.map fun x => PyData.list [x, x]) ∧ ∀ x ∈ xs, SeqAt.shaped x = true
/-- and nothing of it at h -/
def HeldH (K : PySem.W.Frag) (H : Hp) (hd h : Addr) (m : Nat) : Prop := ∃ (hs : List V) (xs : List PyData), H hd = some (.lst hs) ∧ hs.length ≤ m ∧ DpAll K (del (del H hd) h) hs (xs.map fun x => PyData.list [x, x]) ∧ ∀ x ∈ xs, SeqAt.shaped x = true
section
variable {K : PySem.W.Frag} {H H' : Hp} {hd h : Addr} {m n : Nat}
theorem HeldG.same (x : HeldG K H hd m) (s : Same H H') : HeldG K H' hd m := by
  obtain ⟨hs, xs, e, l, a, g⟩ := x
  exact ⟨hs, xs, s _ _ e, l, dpa_same (Keep.del (Same.keep s)) _ _ a, g⟩
theorem HeldG.mono (x : HeldG K H hd m) (h : m ≤ n) : HeldG K H hd n := by
  obtain ⟨hs, xs, e, l, a, g⟩ := x
  exact ⟨hs, xs, e, Nat.le_trans l h, a, g⟩
theorem HeldG.hand (x : HeldG K H hd m) (s : Same H H') (f : H h = none) : HeldH K H' hd h m := by
  obtain ⟨hs, xs, e, l, a, g⟩ := x
  refine ⟨hs, xs, s _ _ e, l, dpa_same (fun b o hb => ?_) _ _ a, g⟩
  have h1 := del_same _ _ b o hb
  rw [del_ne (ne_of_none h1 f)]
  exact Keep.del (Same.keep s) b o hb
theorem HeldH.out (x : HeldH K H hd h m) : HeldG K H hd m := by
  obtain ⟨hs, xs, e, l, a, g⟩ := x
  exact ⟨hs, xs, e, l, dpa_same (del_same _ _) _ _ a, g⟩
theorem keep_dd (k : Keep h H H') : Same (del (del H hd) h) (del (del H' hd) h) := Keep.del fun b o nb e => by
  have := del_same _ _ b o e
  by_cases n : b = hd
  · unfold del at e; rw [if_pos n] at e; cases e
  · rw [del_ne n]; exact k b o nb this
theorem HeldH.keep (x : HeldH K H hd h m) (k : Keep h H H') (n : hd ≠ h) : HeldH K H' hd h m := by
  obtain ⟨hs, xs, e, l, a, g⟩ := x
  exact ⟨hs, xs, k _ _ n e, l, dpa_same (keep_dd k) _ _ a, g⟩
theorem HeldH.same (x : HeldH K H hd h m) (s : Same H H') (n : hd ≠ h) : HeldH K H' hd h m := x.keep (Same.keep s) n
end
theorem sqt_del {K : PySem.W.Frag} {H : Hp} {a b : Addr} {xs ys : List V} (e : H b = some (.lst ys)) (q : SqT K H a xs) : SqT K (del H b) a xs := by
  rcases q with (q | ⟨o, q⟩) | q
  · exact .inl (.inl (del_at (ne_of q e (by intro z; cases z)) q))
  · exact .inl (.inr ⟨o, del_at (ne_of q e (by intro z; cases z)) q⟩)
  · exact .inr q
theorem Ties.del {K : PySem.W.Frag} {H : Hp} {b : Addr} {xs ys : List V} {ts : List Tie} (x : Ties K H xs ts) (e : H b = some (.lst ys)) : Ties K (Cw.del H b) xs ts := Paired.imp x fun _ _ ⟨a, r, q⟩ => ⟨a, r, sqt_del e q⟩
/-- a pair of lists of ties, held -/
theorem dp_two {K : PySem.W.Frag} {H : Hp} {hd h r t f : Addr} {hs hv tv fv : List V} {ts : List Tie} (ehd : H hd = some (.lst hs)) (eh : H h = some (.lst hv)) (er : H r = some (.lst [.ref t, .ref f])) (et : H t = some (.lst tv)) (ef : H f = some (.lst fv)) (x : Ties K H tv ts) (y : Ties K H fv ts)
    (n0 : h ≠ hd) (n1 : r ≠ hd) (n2 : t ≠ hd) (n3 : f ≠ hd) (m1 : r ≠ h) (m2 : t ≠ h) (m3 : f ≠ h) : Dp K (del (del H hd) h) (.ref r) (.list [tiesD ts, tiesD ts]) := by
  have eh' := del_at n0 eh
  refine .lst (SqL.of (del_at m1 (del_at n1 er))) (.cons ?_ (.cons ?_ .nil))
  · exact ((x.del ehd).del eh').dp (del_at m2 (del_at n2 et))
  · exact ((y.del ehd).del eh').dp (del_at m3 (del_at n3 ef))
end Cw

namespace Cw
open PySem PySem.Spec PyProof.Rows L2
theorem LOk.sub {w w' : Web} {ld kd : Lead} (L : LOk w w' ld) (s : kd.Sublist ld) : LOk w w' kd := ⟨L.rise.sublist s, L.ends.sublist (s.map _), fun p hp => L.like p (s.subset hp)⟩
theorem ldAt_iff {ld : Lead} (s : ld.Pairwise (fun x y => x.1 < y.1)) {p q : Nat} : ldAt ld p = some q ↔ (p, q) ∈ ld := by
  refine ⟨ldAt_mem, fun h => ?_⟩
  cases e : ldAt ld p with
  | none =>
    have : ld.find? (fun q => q.1 == p) = none := by
      unfold ldAt at e
      exact Option.map_eq_none_iff.mp e
    have := List.find?_eq_none.mp this _ h
    simp at this
  | some r =>
    have h2 := ldAt_mem e
    obtain ⟨i, hi, e1⟩ := List.getElem_of_mem h
    obtain ⟨j, hj, e2⟩ := List.getElem_of_mem h2
    have pw := List.pairwise_iff_getElem.mp s
    rcases Nat.lt_trichotomy i j with z | z | z
    · have := pw i j hi hj z
      rw [e1, e2] at this
      exact absurd this (Nat.lt_irrefl _)
    · subst z
      rw [e1] at e2
      injection e2 with _ e2
      rw [e2]
    · have := pw j i hj hi z
      rw [e1, e2] at this
      exact absurd this (Nat.lt_irrefl _)
theorem isLed_iff {w' : Web} {ld : Lead} (s : ld.Pairwise (fun x y => x.1 < y.1)) {t : Tie} : isLed w' ld t = true ↔ ∃ a b, (t.1, a) ∈ ld ∧ (t.2.1, b) ∈ ld ∧ tieL w'.2 a b = some t.2.2 := by
  constructor
  · intro h
    cases e1 : ldAt ld t.1 with
    | none => rw [isLed_no (.inl e1)] at h; cases h
    | some a =>
      cases e2 : ldAt ld t.2.1 with
      | none => rw [isLed_no (.inr e2)] at h; cases h
      | some b =>
        rw [isLed_at e1 e2] at h
        exact ⟨a, b, ldAt_mem e1, ldAt_mem e2, of_decide_eq_true h⟩
  · rintro ⟨a, b, h1, h2, h3⟩
    rw [isLed_at ((ldAt_iff s).mpr h1) ((ldAt_iff s).mpr h2)]
    exact decide_eq_true h3
def onT (p : Nat) (t : Tie) : Bool := t.1 == p || t.2.1 == p
/-- the pairs on some ties -/
def tiedL (ts : List Tie) (ld : Lead) : Lead := ld.filter fun p => ts.any (onT p.1)
theorem due_tied {w w' : Web} {ld : Lead} (L : LOk w w' ld) : dueL w w' (tiedL (dueL w w' ld) ld) = dueL w w' ld := by
  have sub : (tiedL (dueL w w' ld) ld).Sublist ld := List.filter_sublist
  refine List.filter_congr fun t ht => ?_
  rw [Bool.eq_iff_iff, isLed_iff (L.rise.sublist sub), isLed_iff L.rise]
  constructor
  · rintro ⟨a, b, h1, h2, h3⟩
    exact ⟨a, b, sub.subset h1, sub.subset h2, h3⟩
  · rintro ⟨a, b, h1, h2, h3⟩
    have hd : t ∈ dueL w w' ld := List.mem_filter.mpr ⟨ht, (isLed_iff L.rise).mpr ⟨a, b, h1, h2, h3⟩⟩
    exact ⟨a, b, List.mem_filter.mpr ⟨h1, List.any_eq_true.mpr ⟨t, hd, by simp [onT]⟩⟩, List.mem_filter.mpr ⟨h2, List.any_eq_true.mpr ⟨t, hd, by simp [onT]⟩⟩, h3⟩
theorem optV_scal2 (a b : Option Nat) : scal (optV a) (optV b) = true := by cases a <;> cases b <;> rfl
theorem optV_inj (a b : Option Nat) : decide (optV a = optV b) = decide (a = b) := by
  rw [Bool.eq_iff_iff, decide_eq_true_eq, decide_eq_true_eq]
  constructor
  · intro z
    cases a <;> cases b
    · rfl
    · cases z
    · cases z
    · injection z with z; rw [sg_inj.mp z]
  · intro z; rw [z]
theorem tiedL_snoc {ts : List Tie} {ld : Lead} {i : Nat} {p : Nat × Nat} (h : ld[i]? = some p) : tiedL ts (ld.take (i + 1)) = tiedL ts (ld.take i) ++ if ts.any (onT p.1) = true then [p] else [] := by
  unfold tiedL
  rw [take_snoc h, List.filter_append]
  congr 1
  by_cases c : ts.any (onT p.1) = true
  · rw [if_pos c, List.filter_cons_of_pos (p := fun p : Nat × Nat => ts.any (onT p.1)) c]; rfl
  · rw [if_neg c, List.filter_cons_of_neg (p := fun p : Nat × Nat => ts.any (onT p.1)) c]; rfl
/-- a block in a block -/
theorem any_ends (ts : List Tie) (p : Nat) : (!(((ts.map ends).filter fun e => e.1 == p || e.2 == p).map pairD).isEmpty) = ts.any (onT p) := by
  induction ts with
  | nil => rfl
  | cons t r ih =>
    rw [List.any_cons, List.map_cons]
    by_cases c : onT p t = true
    · rw [List.filter_cons_of_pos (p := fun e : Nat × Nat => e.1 == p || e.2 == p) (a := ends t) c, c, Bool.true_or]; rfl
    · rw [List.filter_cons_of_neg (p := fun e : Nat × Nat => e.1 == p || e.2 == p) (a := ends t) c, ih, Bool.eq_false_iff.mpr c, Bool.false_or]
theorem sh2 (x y : Int) : SeqAt.shaped (.tuple [.int x, .int y]) = true := by simp [SeqAt.shaped, PyData.canLay0, PyData.canLayAll0, PyData.depth, PyData.depthAll]
theorem two_good (a b : Lead) : SeqAt.shaped (.list [pairsD a, pairsD b]) = true := shaped_list (k := 2) (by decide) fun d hd => by
  have g : ∀ l : Lead, (pairsD l).canLay0 = true ∧ (pairsD l).depth ≤ 2 := fun l => by
    obtain ⟨h1, h2⟩ := lay_all (ds := l.map pairD) (k := 1) fun d hd => by
      obtain ⟨t, ht, rfl⟩ := List.mem_map.mp hd
      exact pairD_lay t
    unfold pairsD
    exact ⟨by simp only [PyData.canLay0]; exact h1, by simp only [PyData.depth]; omega⟩
  rcases List.mem_cons.mp hd with e | hd
  · rw [e]; exact g a
  · rw [List.mem_singleton.mp hd]; exact g b
end Cw

namespace Cw
open PySem PySem.Spec PyProof.Rows L2

/-! ### l.remove(x) where items are data of any depth; least and greatest of texts -/
section
variable {X : Cx}
def rRemD (K : PySem.W.Frag) : V → List V → Hp → VK → Prop := fun x xs H Q => ∃ (l : Addr) (ys : List V) (y : V) (d : PyData) (ds : List PyData) (j : Nat), x = V.ref l ∧ xs = [y] ∧ H l = some (.lst ys) ∧ DpAll K H ys ds ∧ Dp K H y d ∧
  SeqAt.shaped (.list ds) = true ∧ SeqAt.shaped d = true ∧ SeqAt.dataPlace ds d = some j ∧ Q .non (upd H l (.lst (ys.eraseIdx j)))
/-- by the library's own rule for data: the first equal one is gone -/
theorem mt_removeD (hu : X.A.units + 65 < cLine) : MtR X "list.remove" (rRemD X.K) := fun pins s σ H x xs v us Q I rx rxs ⟨l, ys, y, d, ds, j, e1, e2, hH, ha, hy, sl, sd, hj, q⟩ => by
  subst e1 e2
  obtain rfl : v = Value.ref l := rx
  obtain ⟨uy, eu, ry⟩ := rxs.one
  obtain ⟨big, its, n, rv, hlen, ho⟩ := I.lstM hH
  obtain ⟨cs, got⟩ := Dp.readsAll I ds _ its ha rv
  obtain ⟨bs, got2⟩ := Dp.reads I d y uy hy ry
  rw [eu]
  refine SeqAt.remove_list_data (vs := its.toArray) (xs := ds) (d := d) ⟨_, ho, rfl, n, rfl⟩ (by simpa using got) got2 (PyData.plainAll_of_canLay0 ds (SeqAt.canLay_of_shaped sl)) (PyData.plain_of_canLay0 d (SeqAt.canLay_of_shaped sd)) (room_in_shaped sd hu) hj (by simpa [← hlen] using big) ?_
  exact ⟨.non, upd H l (.lst (ys.eraseIdx j)), I.lset (its' := its.eraseIdx j) (f := fun zs => zs.eraseIdxIfInBounds j) hH ho (List.eraseIdxIfInBounds_toArray ..) (rv.eraseIdx j) (Nat.le_trans (List.length_eraseIdx_le ys j) big), rfl, q⟩
end

theorem cmp_gtS {prog : Program} {w : World} {A : Around} {P : Nat → Value → Prop} (val : Nat → Str) (hval : ∀ i v, P i v → ∃ t, v = .str (val i) t) :
    CmpOf prog w A .Gt P (fun i j => decide ((val j).cps.toList < (val i).cps.toList)) := fun i j vi vj s Q E hi hj h => by
  obtain ⟨t, rfl⟩ := hval i vi hi
  obtain ⟨u, rfl⟩ := hval j vj hj
  exact richCompare_gives (op := .Gt) (typeIs_str s _ t) (typeIs_str s _ u) F.slot_str_gt F.entry_str_gt (F.args_str_gt_2 _ _) (gives_str_gt _ _ t u) (fun x => nomatch x) h
theorem cmp_ltS {prog : Program} {w : World} {A : Around} {P : Nat → Value → Prop} (val : Nat → Str) (hval : ∀ i v, P i v → ∃ t, v = .str (val i) t) :
    CmpOf prog w A .Lt P (fun i j => decide ((val i).cps.toList < (val j).cps.toList)) := fun i j vi vj s Q E hi hj h => by
  obtain ⟨t, rfl⟩ := hval i vi hi
  obtain ⟨u, rfl⟩ := hval j vj hj
  exact richCompare_gives (op := .Lt) (typeIs_str s _ t) (typeIs_str s _ u) F.slot_str_lt F.entry_str_lt (F.args_str_lt_2 _ _) (gives_str_lt _ _ t u) (fun x => nomatch x) h
/-- two texts -/
def two (x y : Str) (i : Nat) : Str := if i = 0 then x else y
theorem two_at {x y : Str} {t u : Tok} {i : Nat} {v : Value} (h : (#[Value.str x t, Value.str y u] : Array Value)[i]? = some v) : ∃ t', v = .str (two x y i) t' := by
  match i, h with
  | 0, h => exact ⟨t, (Option.some.inj h).symm⟩
  | 1, h => exact ⟨u, (Option.some.inj h).symm⟩
  | i + 2, h => simp at h
theorem two_max {x y : Str} {t u : Tok} {v : Value} (h : (#[Value.str x t, Value.str y u] : Array Value)[argBest (fun i j => decide ((two x y j).cps.toList < (two x y i).cps.toList)) 1]? = some v) :
    ∃ t', v = .str (if x.cps.toList < y.cps.toList then y else x) t' := by
  by_cases hb : x.cps.toList < y.cps.toList
  · have e : argBest (fun i j => decide ((two x y j).cps.toList < (two x y i).cps.toList)) 1 = 1 := by simp [argBest, two, hb]
    rw [e] at h
    rw [if_pos hb]
    exact ⟨u, (Option.some.inj h).symm⟩
  · have e : argBest (fun i j => decide ((two x y j).cps.toList < (two x y i).cps.toList)) 1 = 0 := by simp [argBest, two, hb]
    rw [e] at h
    rw [if_neg hb]
    exact ⟨t, (Option.some.inj h).symm⟩
theorem two_min {x y : Str} {t u : Tok} {v : Value} (h : (#[Value.str x t, Value.str y u] : Array Value)[argBest (fun i j => decide ((two x y i).cps.toList < (two x y j).cps.toList)) 1]? = some v) :
    ∃ t', v = .str (if y.cps.toList < x.cps.toList then y else x) t' := by
  by_cases hb : y.cps.toList < x.cps.toList
  · have e : argBest (fun i j => decide ((two x y i).cps.toList < (two x y j).cps.toList)) 1 = 1 := by simp [argBest, two, hb]
    rw [e] at h
    rw [if_pos hb]
    exact ⟨u, (Option.some.inj h).symm⟩
  · have e : argBest (fun i j => decide ((two x y i).cps.toList < (two x y j).cps.toList)) 1 = 0 := by simp [argBest, two, hb]
    rw [e] at h
    rw [if_neg hb]
    exact ⟨t, (Option.some.inj h).symm⟩
section
variable {prog : Program} {w : World} {A : Around} {E : Value → Shared → Prop} {s : Shared} {x y : Str} {t u : Tok} {Q : Value → Shared → Prop}
/-- an iterator that was just laid over what stands at l: both are old, what was there ahead of s₂ is kept -/
theorem two_room {h : Heap} {o : Obj} {l : Addr} (hl : l < h.objs.size) : ∀ c ∈ [h.objs.size, l], c < (h.push o).objs.size := fun c hc => by
  rw [Heap.size_push]
  rcases List.mem_cons.mp hc with e | e
  · exact Nat.lt_succ_of_le (Nat.le_of_eq e)
  · rw [List.mem_singleton.mp e]; exact Nat.lt_succ_of_lt hl
theorem two_kept {g h h' : Heap} {o : Obj} (ext : ∀ b ob, g.get? b = some ob → h.get? b = some ob) (sz : g.objs.size ≤ h.objs.size) (k : ∀ b ob, b ∉ [h.objs.size] → (h.push o).get? b = some ob → h'.get? b = some ob) :
    ∀ b ob, g.get? b = some ob → h'.get? b = some ob := fun b ob e => k b ob (by have z := Heap.lt_size e; simp only [List.mem_singleton]; exact Nat.ne_of_lt (Nat.lt_of_lt_of_le z sz)) (Heap.get?_push_of_some _ (ext b ob e))
/-- the two texts as a tuple that is new, as a list that stands -/
theorem two_tup (v1 v2 : Value) : (s.heap.push { cls := .type "tuple", data := .seq #[v1, v2] }).IsTuple s.heap.objs.size #[v1, v2] := ⟨_, Heap.get?_push_size _ rfl, rfl, 0, rfl⟩
theorem max_twoS (hh : A.handled = none) (h : ∀ h' tk t', (∀ c o, s.heap.get? c = some o → h'.get? c = some o) → Q (.str (if x.cps.toList < y.cps.toList then y else x) t') { s with heap := h', toks := tk }) :
    wpAny (model prog w) A (call (.builtin "max") [.str x t, .str y u]) Q E s := by
  have T := two_tup (s := s) (Value.str x t) (Value.str y u)
  have lt : s.heap.objs.size < (s.heap.push { cls := .type "tuple", data := .seq #[Value.str x t, Value.str y u] }).objs.size := by rw [Heap.size_push]; exact Nat.lt_succ_self _
  exact call_max_two (wpAny_pyIter_tuple T ⟨_, [_, s.heap.objs.size], [_], _, _, _, _, rfl, Walks.tuple (A := A.in1) hh _ _ (Nat.ne_of_lt lt) _, ⟨⟨_, Heap.get?_push_size _ rfl, rfl, rfl⟩, T.push _⟩, two_room lt, Nat.succ_pos 1, cmp_gtS (two x y) (fun _ _ => two_at),
    fun v h' tk hP hk => (two_max hP).elim fun t' e => by subst e; exact h h' tk t' (two_kept (fun b o e => Heap.get?_push_of_some _ e) (Nat.le_of_lt lt) hk)⟩)
theorem min_twoS (hh : A.handled = none) (h : ∀ h' tk t', (∀ c o, s.heap.get? c = some o → h'.get? c = some o) → Q (.str (if y.cps.toList < x.cps.toList then y else x) t') { s with heap := h', toks := tk }) :
    wpAny (model prog w) A (call (.builtin "min") [.str x t, .str y u]) Q E s := by
  have T := two_tup (s := s) (Value.str x t) (Value.str y u)
  have lt : s.heap.objs.size < (s.heap.push { cls := .type "tuple", data := .seq #[Value.str x t, Value.str y u] }).objs.size := by rw [Heap.size_push]; exact Nat.lt_succ_self _
  exact call_min_two (wpAny_pyIter_tuple T ⟨_, [_, s.heap.objs.size], [_], _, _, _, _, rfl, Walks.tuple (A := A.in1) hh _ _ (Nat.ne_of_lt lt) _, ⟨⟨_, Heap.get?_push_size _ rfl, rfl, rfl⟩, T.push _⟩, two_room lt, Nat.succ_pos 1, cmp_ltS (two x y) (fun _ _ => two_at),
    fun v h' tk hP hk => (two_min hP).elim fun t' e => by subst e; exact h h' tk t' (two_kept (fun b o e => Heap.get?_push_of_some _ e) (Nat.le_of_lt lt) hk)⟩)
theorem max_listS {l : Addr} (hh : A.handled = none) (hl : s.heap.IsList l #[Value.str x t, Value.str y u]) (h : ∀ h' tk t', (∀ c o, s.heap.get? c = some o → h'.get? c = some o) → Q (.str (if x.cps.toList < y.cps.toList then y else x) t') { s with heap := h', toks := tk }) :
    wpAny (model prog w) A (call (.builtin "max") [.ref l]) Q E s := by
  have lt : l < s.heap.objs.size := hl.elim fun _ e => Heap.lt_size e.1
  exact call_max_walk (wpAny_pyIter_list hl ⟨_, [_, l], [_], _, _, _, _, rfl, Walks.list (A := A.in1) hh _ l (Nat.ne_of_lt lt) _, ⟨⟨_, Heap.get?_push_size _ rfl, rfl, rfl⟩, hl.push _⟩, two_room lt, Nat.succ_pos 1, cmp_gtS (two x y) (fun _ _ => two_at),
    fun v h' tk hP hk => (two_max hP).elim fun t' e => by subst e; exact h h' tk t' (two_kept (fun b o e => e) (Nat.le_refl _) hk)⟩)
theorem min_listS {l : Addr} (hh : A.handled = none) (hl : s.heap.IsList l #[Value.str x t, Value.str y u]) (h : ∀ h' tk t', (∀ c o, s.heap.get? c = some o → h'.get? c = some o) → Q (.str (if y.cps.toList < x.cps.toList then y else x) t') { s with heap := h', toks := tk }) :
    wpAny (model prog w) A (call (.builtin "min") [.ref l]) Q E s := by
  have lt : l < s.heap.objs.size := hl.elim fun _ e => Heap.lt_size e.1
  exact call_min_walk (wpAny_pyIter_list hl ⟨_, [_, l], [_], _, _, _, _, rfl, Walks.list (A := A.in1) hh _ l (Nat.ne_of_lt lt) _, ⟨⟨_, Heap.get?_push_size _ rfl, rfl, rfl⟩, hl.push _⟩, two_room lt, Nat.succ_pos 1, cmp_ltS (two x y) (fun _ _ => two_at),
    fun v h' tk hP hk => (two_min hP).elim fun t' e => by subst e; exact h h' tk t' (two_kept (fun b o e => e) (Nat.le_refl _) hk)⟩)
end
section
variable {X : Cx}
theorem plainL_is {h : Heap} {a : Addr} {its : Array Value} (p : PlainL h a its) : h.IsList a its := by
  obtain ⟨o, n, e, h1, h2, h3⟩ := p
  exact ⟨o, e, h1, n, h3⟩
theorem cr_max2S (hc : X.calm = true) : CallR X (.builtin "max") (fun xs H Q => ∃ x y : Str, xs = [.str x, .str y] ∧ Q (.str (if x.cps.toList < y.cps.toList then y else x)) H) := by
  intro pins s σ H xs us Q I r h
  obtain ⟨x, y, rfl, q⟩ := h
  obtain ⟨u, w', rfl, ⟨t, rfl⟩, ⟨t', rfl⟩⟩ := vals2 r
  exact max_twoS (I.ok.hd hc) fun h' tk t2 k => ⟨.str _, H, I.kept k, ⟨_, rfl⟩, q⟩
theorem cr_min2S (hc : X.calm = true) : CallR X (.builtin "min") (fun xs H Q => ∃ x y : Str, xs = [.str x, .str y] ∧ Q (.str (if y.cps.toList < x.cps.toList then y else x)) H) := by
  intro pins s σ H xs us Q I r h
  obtain ⟨x, y, rfl, q⟩ := h
  obtain ⟨u, w', rfl, ⟨t, rfl⟩, ⟨t', rfl⟩⟩ := vals2 r
  exact min_twoS (I.ok.hd hc) fun h' tk t2 k => ⟨.str _, H, I.kept k, ⟨_, rfl⟩, q⟩
theorem cr_maxLS (hc : X.calm = true) : CallR X (.builtin "max") (fun xs H Q => ∃ (a : Addr) (x y : Str), xs = [.ref a] ∧ SqL X.K H a [.str x, .str y] ∧ Q (.str (if x.cps.toList < y.cps.toList then y else x)) H) := by
  intro pins s σ H xs us Q I r h
  obtain ⟨a, x, y, rfl, hS, q⟩ := h
  obtain ⟨u, rfl, ru⟩ := vals1 r
  cases ru
  obtain ⟨its, rv, pl, _⟩ := I.list hS
  obtain ⟨u1, u2, rfl, ⟨t, rfl⟩, ⟨t', rfl⟩⟩ := rv.two
  exact max_listS (I.ok.hd hc) (plainL_is pl) fun h' tk t2 k => ⟨.str _, H, I.kept k, ⟨_, rfl⟩, q⟩
theorem cr_minLS (hc : X.calm = true) : CallR X (.builtin "min") (fun xs H Q => ∃ (a : Addr) (x y : Str), xs = [.ref a] ∧ SqL X.K H a [.str x, .str y] ∧ Q (.str (if y.cps.toList < x.cps.toList then y else x)) H) := by
  intro pins s σ H xs us Q I r h
  obtain ⟨a, x, y, rfl, hS, q⟩ := h
  obtain ⟨u, rfl, ru⟩ := vals1 r
  cases ru
  obtain ⟨its, rv, pl, _⟩ := I.list hS
  obtain ⟨u1, u2, rfl, ⟨t, rfl⟩, ⟨t', rfl⟩⟩ := rv.two
  exact min_listS (I.ok.hd hc) (plainL_is pl) fun h' tk t2 k => ⟨.str _, H, I.kept k, ⟨_, rfl⟩, q⟩
theorem vals_ix {xs : List V} {us : List Value} (hl : us.length = xs.length) (k : ∀ (j : Nat) (u : Value), us[j]? = some u → ∃ x, xs[j]? = some x ∧ RelV x u) : Vals xs us := by
  induction us generalizing xs with
  | nil =>
    obtain rfl : xs = [] := List.eq_nil_of_length_eq_zero hl.symm
    exact .nil
  | cons u us ih =>
    match xs, hl with
    | x :: xs, hl =>
      obtain ⟨y, e, r⟩ := k 0 u rfl
      obtain rfl : x = y := Option.some.inj e
      exact .cons r (ih (Nat.succ.inj hl) fun j v hj => k (j + 1) v hj)
/-- list(text): its signs -/
theorem cr_listStr (hc : X.calm = true) : CallR X (.type "list") (fun xs H Q => ∃ x : Str, xs = [.str x] ∧ x.length ≤ sizeLine ∧ ∀ l, H l = none → Q (.ref l) (upd H l (.lst (x.cps.toList.map fun c => V.str (sg c))))) := by
  intro pins s σ H xs us Q I r h
  obtain ⟨x, rfl, hl, q⟩ := h
  obtain ⟨u, rfl, ru⟩ := vals1 r
  obtain ⟨t, rfl⟩ := ru
  refine call_list_str (I.ok.hd hc) x t (fun h' tk acc' c' hk hS hit => ?_) (by exact hl)
  have nw : H s.heap.objs.size = none := I.hok.fresh (Nat.le_refl _)
  refine ⟨.ref s.heap.objs.size, _, I.laid (t' := tk) hk (Nat.le_refl _) ?_, rfl, q _ nw⟩
  obtain ⟨hz, hv⟩ := hit
  refine ⟨by rw [List.length_map]; exact hl, acc'.toList, c', vals_ix (by simp [hz]) (fun j u hj => ?_), by simpa using hS⟩
  rw [Array.getElem?_toList] at hj
  obtain ⟨c, k, e, rfl⟩ := hv j u hj
  exact ⟨.str (sg c), by rw [List.getElem?_map, Array.getElem?_toList, e]; rfl, _, rfl⟩
end
end Cw

namespace Cw
open PySem PySem.Spec PyProof.Rows L2
/-! ### counts: what two lists have in common -/
section
variable {α : Type} [DecidableEq α]
/-- how many of the first are in the second, one for one -/
def csum : List α → List α → Nat
  | [], _ => 0
  | x :: xs, ys => if x ∈ ys then csum xs (ys.erase x) + 1 else csum xs (ys.erase x)
/-- what is left of the second -/
def cleft : List α → List α → List α
  | [], ys => ys
  | x :: xs, ys => cleft xs (ys.erase x)
theorem cleft_snoc (x : α) : ∀ (xs ys : List α), cleft (xs ++ [x]) ys = (cleft xs ys).erase x
  | [], _ => rfl
  | _ :: xs, ys => cleft_snoc x xs _
theorem csum_snoc (x : α) : ∀ (xs ys : List α), csum (xs ++ [x]) ys = if x ∈ cleft xs ys then csum xs ys + 1 else csum xs ys
  | [], ys => by
    show (if x ∈ ys then 0 + 1 else 0) = if x ∈ ys then 0 + 1 else 0
    rfl
  | z :: xs, ys => by
    show (if z ∈ ys then csum (xs ++ [x]) (ys.erase z) + 1 else csum (xs ++ [x]) (ys.erase z)) = if x ∈ cleft xs (ys.erase z) then (if z ∈ ys then csum xs (ys.erase z) + 1 else csum xs (ys.erase z)) + 1 else (if z ∈ ys then csum xs (ys.erase z) + 1 else csum xs (ys.erase z))
    rw [csum_snoc x xs]
    split <;> split <;> rfl
theorem cleft_len : ∀ (xs ys : List α), (cleft xs ys).length ≤ ys.length
  | [], _ => Nat.le_refl _
  | x :: xs, ys => Nat.le_trans (cleft_len xs _) List.length_erase_le
theorem cleft_sub : ∀ {xs ys : List α} {z : α}, z ∈ cleft xs ys → z ∈ ys
  | [], _, _, h => h
  | _ :: _, _, _, h => List.mem_of_mem_erase (cleft_sub (xs := _) h)
theorem csum_le : ∀ (xs ys : List α), csum xs ys ≤ xs.length
  | [], _ => Nat.le_refl _
  | x :: xs, ys => by
    have := csum_le xs (ys.erase x)
    show (if x ∈ ys then csum xs (ys.erase x) + 1 else csum xs (ys.erase x)) ≤ xs.length + 1
    split <;> omega
end
section
variable {κ α : Type} [DecidableEq κ] [DecidableEq α] {key : α → κ} {kvs : List (κ × V)} {ys : List α}
/-- the dict counts ys -/
def CntIs (key : α → κ) (kvs : List (κ × V)) (ys : List α) : Prop := ∀ x, (valV kvs (key x)).getD (.int 0) = .int (ys.count x : Nat)
theorem CntIs.nil : CntIs key ([] : List (κ × V)) [] := fun _ => rfl
theorem CntIs.add (hk : ∀ x y, key x = key y → x = y) (h : CntIs key kvs ys) (x : α) : CntIs key (putK kvs (key x) (.int ((ys.count x : Nat) + 1))) (ys ++ [x]) := by
  intro z
  rw [valV_put, List.count_append]
  by_cases e : key z = key x
  · rw [if_pos e]
    have := hk _ _ e
    subst this
    rw [List.count_singleton_self]
    rfl
  · rw [if_neg e, h z]
    have e2 : ¬ x = z := fun w => e (by rw [w])
    rw [List.count_singleton, if_neg (by simpa using e2)]
    rfl
theorem CntIs.sub (hk : ∀ x y, key x = key y → x = y) (h : CntIs key kvs ys) {x : α} (hx : x ∈ ys) : CntIs key (putK kvs (key x) (.int ((ys.count x : Nat) - 1))) (ys.erase x) := by
  intro z
  rw [valV_put]
  have hp := List.count_pos_iff.mpr hx
  by_cases e : key z = key x
  · rw [if_pos e]
    have := hk _ _ e
    subst this
    rw [List.count_erase_self]
    show V.int _ = V.int _
    congr 1
    omega
  · rw [if_neg e, h z]
    have e2 : z ≠ x := fun w => e (by rw [w])
    rw [List.count_erase_of_ne e2]
theorem CntIs.there (h : CntIs key kvs ys) {x : α} (hx : x ∈ ys) : valV kvs (key x) = some (.int (ys.count x : Nat)) := by
  have z := h x
  have hp := List.count_pos_iff.mpr hx
  cases e : valV kvs (key x) with
  | some v => rw [e] at z; exact congrArg some z
  | none =>
    rw [e] at z
    have z' : (0 : Int) = ((ys.count x : Nat) : Int) := V.int.inj z
    omega
theorem putK_few (k : κ) (v : V) : (putK kvs k v).length ≤ kvs.length + 1 := by
  unfold putK
  split
  · rw [List.length_map]; omega
  · rw [List.length_append]; exact Nat.le_refl _
theorem putK_same {k : κ} {v w : V} (h : valV kvs k = some w) : (putK kvs k v).length = kvs.length := by
  unfold putK
  rw [valV_any, h, if_pos (show (some w).isSome = true from rfl), List.length_map]
end
section
variable {κ α : Type} [DecidableEq κ] [DecidableEq α] {key : α → κ} {kvs : List (κ × V)} {x y : List α} {i : Nat} {c : α}
theorem dec_in {p : Prop} {i : Decidable p} (e : decide p = true) : p := of_decide_eq_true e
theorem dec_out {p : Prop} {i : Decidable p} (e : ¬ decide p = true) : ¬ p := fun z => e (decide_eq_true z)
theorem cnt_in (h : (0 : Int) < ((cleft (x.take i) y).count c : Nat)) : c ∈ cleft (x.take i) y := List.count_pos_iff.mp (by omega)
theorem cnt_out (h : ¬ (0 : Int) < ((cleft (x.take i) y).count c : Nat)) : ¬ c ∈ cleft (x.take i) y := fun z => h (by have := List.count_pos_iff.mpr z; omega)
theorem csum_in (hc : x[i]? = some c) (hm : c ∈ cleft (x.take i) y) : csum (x.take (i + 1)) y = csum (x.take i) y + 1 := by
  rw [take_snoc hc, csum_snoc, if_pos hm]
theorem csum_out (hc : x[i]? = some c) (hm : ¬ c ∈ cleft (x.take i) y) : csum (x.take (i + 1)) y = csum (x.take i) y := by
  rw [take_snoc hc, csum_snoc, if_neg hm]
theorem cleft_in (hc : x[i]? = some c) : cleft (x.take (i + 1)) y = (cleft (x.take i) y).erase c := by
  rw [take_snoc hc, cleft_snoc]
theorem cleft_out (hc : x[i]? = some c) (hm : ¬ c ∈ cleft (x.take i) y) : cleft (x.take (i + 1)) y = cleft (x.take i) y := by
  rw [take_snoc hc, cleft_snoc, List.erase_of_not_mem hm]
theorem CntIs.turn (hk : ∀ x y, key x = key y → x = y) (h : CntIs key kvs (cleft (x.take i) y)) (hc : x[i]? = some c) (hm : c ∈ cleft (x.take i) y) :
    CntIs key (putK kvs (key c) (.int (((cleft (x.take i) y).count c : Nat) - 1))) (cleft (x.take (i + 1)) y) := by
  rw [cleft_in hc]
  exact h.sub hk hm
end
/-- a sign's key -/
def kS (c : Nat) : Key := .inr (sg c)
theorem kS_inj : ∀ c d : Nat, kS c = kS d → c = d := fun c d h => sg_inj.mp (Sum.inr.inj h)
abbrev Tr3 := Nat × Nat × Nat
def kT (t : Tr3) : List Key := [.inr (sg t.1), .inr (sg t.2.1), .inr (sg t.2.2)]
theorem kT_inj : ∀ s t : Tr3, kT s = kT t → s = t := fun s t h => by
  obtain ⟨a, b, c⟩ := s
  obtain ⟨d, e, f⟩ := t
  simp only [kT, List.cons.injEq, Sum.inr.injEq, and_true] at h
  rw [sg_inj.mp h.1, sg_inj.mp h.2.1, sg_inj.mp h.2.2]
def tr3V (t : Tr3) : List V := [.str (sg t.1), .str (sg t.2.1), .str (sg t.2.2)]
def TriAt (H : Hp) (v : V) (t : Tr3) : Prop := ∃ a, v = .ref a ∧ H a = some (.tup (tr3V t))
theorem TriAt.same {H H' : Hp} {v : V} {t : Tr3} (x : TriAt H v t) (s : Same H H') : TriAt H' v t := by
  obtain ⟨a, e, q⟩ := x
  exact ⟨a, e, s _ _ q⟩
theorem TriAt.put {H : Hp} {v : V} {t : Tr3} {b : Addr} {o : HO} (x : TriAt H v t) (n : ∀ xs, H b ≠ some (.tup xs)) : TriAt (upd H b o) v t := by
  obtain ⟨a, e, q⟩ := x
  refine ⟨a, e, ?_⟩
  rw [upd_ne (fun z => n _ (by rw [← z]; exact q))]
  exact q
/-- data of signs, of triples -/
def triD (t : Tr3) : PyData := .tuple [.str (sg t.1), .str (sg t.2.1), .str (sg t.2.2)]
theorem TriAt.dp {K : PySem.W.Frag} {H : Hp} {v : V} {t : Tr3} (x : TriAt H v t) : Dp K H v (triD t) := by
  obtain ⟨a, rfl, q⟩ := x
  exact .tup (SqT.of q) (.cons (.str _) (.cons (.str _) (.cons (.str _) .nil)))
theorem dpa_tri {K : PySem.W.Frag} {H : Hp} {vs : List V} {ts : List Tr3} (h : Paired (TriAt H) vs ts) : DpAll K H vs (ts.map triD) := by
  induction h with
  | nil => exact .nil
  | cons a _ ih => exact .cons a.dp ih
theorem tri_shaped {t : Tr3} (h : Ltr t.1 ∧ Ltr t.2.1 ∧ Ltr t.2.2) : SeqAt.shaped (triD t) = true := by
  have h1 := str_ok t.1 (by have := h.1.2; omega)
  have h2 := str_ok t.2.1 (by have := h.2.1.2; omega)
  have h3 := str_ok t.2.2 (by have := h.2.2.2; omega)
  simp [SeqAt.shaped, triD, PyData.canLay0, PyData.canLayAll0, PyData.depth, PyData.depthAll, h1, h2, h3]
theorem tris_shaped {ts : List Tr3} (h : ∀ t ∈ ts, Ltr t.1 ∧ Ltr t.2.1 ∧ Ltr t.2.2) : SeqAt.shaped (.list (ts.map triD)) = true := shaped_list (k := 1) (by decide) fun d hd => by
  obtain ⟨t, ht, rfl⟩ := List.mem_map.mp hd
  have z := h t ht
  have h1 := str_ok t.1 (by have := z.1.2; omega)
  have h2 := str_ok t.2.1 (by have := z.2.1.2; omega)
  have h3 := str_ok t.2.2 (by have := z.2.2.2; omega)
  exact ⟨by simp [triD, PyData.canLay0, PyData.canLayAll0, h1, h2, h3], by simp [triD, PyData.depth, PyData.depthAll]⟩
def sgD (c : Nat) : PyData := .str (sg c)
theorem dpa_sg {K : PySem.W.Frag} {H : Hp} : ∀ cs : List Nat, DpAll K H (cs.map fun c => V.str (sg c)) (cs.map sgD)
  | [] => .nil
  | _ :: r => .cons (.str _) (dpa_sg r)
theorem sg_shaped {c : Nat} (h : Ltr c) : SeqAt.shaped (sgD c) = true := by
  have h1 := str_ok c (by have := h.2; omega)
  simp [SeqAt.shaped, sgD, PyData.canLay0, PyData.depth, h1]
theorem sgs_shaped {cs : List Nat} (h : ∀ c ∈ cs, Ltr c) : SeqAt.shaped (.list (cs.map sgD)) = true := shaped_list (k := 0) (by decide) fun d hd => by
  obtain ⟨c, hc, rfl⟩ := List.mem_map.mp hd
  have h1 := str_ok c (by have := (h c hc).2; omega)
  exact ⟨by simp [sgD, PyData.canLay0, h1], by simp [sgD, PyData.depth]⟩
theorem sgD_eqv (c d : Nat) : PyData.eqv (sgD c) (sgD d) = decide (c = d) := by
  show ((sg c) == (sg d)) = _
  by_cases e : c = d
  · subst e; simp
  · rw [decide_eq_false e]
    exact beq_eq_false_iff_ne.mpr fun z => e (sg_inj.mp z)
theorem triD_eqv (s t : Tr3) : PyData.eqv (triD s) (triD t) = decide (s = t) := by
  obtain ⟨a, b, c⟩ := s
  obtain ⟨d, e, f⟩ := t
  have h : PyData.eqv (triD (a, b, c)) (triD (d, e, f)) = ((PyData.eqv (sgD a) (sgD d)) && ((PyData.eqv (sgD b) (sgD e)) && ((PyData.eqv (sgD c) (sgD f)) && true))) := by simp only [triD, sgD, PyData.eqv, PyData.eqvAll]
  rw [h, sgD_eqv, sgD_eqv, sgD_eqv, Bool.eq_iff_iff]
  simp
/-- the first place of x -/
theorem first_of {α : Type} [DecidableEq α] (f : α → PyData) (hf : ∀ x y, PyData.eqv (f x) (f y) = decide (x = y)) {x : α} : ∀ {ys : List α}, x ∈ ys → ∃ j, SeqAt.dataPlace (ys.map f) (f x) = some j ∧ ys[j]? = some x ∧ ys.eraseIdx j = ys.erase x
  | [], h => by simp at h
  | a :: r, h => by
    by_cases e : a = x
    · exact ⟨0, by simp [SeqAt.dataPlace, List.findIdx?_cons, hf, e], by rw [e]; rfl, by rw [e, List.erase_cons_head]; rfl⟩
    · obtain ⟨j, h1, h2, h3⟩ := first_of f hf ((List.mem_cons.mp h).resolve_left fun z => e z.symm)
      refine ⟨j + 1, ?_, h2, by rw [List.erase_cons_tail (by simpa using e), ← h3]; rfl⟩
      simp only [SeqAt.dataPlace, List.map_cons, List.findIdx?_cons, hf, e] at h1 ⊢
      simp [h1]
theorem any_mem {α : Type} [DecidableEq α] (f : α → PyData) (hf : ∀ x y, PyData.eqv (f x) (f y) = decide (x = y)) (x : α) (ys : List α) : ((ys.map f).any fun z => PyData.eqv z (f x)) = decide (x ∈ ys) := by
  rw [Bool.eq_iff_iff, List.any_eq_true, decide_eq_true_eq]
  constructor
  · rintro ⟨z, hz, e⟩
    obtain ⟨y, hy, rfl⟩ := List.mem_map.mp hz
    rw [hf, decide_eq_true_eq] at e
    rw [← e]; exact hy
  · intro h
    exact ⟨f x, List.mem_map.mpr ⟨x, h, rfl⟩, by rw [hf]; exact decide_eq_true rfl⟩
/-- x is taken out of the list -/
theorem rem_of {K : PySem.W.Frag} {H : Hp} {l : Addr} {Q : VK} {α : Type} [DecidableEq α] (f : α → PyData) (hf : ∀ x y, PyData.eqv (f x) (f y) = decide (x = y)) {x : α} {ys : List α} {vs : List V} {v : V}
    (hx : x ∈ ys) (hl : H l = some (.lst vs)) (hv : DpAll K H vs (ys.map f)) (hd : Dp K H v (f x)) (s1 : SeqAt.shaped (.list (ys.map f)) = true) (s2 : SeqAt.shaped (f x) = true)
    (q : ∀ j, ys[j]? = some x → ys.eraseIdx j = ys.erase x → Q .non (upd H l (.lst (vs.eraseIdx j)))) : rRemD K (.ref l) [v] H Q := by
  obtain ⟨j, h1, h2, h3⟩ := first_of f hf hx
  exact ⟨l, vs, v, f x, ys.map f, j, rfl, rfl, hl, hv, hd, s1, s2, h1, q j h2 h3⟩
theorem Paired.eraseIdx {α β : Type} {F : α → β → Prop} : ∀ {xs : List α} {ys : List β} (j : Nat), Paired F xs ys → Paired F (xs.eraseIdx j) (ys.eraseIdx j)
  | _, _, _, .nil => .nil
  | _, _, 0, .cons _ t => t
  | _, _, j + 1, .cons r t => .cons r (Paired.eraseIdx j t)
theorem map_eraseIdx {α β : Type} (f : α → β) : ∀ (ns : List α) (j : Nat), (ns.map f).eraseIdx j = (ns.eraseIdx j).map f
  | [], _ => rfl
  | _ :: _, 0 => rfl
  | n :: r, j + 1 => by
    show f n :: (r.map f).eraseIdx j = f n :: (r.eraseIdx j).map f
    rw [map_eraseIdx f r j]
/-! ### a tie's three letters -/
def tri (w : Web) (t : Tie) : Tr3 :=
  let a := w.1.getD t.1 0
  let b := w.1.getD t.2.1 0
  (t.2.2, if b < a then b else a, if a < b then b else a)
def tris (w : Web) : List Tr3 := w.2.map (tri w)
theorem tri_ok {w : Web} (W : WOk w) {t : Tie} (ht : t ∈ w.2) : Ltr (tri w t).1 ∧ Ltr (tri w t).2.1 ∧ Ltr (tri w t).2.2 := by
  obtain ⟨h1, h2, h3⟩ := W.ends t ht
  have k : ∀ i, i < w.1.length → Ltr (w.1.getD i 0) := fun i hi => by
    rw [List.getD_eq_getElem?_getD, List.getElem?_eq_getElem hi]
    exact W.kinds _ (List.getElem_mem hi)
  have k1 := k t.1 (by omega)
  have k2 := k t.2.1 h2
  refine ⟨h3, ?_, ?_⟩
  · show Ltr (if w.1.getD t.2.1 0 < w.1.getD t.1 0 then w.1.getD t.2.1 0 else w.1.getD t.1 0)
    split <;> assumption
  · show Ltr (if w.1.getD t.1 0 < w.1.getD t.2.1 0 then w.1.getD t.2.1 0 else w.1.getD t.1 0)
    split <;> assumption
theorem tris_ok {w : Web} (W : WOk w) : ∀ t ∈ tris w, Ltr t.1 ∧ Ltr t.2.1 ∧ Ltr t.2.2 := fun t ht => by
  obtain ⟨z, hz, rfl⟩ := List.mem_map.mp ht
  exact tri_ok W hz
theorem ite_sg (a b c d : Nat) : (if (sg a).cps.toList < (sg b).cps.toList then V.str (sg c) else V.str (sg d)) = V.str (sg (if a < b then c else d)) := by
  have h : ((sg a).cps.toList < (sg b).cps.toList) = (a < b) := by
    have z := sg_lt a b
    rw [decide_eq_decide] at z
    exact propext z
  by_cases e : a < b
  · rw [if_pos e, if_pos (by rw [h]; exact e)]
  · rw [if_neg e, if_neg (by rw [h]; exact e)]
theorem ite_sgS (a b c d : Nat) : (if (sg a).cps.toList < (sg b).cps.toList then sg c else sg d) = sg (if a < b then c else d) := by
  have h : ((sg a).cps.toList < (sg b).cps.toList) = (a < b) := by
    have z := sg_lt a b
    rw [decide_eq_decide] at z
    exact propext z
  by_cases e : a < b
  · rw [if_pos e, if_pos (by rw [h]; exact e)]
  · rw [if_neg e, if_neg (by rw [h]; exact e)]
/-- the three letters as they come -/
theorem tri_V (u : Web) (t : Tie) : some (HO.tup [V.str (sg t.2.2), V.str (if (sg (u.1.getD t.2.1 0)).cps.toList < (sg (u.1.getD t.1 0)).cps.toList then sg (u.1.getD t.2.1 0) else sg (u.1.getD t.1 0)),
    V.str (if (sg (u.1.getD t.1 0)).cps.toList < (sg (u.1.getD t.2.1 0)).cps.toList then sg (u.1.getD t.2.1 0) else sg (u.1.getD t.1 0))]) = some (HO.tup (tr3V (tri u t))) := by
  rw [ite_sgS, ite_sgS]
  rfl
/-- a list of a web's letters of three, at another place than E -/
def TLs (H : Hp) (E : Addr) (o : V) (u : Web) : Prop := ∃ p xs, o = V.ref p ∧ p ≠ E ∧ H p = some (.lst xs) ∧ Paired (TriAt H) xs (tris u)
theorem TLs.same {H H' : Hp} {E : Addr} {o : V} {u : Web} (x : TLs H E o u) (s : Same H H') : TLs H' E o u := by
  obtain ⟨p, xs, e, n, h, q⟩ := x
  exact ⟨p, xs, e, n, s _ _ h, Paired.imp q fun _ _ z => z.same s⟩
theorem TLs.put {H : Hp} {E : Addr} {o : V} {u : Web} {ys ys' : List V} (x : TLs H E o u) (e : H E = some (.lst ys)) : TLs (upd H E (.lst ys')) E o u := by
  obtain ⟨p, xs, e1, n, h, q⟩ := x
  exact ⟨p, xs, e1, n, by rw [upd_ne n]; exact h, Paired.imp q fun _ _ z => z.put fun zs zz => by rw [e] at zz; cases zz⟩
theorem _root_.PySem.Paired.two {α β : Type} {F : α → β → Prop} {xs : List α} {a b : β} (h : Paired F xs [a, b]) : ∃ x y, xs = [x, y] ∧ F x a ∧ F y b := by
  cases h with
  | cons r t =>
    cases t with
    | cons r2 t2 =>
      cases t2
      exact ⟨_, _, rfl, r, r2⟩
end Cw

namespace Cw
open PySem PySem.Spec PyProof.Rows L2
local macro_rules | `(tactic| walk_at "rd1") => `(tactic| first
  | (with_reducible refine d_seq ?_) | (with_reducible refine d_asg ?_) | (with_reducible refine d_cons ?_) | (with_reducible refine d_nil ?_)
  | ((with_reducible refine' d_var ?e ?_); (case e => exact rfl))
  | (with_reducible refine d_c ?_) | (with_reducible refine d_op ?_) | (with_reducible refine d_un ?_) | (with_reducible refine d_cb ?_)
  | (with_reducible refine d_rI0 ?_) | (with_reducible refine d_rU ?_) | (with_reducible refine d_eqI ?_) | (with_reducible refine d_neI ?_)
  | ((with_reducible refine d_rI ?hc ?_); (case hc => first | assumption | decide | exact ⟨by decide, by decide⟩ | exact ⟨by omega, by omega⟩ | exact .inl ⟨by omega, by omega⟩ | exact .inr ⟨by omega, by omega⟩))
  | ((with_reducible refine' d_ixLm ?h ?e ?_); (case h => first | assumption | exact upd_same); (case e => rfl)) | ((with_reducible refine' d_ixTm ?h ?e ?_); (case h => first | assumption | exact upd_same); (case e => rfl))
  | (with_reducible refine d_test ?_) | (with_reducible refine d_tB ?_) | (with_reducible refine d_bl ?_) | (with_reducible refine d_not ?_) | (with_reducible refine d_notV ?_) | (with_reducible refine d_and ?_) | (with_reducible refine d_or ?_)
  | (with_reducible refine d_if ?_) | (with_reducible refine d_andV ?_) | (with_reducible refine d_ifS ?_) | (with_reducible refine iteT ?_) | (with_reducible refine iteF ?_) | (with_reducible refine iteNT ?_) | (with_reducible refine iteNF ?_)
  | (with_reducible refine d_ret ?_) | (with_reducible refine d_retN ?_) | (with_reducible refine d_drop ?_) | (with_reducible refine d_next ?_) | (with_reducible refine d_brk ?_) | (with_reducible refine d_ct ?_)
  | (with_reducible refine d_gname ?_) | (with_reducible refine d_gcons ?_) | (with_reducible refine d_gnil ?_) | (with_reducible refine d_gsub ?_)
  | (with_reducible refine d_call ?_) | (with_reducible refine d_tup ?_) | (with_reducible refine d_lst ?_)
  | (with_reducible refine d_sl ?_) | (with_reducible refine d_nop ?_) | (with_reducible refine d_part ?_) | (with_reducible refine d_in ?_)
  | (with_reducible refine d_bm ?_) | (with_reducible refine d_bm0 ?_) | (with_reducible refine d_m1 ?_) | (with_reducible refine d_exs ?_)
  | ((with_reducible refine' d_setL ?h ?e ?_); (case h => first | assumption | exact upd_same); (case e => rfl))
  | ((with_reducible refine' d_gtupm ?h ?e ?_); (case h => first | assumption | exact upd_same); (case e => rfl))
  | ((with_reducible refine' d_aug ?e ?_); (case e => exact rfl))
  | (with_reducible refine d_for ?_) | (with_reducible refine d_lc ?_) | (with_reducible refine d_dc ?_) | (with_reducible refine d_iR1 ?_) | (with_reducible refine d_iR2 ?_) | (with_reducible refine d_iL ?_) | (with_reducible refine d_iT ?_) | (with_reducible refine d_iS ?_) | (with_reducible refine d_iSe ?_) | (with_reducible refine d_yes ?_) | (with_reducible refine d_lsten ?_) | (with_reducible refine d_iEnS ?_) | (with_reducible refine d_iEnSe ?_) | (with_reducible refine d_iEn ?_) | (with_reducible refine d_dget1 ?_) | (with_reducible refine d_dget2 ?_) | (with_reducible refine d_iCmb ?_) | (with_reducible refine d_dget ?_) | (with_reducible refine d_dput ?_) | (with_reducible refine d_daug ?_) | (with_reducible refine d_par ?_) | (with_reducible refine d_par2 ?_) | (with_reducible refine d_din ?_) | (with_reducible refine d_dnewT ?_) | (with_reducible refine d_dnewK ?_) | ((with_reducible refine d_wipe ?e ?_); (case e => rfl)) | (with_reducible refine d_lrg ?_) | (with_reducible refine d_rg1 ?_)
  | ((with_reducible refine d_iR1e ?a ?b ?_); (case a => omega); (case b => omega)) | ((with_reducible refine d_iR2e ?a ?_); (case a => omega))
  | (with_reducible refine d_isN ?_))
local macro_rules | `(tactic| walk_at "rd") => `(tactic| (repeat walk_at "rd1"))

def topS (i : Nat) : Stmt := PySem.Challenge.pw_commonweb_k39_bounds_by_kinds.main.body.getD i (.Pass ⟨0, 0, 0, 0⟩)
abbrev s_common_count : Stmt := topS 1
abbrev s_three_letters : Stmt := topS 2
abbrev s_by_kinds : Stmt := topS 4
abbrev s_by_tie_kinds : Stmt := topS 5
abbrev s_letters_of_ties : Stmt := topS 6
abbrev s_draws : Stmt := topS 8
abbrev s_take : Stmt := topS 9
abbrev s_great_web : Stmt := topS 10
abbrev s_whole : Stmt := topS 11
abbrev s_three : Stmt := topS 12
abbrev s_lesser : Stmt := topS 13
abbrev s_law : Stmt := topS 14
theorem sc_common_count : FnScope ["these", "those", "left", "thing", "told"] ["these", "those"] (defScope s_common_count) := ⟨rfl, rfl, rfl, by decide +kernel, rfl, by decide +kernel, by decide +kernel⟩
theorem sc_three_letters : FnScope ["kinds", "tie", "place", "other", "kind"] ["kinds", "tie"] (defScope s_three_letters) := ⟨rfl, rfl, rfl, by decide +kernel, rfl, by decide +kernel, by decide +kernel⟩
theorem sc_by_kinds : FnScope ["one", "other"] ["one", "other"] (defScope s_by_kinds) := ⟨rfl, rfl, rfl, by decide +kernel, rfl, by decide +kernel, by decide +kernel⟩
theorem sc_by_tie_kinds : FnScope ["one", "other"] ["one", "other"] (defScope s_by_tie_kinds) := ⟨rfl, rfl, rfl, by decide +kernel, rfl, by decide +kernel, by decide +kernel⟩
theorem sc_letters_of_ties : FnScope ["web", "tie"] ["web"] (defScope s_letters_of_ties) := ⟨rfl, rfl, rfl, by decide +kernel, rfl, by decide +kernel, by decide +kernel⟩
theorem sc_draws : FnScope ["script", "draws", "k", "rest", "stir", "many"] ["script"] (defScope s_draws) := ⟨rfl, rfl, rfl, by decide +kernel, rfl, by decide +kernel, by decide +kernel⟩
theorem sc_take : FnScope ["draws", "many"] ["draws", "many"] (defScope s_take) := ⟨rfl, rfl, rfl, by decide +kernel, rfl, by decide +kernel, by decide +kernel⟩
theorem sc_great_web : FnScope ["draws", "many", "some", "tied", "full", "one", "other", "chosen", "kinds", "ties", "place", "beside", "mixed", "k", "at"] ["draws"] (defScope s_great_web) := ⟨rfl, rfl, rfl, by decide +kernel, rfl, by decide +kernel, by decide +kernel⟩
theorem sc_whole : FnScope ["thing"] ["thing"] (defScope s_whole) := ⟨rfl, rfl, rfl, by decide +kernel, rfl, by decide +kernel, by decide +kernel⟩
theorem sc_three : FnScope ["web", "tie", "place", "beside", "kind", "ends"] ["web", "tie"] (defScope s_three) := ⟨rfl, rfl, rfl, by decide +kernel, rfl, by decide +kernel, by decide +kernel⟩
theorem sc_lesser : FnScope ["one", "other", "total", "left", "thing"] ["one", "other"] (defScope s_lesser) := ⟨rfl, rfl, rfl, by decide +kernel, rfl, by decide +kernel, by decide +kernel⟩
theorem sc_law : FnScope ["script", "draws", "many", "one", "other", "found", "by_threes", "web", "tie"] ["script"] (defScope s_law) := ⟨rfl, rfl, rfl, by decide +kernel, rfl, by decide +kernel, by decide +kernel⟩
/-- what the top leaves -/
structure Tx (K : PySem.W.Frag) (mg : Str → Option Value) where
  common_count : Df K mg "common_count" s_common_count ["these", "those"]
  three_letters : Df K mg "three_letters" s_three_letters ["kinds", "tie"]
  by_kinds : Df K mg "by_kinds" s_by_kinds ["one", "other"]
  by_tie_kinds : Df K mg "by_tie_kinds" s_by_tie_kinds ["one", "other"]
  letters_of_ties : Df K mg "letters_of_ties" s_letters_of_ties ["web"]
  draws : Df K mg "_law_draws" s_draws ["script"]
  take : Df K mg "_law_take" s_take ["draws", "many"]
  great_web : Df K mg "_law_great_web" s_great_web ["draws"]
  whole : Df K mg "_law_whole" s_whole ["thing"]
  three : Df K mg "_law_three" s_three ["web", "tie"]
  lesser : Df K mg "_law_lesser" s_lesser ["one", "other"]
  law : Df K mg "law" s_law ["script"]
  m_abs : mg "abs" = none
  m_bool : mg "bool" = none
  m_int : mg "int" = none
  m_isinstance : mg "isinstance" = none
  m_len : mg "len" = none
  m_list : mg "list" = none
  m_max : mg "max" = none
  m_min : mg "min" = none
  m_range : mg "range" = none
  m_tuple : mg "tuple" = none
section
variable {P : Program} {w : World} {K : PySem.W.Frag} {mg : Str → Option Value} {base : Heap}
/-- what is drawn, in a list that shrinks -/
def Drs (H : Hp) (d : Addr) : Prop := ∃ ns : List Int, H d = some (.lst (ns.map V.int)) ∧ ns.length ≤ 10000
theorem Drs.same {H H' : Hp} {d : Addr} (x : Drs H d) (s : Same H H') : Drs H' d := by
  obtain ⟨ns, e, l⟩ := x
  exact ⟨ns, s _ _ e, l⟩
theorem Drs.ne {H : Hp} {d p : Addr} (x : Drs H d) (n : H p = none) : p ≠ d := by
  obtain ⟨ns, e, l⟩ := x
  exact (ne_of_none e n).symm
theorem Drs.put {H : Hp} {d p : Addr} {o : HO} (x : Drs H d) (n : p ≠ d) : Drs (upd H p o) d := by
  obtain ⟨ns, e, l⟩ := x
  exact ⟨ns, by rw [upd_ne n.symm]; exact e, l⟩
def IL (n : Nat) (xs : List V) : Prop := ∃ zs : List Int, xs = zs.map V.int ∧ zs.length ≤ n
theorem IL.app {n : Nat} {xs : List V} (x : IL n xs) (z : Int) : IL (n + 1) (xs ++ [V.int z]) := by
  obtain ⟨zs, rfl, l⟩ := x
  exact ⟨zs ++ [z], by rw [List.map_append]; rfl, by rw [List.length_append]; show zs.length + 1 ≤ _; omega⟩
theorem IL.len {n : Nat} {xs : List V} (x : IL n xs) : xs.length ≤ n := by
  obtain ⟨zs, rfl, l⟩ := x
  rw [List.length_map]; exact l
theorem IL.mono {n m : Nat} {xs : List V} (x : IL n xs) (h : n ≤ m) : IL m xs := by
  obtain ⟨zs, e, l⟩ := x
  exact ⟨zs, e, by omega⟩
def spDraws (K : PySem.W.Frag) : Sp := fun vs H Q _ => ∃ (a : Addr) (ns : List Int), vs = [.ref a] ∧ SqL K H a (ns.map V.int) ∧ ns.length ≤ 63 ∧ ∀ H' d, Same H H' → H d = none → Drs H' d → Q (.ref d) H'
theorem ok_draws (T : Tx K mg) : FnOk P w K mg base CX0 1 T.draws.f T.draws.fd ["script"] (spDraws K) := by
  refine T.draws.F.ok sc_draws (fun vs H Q E h => ?_) (fun cdv A outer s H vs Q E hr h => ?_)
  · obtain ⟨_, _, rfl, _⟩ := h; rfl
  · obtain ⟨a, ns, rfl, hS, hl, q⟩ := h
    refine ⟨_, (pss_cons (ps_set (i := 1) sc_draws.nd rfl (.inl rfl) (pe_lst pa_nil))
      (pss_cons (ps_for PassesOwn.never rfl (pi_range1 (by rfl) T.m_range (pa_cons (pe_callB (call_min2 rfl) (by rfl) T.m_min (by decide +kernel) (pa_cons (pe_callB call_len_seq (by rfl) T.m_len (by decide +kernel) (pa_cons (pv 0) pa_nil)) (pa_cons pe_int pa_nil))) pa_nil)) (pg_name (i := 2) sc_draws.nd rfl (.inl rfl))
        (pss_cons (ps_set (i := 3) sc_draws.nd rfl (.inl rfl) (pe_callB call_abs (by rfl) T.m_abs (by decide +kernel) (pa_cons (pe_ix ix_list (pv 0) (pv 2) (fun _ _ => rfl)) pa_nil)))
        (pss_one (ps_if (pt_cmpR op_lt (pv 3) (pe_op op_pow pe_int pe_int) (nomark _))
          (pss_cons (ps_set (i := 4) sc_draws.nd rfl (.inl rfl) (pe_op op_mod (pe_op op_mul (pe_op op_mod (pe_op op_add (pe_op op_add (pv 3) (pe_op op_mul pe_int (pv 2))) pe_int) pe_int) pe_int) pe_int))
          (pss_cons (ps_set (i := 4) sc_draws.nd rfl (.inl rfl) (pe_op op_mod (pe_op op_mul (pv 4) (pv 4)) pe_int))
          (pss_cons (ps_expr (pe_bm PySem.F.plainAttrs_list PySem.F.slot_list_append PySem.F.type_list_append mt_append (pv 1) (pa_cons (pe_op op_mod (pe_op op_fdiv (pv 4) pe_int) pe_int) pa_nil)))
          (pss_cons (ps_expr (pe_bm PySem.F.plainAttrs_list PySem.F.slot_list_append PySem.F.type_list_append mt_append (pv 1) (pa_cons (pe_op op_mod (pe_op op_fdiv (pv 4) pe_int) pe_int) pa_nil)))
          (pss_cons (ps_set (i := 4) sc_draws.nd rfl (.inl rfl) (pe_op op_mod (pe_op op_add (pv 4) (pe_op op_mul pe_int (pe_op op_add (pv 2) pe_int))) pe_int))
          (pss_one (ps_expr (pe_bm PySem.F.plainAttrs_list PySem.F.slot_list_append PySem.F.type_list_append mt_append (pv 1) (pa_cons (pe_op op_mod (pe_op op_fdiv (pe_op op_mod (pe_op op_mul (pv 4) (pv 4)) pe_int) pe_int) pe_int) pa_nil)))))))))
          (pss_cons (ps_set (i := 5) sc_draws.nd rfl (.inl rfl) pe_int)
          (pss_one (ps_while PassesOwn.never (PW.pt (pw_and (pt_cmpR op_ge (pv 3) pe_int (nomark _)) (pw_and1 (pt_cmpR op_lt (pv 5) pe_int (nomark _)))))
            (pss_cons (ps_expr (pe_bm PySem.F.plainAttrs_list PySem.F.slot_list_append PySem.F.type_list_append mt_append (pv 1) (pa_cons (pe_op op_mod (pv 3) pe_int) pa_nil)))
            (pss_cons (ps_set (i := 3) sc_draws.nd rfl (.inl rfl) (pe_op op_fdiv (pv 3) pe_int))
            (pss_one (ps_set (i := 5) sc_draws.nd rfl (.inl rfl) (pe_op op_add (pv 5) pe_int))))))))))))
      (pss_one (ps_ret (pe_slice sl_list (pv 1) po_none (po_some pe_int)))))), ?_⟩
    walk_at "rd"
    refine ⟨sz (by decide), fun D fD => ?_⟩
    walk_at "rd"
    have s0 := same_new (o := .lst []) fD
    refine d_lenL (Same.seq s0 hS) ?_
    rw [List.length_map]
    walk_at "rd"
    refine ⟨_, _, rfl, ?_⟩
    rw [if_neg (by omega)]
    walk_at "rd"
    refine for_range (fun i σ H' => ∃ y2 y3 y4 y5 xs, σ = [some (.ref a), some (.ref D), y2, y3, y4, y5] ∧ Same H H' ∧ H' D = some (.lst xs) ∧ IL (60 * i) xs)
      ⟨_, _, _, _, [], rfl, s0, upd_same, [], rfl, by simp⟩ (fun i σ H' hi hP => ?_) (fun σ H' hP => ?_)
    · obtain ⟨y2, y3, y4, y5, xs, rfl, sm, eD, il⟩ := hP
      have hi' : i < ns.length := by omega
      have lx := il.len
      walk_at "rd"
      simp only [Int.zero_add]
      refine d_ixL (Same.seq sm hS) (atI_nat (by rw [List.getElem?_map, List.getElem?_eq_getElem hi']; rfl)) ?_
      generalize ns[i] = c
      walk_at "rd"
      refine ⟨c, rfl, ?_⟩
      have r0 : 0 ≤ (if c < 0 then -c else c) := by split <;> omega
      generalize (if c < 0 then -c else c) = rest at r0
      walk_at "rd"
      refine ite2 (fun e => ?_) (fun e => ?_)
      · walk_at "rd"
        refine d_app eD ?_
        walk_at "rd"
        refine d_append eD (szl (by omega)) ?_
        walk_at "rd"
        refine d_app upd_same ?_
        walk_at "rd"
        refine d_append upd_same (szl (by rw [List.length_append]; show xs.length + 1 ≤ 100000; omega)) ?_
        walk_at "rd"
        refine d_app upd_same ?_
        walk_at "rd"
        refine d_append upd_same (szl (by rw [List.length_append, List.length_append]; show xs.length + 1 + 1 ≤ 100000; omega)) ?_
        exact ⟨_, _, _, _, _, rfl, same_upd (same_upd (same_upd sm fD) fD) fD, upd_same, (((il.app _).app _).app _).mono (by omega)⟩
      · walk_at "rd"
        refine ⟨fun m σ H2 => ∃ (r : Int) (k : Nat) (y4 : Option V) (ks : List V), m = 60 - k ∧ σ = [some (.ref a), some (.ref D), some (.int (i : Nat)), some (.int r), y4, some (.int (k : Nat))] ∧ 0 ≤ r ∧ k ≤ 60 ∧ Same H H2 ∧ H2 D = some (.lst ks) ∧ IL (60 * i + k) ks,
          ⟨_, rest, 0, _, xs, rfl, rfl, r0, by omega, sm, eD, il⟩, ?_⟩
        rintro m σ H2 ⟨r, k, y4', ks, rfl, rfl, rr, hk, sm2, eD2, lk⟩
        have lks := lk.len
        walk_at "rd"
        refine ite2 (fun e1 => ?_) (fun e1 => ?_)
        · walk_at "rd"
          refine ite2 (fun e2 => ?_) (fun e2 => ?_)
          · have e2' := of_decide_eq_true e2
            refine ⟨fun σ' H3 => ∃ (r : Int) (y4 : Option V) (ks : List V), σ' = [some (.ref a), some (.ref D), some (.int (i : Nat)), some (.int r), y4, some (.int ((k + 1 : Nat) : Int))] ∧ 0 ≤ r ∧ Same H H3 ∧ H3 D = some (.lst ks) ∧ IL (60 * i + (k + 1)) ks,
              fun σ' H3 ⟨r', y', ks', h1, h2, h3, h4, h5⟩ => ⟨60 - (k + 1), by omega, r', k + 1, y', ks', rfl, h1, h2, by omega, h3, h4, h5⟩, ?_⟩
            walk_at "rd"
            refine d_app eD2 ?_
            walk_at "rd"
            refine d_append eD2 (szl (by omega)) ?_
            walk_at "rd"
            exact ⟨_, _, _, rfl, Int.ediv_nonneg rr (by decide), same_upd sm2 fD, upd_same, lk.app _⟩
          · walk_at "rd"
            exact ⟨_, _, _, _, _, rfl, sm2, eD2, lk.mono (by omega)⟩
        · walk_at "rd"
          exact ⟨_, _, _, _, _, rfl, sm2, eD2, lk.mono (by omega)⟩
    · obtain ⟨y2, y3, y4, y5, xs, rfl, sm, eD, il⟩ := hP
      walk_at "rd"
      refine d_slL (SqL.of eD) fun p fp => ?_
      obtain ⟨zs', rfl, lz⟩ := il
      have l240 := cutV_length (zs'.map V.int) none (some 240)
      rw [List.length_map] at l240
      have hz : ∃ ws : List Int, cutV (zs'.map V.int) none (some 240) = ws.map V.int := by
        unfold cutV
        exact ⟨_, by rw [← List.map_drop, ← List.map_take]⟩
      obtain ⟨ws, ew⟩ := hz
      rw [ew] at l240 ⊢
      rw [List.length_map] at l240
      walk_at "rd"
      exact q _ p (same_upd sm (Same.free sm fp)) (Same.free sm fp) ⟨ws, upd_same, by omega⟩
def spTake : Sp := fun vs H Q _ => ∃ (d : Addr) (n : Int), vs = [.ref d, .int n] ∧ 0 < n ∧ Drs H d ∧ ∀ H' g, Keep d H H' → Drs H' d → 0 ≤ g → g < n → Q (.int g) H'
theorem ok_take (T : Tx K mg) : FnOk P w K mg base CX0 1 T.take.f T.take.fd ["draws", "many"] spTake := by
  refine T.take.F.ok sc_take (fun vs H Q E h => ?_) (fun cdv A outer s H vs Q E hr h => ?_)
  · obtain ⟨_, _, rfl, _⟩ := h; rfl
  · obtain ⟨d, n, rfl, n0, ⟨ns, e, l⟩, q⟩ := h
    refine ⟨_, (pss_cons (ps_if (pt_cmpR (op_eqD (hr.units)) (pv 0) (pe_lst pa_nil) (nomark _))
        (pss_one (ps_ret pe_int))
        pss_nil)
      (pss_one (ps_ret (pe_op op_mod (pe_bm PySem.F.plainAttrs_list PySem.F.slot_list_pop PySem.F.type_list_pop mt_popAt (pv 0) (pa_cons pe_int pa_nil)) (pv 1))))), ?_⟩
    walk_at "rd"
    refine ⟨sz (by decide), fun p fp => ?_⟩
    have s1 := same_new (o := .lst []) fp
    have e1 := s1 _ _ e
    refine ⟨.list (ns.map PyData.int), .list [], .lst (SqL.of e1) (dpa_ints ns), .lst (SqL.of upd_same) .nil, shaped_ints ns, by decide, ?_⟩
    cases ns with
    | nil =>
      rw [show PyData.eqv (.list (([] : List Int).map PyData.int)) (.list []) = true by decide]
      walk_at "rd"
      exact q _ 0 (Same.keep s1) ⟨[], e1, l⟩ (Int.le_refl _) n0
    | cons x r =>
      rw [show PyData.eqv (.list ((x :: r).map PyData.int)) (.list []) = false from rfl]
      walk_at "rd"
      refine ⟨.inl ⟨rfl, _, SqL.of e1⟩, ?_⟩
      walk_at "rd"
      refine ⟨d, _, 0, 0, .int x, rfl, rfl, e1, by omega, by omega, by simp [seqIndex?], rfl, ?_⟩
      walk_at "rd"
      exact q _ _ (Keep.trans (Same.keep s1) Keep.put) ⟨r, upd_same, by simp at l; omega⟩ (Int.emod_nonneg _ (by omega)) (Int.emod_lt_of_pos _ n0)
def Lts (z : Str) : Prop := (z.cps.toList.all fun c => decide (97 ≤ c) && decide (c ≤ 122)) = true ∧ 0 < z.length ∧ z.length ≤ 26
theorem Lts.at {z : Str} (l : Lts z) {g : Int} (h0 : 0 ≤ g) (h1 : g < z.length) : ∃ c, atI z.cps.toList g = some c ∧ Ltr c := by
  obtain ⟨n, rfl⟩ := Int.eq_ofNat_of_zero_le h0
  have hn : n < z.cps.toList.length := by
    have e : z.cps.toList.length = z.length := rfl
    omega
  refine ⟨z.cps.toList[n], atI_nat (List.getElem?_eq_getElem hn), ?_⟩
  have a := List.all_eq_true.mp l.1 _ (List.getElem_mem hn)
  simp only [Bool.and_eq_true, decide_eq_true_eq] at a
  exact a
theorem four {H : Hp} {p : Addr} {a b c e : Str} (hp : H p = some (.lst [.str a, .str b, .str c, .str e])) {g : Int} (h0 : 0 ≤ g) (h1 : g < 4) (ha : Lts a ∧ Lts b ∧ Lts c ∧ Lts e) : ∃ z, Lts z ∧ ∀ {Q : VK}, Q (.str z) H → rIxL K (.ref p) (.int g) H Q := by
  have h : g = 0 ∨ g = 1 ∨ g = 2 ∨ g = 3 := by omega
  rcases h with rfl | rfl | rfl | rfl
  · exact ⟨a, ha.1, fun q => d_ixLm hp rfl q⟩
  · exact ⟨b, ha.2.1, fun q => d_ixLm hp rfl q⟩
  · exact ⟨c, ha.2.2.1, fun q => d_ixLm hp rfl q⟩
  · exact ⟨e, ha.2.2.2, fun q => d_ixLm hp rfl q⟩
/-- a great web, from what is drawn -/
def spGW (K : PySem.W.Frag) : Sp := fun vs H Q _ => ∃ d : Addr, vs = [.ref d] ∧ Drs H d ∧ ∀ H' v u, Keep d H H' → Drs H' d → WebAt K H' v u → WOk u → Q v H'
theorem ok_great_web (T : Tx K mg) : FnOk P w K mg base CX0 2 T.great_web.f T.great_web.fd ["draws"] (spGW K) := by
  refine T.great_web.F.ok sc_great_web (fun vs H Q E h => ?_) (fun cdv A outer s H vs Q E hr h => ?_)
  · obtain ⟨_, rfl, _⟩ := h; rfl
  · obtain ⟨d, rfl, hd, q⟩ := h
    refine ⟨_, (pss_cons (ps_set (i := 1) sc_great_web.nd rfl (.inl rfl) (pe_call (ok_take T) (hr.mono (by decide)) (by rfl) T.take.g T.take.F.kp T.take.b .nil pass0 (pa_cons (pv 0) (pa_cons pe_int pa_nil))))
      (Evl.pss_cut (ps_if (pt_cmpR op_eq (pe_call (ok_take T) (hr.mono (by decide)) (by rfl) T.take.g T.take.F.kp T.take.b .nil pass0 (pa_cons (pv 0) (pa_cons pe_int pa_nil))) pe_int (nomark _))
        (pss_one (ps_set (i := 1) sc_great_web.nd rfl (.inl rfl) (pe_ix ix_list (pe_lst (pa_cons pe_int (pa_cons (pe_call (ok_take T) (hr.mono (by decide)) (by rfl) T.take.g T.take.F.kp T.take.b .nil pass0 (pa_cons (pv 0) (pa_cons pe_int pa_nil))) pa_nil))) (pe_call (ok_take T) (hr.mono (by decide)) (by rfl) T.take.g T.take.F.kp T.take.b .nil pass0 (pa_cons (pv 0) (pa_cons pe_int pa_nil))) (fun _ _ => rfl))))
        pss_nil)
      (pss_cons (ps_set (i := 2) sc_great_web.nd rfl (.inr rfl) (pe_ix ix_list (pe_lst (pa_cons pe_str (pa_cons pe_str (pa_cons pe_str (pa_cons pe_str pa_nil))))) (pe_call (ok_take T) (hr.mono (by decide)) (by rfl) T.take.g T.take.F.kp T.take.b .nil pass0 (pa_cons (pv 0) (pa_cons pe_int pa_nil))) (fun _ _ => rfl)))
      (pss_cons (ps_set (i := 3) sc_great_web.nd rfl (.inl rfl) (pe_ix ix_list (pe_lst (pa_cons pe_str (pa_cons pe_str (pa_cons pe_str (pa_cons pe_str pa_nil))))) (pe_call (ok_take T) (hr.mono (by decide)) (by rfl) T.take.g T.take.F.kp T.take.b .nil pass0 (pa_cons (pv 0) (pa_cons pe_int pa_nil))) (fun _ _ => rfl)))
      (pss_cons (ps_set (i := 4) sc_great_web.nd rfl (.inl rfl) (pe_call (ok_take T) (hr.mono (by decide)) (by rfl) T.take.g T.take.F.kp T.take.b .nil pass0 (pa_cons (pv 0) (pa_cons pe_int pa_nil))))
      (pss_cons (ps_set (i := 5) sc_great_web.nd rfl (.inr rfl) (pe_call (ok_take T) (hr.mono (by decide)) (by rfl) T.take.g T.take.F.kp T.take.b .nil pass0 (pa_cons (pv 0) (pa_cons pe_int pa_nil))))
      (pss_cons (ps_set (i := 6) sc_great_web.nd rfl (.inr rfl) (pe_op op_add pe_int (pe_call (ok_take T) (hr.mono (by decide)) (by rfl) T.take.g T.take.F.kp T.take.b .nil pass0 (pa_cons (pv 0) (pa_cons pe_int pa_nil)))))
      (pss_cons (ps_setLc (i := 7) (own := [("k", 13)]) (g := gName 13) (tt := tYes) rfl sc_great_web.nd rfl rfl (sw_true rfl rfl rfl (by decide +kernel)) (pi_range1 (by rfl) T.m_range (pa_cons (pv 1) pa_nil)) (blkOk_by (N := ["draws", "many", "some", "tied", "full", "one", "other", "chosen", "kinds", "ties", "place", "beside", "mixed", "k", "at"]) (sc := defScope s_great_web) (by decide +kernel)) (fun _ _ _ _ _ => (pg_name (i := 13) sc_great_web.nd rfl (.inl rfl))) (fun _ _ _ _ _ => pts_nil) (fun _ _ _ _ _ => (pe_op op_mod (pe_op op_mod (pe_op op_add (pe_op op_mul (pe_op op_mul (pv 13) (pv 13)) (pv 5)) (pe_op op_mul (pv 13) (pv 6))) pe_int) (pe_callB call_len_str (by rfl) T.m_len (by decide +kernel) (pa_cons (pv 2) pa_nil)))))
      (pss_cons (ps_set (i := 8) sc_great_web.nd rfl (.inl rfl) (pe_join pe_str (pe_lc (own := [("at", 14)]) (g := gName 14) (tt := tYes) rfl sc_great_web.nd (pi_list (pv 7)) (blkOk_by (N := ["draws", "many", "some", "tied", "full", "one", "other", "chosen", "kinds", "ties", "place", "beside", "mixed", "k", "at"]) (sc := defScope s_great_web) (by decide +kernel)) (fun _ _ _ _ _ => (pg_name (i := 14) sc_great_web.nd rfl (.inl rfl))) (fun _ _ _ _ _ => pts_nil) (fun _ _ _ _ _ => (pe_ix ix_str (pv 2) (pv 14) (fun _ _ => rfl))))))
      (pss_cons (ps_set (i := 9) sc_great_web.nd rfl (.inl rfl) (pe_lst pa_nil))
      (pss_cons (ps_for PassesOwn.never rfl (pi_range1 (by rfl) T.m_range (pa_cons (pv 1) pa_nil)) (pg_name (i := 10) sc_great_web.nd rfl (.inl rfl))
        (pss_one (ps_for PassesOwn.never rfl (pi_range2 (by rfl) T.m_range (pa_cons (pe_op op_add (pv 10) pe_int) (pa_cons (pv 1) pa_nil))) (pg_name (i := 11) sc_great_web.nd rfl (.inl rfl))
          (pss_cons (ps_set (i := 12) sc_great_web.nd rfl (.inl rfl) (pe_op op_add (pe_op op_mul (pe_op op_mul (pv 10) (pv 10)) (pv 5)) (pe_op op_mul (pv 11) (pv 6))))
          (pss_cons (ps_set (i := 12) sc_great_web.nd rfl (.inl rfl) (pe_op op_mod (pe_op op_add (pv 12) (pe_op op_mul (pe_op op_mul (pv 10) (pv 11)) pe_int)) pe_int))
          (pss_one (ps_if (pt_cmpR op_lt (pe_op op_mod (pv 12) pe_int) (pv 4) (nomark _))
            (pss_one (ps_expr (pe_bm PySem.F.plainAttrs_list PySem.F.slot_list_append PySem.F.type_list_append mt_append (pv 9) (pa_cons (pe_tup (pa_cons (pv 10) (pa_cons (pv 11) (pa_cons (pe_ix ix_str (pv 3) (pe_op op_mod (pe_op op_fdiv (pv 12) pe_int) (pe_callB call_len_str (by rfl) T.m_len (by decide +kernel) (pa_cons (pv 3) pa_nil))) (fun _ _ => rfl)) pa_nil)))) pa_nil))))
            pss_nil)))))))
      (pss_one (ps_ret (pe_tup (pa_cons (pv 8) (pa_cons (pe_callTy call_tuple_of (by rfl) T.m_tuple (by decide +kernel) (pa_cons (pv 9) pa_nil)) pa_nil)))))))))))))))), ?_⟩
    walk_at "rd"
    refine ⟨d, 13, rfl, by decide, hd, fun H1 m k1 hd1 m0 m1 => ?_⟩
    walk_at "rd"
    refine d_cut (fun σ' H' => ∃ n : Int, σ' = [some (.ref d), some (.int n), none, none, none, none, none, none, none, none, none, none, none, none, none] ∧ 0 ≤ n ∧ n ≤ 40 ∧ Keep d H H' ∧ Drs H' d) ?_ (fun σ' H' hM => ?_)
    · walk_at "rd"
      refine ⟨d, 4, rfl, by decide, hd1, fun H2 g k2 hd2 g0 g1 => ?_⟩
      walk_at "rd"
      refine ite2 (fun e => ?_) (fun e => ?_)
      · walk_at "rd"
        refine ⟨d, 41, rfl, by decide, hd2, fun H3 g3 k3 hd3 a3 b3 => ?_⟩
        walk_at "rd"
        refine ⟨sz (by show 2 ≤ 100000; decide), fun p fp => ?_⟩
        have np := hd3.ne fp
        walk_at "rd"
        refine ⟨d, 2, rfl, by decide, hd3.put np, fun H4 g4 k4 hd4 a4 b4 => ?_⟩
        have ep := k4 p _ np upd_same
        have kk : Keep d H H4 := Keep.trans (Keep.trans k1 (Keep.trans k2 k3)) (Keep.trans (Same.keep (same_new fp)) k4)
        have e4 : g4 = 0 ∨ g4 = 1 := by omega
        rcases e4 with rfl | rfl
        · exact d_ixLm ep rfl ⟨40, rfl, by decide, by decide, kk, hd4⟩
        · exact d_ixLm ep rfl ⟨g3, rfl, a3, by omega, kk, hd4⟩
      · walk_at "rd"
        exact ⟨m, rfl, m0, by omega, Keep.trans k1 k2, hd2⟩
    obtain ⟨n, rfl, n0, n40, kM, hdM⟩ := hM
    walk_at "rd"
    refine ⟨sz (by show 4 ≤ 100000; decide), fun p1 f1 => ?_⟩
    have np1 := hdM.ne f1
    walk_at "rd"
    refine ⟨d, 4, rfl, by decide, hdM.put np1, fun H1 g1 k1' hd1' a1 b1 => ?_⟩
    obtain ⟨some_, ls, e1⟩ := four (K := K) (k1' p1 _ np1 upd_same) a1 b1 (by unfold Lts; decide +kernel)
    refine e1 ?_
    have kM1 : Keep d H H1 := Keep.trans kM (Keep.trans (Same.keep (same_new f1)) k1')
    walk_at "rd"
    refine ⟨sz (by show 4 ≤ 100000; decide), fun p2 f2 => ?_⟩
    have np2 := hd1'.ne f2
    walk_at "rd"
    refine ⟨d, 4, rfl, by decide, hd1'.put np2, fun H2 g2 k2 hd2 a2 b2 => ?_⟩
    obtain ⟨tk, lt, e2⟩ := four (K := K) (k2 p2 _ np2 upd_same) a2 b2 (by unfold Lts; decide +kernel)
    refine e2 ?_
    have kM2 : Keep d H H2 := Keep.trans kM1 (Keep.trans (Same.keep (same_new f2)) k2)
    walk_at "rd"
    refine ⟨d, 10, rfl, by decide, hd2, fun H3 full k3 hd3 a3 b3 => ?_⟩
    walk_at "rd"
    refine ⟨d, 1000, rfl, by decide, hd3, fun H4 one k4 hd4 a4 b4 => ?_⟩
    walk_at "rd"
    refine ⟨d, 1000, rfl, by decide, hd4, fun H5 oth k5 hd5 a5 b5 => ?_⟩
    walk_at "rd"
    have kM5 : Keep d H H5 := Keep.trans kM2 (Keep.trans k3 (Keep.trans k4 k5))
    have lsp : (0 : Int) < some_.length := by have := ls.2.1; omega
    have ltp : (0 : Int) < tk.length := by have := lt.2.1; omega
    intro D fD
    refine lc_range (fun i H' => ∃ cs : List Int, cs.length = i ∧ (∀ c ∈ cs, 0 ≤ c ∧ c < some_.length) ∧ H' D = some (.lst (cs.map V.int)) ∧ Same H5 H') ⟨[], rfl, by simp, upd_same, same_new fD⟩ (fun i H' hi hP => ?_) (fun H' hP => ?_)
    · obtain ⟨cs, lc, bc, eD, sm⟩ := hP
      have hi' : i < 40 := by omega
      walk_at "rd"
      refine ⟨sz (by have := ls.2.2; omega), ?_⟩
      walk_at "rd"
      refine ⟨_, eD, szl (by rw [List.length_map]; omega), cs ++ [_], by rw [List.length_append, lc]; rfl, fun c hc => ?_, by rw [upd_same, List.map_append]; rfl, same_upd sm fD⟩
      rcases List.mem_append.mp hc with hc | hc
      · exact bc c hc
      · rw [List.mem_singleton.mp hc]
        exact ⟨Int.emod_nonneg _ (by omega), Int.emod_lt_of_pos _ lsp⟩
    obtain ⟨cs, lc, bc, eD, sm⟩ := hP
    have lcn : cs.length = n.toNat := lc
    have hdJ := hd5.same sm
    have kMJ := Keep.same kM5 sm
    walk_at "rd"
    refine d_iLe (SqL.of eD) ?_
    intro J fJ
    refine lc_list (K := K) (a := D) (xs := cs.map V.int) (fun i H6 => ∃ ds : List Nat, ds.length = i ∧ (∀ c ∈ ds, Ltr c) ∧ H6 J = some (.lst (ds.map fun c => V.str (sg c))) ∧ Same H' H6) ⟨[], rfl, by simp, upd_same, same_new fJ⟩ (fun i H6 _ hP => ?_) (fun i x H6 hx hP => ?_) (fun H6 hP => ?_)
    · obtain ⟨_, _, _, _, s6⟩ := hP
      exact SqL.of (s6 _ _ eD)
    · obtain ⟨ds, ld, bd, eJ, s6⟩ := hP
      rw [List.getElem?_map] at hx
      obtain ⟨z, hz, rfl⟩ := Option.map_eq_some_iff.mp hx
      have hi' := (List.getElem?_eq_some_iff.mp hz).1
      obtain ⟨z0, z1⟩ := bc z (List.mem_of_getElem? hz)
      obtain ⟨c, ec, lc'⟩ := ls.at z0 z1
      walk_at "rd"
      refine ⟨some_, z, c, rfl, rfl, sz (by have := ls.2.2; omega), ec, ?_⟩
      refine ⟨_, eJ, szl (by rw [List.length_map]; omega), ds ++ [c], by rw [List.length_append, ld]; rfl, fun x hx => ?_, by rw [upd_same, List.map_append]; rfl, same_upd s6 fJ⟩
      rcases List.mem_append.mp hx with hx | hx
      · exact bd x hx
      · rw [List.mem_singleton.mp hx]; exact lc'
    obtain ⟨ds, ld, bd, eJ, s6⟩ := hP
    rw [List.length_map] at ld
    have hd6 := hdJ.same s6
    have kM6 := Keep.same kMJ s6
    refine ⟨_, J, ds.map sg, rfl, rfl, .inl (SqL.of (by rw [List.map_map]; exact eJ)), ?_, ?_⟩
    · rw [sum_const _ 1 _ (by intro x hx; obtain ⟨c, _, rfl⟩ := List.mem_map.mp hx; rfl), List.length_map]
      have e0 : (Str.ofString "").length = 0 := by decide +kernel
      rw [e0]; omega
    rw [join_signs]
    walk_at "rd"
    refine ⟨sz (by decide), fun l fl => ?_⟩
    walk_at "rd"
    have nl := hd6.ne fl
    refine for_range (fun i σ H7 => ∃ y10 y11 y12 ts tvs, σ = [some (.ref d), some (.int n), some (.str some_), some (.str tk), some (.int full), some (.int one), some (.int (1 + oth)), some (.ref D), some (.str ⟨ds.toArray⟩), some (.ref l), y10, y11, y12, none, none] ∧ H7 l = some (.lst tvs) ∧ Paired (TieAt K H7) tvs ts ∧ ts.Pairwise tlt ∧
      (∀ t ∈ ts, t.1 < i ∧ t.1 < t.2.1 ∧ t.2.1 < n.toNat ∧ Ltr t.2.2) ∧ ts.length ≤ 40 * i ∧ Same H6 H7) ⟨_, _, _, [], [], rfl, upd_same, .nil, .nil, by simp, by simp, same_new fl⟩ (fun i σ H7 hi hP => ?_) (fun σ H7 hP => ?_)
    · obtain ⟨y10, y11, y12, ts, tvs, rfl, eL, pT, sT, bT, lT, s7⟩ := hP
      have hi' : i < 40 := by omega
      walk_at "rd"
      refine for_range (fun j σ H8 => ∃ y11 y12 ts tvs, σ = [some (.ref d), some (.int n), some (.str some_), some (.str tk), some (.int full), some (.int one), some (.int (1 + oth)), some (.ref D), some (.str ⟨ds.toArray⟩), some (.ref l), some (.int (0 + (i : Nat))), y11, y12, none, none] ∧ H8 l = some (.lst tvs) ∧ Paired (TieAt K H8) tvs ts ∧ ts.Pairwise tlt ∧
        (∀ t ∈ ts, (t.1 < i ∨ (t.1 = i ∧ t.2.1 < i + 1 + j)) ∧ t.1 < t.2.1 ∧ t.2.1 < n.toNat ∧ Ltr t.2.2) ∧ ts.length ≤ 40 * i + j ∧ Same H6 H8) ⟨_, _, ts, tvs, rfl, eL, pT, sT, fun t ht => ⟨.inl (bT t ht).1, (bT t ht).2⟩, lT, s7⟩ (fun j σ H8 hj hP => ?_) (fun σ H8 hP => ?_)
      · obtain ⟨z11, z12, us, uvs, rfl, eL8, pU, sU, bU, lU, s8⟩ := hP
        have hj' : j < 40 := by omega
        walk_at "rd"
        refine ite2 (fun e => ?_) (fun e => ?_)
        · walk_at "rd"
          refine d_app eL8 ?_
          walk_at "rd"
          first | (refine d_lenS (z := tk) (sz (by have := lt.2.2; omega)) ?_) | (refine ⟨sz (by have := lt.2.2; omega), ?_⟩)
          walk_at "rd"
          obtain ⟨c, ec, lc⟩ := lt.at (Int.emod_nonneg _ (by omega)) (Int.emod_lt_of_pos _ ltp)
          refine ⟨tk, _, c, rfl, rfl, sz (by have := lt.2.2; omega), ec, ?_⟩
          walk_at "rd"
          refine ⟨sz (by show 3 ≤ 100000; decide), fun p fp => ?_⟩
          walk_at "rd"
          have npl : l ≠ p := ne_of_none eL8 fp
          have eL9 : (upd H8 p (.tup [V.int (0 + (i : Nat)), V.int (0 + (i : Nat) + 1 + (j : Nat)), V.str (sg c)])) l = some (.lst uvs) := by rw [upd_ne npl]; exact eL8
          have luv : uvs.length = us.length := Paired.length pU
          refine d_append eL9 (szl (by omega)) ?_
          refine ⟨_, _, us ++ [(i, i + 1 + j, c)], uvs ++ [.ref p], rfl, upd_same, ?_, ?_, ?_, ?_, ?_⟩
          · have lst9 : ∃ ys, (upd H8 p (.tup [V.int (0 + (i : Nat)), V.int (0 + (i : Nat) + 1 + (j : Nat)), V.str (sg c)])) l = some (.lst ys) := ⟨_, eL9⟩
            refine Paired.snoc (Paired.imp pU fun _ _ z => (z.put (.inl fp)).put (.inr lst9)) ⟨p, rfl, ?_⟩
            refine sqt_upd (.inr lst9) (SqT.of ?_)
            rw [upd_same]
            simp only [Int.zero_add]
            rfl
          · refine List.pairwise_append.mpr ⟨sU, List.pairwise_singleton _ _, fun a ha b hb => ?_⟩
            rw [List.mem_singleton.mp hb]
            rcases (bU a ha).1 with z | ⟨z1, z2⟩
            · exact .inl z
            · exact .inr ⟨z1, z2⟩
          · intro t ht
            rcases List.mem_append.mp ht with ht | ht
            · obtain ⟨z1, z2⟩ := bU t ht
              refine ⟨?_, z2⟩
              rcases z1 with z | ⟨z3, z4⟩
              · exact .inl z
              · exact .inr ⟨z3, by omega⟩
            · rw [List.mem_singleton.mp ht]
              exact ⟨.inr ⟨rfl, by show i + 1 + j < i + 1 + (j + 1); omega⟩, by show i < i + 1 + j; omega, by show i + 1 + j < n.toNat; omega, lc⟩
          · rw [List.length_append]; show us.length + 1 ≤ _; omega
          · exact same_upd (same_upd s8 (Same.free s8 fp)) fl
        · walk_at "rd"
          exact ⟨_, _, us, uvs, rfl, eL8, pU, sU, fun t ht => ⟨(bU t ht).1.elim .inl fun z => .inr ⟨z.1, by omega⟩, (bU t ht).2⟩, by omega, s8⟩
      · obtain ⟨z11, z12, us, uvs, rfl, eL8, pU, sU, bU, lU, s8⟩ := hP
        walk_at "rd"
        exact ⟨_, _, _, us, uvs, rfl, eL8, pU, sU, fun t ht => ⟨(bU t ht).1.elim (fun z => by omega) fun z => by omega, (bU t ht).2⟩, by omega, s8⟩
    · obtain ⟨y10, y11, y12, ts, tvs, rfl, eL, pT, sT, bT, lT, s7⟩ := hP
      walk_at "rd"
      refine ⟨l, tvs, rfl, .inl ⟨SqL.of eL, fun R fR => ?_⟩⟩
      walk_at "rd"
      refine ⟨sz (by show 2 ≤ 100000; decide), fun W' fW => ?_⟩
      have sR := same_new (o := .tup tvs) fR
      have sW := same_new (o := .tup [V.str ⟨ds.toArray⟩, V.ref R]) fW
      have sf := Same.trans s7 (Same.trans sR sW)
      refine q _ _ (ds, ts) (Keep.same kM6 sf) (hd6.same sf) ⟨W', R, tvs, rfl, SqT.of upd_same, SqT.of (sW _ _ upd_same), Paired.imp pT fun _ _ z => z.same (Same.trans sR sW)⟩ ⟨by show ds.length ≤ 40; omega, by show ts.length ≤ 1600; omega, bd, sT, fun t ht => ?_⟩
      obtain ⟨z1, z2, z3, z4⟩ := bT t ht
      exact ⟨z2, by show _ < ds.length; omega, z4⟩
def spCCS : Sp := fun vs H Q _ => ∃ x y : List Nat, vs = [.str ⟨x.toArray⟩, .str ⟨y.toArray⟩] ∧ x.length ≤ 1600 ∧ y.length ≤ 1600 ∧ ∀ H', Same H H' → Q (.int (csum x y : Nat)) H'
theorem ok_common_countS (T : Tx K mg) : FnOk P w K mg base CX0 1 T.common_count.f T.common_count.fd ["these", "those"] spCCS := by
  refine T.common_count.F.ok sc_common_count (fun vs H Q E h => ?_) (fun cdv A outer s H vs Q E hr h => ?_)
  · obtain ⟨_, _, rfl, _⟩ := h; rfl
  · obtain ⟨x, y, rfl, lx, ly, q⟩ := h
    refine ⟨_, (pss_cons (ps_set (i := 2) sc_common_count.nd rfl (.inl rfl) pe_dnewK)
      (pss_cons (ps_for PassesOwn.never rfl (pi_str (pv 1)) (pg_name (i := 3) sc_common_count.nd rfl (.inl rfl))
        (pss_one (ps_dput (hu_of hr) (pv 2) (pv 3) (pe_op op_add (pe_dget2 (hu_of hr) (pv 2) (pv 3) pe_int ⟨rfl, rfl, rfl, rfl⟩) pe_int) rfl)))
      (pss_cons (ps_set (i := 4) sc_common_count.nd rfl (.inl rfl) pe_int)
      (pss_cons (ps_for PassesOwn.never rfl (pi_str (pv 0)) (pg_name (i := 3) sc_common_count.nd rfl (.inl rfl))
        (pss_one (ps_if (pt_cmpR op_gt (pe_dget2 (hu_of hr) (pv 2) (pv 3) pe_int ⟨rfl, rfl, rfl, rfl⟩) pe_int (nomark _))
          (pss_cons (ps_daug (hu_of hr) (pv 2) (pv 3) pe_int in_sub (fun _ _ _ => rfl))
          (pss_one (ps_aug (i := 4) sc_common_count.nd rfl (.inl rfl) pe_int ip_add)))
          pss_nil)))
      (pss_one (ps_ret (pv 4))))))), ?_⟩
    walk_at "rd"
    intro d fd
    walk_at "rd"
    have s0 := same_new (o := .dK []) fd
    refine for_it walk_str (fun i σ H' => ∃ y3 y4 kvs, σ = [some (.str ⟨x.toArray⟩), some (.str ⟨y.toArray⟩), some (.ref d), y3, y4] ∧ Same H H' ∧ H' d = some (.dK kvs) ∧ CntIs kS kvs (y.take i) ∧ kvs.length ≤ i) ⟨_, _, [], rfl, s0, upd_same, CntIs.nil, Nat.le_refl _⟩ (fun _ _ _ _ _ => trivial) (fun i v σ H1 H2 hi hP hy => ?_) (fun σ H' hP => ?_)
    · obtain ⟨y3, y4, kvs, rfl, sm, ed, cn, lk⟩ := hP
      obtain ⟨rfl, c, hc, rfl⟩ := hy
      have hc' : y[i]? = some c := by simpa using hc
      have hi' := (List.getElem?_eq_some_iff.mp hc').1
      walk_at "rd"
      refine ⟨d, rfl, .inl ⟨_, .of ed⟩, ?_⟩
      walk_at "rd"
      refine ⟨_, DGet.k (k := kS c) ed, ?_⟩
      rw [cn c]
      walk_at "rd"
      refine ⟨d, _, rfl, DPut.k (k := kS c) ed (szl (by omega)), ?_⟩
      refine ⟨_, _, _, rfl, same_upd sm fd, upd_same, ?_, Nat.le_trans (putK_few _ _) (by omega)⟩
      rw [take_snoc hc']
      exact cn.add kS_inj c
    · obtain ⟨y3, y4, kvs, rfl, sm, ed, cn, lk⟩ := hP
      have e1 : (⟨y.toArray⟩ : Str).cps.size = y.length := by simp
      rw [e1] at cn lk
      rw [List.take_length] at cn
      walk_at "rd"
      refine for_it walk_str (fun i σ H' => ∃ y3 kvs, σ = [some (.str ⟨x.toArray⟩), some (.str ⟨y.toArray⟩), some (.ref d), y3, some (.int (csum (x.take i) y : Nat))] ∧ Same H H' ∧ H' d = some (.dK kvs) ∧ CntIs kS kvs (cleft (x.take i) y) ∧ kvs.length ≤ y.length) ⟨_, kvs, rfl, sm, ed, cn, lk⟩ (fun _ _ _ _ _ => trivial) (fun i v σ H1 H2 hi hP hy => ?_) (fun σ H' hP => ?_)
      · obtain ⟨y3, kvs, rfl, sm, ed, cn, lk⟩ := hP
        obtain ⟨rfl, c, hc, rfl⟩ := hy
        have hc' : x[i]? = some c := by simpa using hc
        walk_at "rd"
        refine ⟨d, rfl, .inl ⟨_, .of ed⟩, ?_⟩
        walk_at "rd"
        refine ⟨_, DGet.k (k := kS c) ed, ?_⟩
        rw [cn c]
        walk_at "rd"
        refine ite2 (fun e => ?_) (fun e => ?_)
        · have e' := of_decide_eq_true e
          have hm := cnt_in e'
          walk_at "rd"
          refine ⟨d, _, rfl, by rw [← cn.there hm]; exact DGet.k (k := kS c) ed, ?_⟩
          walk_at "rd"
          refine ⟨_, _, rfl, rfl, _, DPut.k (k := kS c) ed (szl (by omega)), ?_⟩
          walk_at "rd"
          refine ⟨_, _, rfl, rfl, ?_⟩
          walk_at "rd"
          rw [csum_in hc' hm]
          exact ⟨_, _, rfl, same_upd sm fd, upd_same, cn.turn kS_inj hc' hm, by rw [putK_same (cn.there hm)]; exact lk⟩
        · have hm := cnt_out (i := i) (c := c) (x := x) (y := y) fun z => e (decide_eq_true z)
          walk_at "rd"
          rw [csum_out hc' hm, cleft_out hc' hm]
          exact ⟨_, kvs, rfl, sm, ed, cn, lk⟩
      · obtain ⟨y3, kvs, rfl, sm, ed, cn, lk⟩ := hP
        have e1 : (⟨x.toArray⟩ : Str).cps.size = x.length := by simp
        rw [e1, List.take_length]
        walk_at "rd"
        exact q _ sm
def spCCT (K : PySem.W.Frag) : Sp := fun vs H Q _ => ∃ (a b : Addr) (xs ys : List V) (x y : List Tr3), vs = [.ref a, .ref b] ∧ SqL K H a xs ∧ SqL K H b ys ∧ Paired (TriAt H) xs x ∧ Paired (TriAt H) ys y ∧ x.length ≤ 1600 ∧ y.length ≤ 1600 ∧ ∀ H', Same H H' → Q (.int (csum x y : Nat)) H'
theorem ok_common_countT (T : Tx K mg) : FnOk P w K mg base CX0 1 T.common_count.f T.common_count.fd ["these", "those"] (spCCT K) := by
  refine T.common_count.F.ok sc_common_count (fun vs H Q E h => ?_) (fun cdv A outer s H vs Q E hr h => ?_)
  · obtain ⟨_, _, _, _, _, _, rfl, _⟩ := h; rfl
  · obtain ⟨a, b, xs, ys, x, y, rfl, ha, hb, px, py, lx, ly, q⟩ := h
    have lxs := px.length
    have lys := py.length
    refine ⟨_, (pss_cons (ps_set (i := 2) sc_common_count.nd rfl (.inl rfl) pe_dnewT)
      (pss_cons (ps_for PassesOwn.never rfl (pi_list (pv 1)) (pg_name (i := 3) sc_common_count.nd rfl (.inl rfl))
        (pss_one (ps_dput (hu_of hr) (pv 2) (pv 3) (pe_op op_add (pe_dget2 (hu_of hr) (pv 2) (pv 3) pe_int ⟨rfl, rfl, rfl, rfl⟩) pe_int) rfl)))
      (pss_cons (ps_set (i := 4) sc_common_count.nd rfl (.inl rfl) pe_int)
      (pss_cons (ps_for PassesOwn.never rfl (pi_list (pv 0)) (pg_name (i := 3) sc_common_count.nd rfl (.inl rfl))
        (pss_one (ps_if (pt_cmpR op_gt (pe_dget2 (hu_of hr) (pv 2) (pv 3) pe_int ⟨rfl, rfl, rfl, rfl⟩) pe_int (nomark _))
          (pss_cons (ps_daug (hu_of hr) (pv 2) (pv 3) pe_int in_sub (fun _ _ _ => rfl))
          (pss_one (ps_aug (i := 4) sc_common_count.nd rfl (.inl rfl) pe_int ip_add)))
          pss_nil)))
      (pss_one (ps_ret (pv 4))))))), ?_⟩
    walk_at "rd"
    intro d fd
    walk_at "rd"
    have s0 := same_new (o := .dT []) fd
    refine d_iLe (Same.seq s0 hb) ?_
    refine for_list (K := K) (a := b) (xs := ys) (fun i σ H' => ∃ y3 y4 kvs, σ = [some (.ref a), some (.ref b), some (.ref d), y3, y4] ∧ Same H H' ∧ H' d = some (.dT kvs) ∧ CntIs kT kvs (y.take i) ∧ kvs.length ≤ i) ⟨_, _, [], rfl, s0, upd_same, CntIs.nil, Nat.le_refl _⟩ (fun i σ H' _ hP => ?_) (fun i v σ H2 hi hP => ?_) (fun σ H' hP => ?_)
    · obtain ⟨_, _, _, _, sm, _⟩ := hP
      exact Same.seq sm hb
    · obtain ⟨y3, y4, kvs, rfl, sm, ed, cn, lk⟩ := hP
      obtain ⟨c, hc, p, rfl, ep⟩ := Paired.at py hi
      have hi' := (List.getElem?_eq_some_iff.mp hc).1
      have ep2 : H2 p = some (.tup ((kT c).map kV)) := sm _ _ ep
      walk_at "rd"
      refine ⟨d, rfl, .inr ⟨_, .of ed⟩, ?_⟩
      walk_at "rd"
      refine ⟨_, DGet.t (k := kT c) ed ep2, ?_⟩
      rw [cn c]
      walk_at "rd"
      refine ⟨d, _, rfl, DPut.t (k := kT c) ed ep2 (szl (by omega)), ?_⟩
      refine ⟨_, _, _, rfl, same_upd sm fd, upd_same, ?_, Nat.le_trans (putK_few _ _) (by omega)⟩
      rw [take_snoc hc]
      exact cn.add kT_inj c
    · obtain ⟨y3, y4, kvs, rfl, sm, ed, cn, lk⟩ := hP
      rw [lys, List.take_length] at cn
      rw [lys] at lk
      walk_at "rd"
      refine d_iLe (Same.seq sm ha) ?_
      refine for_list (K := K) (a := a) (xs := xs) (fun i σ H' => ∃ y3 kvs, σ = [some (.ref a), some (.ref b), some (.ref d), y3, some (.int (csum (x.take i) y : Nat))] ∧ Same H H' ∧ H' d = some (.dT kvs) ∧ CntIs kT kvs (cleft (x.take i) y) ∧ kvs.length ≤ y.length) ⟨_, kvs, rfl, sm, ed, cn, lk⟩ (fun i σ H' _ hP => ?_) (fun i v σ H2 hi hP => ?_) (fun σ H' hP => ?_)
      · obtain ⟨_, _, _, sm, _⟩ := hP
        exact Same.seq sm ha
      · obtain ⟨y3, kvs, rfl, sm, ed, cn, lk⟩ := hP
        obtain ⟨c, hc, p, rfl, ep⟩ := Paired.at px hi
        have ep2 : H2 p = some (.tup ((kT c).map kV)) := sm _ _ ep
        walk_at "rd"
        refine ⟨d, rfl, .inr ⟨_, .of ed⟩, ?_⟩
        walk_at "rd"
        refine ⟨_, DGet.t (k := kT c) ed ep2, ?_⟩
        rw [cn c]
        walk_at "rd"
        refine ite2 (fun e => ?_) (fun e => ?_)
        · have e' := of_decide_eq_true e
          have hm := cnt_in e'
          walk_at "rd"
          refine ⟨d, _, rfl, by rw [← cn.there hm]; exact DGet.t (k := kT c) ed ep2, ?_⟩
          walk_at "rd"
          refine ⟨_, _, rfl, rfl, _, DPut.t (k := kT c) ed ep2 (szl (by omega)), ?_⟩
          walk_at "rd"
          refine ⟨_, _, rfl, rfl, ?_⟩
          walk_at "rd"
          rw [csum_in hc hm]
          exact ⟨_, _, rfl, same_upd sm fd, upd_same, cn.turn kT_inj hc hm, by rw [putK_same (cn.there hm)]; exact lk⟩
        · have hm := cnt_out (i := i) (c := c) (x := x) (y := y) fun z => e (decide_eq_true z)
          walk_at "rd"
          rw [csum_out hc hm, cleft_out hc hm]
          exact ⟨_, kvs, rfl, sm, ed, cn, lk⟩
      · obtain ⟨y3, kvs, rfl, sm, ed, cn, lk⟩ := hP
        rw [lxs, List.take_length]
        walk_at "rd"
        exact q _ sm
/-- a tie's three letters -/
def spThree (K : PySem.W.Frag) : Sp := fun vs H Q _ => ∃ (v : V) (u : Web) (t : Tie), vs = [.str ⟨u.1.toArray⟩, v] ∧ WOk u ∧ t ∈ u.2 ∧ TieAt K H v t ∧ ∀ H' p, Same H H' → H p = none → H' p = some (.tup (tr3V (tri u t))) → Q (.ref p) H'
theorem getD_at {u : Web} {i : Nat} (h : i < u.1.length) : atI (⟨u.1.toArray⟩ : Str).cps.toList (i : Int) = some (u.1.getD i 0) := by
  refine atI_nat ?_
  rw [List.getD_eq_getElem?_getD]
  simp [h]
theorem ok_three_letters (T : Tx K mg) : FnOk P w K mg base CX0 1 T.three_letters.f T.three_letters.fd ["kinds", "tie"] (spThree K) := by
  refine T.three_letters.F.ok sc_three_letters (fun vs H Q E h => ?_) (fun cdv A outer s H vs Q E hr h => ?_)
  · obtain ⟨_, _, _, rfl, _⟩ := h; rfl
  · obtain ⟨v, u, t, rfl, W, ht, ⟨a, rfl, ha⟩, q⟩ := h
    obtain ⟨h1, h2, h3⟩ := W.ends t ht
    have l40 := W.few
    have lz : (⟨u.1.toArray⟩ : Str).length ≤ sizeLine := sz (by show u.1.toArray.size ≤ _; simp; omega)
    refine ⟨_, (pss_cons (ps_asg (pv 1) (pg_tup rfl (pgs_cons (pg_name (i := 2) sc_three_letters.nd rfl (.inl rfl)) (pgs_cons (pg_name (i := 3) sc_three_letters.nd rfl (.inl rfl)) (pgs_cons (pg_name (i := 4) sc_three_letters.nd rfl (.inl rfl)) pgs_nil)))))
      (pss_one (ps_ret (pe_tup (pa_cons (pv 4) (pa_cons (pe_callB (cr_min2S rfl) (by rfl) T.m_min (by decide +kernel) (pa_cons (pe_ix ix_str (pv 0) (pv 2) (fun _ _ => rfl)) (pa_cons (pe_ix ix_str (pv 0) (pv 3) (fun _ _ => rfl)) pa_nil))) (pa_cons (pe_callB (cr_max2S rfl) (by rfl) T.m_max (by decide +kernel) (pa_cons (pe_ix ix_str (pv 0) (pv 2) (fun _ _ => rfl)) (pa_cons (pe_ix ix_str (pv 0) (pv 3) (fun _ _ => rfl)) pa_nil))) pa_nil))))))), ?_⟩
    walk_at "rd"
    refine d_gtup ha rfl ?_
    walk_at "rd"
    refine ⟨_, _, _, rfl, rfl, lz, getD_at (by omega), ?_⟩
    walk_at "rd"
    refine ⟨_, _, _, rfl, rfl, lz, getD_at h2, ?_⟩
    walk_at "rd"
    refine ⟨_, _, rfl, ?_⟩
    walk_at "rd"
    refine ⟨_, _, _, rfl, rfl, lz, getD_at (by omega), ?_⟩
    walk_at "rd"
    refine ⟨_, _, _, rfl, rfl, lz, getD_at h2, ?_⟩
    walk_at "rd"
    refine ⟨_, _, rfl, ?_⟩
    walk_at "rd"
    refine ⟨sz (by show 3 ≤ 100000; decide), fun p fp => ?_⟩
    refine q _ p (same_new fp) fp ?_
    rw [upd_same, tri_V]
def spLetters3 (K : PySem.W.Frag) : Sp := fun vs H Q _ => ∃ (v : V) (u : Web), vs = [v] ∧ WebAt K H v u ∧ WOk u ∧ ∀ H' p xs, Same H H' → H p = none → H' p = some (.lst xs) → Paired (TriAt H') xs (tris u) → Q (.ref p) H'
theorem ok_letters_of_ties (T : Tx K mg) : FnOk P w K mg base CX0 2 T.letters_of_ties.f T.letters_of_ties.fd ["web"] (spLetters3 K) := by
  refine T.letters_of_ties.F.ok sc_letters_of_ties (fun vs H Q E h => ?_) (fun cdv A outer s H vs Q E hr h => ?_)
  · obtain ⟨_, _, rfl, _⟩ := h; rfl
  · obtain ⟨v, u, rfl, ⟨a, b, tvs, rfl, qa, qb, pt⟩, W, q⟩ := h
    have l16 := W.most
    have lpt := pt.length
    refine ⟨_, (pss_one (ps_ret (pe_lc (own := [("tie", 1)]) (g := gName 1) (tt := tYes) (te := tCall (spThree K) [] E0 (tCons (tOp (rIxT K) (tVar 0) (tC (.int 0))) (tCons (tVar 1) tNil))) rfl sc_letters_of_ties.nd (pi_tup (pe_ix ix_tup (pv 0) pe_int (fun _ _ => rfl))) (blkOk_by (N := ["web", "tie"]) (sc := defScope s_letters_of_ties) (by decide +kernel)) (fun _ _ _ _ _ => (pg_name (i := 1) sc_letters_of_ties.nd rfl (.inl rfl))) (fun _ _ _ _ _ => pts_nil) (fun _ _ _ _ _ => (pe_call (ok_three_letters T) (hr.mono (by decide)) (by rfl) T.three_letters.g T.three_letters.F.kp T.three_letters.b .nil pass0 (pa_cons (pe_ix ix_tup (pv 0) pe_int (fun _ _ => rfl)) (pa_cons (pv 1) pa_nil))))))), ?_⟩
    walk_at "rd"
    refine d_ixT qa rfl ?_
    walk_at "rd"
    refine d_iTe qb ?_
    intro D fD
    refine lc_tup (K := K) (a := b) (xs := tvs) (fun i H' => ∃ xs, H' D = some (.lst xs) ∧ Paired (TriAt H') xs ((tris u).take i) ∧ Same H H') ⟨[], upd_same, .nil, same_new fD⟩ (fun i H' _ hP => ?_) (fun i x H' hx hP => ?_) (fun H' hP => ?_)
    · obtain ⟨_, _, _, sm⟩ := hP
      exact Same.sqt sm qb
    · obtain ⟨xs, eD, pp, sm⟩ := hP
      obtain ⟨t, ht, zt⟩ := Paired.at pt hx
      have lxs := pp.length
      have lt := (List.getElem?_eq_some_iff.mp ht).1
      rw [List.length_take] at lxs
      walk_at "rd"
      refine d_ixT (Same.sqt sm qa) rfl ?_
      walk_at "rd"
      refine ⟨x, u, t, rfl, W, List.mem_of_getElem? ht, zt.same sm, fun H1 p s1 f1 e1 => ?_⟩
      have eD1 := s1 _ _ eD
      refine ⟨xs, eD1, szl (by omega), xs ++ [.ref p], upd_same, ?_, same_upd (Same.trans sm s1) fD⟩
      have ht' : (tris u)[i]? = some (tri u t) := by unfold tris; rw [List.getElem?_map, ht]; rfl
      rw [take_snoc ht']
      have nD : ∀ ys, H1 D ≠ some (.tup ys) := fun ys z => by rw [eD1] at z; cases z
      exact Paired.snoc (Paired.imp pp fun _ _ z => (z.same s1).put nD) (TriAt.put ⟨p, rfl, e1⟩ nD)
    · obtain ⟨xs, eD, pp, sm⟩ := hP
      have e : (tris u).take tvs.length = tris u := List.take_of_length_le (by unfold tris; rw [List.length_map, lpt]; exact Nat.le_refl _)
      rw [e] at pp
      walk_at "rd"
      exact q H' D xs sm fD eD pp
def spByK (K : PySem.W.Frag) (f : Web → Web → Nat) : Sp := fun vs H Q _ => ∃ (v v' : V) (u u' : Web), vs = [v, v'] ∧ WebAt K H v u ∧ WOk u ∧ WebAt K H v' u' ∧ WOk u' ∧ ∀ H', Same H H' → Q (.int (f u u' : Nat)) H'
theorem ok_by_kinds (T : Tx K mg) : FnOk P w K mg base CX0 2 T.by_kinds.f T.by_kinds.fd ["one", "other"] (spByK K fun u u' => csum u.1 u'.1) := by
  refine T.by_kinds.F.ok sc_by_kinds (fun vs H Q E h => ?_) (fun cdv A outer s H vs Q E hr h => ?_)
  · obtain ⟨_, _, _, _, rfl, _⟩ := h; rfl
  · obtain ⟨v, v', u, u', rfl, ⟨a, b, tvs, rfl, qa, qb, pt⟩, W, ⟨a', b', tvs', rfl, qa', qb', pt'⟩, W', q⟩ := h
    refine ⟨_, (pss_one (ps_ret (pe_call (ok_common_countS T) (hr.mono (by decide)) (by rfl) T.common_count.g T.common_count.F.kp T.common_count.b .nil pass0 (pa_cons (pe_ix ix_tup (pv 0) pe_int (fun _ _ => rfl)) (pa_cons (pe_ix ix_tup (pv 1) pe_int (fun _ _ => rfl)) pa_nil))))), ?_⟩
    walk_at "rd"
    refine d_ixT qa rfl ?_
    walk_at "rd"
    refine d_ixT qa' rfl ?_
    walk_at "rd"
    have l1 := W.few
    have l2 := W'.few
    exact ⟨u.1, u'.1, rfl, by omega, by omega, q⟩
theorem ok_by_tie_kinds (T : Tx K mg) : FnOk P w K mg base CX0 3 T.by_tie_kinds.f T.by_tie_kinds.fd ["one", "other"] (spByK K fun u u' => csum (tris u) (tris u')) := by
  refine T.by_tie_kinds.F.ok sc_by_tie_kinds (fun vs H Q E h => ?_) (fun cdv A outer s H vs Q E hr h => ?_)
  · obtain ⟨_, _, _, _, rfl, _⟩ := h; rfl
  · obtain ⟨v, v', u, u', rfl, hw, W, hw', W', q⟩ := h
    refine ⟨_, (pss_one (ps_ret (pe_call (ok_common_countT T) (hr.mono (by decide)) (by rfl) T.common_count.g T.common_count.F.kp T.common_count.b .nil pass0 (pa_cons (pe_call (ok_letters_of_ties T) (hr.mono (by decide)) (by rfl) T.letters_of_ties.g T.letters_of_ties.F.kp T.letters_of_ties.b .nil pass0 (pa_cons (pv 0) pa_nil)) (pa_cons (pe_call (ok_letters_of_ties T) (hr.mono (by decide)) (by rfl) T.letters_of_ties.g T.letters_of_ties.F.kp T.letters_of_ties.b .nil pass0 (pa_cons (pv 1) pa_nil)) pa_nil))))), ?_⟩
    walk_at "rd"
    refine ⟨v, u, rfl, hw, W, fun H1 p xs s1 f1 e1 p1 => ?_⟩
    walk_at "rd"
    refine ⟨v', u', rfl, hw'.same s1, W', fun H2 p' xs' s2 f2 e2 p2 => ?_⟩
    walk_at "rd"
    have l1 := W.most
    have l2 := W'.most
    exact ⟨p, p', xs, xs', tris u, tris u', rfl, SqL.of (s2 _ _ e1), SqL.of e2, Paired.imp p1 (fun _ _ z => z.same s2), p2, by unfold tris; rw [List.length_map]; omega, by unfold tris; rw [List.length_map]; omega, fun H' s3 => q H' (Same.trans s1 (Same.trans s2 s3))⟩
def spWhole : Sp := fun vs H Q _ => ∃ n : Int, vs = [.int n] ∧ ∀ H', Same H H' → Q (.bl true) H'
theorem ok_whole (T : Tx K mg) : FnOk P w K mg base CX0 1 T.whole.f T.whole.fd ["thing"] spWhole := by
  refine T.whole.F.ok sc_whole (fun vs H Q E h => ?_) (fun cdv A outer s H vs Q E hr h => ?_)
  · obtain ⟨_, rfl, _⟩ := h; rfl
  · obtain ⟨n, rfl, q⟩ := h
    refine ⟨_, (pss_one (ps_ret (pe_and (pe_callB call_isi (by rfl) T.m_isinstance (by decide +kernel) (pa_cons (pv 0) (pa_cons (pe_bltn (by rfl) T.m_int (by decide +kernel) (v := .ty "int") rfl) pa_nil))) (pe_one (pe_not (pe_callB call_isi (by rfl) T.m_isinstance (by decide +kernel) (pa_cons (pv 0) (pa_cons (pe_bltn (by rfl) T.m_bool (by decide +kernel) (v := .ty "bool") rfl) pa_nil)))))))), ?_⟩
    walk_at "rd"
    refine ⟨_, _, _, _, true, rfl, .ty "int", .base (.int _), kit_ty (by decide +kernel), ?_⟩
    walk_at "rd"
    refine ⟨_, _, _, _, false, rfl, .ty "bool", .base (.int _), kit_ty (by decide +kernel), ?_⟩
    walk_at "rd"
    exact q _ (Same.refl _)
/-- the law's own three letters -/
def spThreeL (K : PySem.W.Frag) : Sp := fun vs H Q _ => ∃ (v v' : V) (u : Web) (t : Tie), vs = [v, v'] ∧ WebAt K H v u ∧ WOk u ∧ t ∈ u.2 ∧ TieAt K H v' t ∧ ∀ H' p, Same H H' → H p = none → H' p = some (.tup (tr3V (tri u t))) → Q (.ref p) H'
theorem ok_three (T : Tx K mg) : FnOk P w K mg base CX0 1 T.three.f T.three.fd ["web", "tie"] (spThreeL K) := by
  refine T.three.F.ok sc_three (fun vs H Q E h => ?_) (fun cdv A outer s H vs Q E hr h => ?_)
  · obtain ⟨_, _, _, _, rfl, _⟩ := h; rfl
  · obtain ⟨v, v', u, t, rfl, ⟨a, b, tvs, rfl, qa, qb, pt⟩, W, ht, ⟨c, rfl, hc⟩, q⟩ := h
    obtain ⟨h1, h2, h3⟩ := W.ends t ht
    have l40 := W.few
    have lz : (⟨u.1.toArray⟩ : Str).length ≤ sizeLine := sz (by show u.1.toArray.size ≤ _; simp; omega)
    refine ⟨_, (pss_cons (ps_asg (pv 1) (pg_tup rfl (pgs_cons (pg_name (i := 2) sc_three.nd rfl (.inl rfl)) (pgs_cons (pg_name (i := 3) sc_three.nd rfl (.inl rfl)) (pgs_cons (pg_name (i := 4) sc_three.nd rfl (.inl rfl)) pgs_nil)))))
      (pss_cons (ps_set (i := 5) sc_three.nd rfl (.inl rfl) (pe_lst (pa_cons (pe_ix ix_str (pe_ix ix_tup (pv 0) pe_int (fun _ _ => rfl)) (pv 2) (fun _ _ => rfl)) (pa_cons (pe_ix ix_str (pe_ix ix_tup (pv 0) pe_int (fun _ _ => rfl)) (pv 3) (fun _ _ => rfl)) pa_nil))))
      (pss_one (ps_ret (pe_tup (pa_cons (pv 4) (pa_cons (pe_callB (cr_minLS rfl) (by rfl) T.m_min (by decide +kernel) (pa_cons (pv 5) pa_nil)) (pa_cons (pe_callB (cr_maxLS rfl) (by rfl) T.m_max (by decide +kernel) (pa_cons (pv 5) pa_nil)) pa_nil)))))))), ?_⟩
    walk_at "rd"
    refine d_gtup hc rfl ?_
    walk_at "rd"
    refine d_ixT qa rfl ?_
    walk_at "rd"
    refine ⟨_, _, _, rfl, rfl, lz, getD_at (by omega), ?_⟩
    walk_at "rd"
    refine d_ixT qa rfl ?_
    walk_at "rd"
    refine ⟨_, _, _, rfl, rfl, lz, getD_at h2, ?_⟩
    walk_at "rd"
    refine ⟨sz (by show 2 ≤ 100000; decide), fun p1 f1 => ?_⟩
    walk_at "rd"
    refine ⟨p1, _, _, rfl, SqL.of upd_same, ?_⟩
    walk_at "rd"
    refine ⟨p1, _, _, rfl, SqL.of upd_same, ?_⟩
    walk_at "rd"
    refine ⟨sz (by show 3 ≤ 100000; decide), fun p fp => ?_⟩
    have s1 := same_new (o := .lst [V.str (sg (u.1.getD t.1 0)), V.str (sg (u.1.getD t.2.1 0))]) f1
    refine q _ p (same_upd s1 (Same.free s1 fp)) (Same.free s1 fp) ?_
    rw [upd_same, tri_V]
def spLesserS : Sp := fun vs H Q _ => ∃ x y : List Nat, vs = [.str ⟨x.toArray⟩, .str ⟨y.toArray⟩] ∧ x.length ≤ 1600 ∧ y.length ≤ 1600 ∧ (∀ c ∈ x, Ltr c) ∧ (∀ c ∈ y, Ltr c) ∧ ∀ H', Same H H' → Q (.int (csum x y : Nat)) H'
theorem ok_lesserS (T : Tx K mg) : FnOk P w K mg base CX0 1 T.lesser.f T.lesser.fd ["one", "other"] spLesserS := by
  refine T.lesser.F.ok sc_lesser (fun vs H Q E h => ?_) (fun cdv A outer s H vs Q E hr h => ?_)
  · obtain ⟨_, _, rfl, _⟩ := h; rfl
  · obtain ⟨x, y, rfl, lx, ly, kx, ky, q⟩ := h
    refine ⟨_, (pss_cons (ps_set (i := 2) sc_lesser.nd rfl (.inl rfl) pe_int)
      (pss_cons (ps_set (i := 3) sc_lesser.nd rfl (.inl rfl) (pe_callTy (cr_listStr rfl) (by rfl) T.m_list (by decide +kernel) (pa_cons (pv 1) pa_nil)))
      (pss_cons (ps_for PassesOwn.never rfl (pi_str (pv 0)) (pg_name (i := 4) sc_lesser.nd rfl (.inl rfl))
        (pss_one (ps_if (pt_cmpR (op_inD (units1 hr)) (pv 4) (pv 3) (by rfl))
          (pss_cons (ps_expr (pe_bm PySem.F.plainAttrs_list PySem.F.slot_list_remove PySem.F.type_list_remove (mt_removeD (units1 hr)) (pv 3) (pa_cons (pv 4) pa_nil)))
          (pss_one (ps_set (i := 2) sc_lesser.nd rfl (.inl rfl) (pe_op op_add (pv 2) pe_int))))
          pss_nil)))
      (pss_one (ps_ret (pv 2)))))), ?_⟩
    walk_at "rd"
    refine ⟨sz (by show y.toArray.size ≤ _; simp; omega), ?_⟩
    intro l fl
    walk_at "rd"
    have e0 : (⟨y.toArray⟩ : Str).cps.toList = y := by simp
    refine for_it walk_str (fun i σ H' => ∃ y4, σ = [some (.str ⟨x.toArray⟩), some (.str ⟨y.toArray⟩), some (.int (csum (x.take i) y : Nat)), some (.ref l), y4] ∧ Same H H' ∧ H' l = some (.lst ((cleft (x.take i) y).map fun c => V.str (sg c)))) ⟨_, rfl, same_new fl, by rw [upd_same, e0]; rfl⟩ (fun _ _ _ _ _ => trivial) (fun i v σ H1 H2 hi hP hy => ?_) (fun σ H' hP => ?_)
    · obtain ⟨y4, rfl, sm, el⟩ := hP
      obtain ⟨rfl, c, hc, rfl⟩ := hy
      have hc' : x[i]? = some c := by simpa using hc
      have kc := kx c (List.mem_of_getElem? hc')
      have kl : ∀ z ∈ cleft (x.take i) y, Ltr z := fun z hz => ky z (cleft_sub hz)
      walk_at "rd"
      refine ⟨sgD c, (cleft (x.take i) y).map sgD, .str _, .lst (SqL.of el) (dpa_sg _), sg_shaped kc, sgs_shaped kl, ?_⟩
      rw [any_mem sgD sgD_eqv]
      walk_at "rd"
      refine ite2 (fun e => ?_) (fun e => ?_)
      · have hm := dec_in e
        walk_at "rd"
        refine ⟨.inl ⟨rfl, _, SqL.of el⟩, ?_⟩
        walk_at "rd"
        refine rem_of sgD sgD_eqv hm el (dpa_sg _) (.str _) (sgs_shaped kl) (sg_shaped kc) fun j _ ej => ?_
        walk_at "rd"
        rw [csum_in hc' hm, cleft_in hc']
        exact ⟨_, rfl, same_upd sm fl, by rw [upd_same, map_eraseIdx, ej]⟩
      · have hm := dec_out e
        walk_at "rd"
        rw [csum_out hc' hm, cleft_out hc' hm]
        exact ⟨_, rfl, sm, el⟩
    · obtain ⟨y4, rfl, sm, el⟩ := hP
      have e1 : (⟨x.toArray⟩ : Str).cps.size = x.length := by simp
      rw [e1, List.take_length]
      walk_at "rd"
      exact q _ sm
def spLesserT (K : PySem.W.Frag) : Sp := fun vs H Q _ => ∃ (a b : Addr) (xs ys : List V) (x y : List Tr3), vs = [.ref a, .ref b] ∧ SqL K H a xs ∧ SqL K H b ys ∧ Paired (TriAt H) xs x ∧ Paired (TriAt H) ys y ∧ x.length ≤ 1600 ∧ y.length ≤ 1600 ∧
  (∀ t ∈ x, Ltr t.1 ∧ Ltr t.2.1 ∧ Ltr t.2.2) ∧ (∀ t ∈ y, Ltr t.1 ∧ Ltr t.2.1 ∧ Ltr t.2.2) ∧ ∀ H', Same H H' → Q (.int (csum x y : Nat)) H'
theorem ok_lesserT (T : Tx K mg) : FnOk P w K mg base CX0 1 T.lesser.f T.lesser.fd ["one", "other"] (spLesserT K) := by
  refine T.lesser.F.ok sc_lesser (fun vs H Q E h => ?_) (fun cdv A outer s H vs Q E hr h => ?_)
  · obtain ⟨_, _, _, _, _, _, rfl, _⟩ := h; rfl
  · obtain ⟨a, b, xs, ys, x, y, rfl, ha, hb, px, py, lx, ly, kx, ky, q⟩ := h
    have lxs := px.length
    refine ⟨_, (pss_cons (ps_set (i := 2) sc_lesser.nd rfl (.inl rfl) pe_int)
      (pss_cons (ps_set (i := 3) sc_lesser.nd rfl (.inl rfl) (pe_callTy call_list_of (by rfl) T.m_list (by decide +kernel) (pa_cons (pv 1) pa_nil)))
      (pss_cons (ps_for PassesOwn.never rfl (pi_list (pv 0)) (pg_name (i := 4) sc_lesser.nd rfl (.inl rfl))
        (pss_one (ps_if (pt_cmpR (op_inD (units1 hr)) (pv 4) (pv 3) (by rfl))
          (pss_cons (ps_expr (pe_bm PySem.F.plainAttrs_list PySem.F.slot_list_remove PySem.F.type_list_remove (mt_removeD (units1 hr)) (pv 3) (pa_cons (pv 4) pa_nil)))
          (pss_one (ps_set (i := 2) sc_lesser.nd rfl (.inl rfl) (pe_op op_add (pv 2) pe_int))))
          pss_nil)))
      (pss_one (ps_ret (pv 2)))))), ?_⟩
    walk_at "rd"
    refine ⟨b, ys, rfl, .inl hb, fun l fl => ?_⟩
    walk_at "rd"
    have s0 := same_new (o := .lst ys) fl
    refine d_iLe (Same.seq s0 ha) ?_
    refine for_list (K := K) (a := a) (xs := xs) (fun i σ H' => ∃ y4 zs, σ = [some (.ref a), some (.ref b), some (.int (csum (x.take i) y : Nat)), some (.ref l), y4] ∧ Same H H' ∧ H' l = some (.lst zs) ∧ Paired (TriAt H') zs (cleft (x.take i) y)) ⟨_, ys, rfl, s0, upd_same, Paired.imp py fun _ _ z => z.same s0⟩ (fun i σ H' _ hP => ?_) (fun i v σ H2 hi hP => ?_) (fun σ H' hP => ?_)
    · obtain ⟨_, _, _, sm, _⟩ := hP
      exact Same.seq sm ha
    · obtain ⟨y4, zs, rfl, sm, el, pz⟩ := hP
      obtain ⟨c, hc, zc⟩ := Paired.at px hi
      have zc2 := zc.same sm
      have kc := kx c (List.mem_of_getElem? hc)
      have kl : ∀ z ∈ cleft (x.take i) y, Ltr z.1 ∧ Ltr z.2.1 ∧ Ltr z.2.2 := fun z hz => ky z (cleft_sub hz)
      walk_at "rd"
      refine ⟨triD c, (cleft (x.take i) y).map triD, zc2.dp, .lst (SqL.of el) (dpa_tri pz), tri_shaped kc, tris_shaped kl, ?_⟩
      rw [any_mem triD triD_eqv]
      walk_at "rd"
      refine ite2 (fun e => ?_) (fun e => ?_)
      · have hm := dec_in e
        walk_at "rd"
        refine ⟨.inl ⟨rfl, _, SqL.of el⟩, ?_⟩
        walk_at "rd"
        refine rem_of triD triD_eqv hm el (dpa_tri pz) zc2.dp (tris_shaped kl) (tri_shaped kc) fun j _ ej => ?_
        walk_at "rd"
        rw [csum_in hc hm, cleft_in hc]
        refine ⟨_, _, rfl, same_upd sm fl, upd_same, ?_⟩
        rw [← ej]
        exact Paired.imp (Paired.eraseIdx j pz) fun _ _ z => TriAt.put z fun ws zz => by rw [el] at zz; cases zz
      · have hm := dec_out e
        walk_at "rd"
        rw [csum_out hc hm, cleft_out hc hm]
        exact ⟨_, zs, rfl, sm, el, pz⟩
    · obtain ⟨y4, zs, rfl, sm, el, pz⟩ := hP
      rw [lxs, List.take_length]
      walk_at "rd"
      exact q _ sm
theorem or_dup {σ : L2.St} {H : Hp} {QT : Bool → Hp → Prop} {c : Bool} {tu : TT} (B : Hp → Prop) (body : ∀ H2, B H2 → QT true H2) (h1 : c = true → B H) (h2 : (∀ H2, B H2 → QT true H2) → c = false → tu σ H QT) : if c = true then QT true H else tu σ H QT := by
  cases c with
  | true => exact iteT (body H (h1 rfl))
  | false => exact iteF (h2 body rfl)
def spLaw (K : PySem.W.Frag) : Sp := fun vs H Q _ => ∃ (a : Addr) (ns : List Int), vs = [.ref a] ∧ SqL K H a (ns.map V.int) ∧ ns.length ≤ 63 ∧ ∀ H', Q (.bl true) H'
theorem ok_law (T : Tx K mg) : FnOk P w K mg base CX0 4 T.law.f T.law.fd ["script"] (spLaw K) := by
  refine T.law.F.ok sc_law (fun vs H Q E h => ?_) (fun cdv A outer s H vs Q E hr h => ?_)
  · obtain ⟨_, _, rfl, _⟩ := h; rfl
  · obtain ⟨a, ns, rfl, hS, hl, q⟩ := h
    refine ⟨_, (pss_cons (ps_set (i := 1) sc_law.nd rfl (.inl rfl) (pe_call (ok_draws T) (hr.mono (by decide)) (by rfl) T.draws.g T.draws.F.kp T.draws.b .nil pass0 (pa_cons (pv 0) pa_nil)))
      (pss_cons (ps_set (i := 2) sc_law.nd rfl (.inl rfl) pe_int)
      (pss_cons (ps_while PassesOwn.never (PW.pt (pw_or (pt_cmpR op_lt (pv 2) pe_int (nomark _)) (pw_or1 (PW.pt (pw_and (pt_cmpR (op_neD (hr.units)) (pv 1) (pe_lst pa_nil) (nomark _)) (pw_and1 (pt_cmpR op_lt (pv 2) pe_int (nomark _))))))))
        (pss_cons (ps_par (i := 3) (j := 4) rfl sc_law.nd rfl rfl (by decide) rfl rfl (pa_cons (pe_call (ok_great_web T) (hr.mono (by decide)) (by rfl) T.great_web.g T.great_web.F.kp T.great_web.b .nil pass0 (pa_cons (pv 1) pa_nil)) (pa_cons (pe_call (ok_great_web T) (hr.mono (by decide)) (by rfl) T.great_web.g T.great_web.F.kp T.great_web.b .nil pass0 (pa_cons (pv 1) pa_nil)) pa_nil)) (by rfl))
        (pss_cons (ps_set (i := 5) sc_law.nd rfl (.inl rfl) (pe_call (ok_by_kinds T) (hr.mono (by decide)) (by rfl) T.by_kinds.g T.by_kinds.F.kp T.by_kinds.b .nil pass0 (pa_cons (pv 3) (pa_cons (pv 4) pa_nil))))
        (pss_cons (ps_if (PW.pt (pw_or (pt_not (pt_val (pe_call (ok_whole T) (hr.mono (by decide)) (by rfl) T.whole.g T.whole.F.kp T.whole.b .nil pass0 (pa_cons (pv 5) pa_nil)))) (pw_or1 (pt_cmpR op_ne (pv 5) (pe_call (ok_lesserS T) (hr.mono (by decide)) (by rfl) T.lesser.g T.lesser.F.kp T.lesser.b .nil pass0 (pa_cons (pe_ix ix_tup (pv 3) pe_int (fun _ _ => rfl)) (pa_cons (pe_ix ix_tup (pv 4) pe_int (fun _ _ => rfl)) pa_nil))) (nomark _)))))
          (pss_one (ps_ret pe_bl))
          pss_nil)
        (pss_cons (ps_setLc (i := 6) (own := [("web", 7)]) (g := gName 7) (tt := tYes) (te := tLc (iTup K (tOp (rIxT K) (tVar 7) (tC (.int 1)))) (gName 8) tYes (tCall (spThreeL K) [] E0 (tCons (tVar 7) (tCons (tVar 8) tNil))) [8]) rfl sc_law.nd rfl rfl (sw_true rfl rfl rfl (by decide +kernel)) (pi_tup (pe_tup (pa_cons (pv 3) (pa_cons (pv 4) pa_nil)))) (blkOk_by (N := ["script", "draws", "many", "one", "other", "found", "by_threes", "web", "tie"]) (sc := defScope s_law) (by decide +kernel)) (fun _ _ _ _ _ => (pg_name (i := 7) sc_law.nd rfl (.inr rfl))) (fun _ _ _ _ _ => pts_nil) (fun _ _ _ _ _ => (pe_lc (own := [("tie", 8)]) (g := gName 8) (tt := tYes) (te := tCall (spThreeL K) [] E0 (tCons (tVar 7) (tCons (tVar 8) tNil))) rfl sc_law.nd (pi_tup (pe_ix ix_tup (pv 7) pe_int (fun _ _ => rfl))) (blkOk_in (N := ["script", "draws", "many", "one", "other", "found", "by_threes", "web", "tie"]) (sc := defScope s_law) rfl (by decide +kernel)) (fun _ _ _ _ _ => (pg_name (i := 8) sc_law.nd rfl (.inl rfl))) (fun _ _ _ _ _ => pts_nil) (fun _ _ _ _ _ => (pe_call (ok_three T) (hr.mono (by decide)) (by rfl) T.three.g T.three.F.kp T.three.b .nil pass0 (pa_cons (pv 7) (pa_cons (pv 8) pa_nil)))))))
        (pss_cons (ps_set (i := 5) sc_law.nd rfl (.inl rfl) (pe_call (ok_by_tie_kinds T) (hr.mono (by decide)) (by rfl) T.by_tie_kinds.g T.by_tie_kinds.F.kp T.by_tie_kinds.b .nil pass0 (pa_cons (pv 3) (pa_cons (pv 4) pa_nil))))
        (pss_cons (ps_if (PW.pt (pw_or (pt_not (pt_val (pe_call (ok_whole T) (hr.mono (by decide)) (by rfl) T.whole.g T.whole.F.kp T.whole.b .nil pass0 (pa_cons (pv 5) pa_nil)))) (pw_or1 (pt_cmpR op_ne (pv 5) (pe_call (ok_lesserT T) (hr.mono (by decide)) (by rfl) T.lesser.g T.lesser.F.kp T.lesser.b .nil pass0 (pa_cons (pe_ix ix_list (pv 6) pe_int (fun _ _ => rfl)) (pa_cons (pe_ix ix_list (pv 6) pe_int (fun _ _ => rfl)) pa_nil))) (nomark _)))))
          (pss_one (ps_ret pe_bl))
          pss_nil)
        (pss_one (ps_set (i := 2) sc_law.nd rfl (.inl rfl) (pe_op op_add (pv 2) pe_int))))))))))
      (pss_one (ps_ret pe_bl))))), ?_⟩
    walk_at "rd"
    refine ⟨a, ns, rfl, hS, hl, fun H1 D s1 f1 d1 => ?_⟩
    walk_at "rd"
    refine ⟨fun m σ H' => ∃ (n : Nat) (y3 y4 y5 y6 y7 y8 : Option V), m = 6 - n ∧ σ = [some (.ref a), some (.ref D), some (.int (n : Nat)), y3, y4, y5, y6, y7, y8] ∧ n ≤ 6 ∧ Drs H' D, ⟨_, 0, _, _, _, _, _, _, rfl, rfl, by omega, d1⟩, ?_⟩
    rintro m σ H' ⟨n, y3, y4, y5, y6, y7, y8, rfl, rfl, hn, hd⟩
    walk_at "rd"
    refine or_dup (fun H2 => Drs H2 D ∧ n < 6) (fun H2 hB => ?_) (fun e => ⟨hd, by have := of_decide_eq_true e; omega⟩) (fun body e => ?_)
    · obtain ⟨hd, hn6⟩ := hB
      walk_at "rd"
      refine ⟨fun σ' H3 => ∃ (y3 y4 y5 y6 y7 y8 : Option V), σ' = [some (.ref a), some (.ref D), some (.int ((n + 1 : Nat) : Int)), y3, y4, y5, y6, y7, y8] ∧ Drs H3 D,
              fun σ' H3 ⟨y3, y4, y5, y6, y7, y8, h1, h2⟩ => ⟨6 - (n + 1), by omega, n + 1, y3, y4, y5, y6, y7, y8, rfl, h1, by omega, h2⟩, ?_⟩
      walk_at "rd"
      refine ⟨D, rfl, hd, fun H3 v u k3 hd3 hw W => ?_⟩
      walk_at "rd"
      refine ⟨D, rfl, hd3, fun H4 v' u' k4 hd4 hw' W' => ?_⟩
      obtain ⟨zs, eD3, _⟩ := id hd3
      have hw4 := hw.keep k4 eD3
      walk_at "rd"
      refine ⟨v, v', u, u', rfl, hw4, W, hw', W', fun H5 s5 => ?_⟩
      walk_at "rd"
      have l1 := W.few
      have l2 := W'.few
      have l3 := W.most
      have l4 := W'.most
      have hw5 := hw4.same s5
      have hw5' := hw'.same s5
      have hd5 := hd4.same s5
      refine ⟨_, rfl, fun H6 s6 => ?_⟩
      refine ⟨true, rfl, ?_⟩
      walk_at "rd"
      have hw6 := hw5.same s6
      have hw6' := hw5'.same s6
      have hd6 := hd5.same s6
      obtain ⟨a6, b6, tv6, rfl, qa, qb, pt⟩ := id hw6
      obtain ⟨a7, b7, tv7, rfl, qa', qb', pt'⟩ := id hw6'
      refine d_ixT qa rfl ?_
      walk_at "rd"
      refine d_ixT qa' rfl ?_
      walk_at "rd"
      refine ⟨u.1, u'.1, rfl, by omega, by omega, W.kinds, W'.kinds, fun H7 s7 => ?_⟩
      walk_at "rd"
      rw [decide_eq_true rfl]
      walk_at "rd"
      have hw7 := hw6.same s7
      have hw7' := hw6'.same s7
      have hd7 := hd6.same s7
      refine ⟨sz (by show 2 ≤ 100000; decide), fun pp fpp => ?_⟩
      have s8 := same_new (o := .tup [V.ref a6, V.ref a7]) fpp
      have hw8 := hw7.same s8
      have hw8' := hw7'.same s8
      have hd8 := hd7.same s8
      have epp := upd_same (H := H7) (a := pp) (o := .tup [V.ref a6, V.ref a7])
      generalize upd H7 pp _ = H8 at s8 hw8 hw8' hd8 epp ⊢
      refine d_iTe (SqT.of epp) ?_
      intro E1 fE1
      have hww : Paired (fun v u => WebAt K H8 v u ∧ WOk u) [V.ref a6, V.ref a7] [u, u'] := .cons ⟨hw8, W⟩ (.cons ⟨hw8', W'⟩ .nil)
      refine lc_tup (K := K) (a := pp) (xs := [V.ref a6, V.ref a7]) (fun i H' => ∃ os, H' E1 = some (.lst os) ∧ Paired (TLs H' E1) os ([u, u'].take i) ∧ Same H8 H') ⟨[], upd_same, .nil, same_new fE1⟩ (fun i H' _ hP => ?_) (fun i x H' hx hP => ?_) (fun H' hP => ?_)
      · obtain ⟨_, _, _, sm⟩ := hP
        exact SqT.of (sm _ _ epp)
      · obtain ⟨os, eE, po, sm⟩ := hP
        obtain ⟨uu, hu, hwu, WU⟩ := Paired.at hww hx
        have los := po.length
        rw [List.length_take] at los
        have los2 : os.length ≤ 2 := by rw [los]; exact Nat.min_le_right _ _
        have lmost := WU.most
        obtain ⟨c1, c2, tvs, rfl, ra, rb, rt⟩ := id (hwu.same sm)
        have lrt := rt.length
        walk_at "rd"
        refine d_ixT ra rfl ?_
        walk_at "rd"
        refine d_iTe rb ?_
        intro G fG
        refine lc_tup (K := K) (a := c2) (xs := tvs) (fun j H2 => ∃ xs, H2 G = some (.lst xs) ∧ Paired (TriAt H2) xs ((tris uu).take j) ∧ Same H' H2) ⟨[], upd_same, .nil, same_new fG⟩ (fun j H2 _ hP => ?_) (fun j x H2 hx2 hP => ?_) (fun H2 hP => ?_)
        · obtain ⟨_, _, _, sm2⟩ := hP
          exact Same.sqt sm2 rb
        · obtain ⟨xs, eG, px, sm2⟩ := hP
          obtain ⟨t, ht, zt⟩ := Paired.at rt hx2
          have lxs := px.length
          have lt := (List.getElem?_eq_some_iff.mp ht).1
          rw [List.length_take] at lxs
          walk_at "rd"
          refine ⟨_, x, uu, t, rfl, (hwu.same sm).same sm2, WU, List.mem_of_getElem? ht, zt.same sm2, fun H3 p s1 f1 e1 => ?_⟩
          have eG1 := s1 _ _ eG
          refine ⟨xs, eG1, szl (by omega), xs ++ [.ref p], upd_same, ?_, same_upd (Same.trans sm2 s1) fG⟩
          have ht' : (tris uu)[j]? = some (tri uu t) := by unfold tris; rw [List.getElem?_map, ht]; rfl
          rw [take_snoc ht']
          have nG : ∀ ys, H3 G ≠ some (.tup ys) := fun ys z => by rw [eG1] at z; cases z
          exact Paired.snoc (Paired.imp px fun _ _ z => (z.same s1).put nG) (TriAt.put ⟨p, rfl, e1⟩ nG)
        · obtain ⟨xs, eG, px, sm2⟩ := hP
          have e : (tris uu).take tvs.length = tris uu := List.take_of_length_le (by unfold tris; rw [List.length_map, lrt]; exact Nat.le_refl _)
          rw [e] at px
          have eE2 := sm2 _ _ eE
          have nGE : G ≠ E1 := (ne_of_none eE fG).symm
          refine ⟨os, eE2, szl (by omega), os ++ [.ref G], upd_same, ?_, same_upd (Same.trans sm sm2) fE1⟩
          rw [take_snoc hu]
          exact Paired.snoc (Paired.imp po fun _ _ z => (z.same sm2).put eE2) (TLs.put ⟨G, xs, rfl, nGE, eG, px⟩ eE2)
      · obtain ⟨os, eE, po, sm⟩ := hP
        have po : Paired (TLs H' E1) os [u, u'] := po
        obtain ⟨o1, o2, rfl, ⟨g1, x1, rfl, n1, e1, p1⟩, ⟨g2, x2, rfl, n2, e2, p2⟩⟩ := po.two
        have hw9 := hw8.same sm
        have hw9' := hw8'.same sm
        have hd9 := hd8.same sm
        have lt1 : (tris u).length ≤ 1600 := by unfold tris; rw [List.length_map]; exact W.most
        have lt2 : (tris u').length ≤ 1600 := by unfold tris; rw [List.length_map]; exact W'.most
        walk_at "rd"
        refine ⟨_, _, u, u', rfl, hw9, W, hw9', W', fun H10 s10 => ?_⟩
        walk_at "rd"
        refine ⟨_, rfl, fun H11 s11 => ?_⟩
        refine ⟨true, rfl, ?_⟩
        walk_at "rd"
        have sz1 := Same.trans s10 s11
        refine d_ixL (SqL.of (sz1 _ _ eE)) rfl ?_
        walk_at "rd"
        refine d_ixL (SqL.of (sz1 _ _ eE)) rfl ?_
        walk_at "rd"
        refine ⟨g1, g2, x1, x2, tris u, tris u', rfl, SqL.of (sz1 _ _ e1), SqL.of (sz1 _ _ e2), Paired.imp p1 (fun _ _ z => z.same sz1), Paired.imp p2 (fun _ _ z => z.same sz1), lt1, lt2, tris_ok W, tris_ok W', fun H12 s12 => ?_⟩
        walk_at "rd"
        rw [decide_eq_true rfl]
        walk_at "rd"
        exact ⟨_, _, _, _, _, _, rfl, (hd9.same sz1).same s12⟩
    · walk_at "rd"
      obtain ⟨zs, eD, lz⟩ := id hd
      refine ⟨sz (by decide), fun p fp => ?_⟩
      have s1 := same_new (o := .lst []) fp
      refine ⟨_, _, .lst (SqL.of (s1 _ _ eD)) (dpa_ints zs), .lst (SqL.of upd_same) .nil, shaped_ints zs, by decide, ?_⟩
      generalize PyData.eqv _ _ = b
      walk_at "rd"
      cases b with
      | true =>
        walk_at "rd"
        exact q _
      | false =>
        walk_at "rd"
        by_cases e2 : n < 6
        · rw [decide_eq_true (by omega : ((n : Nat) : Int) < 6)]
          exact body _ ⟨hd.same s1, e2⟩
        · rw [decide_eq_false (by omega : ¬ ((n : Nat) : Int) < 6)]
          walk_at "rd"
          exact q _

end
theorem all_mk {l : PySem.W.OpenLaw} {w : World} {K : PySem.W.Frag} {h : Heap} {mg : Str → Option Value} {fa f_1 f_2 f_4 f_5 f_6 f_8 f_9 f_10 f_11 f_12 f_13 f_14 : Addr} (X : K.In h) (G : h.Ns mainGlobals mg) (hfa : mg "law" = some (.ref fa))
    {od1 an1 od2 an2 od4 an4 od5 an5 od6 an6 od8 an8 od9 an9 od10 an10 od11 an11 od12 an12 od13 an13 od14 an14 : Option Addr} {sl1 sl2 sl4 sl5 sl6 sl8 sl9 sl10 sl11 sl12 sl13 sl14 : Array (Option Value)} {oc1 kV1 dc1 pm1 cd1 ct1 oc2 kV2 dc2 pm2 cd2 ct2 oc4 kV4 dc4 pm4 cd4 ct4 oc5 kV5 dc5 pm5 cd5 ct5 oc6 kV6 dc6 pm6 cd6 ct6 oc8 kV8 dc8 pm8 cd8 ct8 oc9 kV9 dc9 pm9 cd9 ct9 oc10 kV10 dc10 pm10 cd10 ct10 oc11 kV11 dc11 pm11 cd11 ct11 oc12 kV12 dc12 pm12 cd12 ct12 oc13 kV13 dc13 pm13 cd13 ct13 oc14 kV14 dc14 pm14 cd14 ct14 : Value}
    (a1 : PySem.W.nsIn K mainGlobals "common_count" = some (some (.ref f_1))) (l1 : K.lookup f_1 = some ⟨oc1, od1, .func (PySem.W.fnOf "common_count" "common_count" (defArgs s_common_count) (defBody s_common_count) (defScope s_common_count) .none kV1 dc1 pm1 an1 cd1 ct1), sl1⟩) (c1 : PySem.W.codeIn K cd1 "common_count" = true) (k1 : PySem.W.keepIn K (.ref f_1) = true)
    (a2 : PySem.W.nsIn K mainGlobals "three_letters" = some (some (.ref f_2))) (l2 : K.lookup f_2 = some ⟨oc2, od2, .func (PySem.W.fnOf "three_letters" "three_letters" (defArgs s_three_letters) (defBody s_three_letters) (defScope s_three_letters) .none kV2 dc2 pm2 an2 cd2 ct2), sl2⟩) (c2 : PySem.W.codeIn K cd2 "three_letters" = true) (k2 : PySem.W.keepIn K (.ref f_2) = true)
    (a4 : PySem.W.nsIn K mainGlobals "by_kinds" = some (some (.ref f_4))) (l4 : K.lookup f_4 = some ⟨oc4, od4, .func (PySem.W.fnOf "by_kinds" "by_kinds" (defArgs s_by_kinds) (defBody s_by_kinds) (defScope s_by_kinds) .none kV4 dc4 pm4 an4 cd4 ct4), sl4⟩) (c4 : PySem.W.codeIn K cd4 "by_kinds" = true) (k4 : PySem.W.keepIn K (.ref f_4) = true)
    (a5 : PySem.W.nsIn K mainGlobals "by_tie_kinds" = some (some (.ref f_5))) (l5 : K.lookup f_5 = some ⟨oc5, od5, .func (PySem.W.fnOf "by_tie_kinds" "by_tie_kinds" (defArgs s_by_tie_kinds) (defBody s_by_tie_kinds) (defScope s_by_tie_kinds) .none kV5 dc5 pm5 an5 cd5 ct5), sl5⟩) (c5 : PySem.W.codeIn K cd5 "by_tie_kinds" = true) (k5 : PySem.W.keepIn K (.ref f_5) = true)
    (a6 : PySem.W.nsIn K mainGlobals "letters_of_ties" = some (some (.ref f_6))) (l6 : K.lookup f_6 = some ⟨oc6, od6, .func (PySem.W.fnOf "letters_of_ties" "letters_of_ties" (defArgs s_letters_of_ties) (defBody s_letters_of_ties) (defScope s_letters_of_ties) .none kV6 dc6 pm6 an6 cd6 ct6), sl6⟩) (c6 : PySem.W.codeIn K cd6 "letters_of_ties" = true) (k6 : PySem.W.keepIn K (.ref f_6) = true)
    (a8 : PySem.W.nsIn K mainGlobals "_law_draws" = some (some (.ref f_8))) (l8 : K.lookup f_8 = some ⟨oc8, od8, .func (PySem.W.fnOf "_law_draws" "_law_draws" (defArgs s_draws) (defBody s_draws) (defScope s_draws) .none kV8 dc8 pm8 an8 cd8 ct8), sl8⟩) (c8 : PySem.W.codeIn K cd8 "_law_draws" = true) (k8 : PySem.W.keepIn K (.ref f_8) = true)
    (a9 : PySem.W.nsIn K mainGlobals "_law_take" = some (some (.ref f_9))) (l9 : K.lookup f_9 = some ⟨oc9, od9, .func (PySem.W.fnOf "_law_take" "_law_take" (defArgs s_take) (defBody s_take) (defScope s_take) .none kV9 dc9 pm9 an9 cd9 ct9), sl9⟩) (c9 : PySem.W.codeIn K cd9 "_law_take" = true) (k9 : PySem.W.keepIn K (.ref f_9) = true)
    (a10 : PySem.W.nsIn K mainGlobals "_law_great_web" = some (some (.ref f_10))) (l10 : K.lookup f_10 = some ⟨oc10, od10, .func (PySem.W.fnOf "_law_great_web" "_law_great_web" (defArgs s_great_web) (defBody s_great_web) (defScope s_great_web) .none kV10 dc10 pm10 an10 cd10 ct10), sl10⟩) (c10 : PySem.W.codeIn K cd10 "_law_great_web" = true) (k10 : PySem.W.keepIn K (.ref f_10) = true)
    (a11 : PySem.W.nsIn K mainGlobals "_law_whole" = some (some (.ref f_11))) (l11 : K.lookup f_11 = some ⟨oc11, od11, .func (PySem.W.fnOf "_law_whole" "_law_whole" (defArgs s_whole) (defBody s_whole) (defScope s_whole) .none kV11 dc11 pm11 an11 cd11 ct11), sl11⟩) (c11 : PySem.W.codeIn K cd11 "_law_whole" = true) (k11 : PySem.W.keepIn K (.ref f_11) = true)
    (a12 : PySem.W.nsIn K mainGlobals "_law_three" = some (some (.ref f_12))) (l12 : K.lookup f_12 = some ⟨oc12, od12, .func (PySem.W.fnOf "_law_three" "_law_three" (defArgs s_three) (defBody s_three) (defScope s_three) .none kV12 dc12 pm12 an12 cd12 ct12), sl12⟩) (c12 : PySem.W.codeIn K cd12 "_law_three" = true) (k12 : PySem.W.keepIn K (.ref f_12) = true)
    (a13 : PySem.W.nsIn K mainGlobals "_law_lesser" = some (some (.ref f_13))) (l13 : K.lookup f_13 = some ⟨oc13, od13, .func (PySem.W.fnOf "_law_lesser" "_law_lesser" (defArgs s_lesser) (defBody s_lesser) (defScope s_lesser) .none kV13 dc13 pm13 an13 cd13 ct13), sl13⟩) (c13 : PySem.W.codeIn K cd13 "_law_lesser" = true) (k13 : PySem.W.keepIn K (.ref f_13) = true)
    (a14 : PySem.W.nsIn K mainGlobals "law" = some (some (.ref f_14))) (l14 : K.lookup f_14 = some ⟨oc14, od14, .func (PySem.W.fnOf "law" "law" (defArgs s_law) (defBody s_law) (defScope s_law) .none kV14 dc14 pm14 an14 cd14 ct14), sl14⟩) (c14 : PySem.W.codeIn K cd14 "law" = true) (k14 : PySem.W.keepIn K (.ref f_14) = true)
    (z0 : PySem.W.nsIn K mainGlobals "abs" = some none)
    (z1 : PySem.W.nsIn K mainGlobals "bool" = some none)
    (z2 : PySem.W.nsIn K mainGlobals "int" = some none)
    (z3 : PySem.W.nsIn K mainGlobals "isinstance" = some none)
    (z4 : PySem.W.nsIn K mainGlobals "len" = some none)
    (z5 : PySem.W.nsIn K mainGlobals "list" = some none)
    (z6 : PySem.W.nsIn K mainGlobals "max" = some none)
    (z7 : PySem.W.nsIn K mainGlobals "min" = some none)
    (z8 : PySem.W.nsIn K mainGlobals "range" = some none)
    (z9 : PySem.W.nsIn K mainGlobals "tuple" = some none) :
    ∃ fd : FuncData, (∀ (s : Shared) (v : Value), BindsTo s fd ⟨[v], []⟩ [("script", v)]) ∧ ∀ base : Heap, K.In base → base.Ns mainGlobals mg → FnOk l.prog w K mg base CX0 4 fa fd ["script"] (spLaw K) := by
  have e := hfa.symm.trans (PySem.W.mg_of X G a14)
  cases e
  have F1 := fun_mk (st := s_common_count) l1 c1 k1
  have b1 := F1.binds (ps := ["these", "those"]) fun _ _ _ _ _ _ us hl => match us, hl with | [_, _], _ => rfl
  have F2 := fun_mk (st := s_three_letters) l2 c2 k2
  have b2 := F2.binds (ps := ["kinds", "tie"]) fun _ _ _ _ _ _ us hl => match us, hl with | [_, _], _ => rfl
  have F4 := fun_mk (st := s_by_kinds) l4 c4 k4
  have b4 := F4.binds (ps := ["one", "other"]) fun _ _ _ _ _ _ us hl => match us, hl with | [_, _], _ => rfl
  have F5 := fun_mk (st := s_by_tie_kinds) l5 c5 k5
  have b5 := F5.binds (ps := ["one", "other"]) fun _ _ _ _ _ _ us hl => match us, hl with | [_, _], _ => rfl
  have F6 := fun_mk (st := s_letters_of_ties) l6 c6 k6
  have b6 := F6.binds (ps := ["web"]) fun _ _ _ _ _ _ us hl => match us, hl with | [_], _ => rfl
  have F8 := fun_mk (st := s_draws) l8 c8 k8
  have b8 := F8.binds (ps := ["script"]) fun _ _ _ _ _ _ us hl => match us, hl with | [_], _ => rfl
  have F9 := fun_mk (st := s_take) l9 c9 k9
  have b9 := F9.binds (ps := ["draws", "many"]) fun _ _ _ _ _ _ us hl => match us, hl with | [_, _], _ => rfl
  have F10 := fun_mk (st := s_great_web) l10 c10 k10
  have b10 := F10.binds (ps := ["draws"]) fun _ _ _ _ _ _ us hl => match us, hl with | [_], _ => rfl
  have F11 := fun_mk (st := s_whole) l11 c11 k11
  have b11 := F11.binds (ps := ["thing"]) fun _ _ _ _ _ _ us hl => match us, hl with | [_], _ => rfl
  have F12 := fun_mk (st := s_three) l12 c12 k12
  have b12 := F12.binds (ps := ["web", "tie"]) fun _ _ _ _ _ _ us hl => match us, hl with | [_, _], _ => rfl
  have F13 := fun_mk (st := s_lesser) l13 c13 k13
  have b13 := F13.binds (ps := ["one", "other"]) fun _ _ _ _ _ _ us hl => match us, hl with | [_, _], _ => rfl
  have F14 := fun_mk (st := s_law) l14 c14 k14
  have b14 := F14.binds (ps := ["script"]) fun _ _ _ _ _ _ us hl => match us, hl with | [_], _ => rfl
  let T : Tx K mg := ⟨⟨_, _, F1, b1, PySem.W.mg_of X G a1⟩, ⟨_, _, F2, b2, PySem.W.mg_of X G a2⟩, ⟨_, _, F4, b4, PySem.W.mg_of X G a4⟩, ⟨_, _, F5, b5, PySem.W.mg_of X G a5⟩, ⟨_, _, F6, b6, PySem.W.mg_of X G a6⟩, ⟨_, _, F8, b8, PySem.W.mg_of X G a8⟩, ⟨_, _, F9, b9, PySem.W.mg_of X G a9⟩, ⟨_, _, F10, b10, PySem.W.mg_of X G a10⟩, ⟨_, _, F11, b11, PySem.W.mg_of X G a11⟩, ⟨_, _, F12, b12, PySem.W.mg_of X G a12⟩, ⟨_, _, F13, b13, PySem.W.mg_of X G a13⟩, ⟨_, _, F14, b14, PySem.W.mg_of X G a14⟩, PySem.W.mg_none_of X G z0, PySem.W.mg_none_of X G z1, PySem.W.mg_none_of X G z2, PySem.W.mg_none_of X G z3, PySem.W.mg_none_of X G z4, PySem.W.mg_none_of X G z5, PySem.W.mg_none_of X G z6, PySem.W.mg_none_of X G z7, PySem.W.mg_none_of X G z8, PySem.W.mg_none_of X G z9⟩
  exact ⟨T.law.fd, fun s v => .of_eq rfl, fun base _ _ => ok_law T⟩
end Cw
open PySem PySem.W PyProof.Rows
set_option maxHeartbeats 0 in
theorem PySem.Challenge.cw_commonweb_k39_bounds_by_kinds_holds : PySem.Challenge.rw_commonweb_k39_bounds_by_kinds.Holds := by
  w_on; o_law; k_head; (case hw => w_witness2)
  k_fill
  refine L2.walk_of (l := PySem.Challenge.rw_commonweb_k39_bounds_by_kinds) (n := 63) (k := 4) (x := "script") (CX := fun _ => L2.CX0) (sp := fun w => Cw.spLaw _) rfl (by decide) rfl ⟨rfl, by decide, by decide⟩ (fun w h Y => PySem.W.kIn_of Y) ?F (fun _ _ a ns hl _ hS => ⟨a, ns, rfl, hS, hl, fun _ => rfl⟩) (fun _ _ _ _ _ h => h)
  case F =>
    intro w mg fa h KX G hmg
    refine' Cw.all_mk KX G hmg ?a1 ?l1 ?c1 ?k1 ?a2 ?l2 ?c2 ?k2 ?a4 ?l4 ?c4 ?k4 ?a5 ?l5 ?c5 ?k5 ?a6 ?l6 ?c6 ?k6 ?a8 ?l8 ?c8 ?k8 ?a9 ?l9 ?c9 ?k9 ?a10 ?l10 ?c10 ?k10 ?a11 ?l11 ?c11 ?k11 ?a12 ?l12 ?c12 ?k12 ?a13 ?l13 ?c13 ?k13 ?a14 ?l14 ?c14 ?k14 ?z0 ?z1 ?z2 ?z3 ?z4 ?z5 ?z6 ?z7 ?z8 ?z9
    (case a1 => k_is); (case l1 => k_is); (case c1 => k_is); (case k1 => k_is); (case a2 => k_is); (case l2 => k_is); (case c2 => k_is); (case k2 => k_is); (case a4 => k_is); (case l4 => k_is); (case c4 => k_is); (case k4 => k_is); (case a5 => k_is); (case l5 => k_is); (case c5 => k_is); (case k5 => k_is); (case a6 => k_is); (case l6 => k_is); (case c6 => k_is); (case k6 => k_is); (case a8 => k_is); (case l8 => k_is); (case c8 => k_is); (case k8 => k_is); (case a9 => k_is); (case l9 => k_is); (case c9 => k_is); (case k9 => k_is); (case a10 => k_is); (case l10 => k_is); (case c10 => k_is); (case k10 => k_is); (case a11 => k_is); (case l11 => k_is); (case c11 => k_is); (case k11 => k_is); (case a12 => k_is); (case l12 => k_is); (case c12 => k_is); (case k12 => k_is); (case a13 => k_is); (case l13 => k_is); (case c13 => k_is); (case k13 => k_is); (case a14 => k_is); (case l14 => k_is); (case c14 => k_is); (case k14 => k_is); (case z0 => k_is); (case z1 => k_is); (case z2 => k_is); (case z3 => k_is); (case z4 => k_is); (case z5 => k_is); (case z6 => k_is); (case z7 => k_is); (case z8 => k_is); (case z9 => k_is)
