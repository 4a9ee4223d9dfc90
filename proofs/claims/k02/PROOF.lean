import PyProof.Rows.All
import Wide.All
import OpenK.AllK
import Wide.FinOn
import PySem.Challenge.RW_commonweb_k02_ties_and_neighbours
import HandS.ForMost
import HandS.Conv
import KE.KItemsList
import KE.KDictZip
import HandS.Deep
import HandS.Evl
import HandS.IsInst
import HandS.Zip
import HandS.Walk
import KE.KEqSeq
import KE.KEqDeep
set_option Elab.async false
set_option linter.all false
set_option maxRecDepth 100000
set_option maxHeartbeats 4000000
/-! list(enumerate(xs)) -/
namespace Cw
open PySem PySem.Spec PySem.Calls PyProof.Rows L2

theorem en_nolen : typeLookup (.type "enumerate") "__len__" = pure none := am_miss_of_fast (by decide +kernel)
theorem en_nohint : typeLookup (.type "enumerate") "__length_hint__" = pure none := am_miss_of_fast (by decide +kernel)

/-- how the iterator stands ahead of turn i -/
def EnSt (h : Heap) (e it l S : Addr) (items : Array Value) (i : Nat) : Prop :=
  h.IsListIter it l i ∧ h.IsList l items ∧ ((∃ old, IsEnum h e it i old) ∨ ∃ old T f oT, IsEnumHeld h e it i old T f ∧ h.get? T = some oT ∧ T ≠ e ∧ T ≠ it ∧ T ≠ S)

theorem EnSt.keep {h h' : Heap} {e it l S : Addr} {items : Array Value} {i : Nat} (x : EnSt h e it l S items i) (hk : ∀ b o, b ≠ S → h.get? b = some o → h'.get? b = some o) (h1 : e ≠ S) (h2 : it ≠ S) (h3 : l ≠ S) : EnSt h' e it l S items i := by
  obtain ⟨a, b, c⟩ := x
  refine ⟨a.at fun o q => hk it o h2 q, b.at fun o q => hk l o h3 q, ?_⟩
  rcases c with ⟨old, c⟩ | ⟨old, T, f, oT, c, hT, r1, r2, r3⟩
  · exact .inl ⟨old, hk _ _ h1 c⟩
  · exact .inr ⟨old, T, f, oT, hk _ _ h1 c, hk _ _ r3 hT, r1, r2, r3⟩

section
variable {prog : Program} {w : World} {A : Around} {E : Value → Shared → Prop} {s : Shared} {e it l S : Addr} {items : Array Value}

theorem en_item {i : Nat} {x : Value} {Q : Option Value → Shared → Prop} (st : EnSt s.heap e it l S items i) (hei : e ≠ it) (hle : l ≠ e) (hli : l ≠ it) (hS : S < s.heap.objs.size) (hx : items[i]? = some x)
    (hQ : ∀ h' t, EnSt h' e it l S items (i + 1) → h'.get? s.heap.objs.size = some { cls := .type "tuple", data := .seq #[.int i t, x] } → h'.objs.size = s.heap.objs.size + 1 →
      (∀ b o, b ≠ e → b ≠ it → s.heap.get? b = some o → h'.get? b = some o) → ∀ tk, Q (some (.ref s.heap.objs.size)) { s with heap := h', toks := tk }) : wpAny (model prog w) A (pyNext (.ref e)) Q E s := by
  obtain ⟨a, b, c⟩ := st
  have ec : ((i + 1 : Nat) : Int) = (i : Int) + 1 := by omega
  have nit : s.heap.objs.size ≠ it := let ⟨_, q, _⟩ := a; Nat.ne_of_gt (Heap.lt_size q)
  rcases c with ⟨old, c⟩ | ⟨old, T, f, oT, c, hT, r1, r2, r3⟩
  · refine wpAny_pyNext_enum_item c a b hx hei fun h' ho hit' hT hsz hk => hQ h' _ ⟨hit', b.at fun o q => hk l o hle hli q, .inr ⟨_, s.heap.objs.size, false, _, (by rw [ec]; exact ho), hT, Nat.ne_of_gt (Heap.lt_size c), nit, Nat.ne_of_gt hS⟩⟩ hT hsz hk _
  · refine wpAny_pyNext_enum_item_held c hT r1 r2 a b hx hei fun h' ho hit' hT' hsz hk => hQ h' _ ⟨hit', b.at fun o q => hk l o hle hli q, .inr ⟨old, T, true, oT, (by rw [ec]; exact ho), hk _ _ r1 r2 hT, r1, r2, r3⟩⟩ hT' hsz hk _

theorem en_done {i : Nat} {Q : Option Value → Shared → Prop} (hh : A.handled = none) (st : EnSt s.heap e it l S items i) (hx : items[i]? = none)
    (hQ : ∀ h', Heap.ExtBut it s.heap h' → Q none { s with heap := h' }) : wpAny (model prog w) A (pyNext (.ref e)) Q E s := by
  obtain ⟨a, b, c⟩ := st
  rcases c with ⟨old, c⟩ | ⟨old, T, f, oT, c, hT, r1, r2, r3⟩
  · exact wpAny_pyNext_enum_end hh c a b hx hQ
  · exact wpAny_pyNext_enum_end_held hh c a b hx hQ

/-- the tuples made so far -/
structure EnG (items : Array Value) (lo : Addr) (h : Heap) (as : List Addr) : Prop where
  rise : as.Pairwise (· < ·)
  above : ∀ a ∈ as, lo < a
  pairs : ∀ (j : Nat) (a : Addr), as[j]? = some a → ∃ t x, items[j]? = some x ∧ h.get? a = some { cls := .type "tuple", data := .seq #[.int j t, x] }
theorem EnG.there {lo : Addr} {h : Heap} {as : List Addr} (g : EnG items lo h as) {a : Addr} (ha : a ∈ as) : a < h.objs.size := by
  obtain ⟨j, hj⟩ := List.mem_iff_getElem?.mp ha
  obtain ⟨_, _, _, z⟩ := g.pairs j a hj
  exact Heap.lt_size z

theorem en_loop {R : Result → Shared → Prop} (hh : A.handled = none) (hei : e ≠ it) (hle : l ≠ e) (hli : l ≠ it) (heS : e < S) (hiS : it < S) (hlS : l < S) (hn : items.size ≤ sizeLine) (res : Value) {h₁ : Heap}
    (hR : ∀ h' tk acc c as, (∀ b o, b ≠ S → b ≠ e → b ≠ it → h₁.get? b = some o → h'.get? b = some o) → h'.get? S = some { cls := .type "list", dict := none, data := .seq acc c, slots := #[] } → as.length = items.size → EnG items S h' as →
      acc.toList = as.map Value.ref → R (.ok (.ret res)) { s with heap := h', toks := tk }) :
    ∀ (k i : Nat) (h : Heap) (tk c : Nat) (acc : Array Value) (as : List Addr), items.size - i = k → i ≤ items.size → EnSt h e it l S items i → (∀ b o, b ≠ S → b ≠ e → b ≠ it → h₁.get? b = some o → h.get? b = some o) →
      h.get? S = some { cls := .type "list", dict := none, data := .seq acc c, slots := #[] } → acc.toList = as.map Value.ref → as.length = i → EnG items S h as →
      codeAny (model prog w) A (.builtin "list.extend.loop" ⟨[.ref S, .ref e, res], []⟩) R { s with heap := h, toks := tk } := by
  have neS : e ≠ S := Nat.ne_of_lt heS
  have niS : it ≠ S := Nat.ne_of_lt hiS
  have nlS : l ≠ S := Nat.ne_of_lt hlS
  intro k
  induction k with
  | zero =>
    intro i h tk c acc as hk hi hst hkeep hS hacc hal hG
    refine codeAny_builtin (prog := prog) (w := w) PySem.F.entry_extend_loop ?_
    rw [Around.under_plainId (A := A) PySem.F.plain_extend_loop _]
    show wpAny _ A.in1 (pyNext (.ref e) >>= _) _ _ _
    refine wpAny_bind (en_done (s := { s with heap := h, toks := tk }) (A := A.in1) hh hst (Array.getElem?_eq_none (by omega)) fun h' he => ?_)
    refine wpAny_pure (hR h' tk acc c as (fun b o h1 h2 h3 q => he b o h3 (hkeep b o h1 h2 h3 q)) (he S _ niS.symm hS) (by omega) ⟨hG.rise, hG.above, fun j a hj => ?_⟩ hacc)
    obtain ⟨t, x, z1, z2⟩ := hG.pairs j a hj
    exact ⟨t, x, z1, he a _ (Nat.ne_of_gt (Nat.lt_trans hiS (hG.above a (List.mem_of_getElem? hj)))) z2⟩
  | succ k ih =>
    intro i h tk c acc as hk hi hst hkeep hS hacc hal hG
    have hlt : i < items.size := by omega
    have hx : items[i]? = some items[i] := Array.getElem?_eq_getElem hlt
    have hsz : acc.size = i := by rw [← Array.length_toList, hacc, List.length_map, hal]
    refine codeAny_builtin (prog := prog) (w := w) PySem.F.entry_extend_loop ?_
    rw [Around.under_plainId (A := A) PySem.F.plain_extend_loop _]
    show wpAny _ A.in1 (pyNext (.ref e) >>= _) _ _ _
    refine wpAny_bind (en_item (s := { s with heap := h, toks := tk }) (S := S) hst hei hle hli (Heap.lt_size hS) hx fun h' t hst' ht hz hkp tk' => ?_)
    dsimp only at ht hz hkp ⊢
    have hS' := hkp S _ neS.symm niS.symm hS
    have up : ∀ b o, b ≠ S → h'.get? b = some o → (h'.update S (Obj.mapSeq (·.push (Value.ref h.objs.size)))).get? b = some o := fun b o hb q => (Heap.get?_update_other _ _ (Ne.symm hb)).trans q
    have hSl : S < h.objs.size := Heap.lt_size hS
    show wpAny _ A.in1 (updateSeq S (·.push (Value.ref h.objs.size)) >>= _) _ _ _
    refine wpAny_bind (wpAny_updateSeq hS' rfl (wpAny_pure ⟨plainId_quiet PySem.F.plain_extend_loop _, ih (i + 1) _ tk' _ (acc.push (Value.ref h.objs.size)) (as ++ [h.objs.size]) (by omega) hlt (hst'.keep up neS niS nlS)
      (fun b o h1 h2 h3 q => up b o h1 (hkp b o h2 h3 (hkeep b o h1 h2 h3 q))) (Heap.get?_update_self _ hS' rfl) (by rw [Array.toList_push, hacc, List.map_append]; rfl) (by rw [List.length_append, hal]; rfl) ⟨?_, ?_, ?_⟩⟩) (by rw [hsz]; omega) (by show (acc.push (Value.ref h.objs.size)).size ≤ sizeLine + 1; rw [Array.size_push, hsz]; omega))
    · refine List.pairwise_append.mpr ⟨hG.rise, List.pairwise_singleton _ _, fun a ha b hb => ?_⟩
      rw [List.mem_singleton.mp hb]; exact hG.there ha
    · intro a ha
      rcases List.mem_append.mp ha with ha | ha
      · exact hG.above a ha
      · rw [List.mem_singleton.mp ha]; exact hSl
    · intro j b hj
      rcases Nat.lt_trichotomy j as.length with h1 | h1 | h1
      · rw [List.getElem?_append_left h1] at hj
        obtain ⟨t', x', z1, z2⟩ := hG.pairs j b hj
        have hb := hG.above b (List.mem_of_getElem? hj)
        exact ⟨t', x', z1, up b _ (Nat.ne_of_gt hb) (hkp b _ (Nat.ne_of_gt (Nat.lt_trans heS hb)) (Nat.ne_of_gt (Nat.lt_trans hiS hb)) z2)⟩
      · subst h1
        have hb : h.objs.size = b := by simpa using hj
        subst hb
        exact ⟨t, _, by rw [hal]; exact hx, by rw [hal]; exact up _ _ (Nat.ne_of_gt hSl) ht⟩
      · have hnone : (as ++ [h.objs.size])[j]? = none := List.getElem?_eq_none (by rw [List.length_append, List.length_singleton]; omega)
        rw [hnone] at hj; cases hj

theorem en_hint (hT : s.TypeIs (.ref e) "enumerate") {Q : Bool → Shared → Prop} (h : Q true s) : wpAny (model prog w) A (Builtin.List.listLengthHint (.ref e)) Q E s := by
  unfold Builtin.List.listLengthHint
  refine wpAny_bind (wpAny_specialOf hT en_nolen ?_)
  show wpAny _ _ (specialOf (Value.ref e) (Str.ofString "__length_hint__") >>= _) _ _ _
  refine wpAny_bind (wpAny_specialOf hT en_nohint ?_)
  exact wpAny_pure h

theorem en_extend {R : Result → Shared → Prop} (hh : A.handled = none) (he : IsEnum s.heap e it 0 .none) (hit : s.heap.IsListIter it l 0) (hl : s.heap.IsList l items) (hei : e ≠ it) (hle : l ≠ e) (hli : l ≠ it) (heS : e < S) (hiS : it < S) (hlS : l < S) (res : Value) (c₀ : Nat) (hS : s.heap.get? S = some { cls := .type "list", data := .seq #[] c₀ })
    (hR : ∀ h' tk acc c as, (∀ b o, b ≠ S → b ≠ e → b ≠ it → s.heap.get? b = some o → h'.get? b = some o) → h'.get? S = some { cls := .type "list", dict := none, data := .seq acc c, slots := #[] } → as.length = items.size → EnG items S h' as →
      acc.toList = as.map Value.ref → R (.ok (.ret res)) { s with heap := h', toks := tk }) (hn : items.size ≤ sizeLine) :
    wpAny (model prog w) A.in1 (Builtin.List.listExtendWith (.ref S) (.ref e) res)
      (fun fin s' => match fin with | .done f => R (.ok f) s' | .again c' => c'.quiet = true ∧ codeAny (model prog w) A c' R s') (fun e s' => R (.error e) s') s := by
  have hSr : S ≠ e := Nat.ne_of_gt heS
  have hTy : s.TypeIs (.ref e) "enumerate" := ⟨_, he, rfl⟩
  have key : ∀ (h : Heap) (c₁ tk : Nat), (∀ b o, b ≠ S → s.heap.get? b = some o → h.get? b = some o) → h.get? S = some { cls := .type "list", data := .seq #[] c₁ } → codeAny (model prog w) A (.builtin "list.extend.loop" ⟨[.ref S, .ref e, res], []⟩) R { s with heap := h, toks := tk } := by
    intro h c₁ tk hk hS₁
    refine en_loop (s := s) (h₁ := s.heap) hh hei hle hli heS hiS hlS hn res hR items.size 0 h tk c₁ #[] [] (Nat.sub_zero _) (Nat.zero_le _) ⟨hit.at fun o q => hk it o (Nat.ne_of_lt hiS) q, hl.at fun o q => hk l o (Nat.ne_of_lt hlS) q, .inl ⟨_, hk _ _ (Nat.ne_of_lt heS) he⟩⟩
      (fun b o h1 _ _ q => hk b o h1 q) hS₁ rfl rfl ⟨List.Pairwise.nil, (fun _ ha => nomatch ha), (fun j a hj => by simp at hj)⟩
  unfold Builtin.List.listExtendWith
  refine wpAny_bind (wpAny_typeOf (T := "enumerate") hTy ?_)
  have h1 : Builtin.List.listSameRef (.ref S) (.ref e) = false := by simp [Builtin.List.listSameRef, hSr]
  have h2 : (Value.type "enumerate" == Value.type "list") = false := by decide
  have h3 : (Value.type "enumerate" == Value.type "tuple") = false := by decide
  simp only [h1, h2, h3, Bool.or_false, Bool.false_eq_true, if_false]
  refine wpAny_bind (wpAny_pyIter_enum he ?_)
  refine wpAny_bind (wpAny_holding (en_hint hTy ?_))
  refine wpAny_ite_split (fun _ => ?_) (fun _ => wpAny_pure ⟨plainId_quiet PySem.F.plain_extend_loop _, key _ c₀ _ (fun b o _ q => q) hS⟩)
  refine wpAny_bind (wpAny_rule (wpAny_bind ?_))
  · show wpAny _ _ (updateSeq S (·.push .none) >>= fun _ => updateSeq S (·.pop)) _ _ _
    refine wpAny_bind (wpAny_updateSeq hS rfl ?_)
    have hS₂ := Heap.get?_update_self (Obj.mapSeq (·.push Value.none)) hS rfl
    refine wpAny_updateSeq (hz := by seq_fits) hS₂ rfl ?_
    have hS₃ := Heap.get?_update_self (Obj.mapSeq (·.pop)) hS₂ rfl
    refine wpAny_pure ⟨plainId_quiet PySem.F.plain_extend_loop _, key _ _ _ (fun b o hb q => ?_) hS₃⟩
    exact (Heap.get?_update_other _ _ (Ne.symm hb)).trans ((Heap.get?_update_other _ _ (Ne.symm hb)).trans q)

theorem EnG.low {lo lo' : Addr} {h : Heap} {as : List Addr} (g : EnG items lo h as) (hl : lo' ≤ lo) : EnG items lo' h as := ⟨g.rise, fun a ha => Nat.lt_of_le_of_lt hl (g.above a ha), g.pairs⟩

/-- list(e), e an enumerate that nobody has asked yet -/
theorem en_call {Q : Value → Shared → Prop} (hh : A.handled = none) (he : IsEnum s.heap e it 0 .none) (hit : s.heap.IsListIter it l 0) (hl : s.heap.IsList l items) (hei : e ≠ it) (hle : l ≠ e) (hli : l ≠ it) (hn : items.size ≤ sizeLine)
    (hQ : ∀ h' tk acc c as, (∀ b o, b ≠ e → b ≠ it → s.heap.get? b = some o → h'.get? b = some o) → h'.get? s.heap.objs.size = some { cls := .type "list", dict := none, data := .seq acc c, slots := #[] } → as.length = items.size → EnG items s.heap.objs.size h' as →
      acc.toList = as.map Value.ref → Q (.ref s.heap.objs.size) { s with heap := h', toks := tk }) : wpAny (model prog w) A (call (.type "list") [.ref e]) Q E s := by
  refine callType_codes (Q₁ := fun obj s₁ => obj = .ref s.heap.objs.size ∧ s₁ = { s with heap := s.heap.push { cls := .type "list", data := .seq #[] } }) PySem.F.called_list (PySem.F.typeCall_list_1 _) PySem.F.entry_list_init (code_list_new _ ⟨rfl, rfl⟩) fun obj s₁ h₁ => ?_
  obtain ⟨rfl, rfl⟩ := h₁
  have hS : (s.heap.push { cls := .type "list", data := .seq #[] }).get? s.heap.objs.size = some { cls := .type "list", data := .seq #[] } := Heap.get?_push_size _ rfl
  have k1 : ∀ b o, s.heap.get? b = some o → (s.heap.push { cls := .type "list", data := .seq #[] }).get? b = some o := fun b o q => Heap.get?_push_of_some _ q
  have heS : e < s.heap.objs.size := Heap.lt_size he
  have hiS : it < s.heap.objs.size := by obtain ⟨_, q, _⟩ := hit; exact Heap.lt_size q
  have hlS : l < s.heap.objs.size := by obtain ⟨_, q, _⟩ := hl; exact Heap.lt_size q
  refine ⟨⟨_, hS, rfl⟩, PySem.F.args_list_init_2 _ _, ?_⟩
  show wpAny _ _ (do let old ← Builtin.List.listItems (.ref s.heap.objs.size); Builtin.List.listUpdate (.ref s.heap.objs.size) (fun _ => #[]); letGo old.toList.reverse; Builtin.List.listExtendWith (.ref s.heap.objs.size) (.ref e) .none) _ _ _
  refine wpAny_bind ?_; unfold Builtin.List.listItems; refine wpAny_bind (wpAny_seqItems hS rfl (wpAny_pure ?_))
  show wpAny _ _ (updateSeq s.heap.objs.size (fun _ => #[]) >>= fun _ => letGo (#[] : Array Value).toList.reverse >>= fun _ => Builtin.List.listExtendWith (.ref s.heap.objs.size) (.ref e) .none) _ _ _
  refine wpAny_bind (wpAny_updateSeq hS rfl (wpAny_bind (wpAny_letGo ?_)))
  have hS₂ := Heap.get?_update_self (Obj.mapSeq (fun _ => (#[] : Array Value))) hS rfl
  have k2 : ∀ b o, b ≠ s.heap.objs.size → s.heap.get? b = some o → ((s.heap.push { cls := .type "list", data := .seq #[] }).update s.heap.objs.size (Obj.mapSeq (fun _ => (#[] : Array Value)))).get? b = some o := fun b o hb q => (Heap.get?_update_other _ _ (Ne.symm hb)).trans (k1 b o q)
  refine en_extend (A := A.in1) (s := { s with heap := (s.heap.push { cls := .type "list", data := .seq #[] }).update s.heap.objs.size (Obj.mapSeq (fun _ => (#[] : Array Value))) }) hh (k2 _ _ (Nat.ne_of_lt heS) he) (hit.at fun o q => k2 it o (Nat.ne_of_lt hiS) q) (hl.at fun o q => k2 l o (Nat.ne_of_lt hlS) q) hei hle hli heS hiS hlS .none _ hS₂ (fun h' tk acc c as hk hS' hl' hG hacc => ?_) hn
  exact ⟨rfl, hQ h' tk acc c as (fun b o h1 h2 q => hk b o (Nat.ne_of_lt (Heap.lt_size q)) h1 h2 (k2 b o (Nat.ne_of_lt (Heap.lt_size q)) q)) hS' hl' hG hacc⟩
end

/-- the tuples tracked at their addresses -/
def putE : Hp → List Addr → List V → Nat → Hp
  | H, a :: as, x :: xs, j => putE (upd H a (.tup [.int j, x])) as xs (j + 1)
  | H, _, _, _ => H
theorem putE_off {b : Addr} : ∀ (as : List Addr) (xs : List V) (j : Nat) (H : Hp), b ∉ as → putE H as xs j b = H b
  | [], _, _, _, _ => rfl
  | _ :: _, [], _, _, _ => rfl
  | a :: as, x :: xs, j, H, h => by
    show putE (upd H a (.tup [.int j, x])) as xs (j + 1) b = H b
    rw [putE_off as xs _ _ (fun z => h (List.mem_cons_of_mem _ z)), upd_ne (fun z => h (by rw [z]; exact List.mem_cons_self))]
theorem putE_at : ∀ (as : List Addr) (xs : List V) (j : Nat) (H : Hp), as.Nodup → ∀ i t x, as[i]? = some t → xs[i]? = some x → putE H as xs j t = some (.tup [.int ((j + i : Nat) : Int), x])
  | [], _, _, _, _, _, _, _, h, _ => by simp at h
  | _ :: _, [], _, _, _, _, _, _, _, h => by simp at h
  | a :: as, y :: xs, j, H, hn, 0, t, x, h1, h2 => by
    have e1 : a = t := Option.some.inj h1
    have e2 : y = x := Option.some.inj h2
    subst e1; subst e2
    show putE (upd H a (.tup [.int j, y])) as xs (j + 1) a = _
    rw [putE_off as xs _ _ (List.nodup_cons.mp hn).1, upd_same]; rfl
  | a :: as, y :: xs, j, H, hn, i + 1, t, x, h1, h2 => by
    have ih := putE_at as xs (j + 1) (upd H a (.tup [.int j, y])) (List.nodup_cons.mp hn).2 i t x h1 h2
    show putE (upd H a (.tup [.int j, y])) as xs (j + 1) t = _
    rw [ih, show j + 1 + i = j + (i + 1) by omega]
theorem refs_vals : ∀ as : List Addr, Vals (as.map V.ref) (as.map Value.ref)
  | [] => .nil
  | _ :: as => .cons rfl (refs_vals as)
def rLstEn (K : PySem.W.Frag) : List V → Hp → VK → Prop := fun vs H Q => ∃ (a : Addr) (xs : List V), vs = [.ref a] ∧ SqL K H a xs ∧
  ∀ (H' : Hp) (p : Addr) (ts : List Addr), Same H H' → H p = none → (∀ t ∈ ts, H t = none) → p ∉ ts → H' p = some (.lst (ts.map V.ref)) → ts.length = xs.length → (∀ j t x, ts[j]? = some t → xs[j]? = some x → H' t = some (.tup [.int (j : Nat), x])) → Q (.ref p) H'
def tLstEn (K : PySem.W.Frag) (ta : TA) : TE := fun σ H Q => ta σ H fun vs H1 => rLstEn K vs H1 Q
section
variable {X : Cx} {e : Expr} {ta : TA} {p1 p2 pos pos2 : Pos}
theorem enum_laid {pins : List (Addr × Obj)} {σ : L2.St} {H : Hp} {s : Shared} {h' : Heap} {tk S : Nat} {xs : List V} {its : List Value} {acc : Array Value} {c : Nat} {as : List Addr} (I : Inv X pins σ H s) (hz : xs.length ≤ sizeLine) (rv : Vals xs its)
    (hk : ∀ b o, s.heap.get? b = some o → h'.get? b = some o) (hS0 : s.heap.objs.size ≤ S) (hS : h'.get? S = some { cls := .type "list", dict := none, data := .seq acc c, slots := #[] }) (hl : as.length = its.toArray.size) (hG : EnG its.toArray S h' as) (hacc : acc.toList = as.map Value.ref) :
    ∃ H' : Hp, Same H H' ∧ H S = none ∧ (∀ t ∈ as, H t = none) ∧ S ∉ as ∧ H' S = some (.lst (as.map V.ref)) ∧ (∀ j t x, as[j]? = some t → xs[j]? = some x → H' t = some (.tup [.int (j : Nat), x])) ∧ Inv X pins σ H' { s with heap := h', toks := tk } := by
  have lk : xs.length = its.length := Vals.length rv
  have hl' : as.length = xs.length := by rw [hl, List.size_toArray, lk]
  have hSn : S ∉ as := fun z => Nat.lt_irrefl _ (hG.above _ z)
  have nd : as.Nodup := List.Pairwise.imp (fun {a b} (h : a < b) => Nat.ne_of_lt h) hG.rise
  have new : ∀ t ∈ as, H t = none := fun t ht => I.hok.fresh (Nat.le_trans hS0 (Nat.le_of_lt (hG.above t ht)))
  have newS : H S = none := I.hok.fresh hS0
  have off : ∀ b, b ∉ as → b ≠ S → putE (upd H S (.lst (as.map V.ref))) as xs 0 b = H b := fun b h1 h2 => by rw [putE_off as xs _ _ h1, upd_ne h2]
  have low : ∀ b o, s.heap.get? b = some o → b ∉ as ∧ b ≠ S := fun b o q => ⟨fun z => absurd (Heap.lt_size q) (Nat.not_lt.mpr (Nat.le_trans hS0 (Nat.le_of_lt (hG.above b z)))), Nat.ne_of_lt (Nat.lt_of_lt_of_le (Heap.lt_size q) hS0)⟩
  have kp : Same H (putE (upd H S (.lst (as.map V.ref))) as xs 0) := fun b u q => by
    rw [off b (fun z => by rw [new b z] at q; cases q) (fun z => by rw [z, newS] at q; cases q)]
    exact q
  have eS : putE (upd H S (.lst (as.map V.ref))) as xs 0 S = some (.lst (as.map V.ref)) := by rw [putE_off as xs _ _ hSn, upd_same]
  have atP : ∀ j t x, as[j]? = some t → xs[j]? = some x → putE (upd H S (.lst (as.map V.ref))) as xs 0 t = some (.tup [.int (j : Nat), x]) := fun j t x h1 h2 => by
    rw [putE_at as xs 0 _ nd j t x h1 h2, Nat.zero_add]
  refine ⟨_, kp, newS, new, hSn, eS, atP, ?_⟩
  refine I.call' (ch := []) rfl ⟨fun b o q _ _ _ => hk b o q, fun b o q _ _ _ => ⟨o.slots, hk b o q⟩, fun b o q n _ => (off b (low b o q).1 (low b o q).2).trans n, fun b o q _ => ⟨o, hk b o q⟩, fun b xs q => kp b _ q, fun b o u q => kp b _ q, fun b ps q => ⟨#[], by rw [kp b _ q]; simp⟩⟩ (fun b u q => ?_) I.bare fun b z => by simp at z
  by_cases hb : b ∈ as
  · obtain ⟨j, e1⟩ := List.mem_iff_getElem?.mp hb
    have hj : j < xs.length := by
      have := (List.getElem?_eq_some_iff.mp e1).1
      omega
    have e2 : xs[j]? = some xs[j] := List.getElem?_eq_getElem hj
    rw [atP j b _ e1 e2] at q
    cases q
    obtain ⟨t, x, f1, f2⟩ := hG.pairs j b e1
    obtain ⟨u, g1, g2⟩ := rv.get e2
    have f1' : its[j]? = some x := by simpa using f1
    rw [g1] at f1'
    cases f1'
    exact ⟨by show 2 ≤ sizeLine; decide, [.int j t, x], .cons ⟨t, rfl⟩ (.cons g2 .nil), ⟨_, f2, rfl, _, rfl⟩⟩
  · by_cases hb2 : b = S
    · rw [hb2] at q ⊢
      rw [eS] at q
      cases q
      refine ⟨by rw [List.length_map]; omega, acc.toList, c, by rw [hacc]; exact refs_vals as, ?_⟩
      rw [Array.toArray_toList]; exact hS
    · rw [off b hb hb2] at q
      exact (I.hok b u q).stay (fun d v _ y => hk d v y) (fun d y => kp d _ y) fun d xs y => kp d _ y
/-- list(enumerate(e)) -/
theorem pe_listEnum (hc : X.calm = true) (hg : Gl X "list") (hm : X.mg "list" = none) (hg2 : Gl X "enumerate") (hm2 : X.mg "enumerate" = none) (ha : PA X [e] ta)
    (hs : starEach [.Call (.Name "enumerate" p2) [e] [] pos2] X.env = [(false, eval (.Call (.Name "enumerate" p2) [e] [] pos2) X.env)] := by rfl) (hs2 : starEach [e] X.env = [(false, eval e X.env)] := by rfl) :
    PE X (.Call (.Name "list" p1) [.Call (.Name "enumerate" p2) [e] [] pos2] [] pos) (tLstEn X.K ta) := by
  refine ⟨fun pins s σ H Q I hq => ?_⟩
  refine Call_ (ld_blt I hg hm boot_list (PyProof.Rows.callWith_type1 ?_ hs rfl))
  rw [hs]
  show wpAny _ _ (spliced ((false, eval (.Call (.Name "enumerate" p2) [e] [] pos2) X.env) :: backTo pos [])) _ _ s
  refine Calls.spliced_cons (Call_ (ld_blt I hg2 hm2 boot_enumerate (PyProof.Rows.callWith_type1 (thn (ha.run pos2 pins s σ H _ I hq) fun us s1 ⟨vs, H1, I1, r1, q1⟩ => ?_) hs2 rfl)))
  obtain ⟨a, xs, ex, hq, q⟩ := q1
  subst ex
  cases r1 with
  | cons r rr =>
    cases rr; cases r
    obtain ⟨its, rv, p', hz⟩ := I1.list hq
    have hl0 : a < s1.heap.objs.size := by obtain ⟨_, z, _⟩ := p'.isList; exact Heap.lt_size z
    refine call_enumerate_list p'.isList fun h' he hit hsz hk => ?_
    have I2 : Inv X pins σ H1 { s1 with heap := h' } := I1.kept (t' := s1.toks) hk
    refine Calls.spliced_nil ?_
    refine en_call (s := { s1 with heap := h' }) (I1.ok.hd hc) he hit (p'.isList.at fun o z => hk a o z) (Nat.succ_ne_self _) (Nat.ne_of_lt (Nat.lt_succ_of_lt hl0)) (Nat.ne_of_lt hl0) (by rw [List.size_toArray, ← rv.length]; exact hz) fun h'' tk acc c as hk2 hS hl hG hacc => ?_
    have hk3 : ∀ b o, s1.heap.get? b = some o → h''.get? b = some o := fun b o z => hk2 b o (Nat.ne_of_lt (Nat.lt_succ_of_lt (Heap.lt_size z))) (Nat.ne_of_lt (Heap.lt_size z)) (hk b o z)
    obtain ⟨H', k1, k2, k3, k4, k5, k6, J⟩ := enum_laid (tk := tk) I1 hz rv hk3 (by show s1.heap.objs.size ≤ h'.objs.size; omega) hS hl hG hacc
    exact ⟨.ref _, H', J, rfl, q H' _ as k1 k2 k3 k4 k5 (by rw [hl, List.size_toArray, rv.length]) k6⟩
end
end Cw

namespace Cw
open PySem PySem.Spec PyProof.Rows L2

/-! ### a def of the text, called by its name -/
structure Df (K : PySem.W.Frag) (mg : Str → Option Value) (x : Str) (st : Stmt) (ps : List Str) where
  f : Addr
  fd : FuncData
  F : Fun K x x st f fd
  b : Binds K fd ps []
  g : mg x = some (.ref f)

theorem units1 {k : Nat} {A : Around} (r : Room k A) : A.units + 65 < cLine := by have := r.un; omega
/-! ### heaps -/
/-- all but h is as it was -/
def Keep (h : Addr) (H H' : Hp) : Prop := ∀ b o, b ≠ h → H b = some o → H' b = some o
theorem Keep.refl (h : Addr) (H : Hp) : Keep h H H := fun _ _ _ e => e
theorem Keep.trans {h : Addr} {H H1 H2 : Hp} (a : Keep h H H1) (b : Keep h H1 H2) : Keep h H H2 := fun c o n e => b c o n (a c o n e)
theorem Keep.same {h : Addr} {H H1 H2 : Hp} (a : Keep h H H1) (b : Same H1 H2) : Keep h H H2 := fun c o n e => b c o (a c o n e)
theorem Same.keep {h : Addr} {H H1 : Hp} (a : Same H H1) : Keep h H H1 := fun c o _ e => a c o e
theorem Keep.put {h : Addr} {H : Hp} {o : HO} : Keep h H (upd H h o) := fun c u n e => by rw [upd_ne n]; exact e
/-- what was new ahead of it is not told -/
theorem Keep.out {h : Addr} {H0 H H1 : Hp} (s : Same H0 H) (k : Keep h H H1) (n : H0 h = none) : Same H0 H1 := fun c o e => k c o (ne_of_none e n) (s c o e)
theorem same_new {H : Hp} {p : Addr} {o : HO} (h : H p = none) : Same H (upd H p o) := fun b x e => by rw [upd_ne (ne_of_none e h)]; exact e
theorem same_upd {H H' : Hp} {p : Addr} {o : HO} (s : Same H H') (h : H p = none) : Same H (upd H' p o) := fun b x e => by rw [upd_ne (ne_of_none e h)]; exact s b x e
theorem Same.sqt {K : PySem.W.Frag} {H H' : Hp} {a : Addr} {xs : List V} (e : Same H H') (h : SqT K H a xs) : SqT K H' a xs := by
  rcases h with (h | ⟨o, h⟩) | h
  · exact .inl (.inl (e _ _ h))
  · exact .inl (.inr ⟨o, e _ _ h⟩)
  · exact .inr h
theorem at_upd {H : Hp} {a b : Addr} {o u : HO} (h : H a = some o) (n : H b = none) : upd H b u a = some o := by rw [upd_ne (ne_of_none h n)]; exact h

theorem Keep.new {h p : Addr} {H H' : Hp} {o : HO} (k : Keep h H H') (n : H p = none) : Keep h H (upd H' p o) := fun b u nb e => by rw [upd_ne (ne_of_none e n)]; exact k b u nb e
theorem Keep.free {h p : Addr} {H H' : Hp} (k : Keep h H H') (ne : p ≠ h) (n : H' p = none) : H p = none := by
  cases q : H p with
  | none => rfl
  | some o => rw [k p o ne q] at n; cases n
theorem Keep.self {h : Addr} {H H' : Hp} {o : HO} (k : Keep h H H') : Keep h H (upd H' h o) := fun b u nb e => by rw [upd_ne nb]; exact k b u nb e
theorem Keep.seqN {K : PySem.W.Frag} {H H' : Hp} {a h : Addr} {xs : List V} (k : Keep h H H') (n : H h = none) (q : SqL K H a xs) : SqL K H' a xs := by
  rcases q with (q | ⟨o, q⟩) | q
  · exact .inl (.inl (k _ _ (ne_of_none q n) q))
  · exact .inl (.inr ⟨o, k _ _ (ne_of_none q n) q⟩)
  · exact .inr q
/-- a tuple stands behind a store at a new place, at a list -/
theorem sqt_upd {K : PySem.W.Frag} {H : Hp} {a b : Addr} {xs : List V} {o : HO} (n : H b = none ∨ ∃ ys, H b = some (.lst ys)) (q : SqT K H a xs) : SqT K (upd H b o) a xs := by
  have ne : ∀ u, H a = some u → (∀ ys, u ≠ .lst ys) → a ≠ b := fun u e hu z => by
    subst z
    rcases n with n | ⟨ys, n⟩
    · rw [n] at e; cases e
    · rw [n] at e; exact hu ys (Option.some.inj e).symm
  rcases q with (q | ⟨o', q⟩) | q
  · exact .inl (.inl (by rw [upd_ne (ne _ q (by intro ys z; cases z))]; exact q))
  · exact .inl (.inr ⟨o', by rw [upd_ne (ne _ q (by intro ys z; cases z))]; exact q⟩)
  · exact .inr q
/-- x in (a, b, ..), data at any depth -/
def rInT (K : PySem.W.Frag) (neg : Bool) : R2 := fun x y H Q => ∃ d ds, Dp K H x d ∧ Dp K H y (.tuple ds) ∧ SeqAt.shaped d = true ∧ SeqAt.shaped (.tuple ds) = true ∧ Q (.bl (if neg then !(ds.any fun z => PyData.eqv z d) else ds.any fun z => PyData.eqv z d)) H
theorem op_inT {X : Cx} (hu : X.A.units + 65 < cLine) : OpR X (compareOp .In) (rInT X.K false) := by
  intro pins s σ H x y v u Q I rx ry h
  obtain ⟨d, ds, hd, he, sd, se, q⟩ := h
  obtain ⟨as, r1⟩ := Dp.reads I d x v hd rx
  obtain ⟨bs, r2⟩ := Dp.reads I (.tuple ds) y u he ry
  exact SeqAt.in_tuple_reads r2 r1 (SeqAt.canLay_of_shaped se) (SeqAt.canLay_of_shaped sd) (room_in_shaped sd hu) ⟨.bl _, H, I, rfl, q⟩
/-! ### readings, step by step -/
section
variable {K : PySem.W.Frag} {σ : L2.St} {H : Hp} {Q : VK} {QA : List V → Hp → Prop} {QT : Bool → Hp → Prop} {D : Ends} {ta tb tc te : TE} {tr t1 : TA} {tt tu : TT} {t u : TS} {r r' : R2} {v x y : V} {i j : Int} {n : Nat} {p : Addr} {xs : List V}
theorem d_var {i : Nat} (e : σ[i]? = some (some v)) (h : Q v H) : tVar i σ H Q := ⟨v, e, h⟩
theorem d_c (h : Q v H) : tC v σ H Q := h
theorem d_op (h : ta σ H fun x H1 => tb σ H1 fun y H2 => r x y H2 Q) : tOp r ta tb σ H Q := h
theorem d_un {r : V → Hp → VK → Prop} (h : ta σ H fun x H1 => r x H1 Q) : tUn r ta σ H Q := h
theorem d_cons (h : ta σ H fun x H1 => tr σ H1 fun xs H2 => QA (x :: xs) H2) : tCons ta tr σ H QA := h
theorem d_nil (h : QA [] H) : tNil σ H QA := h
theorem d_cb {r : List V → Hp → VK → Prop} (h : tr σ H fun vs H1 => r vs H1 Q) : tCB r tr σ H Q := h
theorem d_call {sp : Sp} {dvs : List V} {E : XK} (h : tr σ H fun vs H1 => sp (vs ++ dvs) H1 Q E) : tCall sp dvs E tr σ H Q := h
theorem d_tup (h : tr σ H fun xs H1 => xs.length ≤ sizeLine ∧ ∀ p, H1 p = none → Q (.ref p) (upd H1 p (.tup xs))) : tTup tr σ H Q := h
theorem d_lst (h : tr σ H fun xs H1 => xs.length ≤ sizeLine ∧ ∀ p, H1 p = none → Q (.ref p) (upd H1 p (.lst xs))) : tLst tr σ H Q := h
theorem d_rI {C : Int → Int → Prop} {g : Int → Int → V} (hc : C i j) (h : Q (g i j) H) : rI C g (.int i) (.int j) H Q := ⟨i, j, rfl, rfl, hc, h⟩
theorem d_rI0 {g : Int → Int → V} (h : Q (g i j) H) : rI0 g (.int i) (.int j) H Q := ⟨i, j, rfl, rfl, h⟩
theorem d_rU {g : Int → V} (h : Q (g i) H) : rU g (.int i) H Q := ⟨i, rfl, h⟩
theorem d_eqI (h : Q (.bl (decide (i = j))) H) : rEq (.int i) (.int j) H Q := ⟨rfl, by
  rw [show decide (V.int i = V.int j) = decide (i = j) by rw [Bool.eq_iff_iff]; simp]; exact h⟩
theorem d_neI (h : Q (.bl (!decide (i = j))) H) : rNe (.int i) (.int j) H Q := ⟨rfl, by
  rw [show decide (V.int i = V.int j) = decide (i = j) by rw [Bool.eq_iff_iff]; simp]; exact h⟩
theorem d_ixL (h : SqL K H p xs) (e : atI xs i = some v) (q : Q v H) : rIxL K (.ref p) (.int i) H Q := ⟨p, xs, i, v, rfl, rfl, h, e, q⟩
theorem d_ixLm (h : H p = some (.lst xs)) (e : atI xs i = some v) (q : Q v H) : rIxL K (.ref p) (.int i) H Q := ⟨p, xs, i, v, rfl, rfl, SqL.of h, e, q⟩
theorem d_ixT (h : SqT K H p xs) (e : atI xs i = some v) (q : Q v H) : rIxT K (.ref p) (.int i) H Q := ⟨p, xs, i, v, rfl, rfl, h, e, q⟩
theorem d_ixTm (h : H p = some (.tup xs)) (e : atI xs i = some v) (q : Q v H) : rIxT K (.ref p) (.int i) H Q := ⟨p, xs, i, v, rfl, rfl, SqT.of h, e, q⟩
theorem d_test (h : te σ H fun x H' => ∃ k, x = .bl k ∧ QT k H') : tTest te σ H QT := h
theorem d_tB (h : te σ H fun x H' => ∃ k, x = .bl k ∧ QT k H') : tB te σ H QT := h
theorem d_bl {b : Bool} {C : Bool → Prop} (h : C b) : ∃ k, V.bl b = .bl k ∧ C k := ⟨b, rfl, h⟩
theorem d_not (h : tt σ H fun c H1 => QT (!c) H1) : tNot tt σ H QT := h
theorem d_and (h : tt σ H fun c H1 => if c = true then tu σ H1 QT else QT false H1) : tAnd tt tu σ H QT := h
theorem d_or (h : tt σ H fun c H1 => if c = true then QT true H1 else tu σ H1 QT) : tOr tt tu σ H QT := h
theorem d_if (h : tt σ H fun c H1 => if c = true then ta σ H1 Q else tb σ H1 Q) : tIf tt ta tb σ H Q := h
theorem d_andV (h : ta σ H fun x H1 => ∃ c, x = .bl c ∧ if c = true then tb σ H1 Q else Q (.bl false) H1) : tAndV ta tb σ H Q := h
theorem d_sl {r : V → Option Int → Option Int → Hp → VK → Prop} {tl th : TO} (h : te σ H fun x H1 => tl σ H1 fun l H2 => th σ H2 fun u H3 => r x l u H3 Q) : tSl r te tl th σ H Q := h
theorem d_nop {QO : Option Int → Hp → Prop} (h : QO none H) : tNoPart σ H QO := h
theorem d_part {QO : Option Int → Hp → Prop} (h : te σ H fun x H1 => ∃ i, x = .int i ∧ QO (some i) H1) : tPart te σ H QO := h
theorem d_in {C : Int → Prop} (h : C i) : ∃ k, V.int i = .int k ∧ C k := ⟨i, rfl, h⟩
theorem d_bm {T : String} {r : V → List V → Hp → VK → Prop} (h : te σ H fun x H1 => tyV K T x H1 ∧ tr σ H1 fun xs H2 => r x xs H2 Q) : tBM K T r te tr σ H Q := h
theorem d_bm0 {T : String} {r : V → List V → Hp → VK → Prop} (h : te σ H fun x H1 => tyV K T x H1 ∧ r x [] H1 Q) : tBM0 K T r te σ H Q := h
theorem d_m1 {r : V → List V → Hp → VK → Prop} (h : ta σ H fun x H1 => (∃ a, x = .str a) ∧ te σ H1 fun y H2 => r x [y] H2 Q) : tM1 r ta te σ H Q := h
theorem d_exs {A : Str} {C : Prop} (h : C) : (∃ a, V.str A = .str a) ∧ C := ⟨⟨_, rfl⟩, h⟩
theorem d_app {l : Addr} {ys : List V} (h : H l = some (.lst ys)) (q : tr σ H fun zs H2 => rAppend (.ref l) zs H2 Q) : tyV K "list" (.ref l) H ∧ tr σ H fun zs H2 => rAppend (.ref l) zs H2 Q := ⟨.inl ⟨rfl, _, SqL.of h⟩, q⟩
theorem d_append {l : Addr} {ys : List V} (h : H l = some (.lst ys)) (hl : ys.length < sizeLine) (q : Q .non (upd H l (.lst (ys ++ [y])))) : rAppend (.ref l) [y] H Q := ⟨l, ys, y, rfl, rfl, h, hl, q⟩
theorem d_setL {QU : Hp → Prop} {l : Addr} {ys : List V} {j : Nat} (h : H l = some (.lst ys)) (e : ixN ys.length i = some j) (q : QU (upd H l (.lst (ys.set j v)))) : rSetL (.ref l) (.int i) v H QU := ⟨l, ys, i, j, rfl, rfl, h, e, q⟩
theorem d_lenL {C : List V → Prop} (h : SqL K H p xs) (q : C xs) : ∃ p' ys, [V.ref p] = [.ref p'] ∧ (SqL K H p' ys ∨ SqT K H p' ys) ∧ C ys := ⟨p, xs, rfl, .inl h, q⟩
theorem d_lenT {C : List V → Prop} (h : SqT K H p xs) (q : C xs) : ∃ p' ys, [V.ref p] = [.ref p'] ∧ (SqL K H p' ys ∨ SqT K H p' ys) ∧ C ys := ⟨p, xs, rfl, .inr h, q⟩
theorem d_lenS {C : Str → Prop} {z : Str} (h : z.length ≤ sizeLine) (q : C z) : ∃ z', [V.str z] = [.str z'] ∧ z'.length ≤ sizeLine ∧ C z' := ⟨z, rfl, h, q⟩
theorem d_isN {C : Prop} (q : C) : V.non = .non ∧ C := ⟨rfl, q⟩
-- statements
theorem d_next (h : D.nx σ H) : tNext D σ H := h
theorem d_seq (h : t { D with nx := u D } σ H) : tSeq t u D σ H := h
theorem d_asg {g : TG} (h : te σ H fun x H1 => g x σ H1 D.nx) : tAsg te g D σ H := h
theorem d_drop (h : te σ H fun _ H1 => D.nx σ H1) : tDrop te D σ H := h
theorem d_ret (h : te σ H D.rt) : tRet te D σ H := h
theorem d_retN (h : D.rt .non H) : tRetN D σ H := h
theorem d_ifS (h : tt σ H fun b H1 => if b = true then t D σ H1 else u D σ H1) : tIfS tt t u D σ H := h
theorem d_brk (h : D.bk σ H) : tBreak D σ H := h
theorem d_ct (h : D.ct σ H) : tCont D σ H := h
theorem d_aug {i : Nat} {ti : TIp} (e : σ[i]? = some (some x)) (h : te σ H fun y H1 => ti x y H1 fun z H2 => D.nx (σ.set i (some z)) H2) : tAug i te ti D σ H := ⟨x, e, h⟩
theorem d_gname {i : Nat} {QS : L2.St → Hp → Prop} (h : QS (σ.set i (some v)) H) : gName i v σ H QS := h
theorem d_gnil {QS : L2.St → Hp → Prop} (h : QS σ H) : gNil [] σ H QS := ⟨rfl, h⟩
theorem d_gcons {t : TG} {u : TGs} {vs : List V} {QS : L2.St → Hp → Prop} (h : t v σ H fun σ' H' => u vs σ' H' QS) : gCons t u (v :: vs) σ H QS := ⟨v, vs, rfl, h⟩
theorem d_gtup {t : TGs} {QS : L2.St → Hp → Prop} (h : SqT K H p xs) (hl : xs.length = n) (q : t xs σ H QS) : gTup K n t (.ref p) σ H QS := ⟨p, xs, rfl, h, hl, q⟩
theorem d_gtupm {t : TGs} {QS : L2.St → Hp → Prop} (h : H p = some (.tup xs)) (hl : xs.length = n) (q : t xs σ H QS) : gTup K n t (.ref p) σ H QS := ⟨p, xs, rfl, SqT.of h, hl, q⟩
theorem d_gsub {ti : TE} {s : TSet} {QS : L2.St → Hp → Prop} (h : ta σ H fun o H1 => ti σ H1 fun i H2 => s o i v H2 fun H3 => QS σ H3) : gSub ta ti s v σ H QS := h
-- what is walked
theorem d_for {wi : TI} {g : TG} (h : wi σ H fun J H1 => ∃ W : Nat → Nat → L2.St → Hp → Prop, (∃ m, W 0 m σ H1) ∧ ∀ i m σ H, W i m σ H →
  (J.stop i H ∧ D.nx σ H) ∨ (J.go i H ∧ ∃ N : L2.St → Hp → Prop, (∀ σ' H', N σ' H' → ∃ m', m' < m ∧ W (i + 1) m' σ' H') ∧ ∀ x H', J.yld i H x H' → g x σ H' fun σ2 H2 => t { D with nx := N, ct := N, bk := D.nx } σ2 H2)) : tFor wi g t D σ H := h
theorem d_lc {wi : TI} {g : TG} {vs : List Nat} (h : wi σ H fun J H1 => ∀ D, H1 D = none → ∃ W : Nat → Nat → Hp → Prop, (∃ m, W 0 m (upd H1 D (.lst []))) ∧ ∀ i m H, W i m H →
  (J.stop i H ∧ Q (.ref D) H) ∨ (J.go i H ∧ ∃ Nx : Hp → Prop, (∀ H', Nx H' → ∃ m', m' < m ∧ W (i + 1) m' H') ∧ ∀ x H', J.yld i H x H' → g x (wipe σ vs) H' fun σ2 H2 => wipe σ2 vs = wipe σ vs ∧ tt σ2 H2 fun b H3 =>
    if b = true then te σ2 H3 fun y H4 => ∃ acc, H4 D = some (.lst acc) ∧ acc.length < sizeLine ∧ Nx (upd H4 D (.lst (acc ++ [y]))) else Nx H3)) : tLc wi g tt te vs σ H Q := h
theorem d_iR1 {R : It → Hp → Prop} (h : tr σ H fun vs H1 => ∃ j : Int, vs = [.int j] ∧ -(2 ^ 62) ≤ j ∧ j < 2 ^ 62 ∧ R (Itr 0 j.toNat) H1) : iRng1 tr σ H R := h
theorem d_iR2 {R : It → Hp → Prop} (h : tr σ H fun vs H1 => ∃ i j : Int, vs = [.int i, .int j] ∧ (-(2 ^ 62) ≤ i ∧ i < 2 ^ 62 ∧ -(2 ^ 62) ≤ j ∧ j < 2 ^ 62) ∧ R (Itr i (j - i).toNat) H1) : iRng2 tr σ H R := h
theorem d_iR1e {C : Int → Prop} (h1 : -(2 ^ 62) ≤ j) (h2 : j < 2 ^ 62) (h : C j) : ∃ k : Int, [V.int j] = [.int k] ∧ -(2 ^ 62) ≤ k ∧ k < 2 ^ 62 ∧ C k := ⟨j, rfl, h1, h2, h⟩
theorem d_iR2e {C : Int → Int → Prop} (h1 : -(2 ^ 62) ≤ i ∧ i < 2 ^ 62 ∧ -(2 ^ 62) ≤ j ∧ j < 2 ^ 62) (h : C i j) : ∃ k l : Int, [V.int i, V.int j] = [.int k, .int l] ∧ (-(2 ^ 62) ≤ k ∧ k < 2 ^ 62 ∧ -(2 ^ 62) ≤ l ∧ l < 2 ^ 62) ∧ C k l := ⟨i, j, rfl, h1, h⟩
theorem d_iL {R : It → Hp → Prop} (h : te σ H fun x H1 => ∃ a, x = .ref a ∧ (∃ xs, SqL K H1 a xs) ∧ R (Itl K a) H1) : iList K te σ H R := h
theorem d_iT {R : It → Hp → Prop} (h : te σ H fun x H1 => ∃ a, x = .ref a ∧ (∃ xs, SqT K H1 a xs) ∧ R (Itt K a) H1) : iTup K te σ H R := h
theorem d_iTe {C : Addr → Prop} {a : Addr} (h : SqT K H a xs) (q : C a) : ∃ a', V.ref a = .ref a' ∧ (∃ xs, SqT K H a' xs) ∧ C a' := ⟨a, rfl, ⟨xs, h⟩, q⟩
theorem d_iLe {C : Addr → Prop} {a : Addr} (h : SqL K H a xs) (q : C a) : ∃ a', V.ref a = .ref a' ∧ (∃ xs, SqL K H a' xs) ∧ C a' := ⟨a, rfl, ⟨xs, h⟩, q⟩
theorem d_iS {R : It → Hp → Prop} (h : te σ H fun v H1 => ∃ x, v = .str x ∧ R (Its x) H1) : iStr te σ H R := h
theorem d_iSe {C : Str → Prop} {z : Str} (q : C z) : ∃ x, V.str z = .str x ∧ C x := ⟨z, rfl, q⟩
theorem d_yes (h : QT true H) : tYes σ H QT := h
theorem d_dget1 {td ty : TE} (h : td σ H fun x H1 => ∃ a, x = .ref a ∧ IsD H1 a ∧ ty σ H1 fun y H2 => ∃ o, DGet H2 a y o ∧ Q (o.getD .non) H2) : tDGet1 td ty σ H Q := h
theorem d_dget {td ty : TE} (h : td σ H fun x H1 => ty σ H1 fun y H2 => ∃ a v, x = .ref a ∧ DGet H2 a y (some v) ∧ Q v H2) : tDGet td ty σ H Q := h
theorem d_dput {td ty tv : TE} (h : tv σ H fun v H1 => td σ H1 fun x H2 => ty σ H2 fun y H3 => ∃ a H4, x = .ref a ∧ DPut H3 a y v H4 ∧ D.nx σ H4) : sDPut td ty tv D σ H := h
theorem d_din {td ty : TE} (h : ty σ H fun y H1 => td σ H1 fun x H2 => ∃ a o, x = .ref a ∧ DGet H2 a y o ∧ Q (.bl o.isSome) H2) : tDIn ty td σ H Q := h
theorem d_dnewT (h : ∀ p, H p = none → Q (.ref p) (upd H p (.dT []))) : tDNewT σ H Q := h
theorem d_dnewK (h : ∀ p, H p = none → Q (.ref p) (upd H p (.dK []))) : tDNewK σ H Q := h
theorem iteNT {A B : Prop} (h : B) : if (!true) = true then A else B := h
theorem iteNF {A B : Prop} (h : A) : if (!false) = true then A else B := h
theorem d_cut (M : L2.St → Hp → Prop) (h : t { D with nx := M } σ H) (k : ∀ σ' H', M σ' H' → u D σ' H') : Evl.tCut t u D σ H := ⟨M, h, k⟩
/-- a and b where b only looks -/
theorem if_any {c : Bool} {tb : TE} (hb : ∀ Q' : VK, (∀ b H', Same H H' → Q' (.bl b) H') → tb σ H Q') (q : ∀ b H', Same H H' → Q (.bl b) H') : if c = true then tb σ H Q else Q (.bl false) H := by
  cases c with
  | true => exact iteT (hb Q q)
  | false => exact iteF (q _ _ (Same.refl _))
theorem d_wipe {σ2 σ3 : L2.St} {vs : List Nat} {C : Prop} (e : wipe σ2 vs = wipe σ3 vs) (h : C) : wipe σ2 vs = wipe σ3 vs ∧ C := ⟨e, h⟩
theorem d_lsten (h : tr σ H fun vs H1 => rLstEn K vs H1 Q) : tLstEn K tr σ H Q := h
theorem d_slL {a : Addr} {lo hi : Option Int} (h : SqL K H a xs) (q : ∀ p, H p = none → Q (.ref p) (upd H p (.lst (cutV xs lo hi)))) : rSlL K (.ref a) lo hi H Q := ⟨a, xs, rfl, h, q⟩
theorem d_lrg {tg : L2.St → Hp → (Int → Int → Hp → Prop) → Prop} (h : tg σ H fun a b H1 => RgOk a b ∧ ∀ q, H1 q = none → Q (.ref q) (upd H1 q (.lst (rgV a b)))) : tLstRg tg σ H Q := h
theorem d_rg1 {R : Int → Int → Hp → Prop} (h : te σ H fun x H1 => ∃ n, x = .int n ∧ R 0 n H1) : tRg1 te σ H R := h
end
/-- the law's hand: two whole numbers -/
def Hand (H : Hp) (h : Addr) : Prop := ∃ d m : Int, H h = some (.lst [.int d, .int m]) ∧ 0 ≤ d ∧ 0 ≤ m ∧ m < 2147483587
theorem Hand.same {H H' : Hp} {h : Addr} (x : Hand H h) (s : Same H H') : Hand H' h := by
  obtain ⟨d, m, e, r⟩ := x
  exact ⟨d, m, s _ _ e, r⟩
theorem Hand.ne {H : Hp} {h p : Addr} (x : Hand H h) (n : H p = none) : p ≠ h := by
  obtain ⟨d, m, e, r⟩ := x
  exact (ne_of_none e n).symm
theorem Hand.put {H : Hp} {h p : Addr} {o : HO} (x : Hand H h) (n : p ≠ h) : Hand (upd H p o) h := by
  obtain ⟨d, m, e, r⟩ := x
  exact ⟨d, m, by rw [upd_ne n.symm]; exact e, r⟩
/-- a tuple stays where a list changes -/
theorem Keep.sqt {K : PySem.W.Frag} {h : Addr} {H H' : Hp} {a : Addr} {xs ys : List V} (k : Keep h H H') (e : H h = some (.lst ys)) (q : SqT K H a xs) : SqT K H' a xs := by
  rcases q with (q | ⟨o, q⟩) | q
  · exact .inl (.inl (k _ _ (ne_of q e (by intro z; cases z)) q))
  · exact .inl (.inr ⟨o, k _ _ (ne_of q e (by intro z; cases z)) q⟩)
  · exact .inr q
mutual
theorem dp_same {K : PySem.W.Frag} {H H' : Hp} (s : Same H H') : ∀ (d : PyData) (v : V), Dp K H v d → Dp K H' v d
  | .none, _, h => by cases h; exact .non
  | .bool b, _, h => by cases h; exact .bl b
  | .int i, _, h => by cases h; exact .int i
  | .str x, _, h => by cases h; exact .str x
  | .list ds, _, h => by
    cases h with
    | lst hs ha => exact .lst (Same.seq s hs) (dpa_same s ds _ ha)
  | .tuple ds, _, h => by
    cases h with
    | tup hs ha => exact .tup (Same.sqt s hs) (dpa_same s ds _ ha)
  | .dict _, _, h => by cases h
theorem dpa_same {K : PySem.W.Frag} {H H' : Hp} (s : Same H H') : ∀ (ds : List PyData) (vs : List V), DpAll K H vs ds → DpAll K H' vs ds
  | [], _, h => by cases h; exact .nil
  | d :: ds, _, h => by
    cases h with
    | cons a b => exact .cons (dp_same s d _ a) (dpa_same s ds _ b)
end
theorem dpa_ints {K : PySem.W.Frag} {H : Hp} : ∀ ns : List Int, DpAll K H (ns.map V.int) (ns.map PyData.int)
  | [] => .nil
  | n :: r => .cons (.int n) (dpa_ints r)
theorem shaped_ints (ns : List Int) : SeqAt.shaped (.list (ns.map PyData.int)) = true := PySem.W.ke_shaped_ints ns
/-- one sign -/
abbrev sg (c : Nat) : Str := ⟨#[c]⟩
def Ltr (c : Nat) : Prop := 97 ≤ c ∧ c ≤ 122
abbrev Tie := Nat × Nat × Nat
/-- places' kinds, ties -/
abbrev Web := List Nat × List Tie
def TieAt (K : PySem.W.Frag) (H : Hp) (v : V) (t : Tie) : Prop := ∃ a, v = .ref a ∧ SqT K H a [.int (t.1 : Nat), .int (t.2.1 : Nat), .str (sg t.2.2)]
def WebAt (K : PySem.W.Frag) (H : Hp) (v : V) (w : Web) : Prop := ∃ a b tvs, v = .ref a ∧ SqT K H a [.str ⟨w.1.toArray⟩, .ref b] ∧ SqT K H b tvs ∧ Paired (TieAt K H) tvs w.2
def tlt (s t : Tie) : Prop := s.1 < t.1 ∨ (s.1 = t.1 ∧ s.2.1 < t.2.1)
structure WOk (w : Web) : Prop where
  few : w.1.length ≤ 40
  most : w.2.length ≤ 1600
  kinds : ∀ c ∈ w.1, Ltr c
  rise : w.2.Pairwise tlt
  ends : ∀ t ∈ w.2, t.1 < t.2.1 ∧ t.2.1 < w.1.length ∧ Ltr t.2.2
theorem Paired.imp {α β : Type} {F G : α → β → Prop} {xs : List α} {ys : List β} (p : Paired F xs ys) (h : ∀ a b, F a b → G a b) : Paired G xs ys := by
  induction p with
  | nil => exact .nil
  | cons a _ ih => exact .cons (h _ _ a) ih
theorem TieAt.same {K : PySem.W.Frag} {H H' : Hp} {v : V} {t : Tie} (x : TieAt K H v t) (s : Same H H') : TieAt K H' v t := by
  obtain ⟨a, e, q⟩ := x
  exact ⟨a, e, Same.sqt s q⟩
theorem TieAt.keep {K : PySem.W.Frag} {H H' : Hp} {v : V} {t : Tie} {h : Addr} {ys : List V} (x : TieAt K H v t) (k : Keep h H H') (e : H h = some (.lst ys)) : TieAt K H' v t := by
  obtain ⟨a, e', q⟩ := x
  exact ⟨a, e', k.sqt e q⟩
theorem WebAt.same {K : PySem.W.Frag} {H H' : Hp} {v : V} {w : Web} (x : WebAt K H v w) (s : Same H H') : WebAt K H' v w := by
  obtain ⟨a, b, tvs, e, q1, q2, q3⟩ := x
  exact ⟨a, b, tvs, e, Same.sqt s q1, Same.sqt s q2, Paired.imp q3 fun _ _ z => z.same s⟩
theorem WebAt.keep {K : PySem.W.Frag} {H H' : Hp} {v : V} {w : Web} {h : Addr} {ys : List V} (x : WebAt K H v w) (k : Keep h H H') (e : H h = some (.lst ys)) : WebAt K H' v w := by
  obtain ⟨a, b, tvs, e', q1, q2, q3⟩ := x
  exact ⟨a, b, tvs, e', k.sqt e q1, k.sqt e q2, Paired.imp q3 fun _ _ z => z.keep k e⟩
theorem TieAt.put {K : PySem.W.Frag} {H : Hp} {v : V} {t : Tie} {b : Addr} {o : HO} (x : TieAt K H v t) (n : H b = none ∨ ∃ ys, H b = some (.lst ys)) : TieAt K (upd H b o) v t := by
  obtain ⟨a, e, q⟩ := x
  exact ⟨a, e, sqt_upd n q⟩
theorem WebAt.put {K : PySem.W.Frag} {H : Hp} {v : V} {w : Web} {b : Addr} {o : HO} (x : WebAt K H v w) (n : H b = none ∨ ∃ ys, H b = some (.lst ys)) : WebAt K (upd H b o) v w := by
  obtain ⟨a, b, tvs, e', q1, q2, q3⟩ := x
  exact ⟨a, b, tvs, e', sqt_upd n q1, sqt_upd n q2, Paired.imp q3 fun _ _ z => z.put n⟩
theorem Paired.at {α β : Type} {F : α → β → Prop} : ∀ {xs : List α} {ys : List β}, Paired F xs ys → ∀ {i : Nat} {x : α}, xs[i]? = some x → ∃ y, ys[i]? = some y ∧ F x y
  | _, _, .nil, i, x, h => by cases h
  | _, _, .cons r t, 0, x, h => by
    cases h
    exact ⟨_, rfl, r⟩
  | _, _, .cons r t, i + 1, x, h => Paired.at t h
open TL in
theorem joinL_nil : ∀ ps : List (List Nat), joinL [] ps = ps.flatten
  | [] => rfl
  | [p] => by show p = [p].flatten; simp
  | p :: q :: r => by
    show p ++ ([] ++ joinL [] (q :: r)) = (p :: q :: r).flatten
    rw [joinL_nil (q :: r)]; simp
theorem str_ext {x y : Str} (h : x.cps.toList = y.cps.toList) : x = y := by
  cases x; cases y
  simpa using h
open TL in
theorem join_signs (cs : List Nat) : Txt.join (Str.ofString "") (cs.map sg) = ⟨cs.toArray⟩ := by
  rw [join_eq]
  apply str_ext
  show tl (Str.join (Str.ofString "") (cs.map sg)) = cs
  rw [tl_join, show tl (Str.ofString "") = [] from by decide +kernel, joinL_nil, List.map_map]
  induction cs with
  | nil => rfl
  | cons c r ih =>
    rw [List.map_cons, List.flatten_cons, ih]
    rfl
theorem sum_const {α : Type} (f : α → Nat) (n : Nat) : ∀ l : List α, (∀ x ∈ l, f x = n) → (l.map f).sum = l.length * n
  | [], _ => by simp
  | a :: r, h => by
    rw [List.map_cons, List.sum_cons, sum_const f n r fun x hx => h x (List.mem_cons_of_mem _ hx), h a List.mem_cons_self, List.length_cons, Nat.succ_mul]
    omega
theorem sz {n : Nat} (h : n ≤ 100000) : n ≤ sizeLine := Nat.le_trans h (by decide)
theorem szl {n : Nat} (h : n ≤ 100000) : n < sizeLine := Nat.lt_of_le_of_lt h (by decide)
end Cw

namespace Cw
open PySem PySem.Spec PyProof.Rows L2
/-! ### ties -/
def at2 (a b : Nat) (t : Tie) : Bool := (t.1 == a && t.2.1 == b) || (t.1 == b && t.2.1 == a)
def tieL (ts : List Tie) (a b : Nat) : Option Nat := (ts.find? (at2 a b)).map (·.2.2)
def beside (p : Nat) (t : Tie) : Option Nat := if t.1 = p then some t.2.1 else if t.2.1 = p then some t.1 else none
def nb (ts : List Tie) (p : Nat) : List Nat := ts.filterMap (beside p)
theorem at2_iff {a b : Nat} {t : Tie} : at2 a b t = true ↔ (t.1 = a ∧ t.2.1 = b) ∨ (t.1 = b ∧ t.2.1 = a) := by
  simp [at2]
theorem at2_swap (a b : Nat) (t : Tie) : at2 a b t = at2 b a t := by
  unfold at2; rw [Bool.or_comm]
theorem tieL_swap (ts : List Tie) (a b : Nat) : tieL ts a b = tieL ts b a := by
  unfold tieL
  rw [show at2 a b = at2 b a from funext (at2_swap a b)]
theorem tieL_isSome {ts : List Tie} {a b : Nat} : (tieL ts a b).isSome = true ↔ ∃ t ∈ ts, at2 a b t = true := by
  unfold tieL
  rw [Option.isSome_map, List.find?_isSome]
theorem tieL_none {ts : List Tie} {a b : Nat} (h : ∀ t ∈ ts, at2 a b t = false) : tieL ts a b = none := by
  unfold tieL
  rw [List.find?_eq_none.mpr (fun t ht => by rw [h t ht]; simp)]; rfl
theorem tieL_snoc (l : List Tie) (t : Tie) (a b : Nat) : tieL (l ++ [t]) a b = (tieL l a b).or (if at2 a b t = true then some t.2.2 else none) := by
  unfold tieL
  rw [List.find?_append]
  cases l.find? (at2 a b) with
  | some x => rfl
  | none =>
    show ((none : Option Tie).or ([t].find? (at2 a b))).map (·.2.2) = (none : Option Nat).or _
    rw [Option.none_or, Option.none_or]
    by_cases h : at2 a b t = true
    · rw [if_pos h, List.find?_cons_of_pos h]; rfl
    · rw [if_neg h, List.find?_cons_of_neg h]; rfl
theorem nb_snoc (l : List Tie) (t : Tie) (p : Nat) : nb (l ++ [t]) p = nb l p ++ (if t.1 = p then [t.2.1] else if t.2.1 = p then [t.1] else []) := by
  unfold nb
  rw [List.filterMap_append]
  congr 1
  by_cases h1 : t.1 = p
  · rw [if_pos h1]; simp [beside, h1]
  · by_cases h2 : t.2.1 = p
    · rw [if_neg h1, if_pos h2]; simp [beside, h1, h2]
    · rw [if_neg h1, if_neg h2]; simp [beside, h1, h2]
theorem nb_len (l : List Tie) (p : Nat) : (nb l p).length ≤ l.length := List.length_filterMap_le _ _
theorem take_snoc {α : Type} {l : List α} {i : Nat} {x : α} (h : l[i]? = some x) : l.take (i + 1) = l.take i ++ [x] := by
  rw [List.take_add_one, h]; rfl
/-- no tie stands twice -/
theorem tieL_new {ts : List Tie} (s : ts.Pairwise tlt) (e : ∀ t ∈ ts, t.1 < t.2.1) {i : Nat} {t : Tie} (h : ts[i]? = some t) : tieL (ts.take i) t.1 t.2.1 = none := by
  refine tieL_none fun u hu => ?_
  have hl : (ts.take i ++ [t]).Pairwise tlt := by rw [← take_snoc h]; exact s.sublist (List.take_sublist _ _)
  have lt := (List.pairwise_append.mp hl).2.2 u hu t List.mem_cons_self
  have e1 := e u (List.mem_of_mem_take hu)
  have e2 := e t (List.mem_of_getElem? h)
  cases q : at2 t.1 t.2.1 u with
  | false => rfl
  | true =>
    rcases at2_iff.mp q with ⟨a, b⟩ | ⟨a, b⟩
    · rcases lt with z | ⟨_, z⟩ <;> omega
    · omega
theorem sorted_ext : ∀ {l m : List Nat}, l.Pairwise (· < ·) → m.Pairwise (· < ·) → (∀ x, x ∈ l ↔ x ∈ m) → l = m
  | [], [], _, _, _ => rfl
  | [], y :: m, _, _, h => absurd ((h y).mpr List.mem_cons_self) (by simp)
  | x :: l, [], _, _, h => absurd ((h x).mp List.mem_cons_self) (by simp)
  | x :: l, y :: m, hl, hm, h => by
    obtain ⟨l1, l2⟩ := List.pairwise_cons.mp hl
    obtain ⟨m1, m2⟩ := List.pairwise_cons.mp hm
    have hx : x = y := by
      rcases List.mem_cons.mp ((h x).mp List.mem_cons_self) with z | z
      · exact z
      · rcases List.mem_cons.mp ((h y).mpr List.mem_cons_self) with z' | z'
        · exact z'.symm
        · have a := m1 x z
          have b := l1 y z'
          omega
    subst hx
    congr 1
    refine sorted_ext l2 m2 fun z => ⟨fun hz => ?_, fun hz => ?_⟩
    · rcases List.mem_cons.mp ((h z).mp (List.mem_cons_of_mem _ hz)) with q | q
      · have := l1 z hz; omega
      · exact q
    · rcases List.mem_cons.mp ((h z).mpr (List.mem_cons_of_mem _ hz)) with q | q
      · have := m1 z hz; omega
      · exact q
theorem beside_iff {p o : Nat} {t : Tie} (e : t.1 < t.2.1) : beside p t = some o ↔ at2 p o t = true := by
  rw [at2_iff]
  unfold beside
  by_cases h1 : t.1 = p
  · rw [if_pos h1]
    constructor
    · intro z; exact .inl ⟨h1, Option.some.inj z⟩
    · rintro (⟨_, z⟩ | ⟨z1, z2⟩)
      · rw [z]
      · omega
  · rw [if_neg h1]
    by_cases h2 : t.2.1 = p
    · rw [if_pos h2]
      constructor
      · intro z; exact .inr ⟨Option.some.inj z, h2⟩
      · rintro (⟨z, _⟩ | ⟨z1, z2⟩)
        · exact absurd z h1
        · rw [z1]
    · rw [if_neg h2]
      constructor
      · intro z; cases z
      · rintro (⟨z, _⟩ | ⟨_, z⟩)
        · exact absurd z h1
        · exact absurd z h2
theorem nb_rise {ts : List Tie} (s : ts.Pairwise tlt) (e : ∀ t ∈ ts, t.1 < t.2.1) (p : Nat) : (nb ts p).Pairwise (· < ·) := by
  unfold nb
  rw [List.pairwise_filterMap]
  refine List.Pairwise.imp_of_mem (fun {t u} ht hu lt a ha b hb => ?_) s
  have e1 := e t ht
  have e2 := e u hu
  rcases at2_iff.mp ((beside_iff e1).mp ha) with ⟨a1, a2⟩ | ⟨a1, a2⟩ <;> rcases at2_iff.mp ((beside_iff e2).mp hb) with ⟨b1, b2⟩ | ⟨b1, b2⟩ <;> rcases lt with z | ⟨z1, z2⟩ <;> omega
theorem nb_eq {w : Web} (W : WOk w) (p : Nat) : nb w.2 p = (List.range w.1.length).filter fun o => (tieL w.2 p o).isSome := by
  refine sorted_ext (nb_rise W.rise (fun t ht => (W.ends t ht).1) p) (List.Pairwise.filter _ List.pairwise_lt_range) fun o => ?_
  rw [List.mem_filter, tieL_isSome, List.mem_range]
  unfold nb
  rw [List.mem_filterMap]
  constructor
  · rintro ⟨t, ht, hb⟩
    have q := (beside_iff (W.ends t ht).1).mp hb
    refine ⟨?_, t, ht, q⟩
    have r := W.ends t ht
    rcases at2_iff.mp q with ⟨_, a⟩ | ⟨a, _⟩ <;> omega
  · rintro ⟨_, t, ht, q⟩
    exact ⟨t, ht, (beside_iff (W.ends t ht).1).mpr q⟩
theorem tieL_self {w : Web} (W : WOk w) (p : Nat) : tieL w.2 p p = none := by
  refine tieL_none fun t ht => ?_
  have r := W.ends t ht
  cases q : at2 p p t with
  | false => rfl
  | true => rcases at2_iff.mp q with ⟨a, b⟩ | ⟨a, b⟩ <;> omega
/-- a tie's kind, or None -/
def optV : Option Nat → V
  | some c => .str (sg c)
  | none => .non
theorem optV_non (o : Option Nat) : (!decide (optV o = .non)) = o.isSome := by cases o <;> rfl
theorem optV_scal (o : Option Nat) : scal (optV o) (optV o) = true := by cases o <;> rfl
def zs (l : List Nat) : List Int := l.map fun (o : Nat) => (o : Int)
theorem ints_map (l : List Nat) : (l.map fun o => V.int (o : Nat)) = (zs l).map V.int := by
  unfold zs; rw [List.map_map]; rfl
theorem eqv_ints (l : List Int) : PyData.eqv (.list (l.map PyData.int)) (.list (l.map PyData.int)) = true := by
  show PyData.eqvAll _ _ = true
  rw [PySem.W.ked_eqvAll, decide_eq_true rfl]
theorem dp_nats {K : PySem.W.Frag} {H : Hp} {a : Addr} {l : List Nat} (h : H a = some (.lst (l.map fun o => V.int (o : Nat)))) : Dp K H (.ref a) (.list ((zs l).map PyData.int)) := by
  rw [ints_map] at h
  exact .lst (SqL.of h) (dpa_ints _)
/-- the heap without one object -/
def del (H : Hp) (a : Addr) : Hp := fun b => if b = a then none else H b
theorem del_ne {H : Hp} {a b : Addr} (n : b ≠ a) : del H a b = H b := by unfold del; rw [if_neg n]
theorem del_at {H : Hp} {a b : Addr} {o : HO} (n : b ≠ a) (h : H b = some o) : del H a b = some o := by rw [del_ne n]; exact h
theorem del_same (H : Hp) (a : Addr) : Same (del H a) H := fun b o e => by
  by_cases n : b = a
  · unfold del at e; rw [if_pos n] at e; cases e
  · rw [del_ne n] at e; exact e
theorem Keep.del {h : Addr} {H H' : Hp} (k : Keep h H H') : Same (del H h) (del H' h) := fun b o e => by
  by_cases n : b = h
  · unfold Cw.del at e; rw [if_pos n] at e; cases e
  · rw [del_ne n] at e ⊢; exact k b o n e
theorem dpa_snoc {K : PySem.W.Frag} {H : Hp} : ∀ {vs : List V} {ds : List PyData} {v : V} {d : PyData}, DpAll K H vs ds → Dp K H v d → DpAll K H (vs ++ [v]) (ds ++ [d])
  | [], [], _, _, _, h => .cons h .nil
  | _ :: _, _ :: _, _, _, .cons a b, h => .cons a (dpa_snoc b h)
/-- what is held: pairs of equal lists of whole numbers -/
def hD (x : List Int) : PyData := .list [.list (x.map PyData.int), .list (x.map PyData.int)]
def Held (K : PySem.W.Frag) (H : Hp) (hd : Addr) (m : Nat) : Prop := ∃ (hs : List V) (xs : List (List Int)), H hd = some (.lst hs) ∧ hs.length ≤ m ∧ DpAll K (del H hd) hs (xs.map hD)
theorem Held.same {K : PySem.W.Frag} {H H' : Hp} {hd : Addr} {m : Nat} (x : Held K H hd m) (s : Same H H') : Held K H' hd m := by
  obtain ⟨hs, xs, e, l, a⟩ := x
  exact ⟨hs, xs, s _ _ e, l, dpa_same (Keep.del (Same.keep s)) _ _ a⟩
theorem Held.mono {K : PySem.W.Frag} {H : Hp} {hd : Addr} {m n : Nat} (x : Held K H hd m) (h : m ≤ n) : Held K H hd n := by
  obtain ⟨hs, xs, e, l, a⟩ := x
  exact ⟨hs, xs, e, Nat.le_trans l h, a⟩
theorem dpa_at {K : PySem.W.Frag} {H : Hp} : ∀ {vs : List V} {ds : List PyData} (i : Nat) {v : V}, DpAll K H vs ds → vs[i]? = some v → ∃ d, ds[i]? = some d ∧ Dp K H v d
  | [], _, _, _, _, h => by simp at h
  | _ :: _, _ :: _, 0, _, .cons a b, h => by
    cases h
    exact ⟨_, rfl, a⟩
  | _ :: _, _ :: _, i + 1, _, .cons a b, h => dpa_at i b (by simpa using h)
theorem rgV_nats (n : Int) : rgV 0 n = (List.range n.toNat).map fun q => V.int (q : Nat) := by
  unfold rgV
  rw [Int.sub_zero]
  congr 1
  funext i
  rw [Int.zero_add]
end Cw

namespace Cw
open PySem PySem.Spec PyProof.Rows L2
local macro_rules | `(tactic| walk_at "rd1") => `(tactic| first
  | (with_reducible refine d_seq ?_) | (with_reducible refine d_asg ?_) | (with_reducible refine d_cons ?_) | (with_reducible refine d_nil ?_)
  | ((with_reducible refine' d_var ?e ?_); (case e => exact rfl))
  | (with_reducible refine d_c ?_) | (with_reducible refine d_op ?_) | (with_reducible refine d_un ?_) | (with_reducible refine d_cb ?_)
  | (with_reducible refine d_rI0 ?_) | (with_reducible refine d_rU ?_) | (with_reducible refine d_eqI ?_) | (with_reducible refine d_neI ?_)
  | ((with_reducible refine d_rI ?hc ?_); (case hc => first | assumption | decide | exact ⟨by decide, by decide⟩ | exact ⟨by omega, by omega⟩ | exact .inl ⟨by omega, by omega⟩ | exact .inr ⟨by omega, by omega⟩))
  | ((with_reducible refine' d_ixLm ?h ?e ?_); (case h => first | assumption | exact upd_same); (case e => rfl)) | ((with_reducible refine' d_ixTm ?h ?e ?_); (case h => first | assumption | exact upd_same); (case e => rfl))
  | (with_reducible refine d_test ?_) | (with_reducible refine d_tB ?_) | (with_reducible refine d_bl ?_) | (with_reducible refine d_not ?_) | (with_reducible refine d_notV ?_) | (with_reducible refine d_and ?_) | (with_reducible refine d_or ?_)
  | (with_reducible refine d_if ?_) | (with_reducible refine d_andV ?_) | (with_reducible refine d_ifS ?_) | (with_reducible refine iteT ?_) | (with_reducible refine iteF ?_) | (with_reducible refine iteNT ?_) | (with_reducible refine iteNF ?_)
  | (with_reducible refine d_ret ?_) | (with_reducible refine d_retN ?_) | (with_reducible refine d_drop ?_) | (with_reducible refine d_next ?_) | (with_reducible refine d_brk ?_) | (with_reducible refine d_ct ?_)
  | (with_reducible refine d_gname ?_) | (with_reducible refine d_gcons ?_) | (with_reducible refine d_gnil ?_) | (with_reducible refine d_gsub ?_)
  | (with_reducible refine d_call ?_) | (with_reducible refine d_tup ?_) | (with_reducible refine d_lst ?_)
  | (with_reducible refine d_sl ?_) | (with_reducible refine d_nop ?_) | (with_reducible refine d_part ?_) | (with_reducible refine d_in ?_)
  | (with_reducible refine d_bm ?_) | (with_reducible refine d_bm0 ?_) | (with_reducible refine d_m1 ?_) | (with_reducible refine d_exs ?_)
  | ((with_reducible refine' d_setL ?h ?e ?_); (case h => first | assumption | exact upd_same); (case e => rfl))
  | ((with_reducible refine' d_gtupm ?h ?e ?_); (case h => first | assumption | exact upd_same); (case e => rfl))
  | ((with_reducible refine' d_aug ?e ?_); (case e => exact rfl))
  | (with_reducible refine d_for ?_) | (with_reducible refine d_lc ?_) | (with_reducible refine d_dc ?_) | (with_reducible refine d_iR1 ?_) | (with_reducible refine d_iR2 ?_) | (with_reducible refine d_iL ?_) | (with_reducible refine d_iT ?_) | (with_reducible refine d_iS ?_) | (with_reducible refine d_iSe ?_) | (with_reducible refine d_yes ?_) | (with_reducible refine d_lsten ?_) | (with_reducible refine d_iEnS ?_) | (with_reducible refine d_iEnSe ?_) | (with_reducible refine d_iEn ?_) | (with_reducible refine d_dget1 ?_) | (with_reducible refine d_dget2 ?_) | (with_reducible refine d_iCmb ?_) | (with_reducible refine d_dget ?_) | (with_reducible refine d_dput ?_) | (with_reducible refine d_din ?_) | (with_reducible refine d_dnewT ?_) | (with_reducible refine d_dnewK ?_) | ((with_reducible refine d_wipe ?e ?_); (case e => rfl)) | (with_reducible refine d_lrg ?_) | (with_reducible refine d_rg1 ?_)
  | ((with_reducible refine d_iR1e ?a ?b ?_); (case a => omega); (case b => omega)) | ((with_reducible refine d_iR2e ?a ?_); (case a => omega))
  | (with_reducible refine d_isN ?_))
local macro_rules | `(tactic| walk_at "rd") => `(tactic| (repeat walk_at "rd1"))

def topS (i : Nat) : Stmt := PySem.Challenge.pw_commonweb_k02_ties_and_neighbours.main.body.getD i (.Pass ⟨0, 0, 0, 0⟩)
abbrev s_tie_of : Stmt := topS 1
abbrev s_neighbours : Stmt := topS 2
abbrev s_all_neighbours : Stmt := topS 3
abbrev s_hand : Stmt := topS 5
abbrev s_draw : Stmt := topS 6
abbrev s_cells : Stmt := topS 7
abbrev s_great : Stmt := topS 8
abbrev s_letters : Stmt := topS 9
abbrev s_web : Stmt := topS 10
abbrev s_size : Stmt := topS 11
abbrev s_tie : Stmt := topS 12
abbrev s_right : Stmt := topS 13
abbrev s_law : Stmt := topS 14
theorem sc_tie_of : FnScope ["web", "one", "other", "ties", "ends", "low", "high", "middle"] ["web", "one", "other"] (defScope s_tie_of) := ⟨rfl, rfl, rfl, by decide +kernel, rfl, by decide +kernel, by decide +kernel⟩
theorem sc_neighbours : FnScope ["web", "place"] ["web", "place"] (defScope s_neighbours) := ⟨rfl, rfl, rfl, by decide +kernel, rfl, by decide +kernel, by decide +kernel⟩
theorem sc_all_neighbours : FnScope ["web", "beside", "place", "other", "_"] ["web"] (defScope s_all_neighbours) := ⟨rfl, rfl, rfl, by decide +kernel, rfl, by decide +kernel, by decide +kernel⟩
theorem sc_hand : FnScope ["cell", "k", "digits"] ["cell", "k"] (defScope s_hand) := ⟨rfl, rfl, rfl, by decide +kernel, rfl, by decide +kernel, by decide +kernel⟩
theorem sc_draw : FnScope ["hand", "limit", "got"] ["hand", "limit"] (defScope s_draw) := ⟨rfl, rfl, rfl, by decide +kernel, rfl, by decide +kernel, by decide +kernel⟩
theorem sc_cells : FnScope ["script", "many"] ["script", "many"] (defScope s_cells) := ⟨rfl, rfl, rfl, by decide +kernel, rfl, by decide +kernel, by decide +kernel⟩
theorem sc_great : FnScope ["script"] ["script"] (defScope s_great) := ⟨rfl, rfl, rfl, by decide +kernel, rfl, by decide +kernel, by decide +kernel⟩
theorem sc_letters : FnScope ["hand"] ["hand"] (defScope s_letters) := ⟨rfl, rfl, rfl, by decide +kernel, rfl, by decide +kernel, by decide +kernel⟩
theorem sc_web : FnScope ["hand", "many", "some", "tie_kinds", "often", "kinds", "ties", "place", "other", "k"] ["hand", "many"] (defScope s_web) := ⟨rfl, rfl, rfl, by decide +kernel, rfl, by decide +kernel, by decide +kernel⟩
theorem sc_size : FnScope ["hand", "great"] ["hand", "great"] (defScope s_size) := ⟨rfl, rfl, rfl, by decide +kernel, rfl, by decide +kernel, by decide +kernel⟩
theorem sc_tie : FnScope ["web", "one", "other", "tie"] ["web", "one", "other"] (defScope s_tie) := ⟨rfl, rfl, rfl, by decide +kernel, rfl, by decide +kernel, by decide +kernel⟩
theorem sc_right : FnScope ["web", "place", "others", "held", "due", "told", "other", "found", "one"] ["web", "place", "others", "held"] (defScope s_right) := ⟨rfl, rfl, rfl, by decide +kernel, rfl, by decide +kernel, by decide +kernel⟩
theorem sc_law : FnScope ["script", "held", "k", "cell", "hand", "many", "web", "places", "place", "j", "one"] ["script"] (defScope s_law) := ⟨rfl, rfl, rfl, by decide +kernel, rfl, by decide +kernel, by decide +kernel⟩
/-- what the top leaves -/
structure Tx (K : PySem.W.Frag) (mg : Str → Option Value) where
  tie_of : Df K mg "tie_of" s_tie_of ["web", "one", "other"]
  neighbours : Df K mg "neighbours" s_neighbours ["web", "place"]
  all_neighbours : Df K mg "all_neighbours" s_all_neighbours ["web"]
  hand : Df K mg "_law_hand" s_hand ["cell", "k"]
  draw : Df K mg "_law_draw" s_draw ["hand", "limit"]
  cells : Df K mg "_law_cells" s_cells ["script", "many"]
  great : Df K mg "_law_great" s_great ["script"]
  letters : Df K mg "_law_letters" s_letters ["hand"]
  web : Df K mg "_law_web" s_web ["hand", "many"]
  size : Df K mg "_law_size" s_size ["hand", "great"]
  tie : Df K mg "_law_tie" s_tie ["web", "one", "other"]
  right : Df K mg "_law_right" s_right ["web", "place", "others", "held"]
  law : Df K mg "law" s_law ["script"]
  m_bool : mg "bool" = none
  m_enumerate : mg "enumerate" = none
  m_int : mg "int" = none
  m_isinstance : mg "isinstance" = none
  m_len : mg "len" = none
  m_list : mg "list" = none
  m_max : mg "max" = none
  m_min : mg "min" = none
  m_range : mg "range" = none
  m_sum : mg "sum" = none
  m_tuple : mg "tuple" = none
section
variable {P : Program} {w : World} {K : PySem.W.Frag} {mg : Str → Option Value} {base : Heap}
def spHand : Sp := fun vs H Q _ => ∃ c k : Int, vs = [.int c, .int k] ∧ 0 ≤ k ∧ k ≤ 1000 ∧ ∀ H' h, Same H H' → H h = none → Hand H' h → Q (.ref h) H'
theorem ok_hand (T : Tx K mg) : FnOk P w K mg base CX0 1 T.hand.f T.hand.fd ["cell", "k"] spHand := by
  refine T.hand.F.ok sc_hand (fun vs H Q E h => ?_) (fun cdv A outer s H vs Q E hr h => ?_)
  · obtain ⟨c, k, rfl, _⟩ := h; rfl
  · obtain ⟨c, k, rfl, k0, k1, q⟩ := h
    refine ⟨_, (pss_cons (ps_set (i := 2) sc_hand.nd rfl (.inl rfl) pe_int)
      (pss_cons (ps_if (pt_cmpR op_ge (pv 0) (pe_op op_pow pe_int pe_int) (nomark _))
        (pss_one (ps_set (i := 2) sc_hand.nd rfl (.inl rfl) (pv 0)))
        pss_nil)
      (pss_one (ps_ret (pe_lst (pa_cons (pv 2) (pa_cons (pe_op op_mod (pe_op op_mul (pe_op op_add (pe_op op_add (pe_op op_mod (pv 0) pe_int) (pe_op op_mul pe_int (pv 1))) pe_int) pe_int) pe_int) pa_nil))))))), ?_⟩
    walk_at "rd"
    have fin : ∀ d : Int, 0 ≤ d → ∀ H' h, Same H H' → H h = none → H' h = some (.lst [.int d, .int ((c % 2147483587 + 7919 * k + 1) * 48271 % 2147483587)]) → Q (.ref h) H' := fun d hd H' h s n e => q H' h s n ⟨d, _, e, hd, by omega, by omega⟩
    refine ite2 (fun e => ?_) (fun e => ?_)
    · have e1 := of_decide_eq_true e
      have e2 : (10 : Int) ^ Int.toNat 18 = 1000000000000000000 := by decide
      rw [e2] at e1
      walk_at "rd"
      refine ⟨by show 2 ≤ sizeLine; decide, fun p hp => fin c (by omega) _ _ (same_new hp) hp upd_same⟩
    · walk_at "rd"
      refine ⟨by show 2 ≤ sizeLine; decide, fun p hp => fin 0 (by omega) _ _ (same_new hp) hp upd_same⟩
def spDraw : Sp := fun vs H Q _ => ∃ (h : Addr) (n : Int), vs = [.ref h, .int n] ∧ 0 < n ∧ n < 1000000 ∧ Hand H h ∧ ∀ H' (g : Int), Keep h H H' → Hand H' h → 0 ≤ g → g < n → Q (.int g) H'
theorem ok_draw (T : Tx K mg) : FnOk P w K mg base CX0 1 T.draw.f T.draw.fd ["hand", "limit"] spDraw := by
  refine T.draw.F.ok sc_draw (fun vs H Q E h => ?_) (fun cdv A outer s H vs Q E hr h => ?_)
  · obtain ⟨c, k, rfl, _⟩ := h; rfl
  · obtain ⟨h, n, rfl, n0, n1, ⟨d, m, hH, d0, m0, m1⟩, q⟩ := h
    refine ⟨_, (pss_cons (ps_if (pt_cmpR op_gt (pe_ix ix_list (pv 0) pe_int (fun _ _ => rfl)) pe_int (nomark _))
        (pss_cons (ps_set (i := 2) sc_draw.nd rfl (.inl rfl) (pe_op op_mod (pe_ix ix_list (pv 0) pe_int (fun _ _ => rfl)) (pv 1)))
        (pss_cons (ps_asg (pe_op op_fdiv (pe_ix ix_list (pv 0) pe_int (fun _ _ => rfl)) (pv 1)) (pg_sub (pv 0) pe_int set_list))
        (pss_one (ps_ret (pv 2)))))
        pss_nil)
      (pss_cons (ps_asg (pe_op op_mod (pe_op op_add (pe_op op_add (pe_op op_mul (pe_ix ix_list (pv 0) pe_int (fun _ _ => rfl)) (pe_ix ix_list (pv 0) pe_int (fun _ _ => rfl))) (pe_op op_mul pe_int (pe_ix ix_list (pv 0) pe_int (fun _ _ => rfl)))) pe_int) pe_int) (pg_sub (pv 0) pe_int set_list))
      (pss_one (ps_ret (pe_op op_mod (pe_op op_fdiv (pe_ix ix_list (pv 0) pe_int (fun _ _ => rfl)) pe_int) (pv 1)))))), ?_⟩
    walk_at "rd"
    refine ite2 (fun e => ?_) (fun e => ?_)
    · walk_at "rd"
      have e1 := of_decide_eq_true e
      refine q _ _ Keep.put ⟨d / n, m, upd_same, Int.ediv_nonneg d0 (by omega), m0, m1⟩ (Int.emod_nonneg _ (by omega)) (Int.emod_lt_of_pos _ n0)
    · walk_at "rd"
      refine q _ _ Keep.put ⟨d, (m * m + 69621 * m + 12345) % 2147483587, upd_same, d0, by omega, by omega⟩ (Int.emod_nonneg _ (by omega)) (Int.emod_lt_of_pos _ n0)
/-- the cells: a list of pairs (place, cell) -/
def spCells (K : PySem.W.Frag) : Sp := fun vs H Q _ => ∃ (a : Addr) (ns : List Int) (n : Int), vs = [.ref a, .int n] ∧ SqL K H a (ns.map V.int) ∧ ns.length ≤ 63 ∧ 0 ≤ n ∧ n ≤ 1000 ∧
  ∀ H' (p : Addr) (ts : List Addr), Same H H' → H p = none → H' p = some (.lst (ts.map V.ref)) → ts.length ≤ 100 → (∀ (j : Nat) (t : Addr), ts[j]? = some t → ∃ c : Int, H' t = some (.tup [.int (j : Nat), .int c])) → Q (.ref p) H'
theorem ok_cells (T : Tx K mg) : FnOk P w K mg base CX0 1 T.cells.f T.cells.fd ["script", "many"] (spCells K) := by
  refine T.cells.F.ok sc_cells (fun vs H Q E h => ?_) (fun cdv A outer s H vs Q E hr h => ?_)
  · obtain ⟨a, ns, n, rfl, _⟩ := h; rfl
  · obtain ⟨a, ns, n, rfl, hS, hl, n0, n1, q⟩ := h
    refine ⟨_, (pss_one (ps_ret (pe_listEnum rfl (by rfl) T.m_list (by rfl) T.m_enumerate (pa_cons (pe_op op_cat (pe_slice sl_list (pv 0) po_none (po_some (pv 1))) (pe_op op_rep (pe_lst (pa_cons pe_int pa_nil)) (pe_callTy call_int1 (by rfl) T.m_int (by decide +kernel) (pa_cons (pe_cmpR (op_eqD (hr.units)) (pv 0) (pe_lst pa_nil) (nomark _)) pa_nil)))) pa_nil)))), ?_⟩
    walk_at "rd"
    refine d_slL hS fun p1 f1 => ?_
    walk_at "rd"
    refine ⟨sz (by decide), fun p2 f2 => ?_⟩
    walk_at "rd"
    refine ⟨sz (by decide), fun p3 f3 => ?_⟩
    have s1 := same_new (o := .lst (cutV (ns.map V.int) none (some n))) f1
    have s2 := same_new (o := .lst [V.int 0]) f2
    have s3 := same_new (o := .lst []) f3
    refine ⟨_, _, .lst (Same.seq s3 (Same.seq s2 (Same.seq s1 hS))) (dpa_ints ns), .lst (SqL.of upd_same) .nil, shaped_ints ns, by decide, ?_⟩
    generalize hb : PyData.eqv (.list (ns.map PyData.int)) (.list []) = b
    walk_at "rd"
    refine .inr ⟨b, rfl, ?_⟩
    have e2 := s3 p2 _ upd_same
    refine ⟨p2, _, _, rfl, rfl, e2, by cases b <;> decide, by cases b <;> decide, by cases b <;> exact sz (by decide), fun p4 f4 => ?_⟩
    have s4 := same_new (o := .lst (List.replicate (if b = true then (1 : Int) else 0).toNat [V.int 0]).flatten) f4
    have e1 := s4 _ _ (s3 _ _ (s2 p1 _ upd_same))
    have l1 : (cutV (ns.map V.int) none (some n)).length ≤ 63 := Nat.le_trans (cutV_length _ _ _) (by rw [List.length_map]; exact hl)
    have l2 : (List.replicate (if b = true then (1 : Int) else 0).toNat [V.int 0]).flatten.length ≤ 1 := by cases b <;> decide
    refine ⟨p1, p4, _, _, rfl, rfl, e1, upd_same, sz (by omega), fun p5 f5 => ?_⟩
    walk_at "rd"
    have s5 := same_new (o := .lst (cutV (ns.map V.int) none (some n) ++ (List.replicate (if b = true then (1 : Int) else 0).toNat [V.int 0]).flatten)) f5
    have sA : Same H _ := Same.trans s1 (Same.trans s2 (Same.trans s3 (Same.trans s4 s5)))
    refine ⟨p5, _, rfl, SqL.of upd_same, fun H' p ts sm n1 n2 n3 eL len at_ => ?_⟩
    refine q H' p ts (Same.trans sA sm) (Same.free sA n1) eL (by rw [len, List.length_append]; omega) fun j t ht => ?_
    have hj : j < (cutV (ns.map V.int) none (some n) ++ (List.replicate (if b = true then (1 : Int) else 0).toNat [V.int 0]).flatten).length := by rw [← len]; exact (List.getElem?_eq_some_iff.mp ht).1
    have hx := List.getElem?_eq_getElem hj
    have hm : ∃ c : Int, (cutV (ns.map V.int) none (some n) ++ (List.replicate (if b = true then (1 : Int) else 0).toNat [V.int 0]).flatten)[j] = V.int c := by
      have hin := List.getElem_mem hj
      rcases List.mem_append.mp hin with z | z
      · have z2 : _ ∈ ns.map V.int := List.mem_of_mem_drop (List.mem_of_mem_take z)
        obtain ⟨c, _, e⟩ := List.mem_map.mp z2
        exact ⟨c, e.symm⟩
      · refine ⟨0, ?_⟩
        obtain ⟨l, hl1, hl2⟩ := List.mem_flatten.mp z
        rw [List.eq_of_mem_replicate hl1] at hl2
        exact List.mem_singleton.mp hl2
    obtain ⟨c, hc⟩ := hm
    exact ⟨c, by rw [at_ j t _ ht hx, hc]⟩
def spGreat (K : PySem.W.Frag) : Sp := fun vs H Q _ => ∃ (a : Addr) (ns : List Int), vs = [.ref a] ∧ SqL K H a (ns.map V.int) ∧ ∀ b : Bool, Q (.bl b) H
theorem ok_great (T : Tx K mg) : FnOk P w K mg base CX0 1 T.great.f T.great.fd ["script"] (spGreat K) := by
  refine T.great.F.ok sc_great (fun vs H Q E h => ?_) (fun cdv A outer s H vs Q E hr h => ?_)
  · obtain ⟨a, ns, rfl, _⟩ := h; rfl
  · obtain ⟨a, ns, rfl, hS, q⟩ := h
    refine ⟨_, (pss_one (ps_ret (pe_cmpR op_eq (pe_op op_mod (pe_op op_fdiv (pe_callB (cr_sum rfl) (by rfl) T.m_sum (by decide +kernel) (pa_cons (pv 0) pa_nil)) pe_int) pe_int) pe_int (nomark _)))), ?_⟩
    walk_at "rd"
    refine ⟨a, ns, rfl, hS, ?_⟩
    walk_at "rd"
    exact q _
def Lts (z : Str) : Prop := (z.cps.toList.all fun c => decide (97 ≤ c) && decide (c ≤ 122)) = true ∧ 0 < z.length ∧ z.length ≤ 26
def spLetters : Sp := fun vs H Q _ => ∃ h : Addr, vs = [.ref h] ∧ Hand H h ∧ ∀ H' z, Keep h H H' → Hand H' h → Lts z → Q (.str z) H'
theorem ok_letters (T : Tx K mg) : FnOk P w K mg base CX0 2 T.letters.f T.letters.fd ["hand"] spLetters := by
  refine T.letters.F.ok sc_letters (fun vs H Q E h => ?_) (fun cdv A outer s H vs Q E hr h => ?_)
  · obtain ⟨a, rfl, _⟩ := h; rfl
  · obtain ⟨h, rfl, hh, q⟩ := h
    refine ⟨_, (pss_one (ps_ret (pe_ix ix_list (pe_lst (pa_cons pe_str (pa_cons pe_str (pa_cons pe_str (pa_cons pe_str pa_nil))))) (pe_call (ok_draw T) (hr.mono (by decide)) (by rfl) T.draw.g T.draw.F.kp T.draw.b .nil pass0 (pa_cons (pv 0) (pa_cons pe_int pa_nil))) (fun _ _ => rfl)))), ?_⟩
    walk_at "rd"
    refine ⟨sz (by decide), fun p1 f1 => ?_⟩
    walk_at "rd"
    refine ⟨h, 4, rfl, by decide, by decide, hh.put (hh.ne f1), fun H' g k hh' g0 g4 => ?_⟩
    have e1 := k p1 _ (hh.ne f1) upd_same
    have kk : Keep h H H' := Keep.trans (Same.keep (same_new f1)) k
    have e : g = 0 ∨ g = 1 ∨ g = 2 ∨ g = 3 := by omega
    rcases e with rfl | rfl | rfl | rfl
    · exact d_ixLm e1 rfl (q _ _ kk hh' (by unfold Lts; decide +kernel))
    · exact d_ixLm e1 rfl (q _ _ kk hh' (by unfold Lts; decide +kernel))
    · exact d_ixLm e1 rfl (q _ _ kk hh' (by unfold Lts; decide +kernel))
    · exact d_ixLm e1 rfl (q _ _ kk hh' (by unfold Lts; decide +kernel))
def spSize : Sp := fun vs H Q _ => ∃ (h : Addr) (b : Bool), vs = [.ref h, .bl b] ∧ Hand H h ∧ ∀ H' (n : Int), Keep h H H' → Hand H' h → 0 ≤ n → n ≤ 40 → Q (.int n) H'
theorem ok_size (T : Tx K mg) : FnOk P w K mg base CX0 2 T.size.f T.size.fd ["hand", "great"] spSize := by
  refine T.size.F.ok sc_size (fun vs H Q E h => ?_) (fun cdv A outer s H vs Q E hr h => ?_)
  · obtain ⟨a, b, rfl, _⟩ := h; rfl
  · obtain ⟨h, b, rfl, hh, q⟩ := h
    refine ⟨_, (pss_cons (ps_if (pt_val (pv 1))
        (pss_one (ps_ret (pe_ix ix_list (pe_lst (pa_cons (pe_op op_add pe_int (pe_call (ok_draw T) (hr.mono (by decide)) (by rfl) T.draw.g T.draw.F.kp T.draw.b .nil pass0 (pa_cons (pv 0) (pa_cons pe_int pa_nil)))) (pa_cons (pe_op op_add pe_int (pe_call (ok_draw T) (hr.mono (by decide)) (by rfl) T.draw.g T.draw.F.kp T.draw.b .nil pass0 (pa_cons (pv 0) (pa_cons pe_int pa_nil)))) pa_nil))) (pe_call (ok_draw T) (hr.mono (by decide)) (by rfl) T.draw.g T.draw.F.kp T.draw.b .nil pass0 (pa_cons (pv 0) (pa_cons pe_int pa_nil))) (fun _ _ => rfl))))
        pss_nil)
      (pss_one (ps_ret (pe_ix ix_list (pe_lst (pa_cons (pe_call (ok_draw T) (hr.mono (by decide)) (by rfl) T.draw.g T.draw.F.kp T.draw.b .nil pass0 (pa_cons (pv 0) (pa_cons pe_int pa_nil))) (pa_cons (pe_call (ok_draw T) (hr.mono (by decide)) (by rfl) T.draw.g T.draw.F.kp T.draw.b .nil pass0 (pa_cons (pv 0) (pa_cons pe_int pa_nil))) (pa_cons (pe_call (ok_draw T) (hr.mono (by decide)) (by rfl) T.draw.g T.draw.F.kp T.draw.b .nil pass0 (pa_cons (pv 0) (pa_cons pe_int pa_nil))) pa_nil)))) (pe_call (ok_draw T) (hr.mono (by decide)) (by rfl) T.draw.g T.draw.F.kp T.draw.b .nil pass0 (pa_cons (pv 0) (pa_cons pe_int pa_nil))) (fun _ _ => rfl))))), ?_⟩
    walk_at "rd"
    refine ite2 (fun e => ?_) (fun e => ?_)
    · walk_at "rd"
      refine ⟨h, 5, rfl, by decide, by decide, hh, fun H1 g1 k1 hh1 a1 b1 => ?_⟩
      walk_at "rd"
      refine ⟨h, 23, rfl, by decide, by decide, hh1, fun H2 g2 k2 hh2 a2 b2 => ?_⟩
      walk_at "rd"
      refine ⟨sz (by show 2 ≤ 100000; decide), fun p1 f1 => ?_⟩
      walk_at "rd"
      refine ⟨h, 2, rfl, by decide, by decide, hh2.put (hh2.ne f1), fun H3 g3 k3 hh3 a3 b3 => ?_⟩
      have e1 := k3 p1 _ (hh2.ne f1) upd_same
      have kk : Keep h H H3 := Keep.trans (Keep.same (Keep.trans k1 k2) (same_new f1)) k3
      have e : g3 = 0 ∨ g3 = 1 := by omega
      rcases e with rfl | rfl
      · exact d_ixLm e1 rfl (q _ _ kk hh3 (by omega) (by omega))
      · exact d_ixLm e1 rfl (q _ _ kk hh3 (by omega) (by omega))
    · walk_at "rd"
      refine ⟨h, 5, rfl, by decide, by decide, hh, fun H1 g1 k1 hh1 a1 b1 => ?_⟩
      walk_at "rd"
      refine ⟨h, 9, rfl, by decide, by decide, hh1, fun H2 g2 k2 hh2 a2 b2 => ?_⟩
      walk_at "rd"
      refine ⟨h, 13, rfl, by decide, by decide, hh2, fun H2' g2' k2' hh2' a2' b2' => ?_⟩
      walk_at "rd"
      refine ⟨sz (by show 3 ≤ 100000; decide), fun p1 f1 => ?_⟩
      walk_at "rd"
      refine ⟨h, 3, rfl, by decide, by decide, hh2'.put (hh2'.ne f1), fun H3 g3 k3 hh3 a3 b3 => ?_⟩
      have e1 := k3 p1 _ (hh2'.ne f1) upd_same
      have kk : Keep h H H3 := Keep.trans (Keep.same (Keep.trans (Keep.trans k1 k2) k2') (same_new f1)) k3
      have e : g3 = 0 ∨ g3 = 1 ∨ g3 = 2 := by omega
      rcases e with rfl | rfl | rfl
      · exact d_ixLm e1 rfl (q _ _ kk hh3 (by omega) (by omega))
      · exact d_ixLm e1 rfl (q _ _ kk hh3 (by omega) (by omega))
      · exact d_ixLm e1 rfl (q _ _ kk hh3 (by omega) (by omega))
theorem Lts.at {z : Str} (l : Lts z) {g : Int} (h0 : 0 ≤ g) (h1 : g < z.length) : ∃ c, atI z.cps.toList g = some c ∧ Ltr c := by
  obtain ⟨n, rfl⟩ := Int.eq_ofNat_of_zero_le h0
  have hn : n < z.cps.toList.length := by
    have e : z.cps.toList.length = z.length := rfl
    omega
  refine ⟨z.cps.toList[n], atI_nat (List.getElem?_eq_getElem hn), ?_⟩
  have a := List.all_eq_true.mp l.1 _ (List.getElem_mem hn)
  simp only [Bool.and_eq_true, decide_eq_true_eq] at a
  exact a
def spWeb (K : PySem.W.Frag) : Sp := fun vs H Q _ => ∃ (h : Addr) (n : Int), vs = [.ref h, .int n] ∧ 0 ≤ n ∧ n ≤ 40 ∧ Hand H h ∧ ∀ H' v w, Keep h H H' → Hand H' h → WebAt K H' v w → WOk w → (w.1.length : Int) = n → Q v H'
theorem ok_web (T : Tx K mg) : FnOk P w K mg base CX0 3 T.web.f T.web.fd ["hand", "many"] (spWeb K) := by
  refine T.web.F.ok sc_web (fun vs H Q E h => ?_) (fun cdv A outer s H vs Q E hr h => ?_)
  · obtain ⟨a, b, rfl, _⟩ := h; rfl
  · obtain ⟨h, n, rfl, n0, n40, hh, q⟩ := h
    refine ⟨_, (pss_cons (ps_set (i := 2) sc_web.nd rfl (.inr rfl) (pe_call (ok_letters T) (hr.mono (by decide)) (by rfl) T.letters.g T.letters.F.kp T.letters.b .nil pass0 (pa_cons (pv 0) pa_nil)))
      (pss_cons (ps_set (i := 3) sc_web.nd rfl (.inl rfl) (pe_call (ok_letters T) (hr.mono (by decide)) (by rfl) T.letters.g T.letters.F.kp T.letters.b .nil pass0 (pa_cons (pv 0) pa_nil)))
      (pss_cons (ps_set (i := 4) sc_web.nd rfl (.inl rfl) (pe_op op_add pe_int (pe_call (ok_draw T) (hr.mono (by decide)) (by rfl) T.draw.g T.draw.F.kp T.draw.b .nil pass0 (pa_cons (pv 0) (pa_cons pe_int pa_nil)))))
      (pss_cons (ps_set (i := 5) sc_web.nd rfl (.inl rfl) (pe_join pe_str (pe_lc (own := [("k", 9)]) (g := gName 9) (tt := tYes) rfl sc_web.nd (pi_range1 (by rfl) T.m_range (pa_cons (pv 1) pa_nil)) (blkOk_by (N := ["hand", "many", "some", "tie_kinds", "often", "kinds", "ties", "place", "other", "k"]) (sc := defScope s_web) (by decide +kernel)) (fun _ _ _ _ _ => (pg_name (i := 9) sc_web.nd rfl (.inl rfl))) (fun _ _ _ _ _ => pts_nil) (fun _ _ _ _ _ => (pe_ix ix_str (pv 2) (pe_call (ok_draw T) (hr.mono (by decide)) (by rfl) T.draw.g T.draw.F.kp T.draw.b .nil pass0 (pa_cons (pv 0) (pa_cons (pe_callB call_len_str (by rfl) T.m_len (by decide +kernel) (pa_cons (pv 2) pa_nil)) pa_nil))) (fun _ _ => rfl))))))
      (pss_cons (ps_set (i := 6) sc_web.nd rfl (.inl rfl) (pe_lst pa_nil))
      (pss_cons (ps_for PassesOwn.never rfl (pi_range1 (by rfl) T.m_range (pa_cons (pv 1) pa_nil)) (pg_name (i := 7) sc_web.nd rfl (.inl rfl))
        (pss_one (ps_for PassesOwn.never rfl (pi_range2 (by rfl) T.m_range (pa_cons (pe_op op_add (pv 7) pe_int) (pa_cons (pv 1) pa_nil))) (pg_name (i := 8) sc_web.nd rfl (.inl rfl))
          (pss_one (ps_if (pt_cmpR op_lt (pe_call (ok_draw T) (hr.mono (by decide)) (by rfl) T.draw.g T.draw.F.kp T.draw.b .nil pass0 (pa_cons (pv 0) (pa_cons pe_int pa_nil))) (pv 4) (nomark _))
            (pss_one (ps_expr (pe_bm PySem.F.plainAttrs_list PySem.F.slot_list_append PySem.F.type_list_append mt_append (pv 6) (pa_cons (pe_tup (pa_cons (pv 7) (pa_cons (pv 8) (pa_cons (pe_ix ix_str (pv 3) (pe_call (ok_draw T) (hr.mono (by decide)) (by rfl) T.draw.g T.draw.F.kp T.draw.b .nil pass0 (pa_cons (pv 0) (pa_cons (pe_callB call_len_str (by rfl) T.m_len (by decide +kernel) (pa_cons (pv 3) pa_nil)) pa_nil))) (fun _ _ => rfl)) pa_nil)))) pa_nil))))
            pss_nil)))))
      (pss_one (ps_ret (pe_tup (pa_cons (pv 5) (pa_cons (pe_callTy call_tuple_of (by rfl) T.m_tuple (by decide +kernel) (pa_cons (pv 6) pa_nil)) pa_nil))))))))))), ?_⟩
    walk_at "rd"
    refine ⟨h, rfl, hh, fun H1 some_ k1 hh1 ls => ?_⟩
    walk_at "rd"
    refine ⟨h, rfl, hh1, fun H2 tk k2 hh2 lt => ?_⟩
    walk_at "rd"
    refine ⟨h, 6, rfl, by decide, by decide, hh2, fun H3 g3 k3 hh3 a3 b3 => ?_⟩
    walk_at "rd"
    intro D fD
    have nD := hh3.ne fD
    refine lc_range (fun i H' => ∃ cs : List Nat, cs.length = i ∧ (∀ c ∈ cs, Ltr c) ∧ H' D = some (.lst (cs.map fun c => V.str (sg c))) ∧ Keep h H3 H' ∧ Hand H' h) ⟨[], rfl, by simp, upd_same, Same.keep (same_new fD), hh3.put nD⟩ (fun i H' hi hP => ?_) (fun H' hP => ?_)
    · obtain ⟨cs, hlen, hl, eD, kk, hh'⟩ := hP
      walk_at "rd"
      first | (refine d_lenS (z := some_) (sz (by have := ls.2.2; omega)) ?_) | (refine ⟨sz (by have := ls.2.2; omega), ?_⟩)
      walk_at "rd"
      refine ⟨h, _, rfl, by have := ls.2.1; omega, by have := ls.2.2; omega, hh', fun H4 g k4 hh4 g0 gl => ?_⟩
      obtain ⟨c, ec, lc⟩ := ls.at g0 gl
      refine ⟨some_, g, c, rfl, rfl, sz (by have := ls.2.2; omega), ec, ?_⟩
      refine ⟨_, k4 D _ nD eD, szl (by rw [List.length_map]; omega), cs ++ [c], by rw [List.length_append, hlen]; rfl, ?_, by rw [upd_same, List.map_append]; rfl, Keep.new (Keep.trans kk k4) fD, hh4.put nD⟩
      intro x hx
      rcases List.mem_append.mp hx with hx | hx
      · exact hl x hx
      · rw [List.mem_singleton.mp hx]; exact lc
    obtain ⟨cs, hlen, hl, eD, kk, hh'⟩ := hP
    refine ⟨_, D, cs.map sg, rfl, rfl, .inl (SqL.of (by rw [List.map_map]; exact eD)), ?_, ?_⟩
    · rw [sum_const _ 1 _ (by intro x hx; obtain ⟨c, _, rfl⟩ := List.mem_map.mp hx; rfl), List.length_map]
      have e0 : (Str.ofString "").length = 0 := by decide +kernel
      rw [e0]; omega
    rw [join_signs]
    walk_at "rd"
    refine ⟨sz (by decide), fun l fl => ?_⟩
    walk_at "rd"
    have nl := hh'.ne fl
    refine for_range (fun i σ H5 => ∃ y7 y8 y9 ts tvs, σ = [some (.ref h), some (.int n), some (.str some_), some (.str tk), some (.int (1 + g3)), some (.str ⟨cs.toArray⟩), some (.ref l), y7, y8, y9] ∧ H5 l = some (.lst tvs) ∧ Paired (TieAt K H5) tvs ts ∧ ts.Pairwise tlt ∧
      (∀ t ∈ ts, t.1 < i ∧ t.1 < t.2.1 ∧ t.2.1 < n.toNat ∧ Ltr t.2.2) ∧ ts.length ≤ 40 * i ∧ Keep h H' H5 ∧ Hand H5 h) ⟨_, _, _, [], [], rfl, upd_same, .nil, .nil, by simp, by simp, Same.keep (same_new fl), hh'.put nl⟩ (fun i σ H5 hi hP => ?_) (fun σ H5 hP => ?_)
    · obtain ⟨y7, y8, y9, ts, tvs, rfl, eL, pT, sT, bT, lT, k5, hh5⟩ := hP
      walk_at "rd"
      refine for_range (fun j σ H6 => ∃ y8 y9 ts tvs, σ = [some (.ref h), some (.int n), some (.str some_), some (.str tk), some (.int (1 + g3)), some (.str ⟨cs.toArray⟩), some (.ref l), some (.int (0 + (i : Nat))), y8, y9] ∧ H6 l = some (.lst tvs) ∧ Paired (TieAt K H6) tvs ts ∧ ts.Pairwise tlt ∧
        (∀ t ∈ ts, (t.1 < i ∨ (t.1 = i ∧ t.2.1 < i + 1 + j)) ∧ t.1 < t.2.1 ∧ t.2.1 < n.toNat ∧ Ltr t.2.2) ∧ ts.length ≤ 40 * i + j ∧ Keep h H' H6 ∧ Hand H6 h) ⟨_, _, ts, tvs, rfl, eL, pT, sT, fun t ht => ⟨.inl (bT t ht).1, (bT t ht).2⟩, lT, k5, hh5⟩ (fun j σ H6 hj hP => ?_) (fun σ H6 hP => ?_)
      · obtain ⟨z8, z9, us, uvs, rfl, eL6, pU, sU, bU, lU, k6, hh6⟩ := hP
        walk_at "rd"
        refine ⟨h, 7, rfl, by decide, by decide, hh6, fun H7 g7 k7 hh7 a7 b7 => ?_⟩
        have eL7 := k7 l _ nl eL6
        obtain ⟨d6, m6, e6, _⟩ := id hh6
        have pU7 : Paired (TieAt K H7) uvs us := Paired.imp pU fun _ _ z => z.keep k7 e6
        walk_at "rd"
        refine ite2 (fun e => ?_) (fun e => ?_)
        · walk_at "rd"
          refine d_app eL7 ?_
          walk_at "rd"
          first | (refine d_lenS (z := tk) (sz (by have := lt.2.2; omega)) ?_) | (refine ⟨sz (by have := lt.2.2; omega), ?_⟩)
          walk_at "rd"
          refine ⟨h, _, rfl, by have := lt.2.1; omega, by have := lt.2.2; omega, hh7, fun H8 g k8 hh8 g0 gl => ?_⟩
          obtain ⟨c, ec, lc⟩ := lt.at g0 gl
          refine ⟨tk, g, c, rfl, rfl, sz (by have := lt.2.2; omega), ec, ?_⟩
          have eL8 := k8 l _ nl eL7
          obtain ⟨d7, m7, e7, _⟩ := id hh7
          have pU8 : Paired (TieAt K H8) uvs us := Paired.imp pU7 fun _ _ z => z.keep k8 e7
          walk_at "rd"
          refine ⟨sz (by show 3 ≤ 100000; decide), fun p fp => ?_⟩
          walk_at "rd"
          have npl : l ≠ p := ne_of_none eL8 fp
          have eL9 : (upd H8 p (.tup [V.int (0 + (i : Nat)), V.int (0 + (i : Nat) + 1 + (j : Nat)), V.str (sg c)])) l = some (.lst uvs) := by rw [upd_ne npl]; exact eL8
          have luv : uvs.length = us.length := Paired.length pU
          refine d_append eL9 (szl (by omega)) ?_
          refine ⟨_, _, us ++ [(i, i + 1 + j, c)], uvs ++ [.ref p], rfl, upd_same, ?_, ?_, ?_, ?_, ?_, ?_⟩
          · have lst9 : ∃ ys, (upd H8 p (.tup [V.int (0 + (i : Nat)), V.int (0 + (i : Nat) + 1 + (j : Nat)), V.str (sg c)])) l = some (.lst ys) := ⟨_, eL9⟩
            refine Paired.snoc (Paired.imp pU8 fun _ _ z => (z.put (.inl fp)).put (.inr lst9)) ⟨p, rfl, ?_⟩
            refine sqt_upd (.inr lst9) (SqT.of ?_)
            rw [upd_same]
            simp only [Int.zero_add]
            rfl
          · refine List.pairwise_append.mpr ⟨sU, List.pairwise_singleton _ _, fun a ha b hb => ?_⟩
            rw [List.mem_singleton.mp hb]
            rcases (bU a ha).1 with z | ⟨z1, z2⟩
            · exact .inl z
            · exact .inr ⟨z1, z2⟩
          · intro t ht
            rcases List.mem_append.mp ht with ht | ht
            · obtain ⟨z1, z2⟩ := bU t ht
              refine ⟨?_, z2⟩
              rcases z1 with z | ⟨z3, z4⟩
              · exact .inl z
              · exact .inr ⟨z3, by omega⟩
            · rw [List.mem_singleton.mp ht]
              exact ⟨.inr ⟨rfl, by show i + 1 + j < i + 1 + (j + 1); omega⟩, by show i < i + 1 + j; omega, by show i + 1 + j < n.toNat; omega, lc⟩
          · rw [List.length_append]
            show us.length + 1 ≤ 40 * i + (j + 1)
            omega
          · exact Keep.new (Keep.new (Keep.trans k6 (Keep.trans k7 k8)) (Keep.free (Keep.trans k6 (Keep.trans k7 k8)) (hh8.ne fp) fp)) fl
          · exact (hh8.put (hh8.ne fp)).put nl
        · walk_at "rd"
          exact ⟨_, _, us, uvs, rfl, eL7, pU7, sU, fun t ht => ⟨(bU t ht).1.imp id fun z => ⟨z.1, by omega⟩, (bU t ht).2⟩, by omega, Keep.trans k6 k7, hh7⟩
      · obtain ⟨z8, z9, us, uvs, rfl, eL6, pU, sU, bU, lU, k6, hh6⟩ := hP
        refine ⟨_, _, _, us, uvs, rfl, eL6, pU, sU, fun t ht => ⟨?_, (bU t ht).2⟩, by omega, k6, hh6⟩
        rcases (bU t ht).1 with z | ⟨z, _⟩ <;> omega
    · obtain ⟨y7, y8, y9, ts, tvs, rfl, eL, pT, sT, bT, lT, k5, hh5⟩ := hP
      walk_at "rd"
      refine ⟨l, tvs, rfl, .inl ⟨SqL.of eL, fun t ft => ?_⟩⟩
      walk_at "rd"
      refine ⟨sz (by show 2 ≤ 100000; decide), fun a fa => ?_⟩
      refine q _ _ (cs, ts) ?_ ?_ ?_ ⟨by show cs.length ≤ 40; omega, by show ts.length ≤ 1600; omega, hl, sT, fun t ht => ⟨(bT t ht).2.1, by show t.2.1 < cs.length; rw [hlen]; exact (bT t ht).2.2.1, (bT t ht).2.2.2⟩⟩ (by show (cs.length : Int) = n; omega)
      · exact Keep.same (Keep.same (Keep.trans (Keep.trans (Keep.trans (Keep.trans k1 k2) k3) kk) k5) (same_new ft)) (same_new fa)
      · exact (hh5.put (hh5.ne ft)).put ((hh5.put (hh5.ne ft)).ne fa)
      · exact ⟨a, t, tvs, rfl, SqT.of upd_same, sqt_upd (.inl fa) (SqT.of upd_same), Paired.imp pT fun _ _ z => (z.put (.inl ft)).put (.inl fa)⟩
theorem sh2 (x y : Int) : SeqAt.shaped (.tuple [.int x, .int y]) = true := by simp [SeqAt.shaped, PyData.canLay0, PyData.canLayAll0, PyData.depth, PyData.depthAll]
theorem sh22 (x y x' y' : Int) : SeqAt.shaped (.tuple [.tuple [.int x, .int y], .tuple [.int x', .int y']]) = true := by simp [SeqAt.shaped, PyData.canLay0, PyData.canLayAll0, PyData.depth, PyData.depthAll]
theorem cut2 (x y z : V) : cutV [x, y, z] none (some 2) = [x, y] := rfl
/-- by going through the ties -/
def spTie (K : PySem.W.Frag) : Sp := fun vs H Q _ => ∃ v w, ∃ a b : Nat, vs = [v, .int (a : Nat), .int (b : Nat)] ∧ WebAt K H v w ∧ WOk w ∧ ∀ H', Same H H' → Q (optV (tieL w.2 a b)) H'
theorem find_take {ts : List Tie} {f : Tie → Bool} {i : Nat} {t : Tie} (h : ts[i]? = some t) (n : (ts.take i).find? f = none) (ht : f t = true) : ts.find? f = some t := by
  have e : ts = ts.take i ++ t :: ts.drop (i + 1) := by
    obtain ⟨hi, rfl⟩ := List.getElem?_eq_some_iff.mp h
    exact (List.take_append_drop i ts).symm.trans (by rw [List.drop_eq_getElem_cons hi])
  rw [e, List.find?_append, n, Option.none_or, List.find?_cons_of_pos ht]
theorem ok_tie (T : Tx K mg) : FnOk P w K mg base CX0 1 T.tie.f T.tie.fd ["web", "one", "other"] (spTie K) := by
  refine T.tie.F.ok sc_tie (fun vs H Q E h => ?_) (fun cdv A outer s H vs Q E hr h => ?_)
  · obtain ⟨v, w, a, b, rfl, _⟩ := h; rfl
  · obtain ⟨v, w, m, n, rfl, ⟨a, b, tvs, rfl, q1, q2, pT⟩, W, q⟩ := h
    have lt : tvs.length = w.2.length := Paired.length pT
    refine ⟨_, (pss_cons (ps_for PassesOwn.never rfl (pi_tup (pe_ix ix_tup (pv 0) pe_int (fun _ _ => rfl))) (pg_name (i := 3) sc_tie.nd rfl (.inl rfl))
        (pss_one (ps_if (pt_cmpR (op_inT (units1 hr)) (pe_slice sl_tup (pv 3) po_none (po_some pe_int)) (pe_tup (pa_cons (pe_tup (pa_cons (pv 1) (pa_cons (pv 2) pa_nil))) (pa_cons (pe_tup (pa_cons (pv 2) (pa_cons (pv 1) pa_nil))) pa_nil))) (by rfl))
          (pss_one (ps_ret (pe_ix ix_tup (pv 3) pe_int (fun _ _ => rfl))))
          pss_nil)))
      (pss_one (ps_ret pe_non))), ?_⟩
    walk_at "rd"
    refine d_ixT q1 rfl ?_
    refine d_iTe q2 ?_
    refine for_it (walk_tup (xs := tvs)) (fun i σ H1 => ∃ y3, σ = [some (.ref a), some (.int (m : Nat)), some (.int (n : Nat)), y3] ∧ Same H H1 ∧ (w.2.take i).find? (at2 m n) = none)
      ⟨_, rfl, Same.refl _, by simp⟩ (fun i σ H2 hi hP => ?_) (fun i x σ H0 H1 hi hP hy => ?_) (fun σ H1 hP => ?_)
    · obtain ⟨_, _, sm, _⟩ := hP
      exact Same.sqt sm q2
    · obtain ⟨y3, rfl, sm, hn⟩ := hP
      obtain ⟨rfl, hx⟩ := hy
      obtain ⟨t, ht, a', rfl, qt⟩ := Paired.at pT hx
      have qt1 := Same.sqt sm qt
      walk_at "rd"
      refine ⟨a', _, rfl, qt1, (show ¬ (HT.sIx 3 0 none = 0 ∧ HT.sIx 3 3 (some 2) = 3) by decide), fun p1 f1 => ?_⟩
      rw [cut2]
      walk_at "rd"
      refine ⟨sz (by show 2 ≤ 100000; decide), fun p2 f2 => ?_⟩
      walk_at "rd"
      refine ⟨sz (by show 2 ≤ 100000; decide), fun p3 f3 => ?_⟩
      walk_at "rd"
      refine ⟨sz (by show 2 ≤ 100000; decide), fun p4 f4 => ?_⟩
      have e1 := at_upd (u := .tup [V.ref p2, V.ref p3]) (at_upd (u := .tup [V.int (n : Nat), V.int (m : Nat)]) (at_upd (u := .tup [V.int (m : Nat), V.int (n : Nat)]) (upd_same (H := H1) (a := p1) (o := .tup [V.int (t.1 : Nat), V.int (t.2.1 : Nat)])) f2) f3) f4
      have e2 := at_upd (u := .tup [V.ref p2, V.ref p3]) (at_upd (u := .tup [V.int (n : Nat), V.int (m : Nat)]) (upd_same (H := upd H1 p1 (.tup [V.int (t.1 : Nat), V.int (t.2.1 : Nat)])) (a := p2) (o := .tup [V.int (m : Nat), V.int (n : Nat)])) f3) f4
      have e3 := at_upd (u := .tup [V.ref p2, V.ref p3]) (upd_same (H := upd (upd H1 p1 (.tup [V.int (t.1 : Nat), V.int (t.2.1 : Nat)])) p2 (.tup [V.int (m : Nat), V.int (n : Nat)])) (a := p3) (o := .tup [V.int (n : Nat), V.int (m : Nat)])) f4
      have d2 : ∀ {x y : Nat} {p : Addr} {H : Hp}, H p = some (.tup [V.int (x : Nat), V.int (y : Nat)]) → Dp K H (.ref p) (.tuple [.int (x : Nat), .int (y : Nat)]) := fun e => .tup (SqT.of e) (.cons (.int _) (.cons (.int _) .nil))
      refine ⟨_, _, d2 e1, .tup (SqT.of upd_same) (.cons (d2 e2) (.cons (d2 e3) .nil)), sh2 _ _, sh22 _ _ _ _, ?_⟩
      have eq : ([PyData.tuple [.int (m : Nat), .int (n : Nat)], .tuple [.int (n : Nat), .int (m : Nat)]].any fun z => PyData.eqv z (.tuple [.int (t.1 : Nat), .int (t.2.1 : Nat)])) = at2 m n t := by
        rw [Bool.eq_iff_iff, at2_iff]
        simp only [List.any_cons, List.any_nil, PyData.eqv, PyData.eqvAll, Bool.or_false, Bool.and_true, Bool.or_eq_true, Bool.and_eq_true, beq_iff_eq]
        omega
      rw [if_neg (by decide), eq]
      have s4 : Same H (upd (upd (upd (upd H1 p1 (.tup [V.int (t.1 : Nat), V.int (t.2.1 : Nat)])) p2 (.tup [V.int (m : Nat), V.int (n : Nat)])) p3 (.tup [V.int (n : Nat), V.int (m : Nat)])) p4 (.tup [V.ref p2, V.ref p3])) :=
        Same.trans sm (Same.trans (same_new f1) (Same.trans (same_new f2) (Same.trans (same_new f3) (same_new f4))))
      walk_at "rd"
      refine ite2 (fun c => ?_) (fun c => ?_)
      · walk_at "rd"
        refine d_ixT (Same.sqt s4 qt) rfl ?_
        have e := find_take ht hn c
        have e' : tieL w.2 m n = some t.2.2 := by unfold tieL; rw [e]; rfl
        have z := q _ s4
        rw [e'] at z
        exact z
      · walk_at "rd"
        refine ⟨_, rfl, s4, ?_⟩
        rw [take_snoc ht, List.find?_append, hn, Option.none_or, List.find?_cons_of_neg c]; rfl
    · obtain ⟨y3, rfl, sm, hn⟩ := hP
      walk_at "rd"
      rw [lt, List.take_length] at hn
      have e' : tieL w.2 m n = none := by unfold tieL; rw [hn]; rfl
      have z := q _ sm
      rw [e'] at z
      exact z
theorem d_par {D : Ends} {i j : Nat} {ta : TA} {σ : L2.St} {H : Hp} (h : ta σ H fun vs H1 => ∃ v w, vs = [v, w] ∧ D.nx ((σ.set i (some v)).set j (some w)) H1) : tPar i j ta D σ H := h
/-- ahead of a pair, as tuples are ordered -/
def ahd (m n : Nat) (t : Tie) : Bool := decide (t.1 < m ∨ (t.1 = m ∧ t.2.1 < n))
theorem ahd_lex (m n : Nat) (t : Tie) : HT.lexLt [(t.1 : Int), (t.2.1 : Int)] [(m : Int), (n : Int)] = ahd m n t := by
  unfold ahd
  rw [HT.lexLt_cons]
  by_cases e : (t.1 : Int) = (m : Int)
  · rw [if_pos e, HT.lexLt_cons]
    by_cases f : (t.2.1 : Int) = (n : Int)
    · rw [if_pos f, HT.lexLt_nil_nil]
      exact (decide_eq_false (by omega)).symm
    · rw [if_neg f]
      exact decide_eq_decide.mpr (by omega)
  · rw [if_neg e]
    exact decide_eq_decide.mpr (by omega)
theorem minmax_at2 {w : Web} (W : WOk w) {t : Tie} (ht : t ∈ w.2) (a b : Nat) : at2 a b t = true ↔ t.1 = min a b ∧ t.2.1 = max a b := by
  have r := (W.ends t ht).1
  rw [at2_iff]
  omega
/-- the least tie that is not ahead tells the kind -/
theorem half_found {w : Web} (W : WOk w) {a b lo : Nat} {t : Tie} (h1 : ∀ i u, i < lo → w.2[i]? = some u → ahd (min a b) (max a b) u = true) (ht : w.2[lo]? = some t) (e1 : t.1 = min a b) (e2 : t.2.1 = max a b) : tieL w.2 a b = some t.2.2 := by
  have hm := List.mem_of_getElem? ht
  have e := find_take (f := at2 a b) ht (List.find?_eq_none.mpr fun u hu => ?_) ((minmax_at2 W hm a b).mpr ⟨e1, e2⟩)
  · unfold tieL; rw [e]; rfl
  · obtain ⟨i, hi, hu'⟩ := List.getElem_of_mem hu
    have hi2 : i < lo := by rw [List.length_take] at hi; omega
    have g : w.2[i]? = some u := by
      rw [← hu', List.getElem_take]
      exact List.getElem?_eq_getElem _
    have z := of_decide_eq_true (h1 i u hi2 g)
    intro q
    have := (minmax_at2 W (List.mem_of_getElem? g) a b).mp q
    omega
theorem half_none {w : Web} (W : WOk w) {a b lo : Nat} (h1 : ∀ i u, i < lo → w.2[i]? = some u → ahd (min a b) (max a b) u = true) (h2 : ∀ i u, lo ≤ i → w.2[i]? = some u → ahd (min a b) (max a b) u = false)
    (hn : ∀ t, w.2[lo]? = some t → ¬ (t.1 = min a b ∧ t.2.1 = max a b)) : tieL w.2 a b = none := by
  refine tieL_none fun u hu => ?_
  cases q : at2 a b u with
  | false => rfl
  | true =>
    exfalso
    have z := (minmax_at2 W hu a b).mp q
    obtain ⟨i, hi⟩ := List.getElem?_of_mem hu
    rcases Nat.lt_trichotomy i lo with c | c | c
    · have := of_decide_eq_true (h1 i u c hi)
      omega
    · rw [c] at hi
      exact hn u hi z
    · have hl : lo < w.2.length := Nat.lt_trans c (List.getElem?_eq_some_iff.mp hi).1
      have g := List.getElem?_eq_getElem hl
      have y := of_decide_eq_false (h2 lo _ (Nat.le_refl _) g)
      have s := W.rise
      rw [List.pairwise_iff_getElem] at s
      obtain ⟨hi1, hi2⟩ := List.getElem?_eq_some_iff.mp hi
      have lt := s lo i hl hi1 c
      rw [hi2] at lt
      rcases lt with lt | lt <;> omega
/-- where the ties rise those ahead stand ahead -/
theorem ahd_down {w : Web} (W : WOk w) {m n i j : Nat} {t u : Tie} (hi : w.2[i]? = some t) (hj : w.2[j]? = some u) (l : i ≤ j) (h : ahd m n u = true) : ahd m n t = true := by
  rcases Nat.lt_or_ge i j with c | c
  · have s := W.rise
    rw [List.pairwise_iff_getElem] at s
    obtain ⟨i1, i2⟩ := List.getElem?_eq_some_iff.mp hi
    obtain ⟨j1, j2⟩ := List.getElem?_eq_some_iff.mp hj
    have lt := s i j i1 j1 c
    rw [i2, j2] at lt
    have z := of_decide_eq_true h
    refine decide_eq_true ?_
    rcases lt with lt | lt <;> omega
  · have : i = j := by omega
    subst this
    rw [hi] at hj
    cases hj
    exact h
def spTieOf (K : PySem.W.Frag) : Sp := fun vs H Q _ => ∃ v w, ∃ a b : Nat, vs = [v, .int (a : Nat), .int (b : Nat)] ∧ WebAt K H v w ∧ WOk w ∧ ∀ H', Same H H' → Q (optV (tieL w.2 a b)) H'
theorem min_intT (a b : Nat) : (if (b : Int) < (a : Int) then (b : Int) else (a : Int)) = ((min a b : Nat) : Int) := by split <;> omega
theorem max_intT (a b : Nat) : (if (b : Int) > (a : Int) then (b : Int) else (a : Int)) = ((max a b : Nat) : Int) := by split <;> omega
theorem half_mid {lo hi : Nat} : ((lo : Int) + (hi : Int)) / 2 = (((lo + hi) / 2 : Nat) : Int) := by omega
theorem ok_tie_of (T : Tx K mg) : FnOk P w K mg base CX0 1 T.tie_of.f T.tie_of.fd ["web", "one", "other"] (spTieOf K) := by
  refine T.tie_of.F.ok sc_tie_of (fun vs H Q E h => ?_) (fun cdv A outer s H vs Q E hr h => ?_)
  · obtain ⟨v, w, a, b, rfl, _⟩ := h; rfl
  · obtain ⟨v, w, a, b, rfl, ⟨a0, tb, tvs, rfl, q1, q2, pT⟩, W, q⟩ := h
    have lt : tvs.length = w.2.length := Paired.length pT
    refine ⟨_, (pss_cons (ps_set (i := 3) sc_tie_of.nd rfl (.inl rfl) (pe_ix ix_tup (pv 0) pe_int (fun _ _ => rfl)))
      (pss_cons (ps_set (i := 4) sc_tie_of.nd rfl (.inl rfl) (pe_tup (pa_cons (pe_callB (call_min2 rfl) (by rfl) T.m_min (by decide +kernel) (pa_cons (pv 1) (pa_cons (pv 2) pa_nil))) (pa_cons (pe_callB (call_max2 rfl) (by rfl) T.m_max (by decide +kernel) (pa_cons (pv 1) (pa_cons (pv 2) pa_nil))) pa_nil))))
      (pss_cons (ps_par (i := 5) (j := 6) rfl sc_tie_of.nd rfl rfl (by decide) rfl rfl (pa_cons pe_int (pa_cons (pe_callB call_len_seq (by rfl) T.m_len (by decide +kernel) (pa_cons (pv 3) pa_nil)) pa_nil)) (by rfl))
      (pss_cons (ps_while PassesOwn.never (pt_cmpR op_lt (pv 5) (pv 6) (nomark _))
        (pss_cons (ps_set (i := 7) sc_tie_of.nd rfl (.inl rfl) (pe_op op_fdiv (pe_op op_add (pv 5) (pv 6)) pe_int))
        (pss_one (ps_if (pt_cmpR (op_ltT (Nat.lt_of_le_of_lt (Nat.le_add_right _ _) hr.units)) (pe_slice sl_tup (pe_ix ix_tup (pv 3) (pv 7) (fun _ _ => rfl)) po_none (po_some pe_int)) (pv 4) (nomark _))
          (pss_one (ps_set (i := 5) sc_tie_of.nd rfl (.inl rfl) (pe_op op_add (pv 7) pe_int)))
          (pss_one (ps_set (i := 6) sc_tie_of.nd rfl (.inl rfl) (pv 7)))))))
      (pss_cons (ps_if (PW.pt (pw_and (pt_cmpR op_lt (pv 5) (pe_callB call_len_seq (by rfl) T.m_len (by decide +kernel) (pa_cons (pv 3) pa_nil)) (nomark _)) (pw_and1 (pt_cmpR (op_eqD (hr.units)) (pe_slice sl_tup (pe_ix ix_tup (pv 3) (pv 5) (fun _ _ => rfl)) po_none (po_some pe_int)) (pv 4) (nomark _)))))
        (pss_one (ps_ret (pe_ix ix_tup (pe_ix ix_tup (pv 3) (pv 5) (fun _ _ => rfl)) pe_int (fun _ _ => rfl))))
        pss_nil)
      (pss_one (ps_ret pe_non))))))), ?_⟩
    walk_at "rd"
    refine d_ixT q1 rfl ?_
    walk_at "rd"
    refine ⟨_, _, rfl, ?_⟩
    rw [min_intT]
    walk_at "rd"
    refine ⟨_, _, rfl, ?_⟩
    rw [max_intT]
    walk_at "rd"
    refine ⟨sz (by show 2 ≤ 100000; decide), fun pe fe => ?_⟩
    have s1 := same_new (o := .tup [V.int (min a b : Nat), V.int (max a b : Nat)]) fe
    have eE := upd_same (H := H) (a := pe) (o := .tup [V.int (min a b : Nat), V.int (max a b : Nat)])
    generalize upd H pe (.tup [V.int (min a b : Nat), V.int (max a b : Nat)]) = H1 at s1 eE ⊢
    walk_at "rd"
    refine d_par ?_
    walk_at "rd"
    refine d_lenT (Same.sqt s1 q2) ?_
    walk_at "rd"
    refine ⟨_, _, rfl, ?_⟩
    rw [lt]
    walk_at "rd"
    refine ⟨fun k σ H' => ∃ lo hi : Nat, ∃ y7, σ = [some (.ref a0), some (.int (a : Nat)), some (.int (b : Nat)), some (.ref tb), some (.ref pe), some (.int (lo : Nat)), some (.int (hi : Nat)), y7] ∧ k = hi - lo ∧ lo ≤ hi ∧ hi ≤ w.2.length ∧ Same H1 H' ∧
      (∀ i u, i < lo → w.2[i]? = some u → ahd (min a b) (max a b) u = true) ∧ (∀ i u, hi ≤ i → w.2[i]? = some u → ahd (min a b) (max a b) u = false),
      ⟨_, 0, w.2.length, _, rfl, rfl, Nat.zero_le _, Nat.le_refl _, Same.refl _, fun i u hi => absurd hi (Nat.not_lt_zero _), fun i u hi e => absurd (List.getElem?_eq_some_iff.mp e).1 (by omega)⟩, ?_⟩
    rintro k σ H2 ⟨lo, hi, y7, rfl, rfl, l1, l2, s2, g1, g2⟩
    have s12 := Same.trans s1 s2
    have eE2 := s2 _ _ eE
    walk_at "rd"
    refine ite2 (fun c => ?_) (fun c => ?_)
    · have c1 : lo < hi := by have := of_decide_eq_true c; omega
      refine ⟨_, fun σ' H' h => h, ?_⟩
      walk_at "rd"
      rw [half_mid]
      have hm : (lo + hi) / 2 < w.2.length := by omega
      have gm := List.getElem?_eq_getElem hm
      have gv : tvs[(lo + hi) / 2]? = some (tvs[(lo + hi) / 2]'(by omega)) := List.getElem?_eq_getElem (by omega)
      obtain ⟨t, ht, a', ea', qt⟩ := Paired.at pT gv
      rw [ea'] at gv
      walk_at "rd"
      refine d_ixT (Same.sqt s12 q2) (atI_nat gv) ?_
      walk_at "rd"
      refine ⟨a', _, rfl, Same.sqt s12 qt, (show ¬ (HT.sIx 3 0 none = 0 ∧ HT.sIx 3 3 (some 2) = 3) by decide), fun p1 f1 => ?_⟩
      rw [show cutV [V.int (t.1 : Nat), V.int (t.2.1 : Nat), V.str (sg t.2.2)] none (some 2) = [V.int (t.1 : Nat), V.int (t.2.1 : Nat)] from rfl]
      have s3 := same_new (o := .tup [V.int (t.1 : Nat), V.int (t.2.1 : Nat)]) f1
      walk_at "rd"
      refine ⟨p1, pe, [(t.1 : Int), (t.2.1 : Int)], [((min a b : Nat) : Int), ((max a b : Nat) : Int)], rfl, rfl, SqT.of upd_same, SqT.of (s3 _ _ eE2), ?_⟩
      rw [ahd_lex]
      walk_at "rd"
      refine ite2 (fun d => ?_) (fun d => ?_)
      · walk_at "rd"
        refine ⟨hi - ((lo + hi) / 2 + 1), by omega, (lo + hi) / 2 + 1, hi, _, rfl, rfl, by omega, l2, Same.trans s2 s3, fun i u hi' e => ahd_down W e ht (by omega) d, g2⟩
      · walk_at "rd"
        refine ⟨(lo + hi) / 2 - lo, by omega, lo, (lo + hi) / 2, _, rfl, rfl, by omega, by omega, Same.trans s2 s3, g1, fun i u hi' e => ?_⟩
        cases z : ahd (min a b) (max a b) u with
        | false => rfl
        | true => exact absurd (ahd_down W ht e hi' z) d
    · have c1 : lo = hi := by
        have := c
        simp only [decide_eq_true_eq] at this
        omega
      subst c1
      walk_at "rd"
      refine d_lenT (Same.sqt s12 q2) ?_
      walk_at "rd"
      rw [lt]
      refine ite2 (fun c => ?_) (fun c => ?_)
      · have hm : lo < w.2.length := by have := of_decide_eq_true c; omega
        have gv : tvs[lo]? = some (tvs[lo]'(by omega)) := List.getElem?_eq_getElem (by omega)
        obtain ⟨t, ht, a', ea', qt⟩ := Paired.at pT gv
        rw [ea'] at gv
        walk_at "rd"
        refine d_ixT (Same.sqt s12 q2) (atI_nat gv) ?_
        walk_at "rd"
        refine ⟨a', _, rfl, Same.sqt s12 qt, (show ¬ (HT.sIx 3 0 none = 0 ∧ HT.sIx 3 3 (some 2) = 3) by decide), fun p1 f1 => ?_⟩
        rw [show cutV [V.int (t.1 : Nat), V.int (t.2.1 : Nat), V.str (sg t.2.2)] none (some 2) = [V.int (t.1 : Nat), V.int (t.2.1 : Nat)] from rfl]
        have s3 := same_new (o := .tup [V.int (t.1 : Nat), V.int (t.2.1 : Nat)]) f1
        walk_at "rd"
        refine ⟨.tuple [.int (t.1 : Nat), .int (t.2.1 : Nat)], .tuple [.int (min a b : Nat), .int (max a b : Nat)], .tup (SqT.of upd_same) (.cons (.int _) (.cons (.int _) .nil)), .tup (SqT.of (s3 _ _ eE2)) (.cons (.int _) (.cons (.int _) .nil)), sh2 _ _, sh2 _ _, ?_⟩
        have eq : PyData.eqv (.tuple [.int (t.1 : Nat), .int (t.2.1 : Nat)]) (.tuple [.int (min a b : Nat), .int (max a b : Nat)]) = decide (t.1 = min a b ∧ t.2.1 = max a b) := by
          rw [Bool.eq_iff_iff]
          simp only [PyData.eqv, PyData.eqvAll, Bool.and_true, Bool.and_eq_true, beq_iff_eq, decide_eq_true_eq]
          omega
        rw [eq]
        walk_at "rd"
        have s13 := Same.trans s12 s3
        refine ite2 (fun d => ?_) (fun d => ?_)
        · have d' := of_decide_eq_true d
          walk_at "rd"
          refine d_ixT (Same.sqt s13 q2) (atI_nat gv) ?_
          walk_at "rd"
          refine d_ixT (Same.sqt s13 qt) rfl ?_
          have z := q _ s13
          rw [half_found W g1 ht d'.1 d'.2] at z
          exact z
        · walk_at "rd"
          have z := q _ s13
          rw [half_none W g1 g2 fun u hu => ?_] at z
          · exact z
          · rw [ht] at hu
            cases hu
            exact fun x => d (decide_eq_true x)
      · walk_at "rd"
        have z := q _ s12
        rw [half_none W g1 g2 fun u hu => absurd (List.getElem?_eq_some_iff.mp hu).1 (by intro x; exact c (decide_eq_true (by omega)))] at z
        exact z
/-- for each place the list of its neighbours -/
def spAllN (K : PySem.W.Frag) : Sp := fun vs H Q _ => ∃ v w, vs = [v] ∧ WebAt K H v w ∧ WOk w ∧ ∀ H' (D : Addr) (as : List Addr), Same H H' → H D = none → H' D = some (.lst (as.map V.ref)) → as.length = w.1.length → as.Nodup → D ∉ as → (∀ a ∈ as, H a = none) →
  (∀ (j : Nat) (a : Addr), as[j]? = some a → H' a = some (.lst ((nb w.2 j).map fun o => V.int (o : Nat)))) → Q (.ref D) H'
theorem ok_all_neighbours (T : Tx K mg) : FnOk P w K mg base CX0 1 T.all_neighbours.f T.all_neighbours.fd ["web"] (spAllN K) := by
  refine T.all_neighbours.F.ok sc_all_neighbours (fun vs H Q E h => ?_) (fun cdv A outer s H vs Q E hr h => ?_)
  · obtain ⟨v, w, rfl, _⟩ := h; rfl
  · obtain ⟨v, w, rfl, ⟨a, b, tvs, rfl, q1, q2, pT⟩, W, q⟩ := h
    have lt : tvs.length = w.2.length := Paired.length pT
    have l16 := W.most
    have l40 := W.few
    refine ⟨_, (pss_cons (ps_setLc (i := 1) (own := [("_", 4)]) (g := gName 4) (tt := tYes) rfl sc_all_neighbours.nd rfl rfl (sw_true rfl rfl rfl (by decide +kernel)) (pi_str (pe_ix ix_tup (pv 0) pe_int (fun _ _ => rfl))) (blkOk_by (N := ["web", "beside", "place", "other", "_"]) (sc := defScope s_all_neighbours) (by decide +kernel)) (fun _ _ _ _ _ => (pg_name (i := 4) sc_all_neighbours.nd rfl (.inl rfl))) (fun _ _ _ _ _ => pts_nil) (fun _ _ _ _ _ => (pe_lst pa_nil)))
      (pss_cons (ps_for PassesOwn.never rfl (pi_tup (pe_ix ix_tup (pv 0) pe_int (fun _ _ => rfl))) (pg_tup rfl (pgs_cons (pg_name (i := 2) sc_all_neighbours.nd rfl (.inl rfl)) (pgs_cons (pg_name (i := 3) sc_all_neighbours.nd rfl (.inl rfl)) (pgs_cons (pg_name (i := 4) sc_all_neighbours.nd rfl (.inl rfl)) pgs_nil))))
        (pss_cons (ps_expr (pe_bm PySem.F.plainAttrs_list PySem.F.slot_list_append PySem.F.type_list_append mt_append (pe_ix ix_list (pv 1) (pv 2) (fun _ _ => rfl)) (pa_cons (pv 3) pa_nil)))
        (pss_one (ps_expr (pe_bm PySem.F.plainAttrs_list PySem.F.slot_list_append PySem.F.type_list_append mt_append (pe_ix ix_list (pv 1) (pv 3) (fun _ _ => rfl)) (pa_cons (pv 2) pa_nil))))))
      (pss_one (ps_ret (pv 1))))), ?_⟩
    walk_at "rd"
    refine d_ixT q1 rfl ?_
    walk_at "rd"
    intro D fD
    refine lc_it (walk_str (z := ⟨w.1.toArray⟩)) (fun i H1 => ∃ as : List Addr, as.length = i ∧ as.Nodup ∧ D ∉ as ∧ H1 D = some (.lst (as.map V.ref)) ∧ (∀ a ∈ as, H a = none) ∧ (∀ a ∈ as, H1 a = some (.lst [])) ∧ Same H H1)
      ⟨[], rfl, .nil, by simp, upd_same, by simp, by simp, same_new fD⟩ (fun _ _ _ _ => trivial) (fun i x H0 H1 hi hP hy => ?_) (fun H1 hP => ?_)
    · obtain ⟨as, la, nd, nD, eD, fa, ea, sm⟩ := hP
      obtain ⟨rfl, c, hc, rfl⟩ := hy
      have hi' : i < 40 := by
        have : i < w.1.length := by simpa using hi
        omega
      walk_at "rd"
      refine ⟨sz (by decide), fun p fp => ?_⟩
      have pD : p ≠ D := fun z => by rw [z, eD] at fp; cases fp
      have pas : p ∉ as := fun z => by rw [ea p z] at fp; cases fp
      refine ⟨_, at_upd eD fp, szl (by rw [List.length_map]; omega), as ++ [p], by rw [List.length_append, la]; rfl, ?_, ?_, ?_, ?_, ?_, ?_⟩
      · exact List.nodup_append.mpr ⟨nd, by simp, fun x hx y hy => by rw [List.mem_singleton.mp hy]; exact fun z => pas (z ▸ hx)⟩
      · intro z
        rcases List.mem_append.mp z with z | z
        · exact nD z
        · exact pD (List.mem_singleton.mp z).symm
      · rw [upd_same, List.map_append]; rfl
      · intro x hx
        rcases List.mem_append.mp hx with hx | hx
        · exact fa x hx
        · rw [List.mem_singleton.mp hx]; exact Same.free sm fp
      · intro x hx
        have xD : x ≠ D := fun z => by
          rcases List.mem_append.mp hx with hx | hx
          · exact nD (z ▸ hx)
          · exact pD ((List.mem_singleton.mp hx).symm.trans z)
        rw [upd_ne xD]
        rcases List.mem_append.mp hx with hx | hx
        · exact at_upd (ea x hx) fp
        · rw [List.mem_singleton.mp hx, upd_same]
      · exact same_upd (same_upd sm (Same.free sm fp)) fD
    obtain ⟨as, la, nd, nD, eD, fa, ea, sm⟩ := hP
    have la' : as.length = w.1.length := by simpa using la
    walk_at "rd"
    refine d_ixT (Same.sqt sm q1) rfl ?_
    refine d_iTe (Same.sqt sm q2) ?_
    refine for_it (walk_tup (xs := tvs)) (fun i σ H2 => ∃ y2 y3 y4, σ = [some (.ref a), some (.ref D), y2, y3, y4] ∧ H2 D = some (.lst (as.map V.ref)) ∧ Same H H2 ∧ ∀ (j : Nat) (x : Addr), as[j]? = some x → H2 x = some (.lst ((nb (w.2.take i) j).map fun o => V.int (o : Nat))))
      ⟨_, _, _, rfl, eD, sm, fun j x hx => ea x (List.mem_of_getElem? hx)⟩ (fun i σ H2 hi hP => ?_) (fun i x σ H0 H2 hi hP hy => ?_) (fun σ H2 hP => ?_)
    · obtain ⟨_, _, _, _, _, sm2, _⟩ := hP
      exact Same.sqt sm2 q2
    · obtain ⟨y2, y3, y4, rfl, eD2, sm2, hN⟩ := hP
      obtain ⟨rfl, hx⟩ := hy
      obtain ⟨t, ht, a', rfl, qt⟩ := Paired.at pT hx
      have et := W.ends t (List.mem_of_getElem? ht)
      have lti : (w.2.take i).length ≤ 1600 := Nat.le_trans (List.length_take_le _ _) (by omega)
      refine d_gtup (Same.sqt sm2 qt) rfl ?_
      walk_at "rd"
      have h1 : t.1 < as.length := by omega
      have h2 : t.2.1 < as.length := by omega
      have g1 : as[t.1]? = some as[t.1] := List.getElem?_eq_getElem h1
      have g2 : as[t.2.1]? = some as[t.2.1] := List.getElem?_eq_getElem h2
      have n12 : as[t.1] ≠ as[t.2.1] := fun z => by
        have := (List.getElem_inj nd).mp z
        omega
      have nd1 : as[t.1] ≠ D := fun z => nD (z ▸ List.getElem_mem h1)
      have nd2 : as[t.2.1] ≠ D := fun z => nD (z ▸ List.getElem_mem h2)
      refine d_ixLm eD2 (atI_nat (by rw [List.getElem?_map, g1]; rfl)) ?_
      have e1 := hN _ _ g1
      refine d_app e1 ?_
      walk_at "rd"
      have b1 := nb_len (w.2.take i) t.1
      have b2 := nb_len (w.2.take i) t.2.1
      refine d_append e1 (szl (by rw [List.length_map]; omega)) ?_
      walk_at "rd"
      refine d_ixLm (by rw [upd_ne nd1.symm]; exact eD2) (atI_nat (by rw [List.getElem?_map, g2]; rfl)) ?_
      have e2 := hN _ _ g2
      have e2' : (upd H2 as[t.1] (.lst (((nb (w.2.take i) t.1).map fun o => V.int (o : Nat)) ++ [V.int (t.2.1 : Nat)]))) as[t.2.1] = some (.lst ((nb (w.2.take i) t.2.1).map fun o => V.int (o : Nat))) := by rw [upd_ne n12.symm]; exact e2
      refine d_app e2' ?_
      walk_at "rd"
      refine d_append e2' (szl (by rw [List.length_map]; omega)) ?_
      refine ⟨_, _, _, rfl, by rw [upd_ne nd2.symm, upd_ne nd1.symm]; exact eD2, same_upd (same_upd sm2 (fa _ (List.getElem_mem h1))) (fa _ (List.getElem_mem h2)), fun j x hx => ?_⟩
      rw [take_snoc ht, nb_snoc]
      have inj : ∀ {m : Nat} (hm : m < as.length), x = as[m] → j = m := fun {m} hm z => by
        obtain ⟨hj, ej⟩ := List.getElem?_eq_some_iff.mp hx
        exact (List.getElem_inj nd).mp (ej.trans z)
      by_cases c2 : x = as[t.2.1]
      · have := inj h2 c2
        subst this
        rw [c2, upd_same, if_neg (by omega), if_pos rfl, List.map_append]; rfl
      · rw [upd_ne c2]
        by_cases c1 : x = as[t.1]
        · have := inj h1 c1
          subst this
          rw [c1, upd_same, if_pos rfl, List.map_append]; rfl
        · have f1 : ¬ t.1 = j := fun z => c1 (by
            subst z
            exact Option.some.inj (hx.symm.trans g1))
          have f2 : ¬ t.2.1 = j := fun z => c2 (by
            subst z
            exact Option.some.inj (hx.symm.trans g2))
          rw [upd_ne c1, if_neg f1, if_neg f2, List.append_nil]
          exact hN j x hx
    · obtain ⟨y2, y3, y4, rfl, eD2, sm2, hN⟩ := hP
      walk_at "rd"
      rw [lt, List.take_length] at hN
      exact q _ D as sm2 fD eD2 la' nd nD fa hN
def spNb (K : PySem.W.Frag) : Sp := fun vs H Q _ => ∃ v w, ∃ p : Nat, vs = [v, .int (p : Nat)] ∧ WebAt K H v w ∧ WOk w ∧ p < w.1.length ∧ ∀ H' (a : Addr), Same H H' → H a = none → H' a = some (.lst ((nb w.2 p).map fun o => V.int (o : Nat))) → Q (.ref a) H'
theorem ok_neighbours (T : Tx K mg) : FnOk P w K mg base CX0 2 T.neighbours.f T.neighbours.fd ["web", "place"] (spNb K) := by
  refine T.neighbours.F.ok sc_neighbours (fun vs H Q E h => ?_) (fun cdv A outer s H vs Q E hr h => ?_)
  · obtain ⟨v, w, p, rfl, _⟩ := h; rfl
  · obtain ⟨v, w, p, rfl, hw, W, hp, q⟩ := h
    refine ⟨_, (pss_one (ps_ret (pe_ix ix_list (pe_call (ok_all_neighbours T) (hr.mono (by decide)) (by rfl) T.all_neighbours.g T.all_neighbours.F.kp T.all_neighbours.b .nil pass0 (pa_cons (pv 0) pa_nil)) (pv 1) (fun _ _ => rfl)))), ?_⟩
    walk_at "rd"
    refine ⟨v, w, rfl, hw, W, fun H1 D as sm fD eD la nd nD fa hN => ?_⟩
    walk_at "rd"
    have g : as[p]? = some (as[p]'(by omega)) := List.getElem?_eq_getElem (by omega)
    refine d_ixLm eD (atI_nat (by rw [List.getElem?_map, g]; rfl)) ?_
    exact q H1 _ sm (fa _ (List.getElem_mem _)) (hN p _ g)
def spRight (K : PySem.W.Frag) : Sp := fun vs H Q _ => ∃ v w, ∃ p : Nat, ∃ (o hd : Addr) (qs : List Nat) (m : Nat), vs = [v, .int (p : Nat), .ref o, .ref hd] ∧ WebAt K H v w ∧ WOk w ∧ p < w.1.length ∧ H o = some (.lst (qs.map fun q => V.int (q : Nat))) ∧ o ≠ hd ∧ Held K H hd m ∧ m < 100000 ∧
  ∀ H', Keep hd H H' → Held K H' hd (m + 1) → Q (.bl true) H'
theorem ok_right (T : Tx K mg) : FnOk P w K mg base CX0 3 T.right.f T.right.fd ["web", "place", "others", "held"] (spRight K) := by
  refine T.right.F.ok sc_right (fun vs H Q E h => ?_) (fun cdv A outer s H vs Q E hr h => ?_)
  · obtain ⟨_, _, _, _, _, _, _, rfl, _⟩ := h; rfl
  · obtain ⟨v, w, p, o, hd, qs, m, rfl, hw, W, hp, eO, oh, hH, hm, q⟩ := h
    have l16 := W.most
    have l40 := W.few
    obtain ⟨a, b, tvs, rfl, q1, q2, pT⟩ := id hw
    refine ⟨_, (pss_cons (ps_setLc (i := 4) (own := [("other", 6)]) (g := gName 6) (tt := _) rfl sc_right.nd rfl rfl (sw_true rfl rfl rfl (by decide +kernel)) (pi_range1 (by rfl) T.m_range (pa_cons (pe_callB call_len_str (by rfl) T.m_len (by decide +kernel) (pa_cons (pe_ix ix_tup (pv 0) pe_int (fun _ _ => rfl)) pa_nil)) pa_nil)) (blkOk_by (N := ["web", "place", "others", "held", "due", "told", "other", "found", "one"]) (sc := defScope s_right) (by decide +kernel)) (fun _ _ _ _ _ => (pg_name (i := 6) sc_right.nd rfl (.inl rfl))) (fun _ _ _ _ _ => pts_one (pt_cmpR op_notN (pe_call (ok_tie T) (hr.mono (by decide)) (by rfl) T.tie.g T.tie.F.kp T.tie.b .nil pass0 (pa_cons (pv 0) (pa_cons (pv 1) (pa_cons (pv 6) pa_nil)))) pe_non (nomark _))) (fun _ _ _ _ _ => (pv 6)))
      (pss_cons (ps_set (i := 5) sc_right.nd rfl (.inl rfl) (pe_call (ok_neighbours T) (hr.mono (by decide)) (by rfl) T.neighbours.g T.neighbours.F.kp T.neighbours.b .nil pass0 (pa_cons (pv 0) (pa_cons (pv 1) pa_nil))))
      (pss_cons (ps_if (PW.pt (pw_or (pt_not (pt_val (pe_callB call_isi (by rfl) T.m_isinstance (by decide +kernel) (pa_cons (pv 5) (pa_cons (pe_bltn (by rfl) T.m_list (by decide +kernel) (v := .ty "list") rfl) pa_nil))))) (pw_or (pt_cmpR (op_neD (hr.units)) (pv 5) (pv 4) (nomark _)) (pw_or1 (pt_cmpR (op_neD (hr.units)) (pe_lc (own := [("one", 8)]) (g := gName 8) (tt := tB (tCB (rIsi K) (tCons (tVar 8) (tCons (tC (.ty "bool")) tNil)))) rfl sc_right.nd (pi_list (pv 5)) (blkOk_by (N := ["web", "place", "others", "held", "due", "told", "other", "found", "one"]) (sc := defScope s_right) (by decide +kernel)) (fun _ _ _ _ _ => (pg_name (i := 8) sc_right.nd rfl (.inl rfl))) (fun _ _ _ _ _ => pts_one (pt_val (pe_callB call_isi (by rfl) T.m_isinstance (by decide +kernel) (pa_cons (pv 8) (pa_cons (pe_bltn (by rfl) T.m_bool (by decide +kernel) (v := .ty "bool") rfl) pa_nil))))) (fun _ _ _ _ _ => (pv 8))) (pe_lst pa_nil) (nomark _))))))
        (pss_one (ps_ret pe_bl))
        pss_nil)
      (pss_cons (ps_expr (pe_bm PySem.F.plainAttrs_list PySem.F.slot_list_append PySem.F.type_list_append mt_append (pv 3) (pa_cons (pe_lst (pa_cons (pe_call (ok_neighbours T) (hr.mono (by decide)) (by rfl) T.neighbours.g T.neighbours.F.kp T.neighbours.b .nil pass0 (pa_cons (pv 0) (pa_cons (pv 1) pa_nil))) (pa_cons (pe_callTy call_list_of (by rfl) T.m_list (by decide +kernel) (pa_cons (pv 4) pa_nil)) pa_nil))) pa_nil)))
      (pss_cons (ps_expr (pe_bm PySem.F.plainAttrs_list PySem.F.slot_list_append PySem.F.type_list_append mt_append (pv 5) (pa_cons (pv 1) pa_nil)))
      (pss_cons (ps_if (PW.pt (pw_or (pt_cmpR (op_neD (hr.units)) (pe_call (ok_neighbours T) (hr.mono (by decide)) (by rfl) T.neighbours.g T.neighbours.F.kp T.neighbours.b .nil pass0 (pa_cons (pv 0) (pa_cons (pv 1) pa_nil))) (pv 4) (nomark _)) (pw_or1 (pt_cmpR op_notN (pe_call (ok_tie_of T) (hr.mono (by decide)) (by rfl) T.tie_of.g T.tie_of.F.kp T.tie_of.b .nil pass0 (pa_cons (pv 0) (pa_cons (pv 1) (pa_cons (pv 1) pa_nil)))) pe_non (nomark _)))))
        (pss_one (ps_ret pe_bl))
        pss_nil)
      (pss_cons (ps_for PassesOwn.never rfl (pi_list (pv 2)) (pg_name (i := 6) sc_right.nd rfl (.inl rfl))
        (pss_cons (ps_set (i := 7) sc_right.nd rfl (.inl rfl) (pe_call (ok_tie T) (hr.mono (by decide)) (by rfl) T.tie.g T.tie.F.kp T.tie.b .nil pass0 (pa_cons (pv 0) (pa_cons (pv 1) (pa_cons (pv 6) pa_nil)))))
        (pss_one (ps_if (PW.pt (pw_or (pt_cmpR op_ne (pe_call (ok_tie_of T) (hr.mono (by decide)) (by rfl) T.tie_of.g T.tie_of.F.kp T.tie_of.b .nil pass0 (pa_cons (pv 0) (pa_cons (pv 1) (pa_cons (pv 6) pa_nil)))) (pv 7) (nomark _)) (pw_or1 (pt_cmpR op_ne (pe_call (ok_tie_of T) (hr.mono (by decide)) (by rfl) T.tie_of.g T.tie_of.F.kp T.tie_of.b .nil pass0 (pa_cons (pv 0) (pa_cons (pv 6) (pa_cons (pv 1) pa_nil)))) (pv 7) (nomark _)))))
          (pss_one (ps_ret pe_bl))
          pss_nil))))
      (pss_one (ps_ret pe_bl))))))))), ?_⟩
    walk_at "rd"
    refine d_ixT q1 rfl ?_
    refine d_lenS (z := ⟨w.1.toArray⟩) (sz (by show w.1.toArray.size ≤ 100000; simp; omega)) ?_
    walk_at "rd"
    have hl : (⟨w.1.toArray⟩ : Str).length = w.1.length := by show w.1.toArray.size = _; simp
    rw [hl]
    walk_at "rd"
    intro D fD
    -- due
    refine lc_range (fun i H1 => H1 D = some (.lst (((List.range i).filter fun o => (tieL w.2 p o).isSome).map fun o => V.int (o : Nat))) ∧ Same H H1) ⟨upd_same, same_new fD⟩ (fun i H1 hi hP => ?_) (fun H1 hP => ?_)
    · obtain ⟨eD, sm⟩ := hP
      walk_at "rd"
      refine ⟨_, w, p, i, by simp only [Int.zero_add]; rfl, hw.same sm, W, fun H2 s2 => ?_⟩
      walk_at "rd"
      rw [optV_non]
      have eR : (List.range (i + 1)).filter (fun o => (tieL w.2 p o).isSome) = (List.range i).filter (fun o => (tieL w.2 p o).isSome) ++ if (tieL w.2 p i).isSome = true then [i] else [] := by
        rw [List.range_succ, List.filter_append]
        congr 1
        by_cases c : (tieL w.2 p i).isSome = true
        · rw [if_pos c]; simp [c]
        · rw [if_neg c]; simp [c]
      refine ite2 (fun c => ?_) (fun c => ?_)
      · walk_at "rd"
        have lf : ((List.range i).filter fun o => (tieL w.2 p o).isSome).length ≤ i := Nat.le_trans (List.length_filter_le _ _) (by rw [List.length_range]; exact Nat.le_refl _)
        refine ⟨_, s2 _ _ eD, szl (by rw [List.length_map]; omega), ?_, ?_⟩
        · rw [upd_same, eR, if_pos c, List.map_append, Int.zero_add]; rfl
        · exact same_upd (Same.trans sm s2) fD
      · exact ⟨by rw [eR, if_neg c, List.append_nil]; exact s2 _ _ eD, Same.trans sm s2⟩
    obtain ⟨eD, sm⟩ := hP
    have eN := nb_eq W p
    rw [show (w.1.length : Int).toNat = w.1.length from rfl, ← eN] at eD
    have lN : (nb w.2 p).length ≤ 1600 := Nat.le_trans (nb_len _ _) l16
    walk_at "rd"
    refine ⟨_, w, p, rfl, hw.same sm, W, hp, fun H2 a2 s2 f2 ea2 => ?_⟩
    have sm2 := Same.trans sm s2
    walk_at "rd"
    -- not a list, not as it is due, with truths
    refine ⟨_, _, _, _, true, rfl, .ty "list", .base (.lst ea2), kit_ty (by decide +kernel), ?_⟩
    walk_at "rd"
    refine ⟨_, _, dp_nats ea2, dp_nats (s2 _ _ eD), shaped_ints _, shaped_ints _, ?_⟩
    rw [eqv_ints]
    walk_at "rd"
    refine d_iLe (SqL.of ea2) ?_
    intro D2 fD2
    refine lc_list (K := K) (a := a2) (xs := (nb w.2 p).map fun o => V.int (o : Nat)) (fun i H3 => H3 D2 = some (.lst []) ∧ Same H2 H3) ⟨upd_same, same_new fD2⟩ (fun i H3 _ hP => SqL.of (hP.2 _ _ ea2)) (fun i x H3 hx hP => ?_) (fun H3 hP => ?_)
    · obtain ⟨e3, s3⟩ := hP
      rw [List.getElem?_map] at hx
      obtain ⟨z, _, rfl⟩ := Option.map_eq_some_iff.mp hx
      walk_at "rd"
      refine ⟨_, _, _, _, false, rfl, .ty "bool", .base (.int _), kit_ty (by decide +kernel), ?_⟩
      walk_at "rd"
      exact ⟨e3, s3⟩
    obtain ⟨e3, s3⟩ := hP
    have sm3 := Same.trans sm2 s3
    walk_at "rd"
    refine ⟨sz (by decide), fun p4 f4 => ?_⟩
    have s4 := same_new (o := .lst []) f4
    refine ⟨.list [], .list [], .lst (SqL.of (s4 _ _ e3)) .nil, .lst (SqL.of upd_same) .nil, by decide, by decide, ?_⟩
    rw [show (!PyData.eqv (.list []) (.list [])) = false by decide]
    walk_at "rd"
    have sm4 := Same.trans sm3 s4
    generalize hH4 : upd H3 p4 (.lst []) = H4 at s4 sm4 ⊢
    have ea4 : H4 a2 = _ := s4 _ _ (s3 _ _ ea2)
    have eD4 : H4 D = _ := s4 _ _ (s3 _ _ (s2 _ _ eD))
    obtain ⟨hs, xs, eH, lH, aH⟩ := id hH
    -- held.append([neighbours(web, place), list(due)])
    have eH4 := sm4 _ _ eH
    refine d_app eH4 ?_
    walk_at "rd"
    refine ⟨_, w, p, rfl, hw.same sm4, W, hp, fun H5 a5 s5 f5 ea5 => ?_⟩
    walk_at "rd"
    refine ⟨D, _, rfl, .inl (SqL.of (s5 _ _ eD4)), fun B fB => ?_⟩
    walk_at "rd"
    refine ⟨sz (by show 2 ≤ 100000; decide), fun L fL => ?_⟩
    walk_at "rd"
    have s7 := same_new (o := .lst ((nb w.2 p).map fun o => V.int (o : Nat))) fB
    have s8 := same_new (o := .lst [V.ref a5, V.ref B]) fL
    have eB8 := s8 B _ upd_same
    have e58 := s8 _ _ (s7 _ _ ea5)
    have eL8 := upd_same (H := upd H5 B (.lst ((nb w.2 p).map fun o => V.int (o : Nat)))) (a := L) (o := .lst [V.ref a5, V.ref B])
    have s48 := Same.trans s5 (Same.trans s7 s8)
    have fB4 : H4 B = none := Same.free s5 fB
    have fL4 : H4 L = none := Same.free (Same.trans s5 s7) fL
    generalize upd (upd H5 B (.lst ((nb w.2 p).map fun o => V.int (o : Nat)))) L (.lst [V.ref a5, V.ref B]) = H8 at eB8 e58 eL8 s48 ⊢
    have sm8 := Same.trans sm4 s48
    refine d_append (sm8 _ _ eH) (szl (by omega)) ?_
    walk_at "rd"
    have n5 : a5 ≠ hd := (ne_of_none eH4 f5).symm
    have nB : B ≠ hd := (ne_of_none eH4 fB4).symm
    have nL : L ≠ hd := (ne_of_none eH4 fL4).symm
    have n2 : a2 ≠ hd := (ne_of_none (sm _ _ eH) f2).symm
    have nDh : D ≠ hd := (ne_of_none eH fD).symm
    have n52 : a5 ≠ a2 := (ne_of_none ea4 f5).symm
    have nB2 : B ≠ a2 := (ne_of_none ea4 fB4).symm
    have nL2 : L ≠ a2 := (ne_of_none ea4 fL4).symm
    have nD2 : D ≠ a2 := ne_of_none eD f2
    have ea9 : (upd H8 hd (.lst (hs ++ [V.ref L]))) a2 = some (.lst ((nb w.2 p).map fun o => V.int (o : Nat))) := by rw [upd_ne n2]; exact s48 _ _ ea4
    refine d_app ea9 ?_
    walk_at "rd"
    refine d_append ea9 (szl (by rw [List.length_map]; omega)) ?_
    have k10 : Keep hd H (upd (upd H8 hd (.lst (hs ++ [V.ref L]))) a2 (.lst (((nb w.2 p).map fun o => V.int (o : Nat)) ++ [V.int (p : Nat)]))) := Keep.new (Keep.self (Same.keep sm8)) (Same.free sm f2)
    have e10 : ∀ {x : Addr} {u : HO}, x ≠ hd → x ≠ a2 → H8 x = some u → (upd (upd H8 hd (.lst (hs ++ [V.ref L]))) a2 (.lst (((nb w.2 p).map fun o => V.int (o : Nat)) ++ [V.int (p : Nat)]))) x = some u := fun h1 h2 e => by rw [upd_ne h2, upd_ne h1]; exact e
    have e510 := e10 n5 n52 e58
    have eB10 := e10 nB nB2 eB8
    have eL10 := e10 nL nL2 eL8
    have eD10 := e10 nDh nD2 (s48 _ _ eD4)
    have eh10 : (upd (upd H8 hd (.lst (hs ++ [V.ref L]))) a2 (.lst (((nb w.2 p).map fun o => V.int (o : Nat)) ++ [V.int (p : Nat)]))) hd = some (.lst (hs ++ [V.ref L])) := by rw [upd_ne n2.symm, upd_same]
    generalize upd (upd H8 hd (.lst (hs ++ [V.ref L]))) a2 (.lst (((nb w.2 p).map fun o => V.int (o : Nat)) ++ [V.int (p : Nat)])) = H10 at k10 e510 eB10 eL10 eD10 eh10 ⊢
    walk_at "rd"
    -- told anew
    refine ⟨_, w, p, rfl, hw.keep k10 eH, W, hp, fun H11 a11 s11 f11 ea11 => ?_⟩
    walk_at "rd"
    refine ⟨_, _, dp_nats ea11, dp_nats (s11 _ _ eD10), shaped_ints _, shaped_ints _, ?_⟩
    rw [eqv_ints]
    walk_at "rd"
    have k11 := Keep.same k10 s11
    refine ⟨_, w, p, p, rfl, hw.keep k11 eH, W, fun H12 s12 => ?_⟩
    rw [tieL_self W p]
    walk_at "rd"
    rw [show (!decide (optV none = V.non)) = false from rfl]
    walk_at "rd"
    have k12 := Keep.same k11 s12
    have eO12 := k12 o _ oh eO
    refine d_iLe (SqL.of eO12) ?_
    refine for_it (walk_list (K := K) (xs := qs.map fun q => V.int (q : Nat))) (fun i σ H' => ∃ y6 y7 y8, σ = [some (.ref a), some (.int (p : Nat)), some (.ref o), some (.ref hd), some (.ref D), some (.ref a2), y6, y7, y8] ∧ Same H12 H')
      ⟨_, _, _, rfl, Same.refl _⟩ (fun i σ H' hi hP => ?_) (fun i x σ H0 H' hi hP hy => ?_) (fun σ H' hP => ?_)
    · obtain ⟨_, _, _, _, sz'⟩ := hP
      exact SqL.of (sz' _ _ eO12)
    · obtain ⟨y6, y7, y8, rfl, s13⟩ := hP
      obtain ⟨rfl, hx⟩ := hy
      rw [List.getElem?_map] at hx
      obtain ⟨z, _, rfl⟩ := Option.map_eq_some_iff.mp hx
      have k13 := Keep.same k12 s13
      walk_at "rd"
      refine ⟨_, w, p, z, rfl, hw.keep k13 eH, W, fun H14 s14 => ?_⟩
      have k14 := Keep.same k13 s14
      walk_at "rd"
      refine ⟨_, w, p, z, rfl, hw.keep k14 eH, W, fun H15 s15 => ?_⟩
      have k15 := Keep.same k14 s15
      walk_at "rd"
      refine ⟨optV_scal _, ?_⟩
      rw [decide_eq_true rfl, Bool.not_true]
      walk_at "rd"
      refine ⟨_, w, z, p, rfl, hw.keep k15 eH, W, fun H16 s16 => ?_⟩
      rw [tieL_swap w.2 z p]
      walk_at "rd"
      refine ⟨optV_scal _, ?_⟩
      rw [decide_eq_true rfl, Bool.not_true]
      walk_at "rd"
      exact ⟨_, _, _, rfl, Same.trans s13 (Same.trans s14 (Same.trans s15 s16))⟩
    · obtain ⟨y6, y7, y8, rfl, s13⟩ := hP
      walk_at "rd"
      have sf := Same.trans s11 (Same.trans s12 s13)
      have kf := Keep.same k12 s13
      refine q _ kf ⟨hs ++ [V.ref L], xs ++ [zs (nb w.2 p)], sf _ _ eh10, by rw [List.length_append]; show hs.length + 1 ≤ m + 1; omega, ?_⟩
      rw [List.map_append]
      refine dpa_snoc (dpa_same (Keep.del kf) _ _ aH) ?_
      have g5 := del_at n5 (sf _ _ e510)
      have gB := del_at nB (sf _ _ eB10)
      exact .lst (SqL.of (del_at nL (sf _ _ eL10))) (.cons (dp_nats g5) (.cons (dp_nats gB) .nil))
def spLaw (K : PySem.W.Frag) : Sp := fun vs H Q _ => ∃ (a : Addr) (ns : List Int), vs = [.ref a] ∧ SqL K H a (ns.map V.int) ∧ ns.length ≤ 63 ∧ ∀ H', Q (.bl true) H'
theorem ok_law (T : Tx K mg) : FnOk P w K mg base CX0 4 T.law.f T.law.fd ["script"] (spLaw K) := by
  refine T.law.F.ok sc_law (fun vs H Q E h => ?_) (fun cdv A outer s H vs Q E hr h => ?_)
  · obtain ⟨_, _, rfl, _⟩ := h; rfl
  · obtain ⟨a, ns, rfl, hS, hl, q⟩ := h
    refine ⟨_, (pss_cons (ps_set (i := 1) sc_law.nd rfl (.inl rfl) (pe_lst pa_nil))
      (pss_cons (ps_for PassesOwn.never rfl (pi_list (pe_call (ok_cells T) (hr.mono (by decide)) (by rfl) T.cells.g T.cells.F.kp T.cells.b .nil pass0 (pa_cons (pv 0) (pa_cons pe_int pa_nil)))) (pg_tup rfl (pgs_cons (pg_name (i := 2) sc_law.nd rfl (.inl rfl)) (pgs_cons (pg_name (i := 3) sc_law.nd rfl (.inl rfl)) pgs_nil)))
        (pss_cons (ps_set (i := 4) sc_law.nd rfl (.inr rfl) (pe_call (ok_hand T) (hr.mono (by decide)) (by rfl) T.hand.g T.hand.F.kp T.hand.b .nil pass0 (pa_cons (pv 3) (pa_cons (pv 2) pa_nil))))
        (pss_cons (ps_set (i := 5) sc_law.nd rfl (.inr rfl) (pe_call (ok_size T) (hr.mono (by decide)) (by rfl) T.size.g T.size.F.kp T.size.b .nil pass0 (pa_cons (pv 4) (pa_cons (pe_and (pe_cmpR op_eq (pv 2) pe_int (nomark _)) (pe_one (pe_call (ok_great T) (hr.mono (by decide)) (by rfl) T.great.g T.great.F.kp T.great.b .nil pass0 (pa_cons (pv 0) pa_nil)))) pa_nil))))
        (pss_cons (ps_set (i := 6) sc_law.nd rfl (.inl rfl) (pe_call (ok_web T) (hr.mono (by decide)) (by rfl) T.web.g T.web.F.kp T.web.b .nil pass0 (pa_cons (pv 4) (pa_cons (pv 5) pa_nil))))
        (pss_cons (ps_set (i := 7) sc_law.nd rfl (.inl rfl) (pe_listRg rfl (by rfl) T.m_list (prg_1 (by rfl) T.m_range (pv 5))))
        (Evl.pss_cut (ps_if (pt_cmpR op_gt (pv 5) pe_int (nomark _))
          (pss_one (ps_set (i := 7) sc_law.nd rfl (.inl rfl) (pe_op op_cat (pe_lc (own := [("j", 9)]) (g := gName 9) (tt := tYes) rfl sc_law.nd (pi_range1 (by rfl) T.m_range (pa_cons pe_int pa_nil)) (blkOk_by (N := ["script", "held", "k", "cell", "hand", "many", "web", "places", "place", "j", "one"]) (sc := defScope s_law) (by decide +kernel)) (fun _ _ _ _ _ => (pg_name (i := 9) sc_law.nd rfl (.inl rfl))) (fun _ _ _ _ _ => pts_nil) (fun _ _ _ _ _ => (pe_call (ok_draw T) (hr.mono (by decide)) (by rfl) T.draw.g T.draw.F.kp T.draw.b .nil pass0 (pa_cons (pv 4) (pa_cons (pv 5) pa_nil))))) (pe_lst (pa_cons pe_int (pa_cons (pe_op op_sub (pv 5) pe_int) pa_nil))))))
          pss_nil)
        (pss_one (ps_for PassesOwn.never rfl (pi_list (pv 7)) (pg_name (i := 8) sc_law.nd rfl (.inl rfl))
          (pss_one (ps_if (pt_not (pt_val (pe_call (ok_right T) (hr.mono (by decide)) (by rfl) T.right.g T.right.F.kp T.right.b .nil pass0 (pa_cons (pv 6) (pa_cons (pv 8) (pa_cons (pv 7) (pa_cons (pv 1) pa_nil)))))))
            (pss_one (ps_ret pe_bl))
            pss_nil))))))))))
      (pss_one (ps_ret (pe_cmpR (op_eqD (hr.units)) (pe_lc (own := [("one", 10)]) (g := gName 10) (tt := tTest (tOp (rNeD K) (tOp (rIxL K) (tVar 10) (tC (.int 0))) (tOp (rIxL K) (tVar 10) (tC (.int 1))))) rfl sc_law.nd (pi_list (pv 1)) (blkOk_by (N := ["script", "held", "k", "cell", "hand", "many", "web", "places", "place", "j", "one"]) (sc := defScope s_law) (by decide +kernel)) (fun _ _ _ _ _ => (pg_name (i := 10) sc_law.nd rfl (.inl rfl))) (fun _ _ _ _ _ => pts_one (pt_cmpR (op_neD (hr.units)) (pe_ix ix_list (pv 10) pe_int (fun _ _ => rfl)) (pe_ix ix_list (pv 10) pe_int (fun _ _ => rfl)) (nomark _))) (fun _ _ _ _ _ => (pv 10))) (pe_lst pa_nil) (nomark _)))))), ?_⟩
    walk_at "rd"
    refine ⟨sz (by decide), fun hd fh => ?_⟩
    walk_at "rd"
    have s0 := same_new (o := .lst []) fh
    refine ⟨a, ns, 20, rfl, Same.seq s0 hS, hl, by decide, by decide, fun H2 p ts s2 f2 e2 l2 at2' => ?_⟩
    have eh2 := s2 _ _ (upd_same (H := H) (a := hd) (o := .lst []))
    have aS := Same.seq s2 (Same.seq s0 hS)
    have nap : p ≠ hd := (ne_of_none upd_same f2).symm
    walk_at "rd"
    refine d_iLe (SqL.of e2) ?_
    refine for_it (walk_list (K := K) (xs := ts.map V.ref)) (fun i σ H' => ∃ y2 y3 y4 y5 y6 y7 y8 y9 y10, σ = [some (.ref a), some (.ref hd), y2, y3, y4, y5, y6, y7, y8, y9, y10] ∧ Keep hd H2 H' ∧ Held K H' hd (40 * i))
      ⟨_, _, _, _, _, _, _, _, _, rfl, Keep.refl _ _, [], [], eh2, by simp, .nil⟩ (fun i σ H' hi hP => ?_) (fun i x σ H0' H0 hi hP hy => ?_) (fun σ H' hP => ?_)
    · obtain ⟨_, _, _, _, _, _, _, _, _, _, kk, _⟩ := hP
      exact SqL.of (kk p _ nap e2)
    · obtain ⟨y2, y3, y4, y5, y6, y7, y8, y9, y10, rfl, k0, held⟩ := hP
      obtain ⟨rfl, hx⟩ := hy
      rw [List.getElem?_map] at hx
      obtain ⟨t, ht, rfl⟩ := Option.map_eq_some_iff.mp hx
      rw [List.length_map] at hi
      obtain ⟨c, et⟩ := at2' i t ht
      have eT := k0 t _ (ne_of et eh2 (by intro z; cases z)) et
      walk_at "rd"
      refine ⟨c, (i : Nat), rfl, by omega, by omega, fun H3 h s3 f3 hh3 => ?_⟩
      walk_at "rd"
      have kS : Keep hd H H0 := Keep.trans (Same.keep (Same.trans s0 s2)) k0
      have aS3 := Same.seq s3 (kS.seqN fh hS)
      refine if_any (fun Q' q' => ?_) (fun b H4 s4 => ?_)
      · walk_at "rd"
        exact ⟨a, ns, rfl, aS3, fun b => q' b _ (Same.refl _)⟩
      walk_at "rd"
      refine ⟨h, b, rfl, hh3.same s4, fun H5 n k5 hh5 n0 n40 => ?_⟩
      walk_at "rd"
      refine ⟨h, n, rfl, n0, n40, hh5, fun H6 v w k6 hh6 hw W lw => ?_⟩
      walk_at "rd"
      have s06 : Same H0 H6 := Keep.out (Same.trans s3 s4) (Keep.trans k5 k6) f3
      refine ⟨RgOk.of_le (by omega) (by omega) (by omega) (by omega), fun P fP => ?_⟩
      walk_at "rd"
      have lwn : w.1.length = n.toNat := by omega
      have hh7 := hh6.put (o := .lst (rgV 0 n)) (hh6.ne fP)
      have hw7 : WebAt K (upd H6 P (.lst (rgV 0 n))) v w := hw.put (.inl fP)
      have s07 := same_upd (o := .lst (rgV 0 n)) s06 (Same.free s06 fP)
      have eP7 := upd_same (H := H6) (a := P) (o := .lst (rgV 0 n))
      have fP0 := Same.free s06 fP
      generalize upd H6 P (.lst (rgV 0 n)) = H7 at hh7 hw7 s07 eP7 ⊢
      refine d_cut (fun σ' H' => ∃ (P : Addr) (qs : List Nat) (y8 y9 y10 : Option V), σ' = [some (.ref a), some (.ref hd), some (.int (i : Nat)), some (.int c), some (.ref h), some (.int n), some v, some (.ref P), y8, y9, y10] ∧ Same H0 H' ∧ H0 P = none ∧
        H' P = some (.lst (qs.map fun q => V.int (q : Nat))) ∧ (∀ q ∈ qs, q < w.1.length) ∧ qs.length ≤ 40 ∧ WebAt K H' v w) ?_ (fun σ' H' hM => ?_)
      · walk_at "rd"
        refine ite2 (fun e => ?_) (fun e => ?_)
        · have e6 := of_decide_eq_true e
          walk_at "rd"
          intro D fD
          have nD := hh7.ne fD
          refine lc_range (fun k H' => ∃ gs : List Nat, gs.length = k ∧ (∀ g ∈ gs, g < w.1.length) ∧ H' D = some (.lst (gs.map fun q => V.int (q : Nat))) ∧ Keep h H7 H' ∧ Hand H' h) ⟨[], rfl, by simp, upd_same, Same.keep (same_new fD), hh7.put nD⟩ (fun k H' hk hP => ?_) (fun H' hP => ?_)
          · obtain ⟨gs, lg, bg, eD, kk, hh'⟩ := hP
            have hk6 : k < 6 := hk
            walk_at "rd"
            refine ⟨h, n, rfl, by omega, by omega, hh', fun H9 g k9 hh9 g0 g1 => ?_⟩
            refine ⟨_, k9 D _ nD eD, szl (by rw [List.length_map]; omega), gs ++ [g.toNat], by rw [List.length_append, lg]; rfl, fun x hx => ?_, ?_, Keep.new (Keep.trans kk k9) fD, hh9.put nD⟩
            · rcases List.mem_append.mp hx with hx | hx
              · exact bg x hx
              · rw [List.mem_singleton.mp hx]; omega
            · rw [upd_same, List.map_append]
              show some (HO.lst (_ ++ [V.int g])) = some (HO.lst (_ ++ [V.int (g.toNat : Nat)]))
              rw [Int.toNat_of_nonneg g0]
          obtain ⟨gs, lg, bg, eD, kk, hh'⟩ := hP
          have lg6 : gs.length = 6 := lg
          walk_at "rd"
          refine ⟨sz (by show 2 ≤ 100000; decide), fun P2 fP2 => ?_⟩
          refine ⟨D, P2, _, _, rfl, rfl, at_upd eD fP2, upd_same, sz (by rw [List.length_map, lg6]; show 6 + 2 ≤ 100000; decide), fun P3 fP3 => ?_⟩
          walk_at "rd"
          obtain ⟨d7, m7, e7, _⟩ := id hh7
          have s0' : Same H0 H' := Keep.out s07 kk f3
          have s0'' := same_upd (o := .lst [V.int 0, V.int (n - 1)]) s0' (Same.free s0' fP2)
          have g3 := Same.free s0'' fP3
          refine ⟨P3, gs ++ [0, n.toNat - 1], _, _, _, rfl, same_upd s0'' g3, g3, ?_, fun x hx => ?_, by rw [List.length_append, lg6]; show 6 + 2 ≤ 40; decide, ((hw7.keep kk e7).put (.inl fP2)).put (.inl fP3)⟩
          · rw [upd_same, List.map_append]
            show some (HO.lst (_ ++ [V.int 0, V.int (n - 1)])) = some (HO.lst (_ ++ [V.int ((0 : Nat) : Int), V.int ((n.toNat - 1 : Nat) : Int)]))
            rw [show ((n.toNat - 1 : Nat) : Int) = n - 1 by omega]; rfl
          · rcases List.mem_append.mp hx with hx | hx
            · exact bg x hx
            · rcases List.mem_cons.mp hx with hx | hx
              · omega
              · have := List.mem_singleton.mp hx; omega
        · walk_at "rd"
          refine ⟨P, List.range n.toNat, _, _, _, rfl, s07, fP0, by rw [eP7, rgV_nats], fun x hx => by rw [lwn]; exact List.mem_range.mp hx, by rw [List.length_range]; omega, hw7⟩
      · obtain ⟨P', qs, y8, y9, y10, rfl, sM, fP', eP, bq, lq, hwM⟩ := hM
        have heldM := held.same sM
        obtain ⟨_, _, ehM, _⟩ := id heldM
        obtain ⟨_, _, eh0, _⟩ := id held
        have nP : P' ≠ hd := (ne_of_none eh0 fP').symm
        walk_at "rd"
        refine d_iLe (SqL.of eP) ?_
        refine for_it (walk_list (K := K) (xs := qs.map fun q => V.int (q : Nat))) (fun k σ H'' => ∃ y8 y9 y10, σ = [some (.ref a), some (.ref hd), some (.int (i : Nat)), some (.int c), some (.ref h), some (.int n), some v, some (.ref P'), y8, y9, y10] ∧ Keep hd H' H'' ∧ Held K H'' hd (40 * i + k))
          ⟨_, _, _, rfl, Keep.refl _ _, heldM⟩ (fun k σ H'' hk hP => ?_) (fun k x σ H0'' H'' hk hP hy => ?_) (fun σ H'' hP => ?_)
        · obtain ⟨_, _, _, _, kk, _⟩ := hP
          exact SqL.of (kk _ _ nP eP)
        · obtain ⟨z8, z9, z10, rfl, kk, hk'⟩ := hP
          obtain ⟨rfl, hx⟩ := hy
          rw [List.getElem?_map] at hx
          obtain ⟨z, hz, rfl⟩ := Option.map_eq_some_iff.mp hx
          rw [List.length_map] at hk
          walk_at "rd"
          refine ⟨v, w, z, P', hd, qs, 40 * i + k, rfl, hwM.keep kk ehM, W, bq z (List.mem_of_getElem? hz), kk _ _ nP eP, nP, hk', by omega, fun H3' k3' hd3 => ?_⟩
          walk_at "rd"
          exact ⟨_, _, _, rfl, Keep.trans kk k3', hd3⟩
        · obtain ⟨z8, z9, z10, rfl, kk, hk'⟩ := hP
          rw [List.length_map] at hk'
          exact ⟨_, _, _, _, _, _, _, _, _, rfl, Keep.trans (Keep.same k0 sM) kk, hk'.mono (by omega)⟩
    · obtain ⟨y2, y3, y4, y5, y6, y7, y8, y9, y10, rfl, k0, held⟩ := hP
      obtain ⟨hs, xs, eh, lh, ah⟩ := held
      walk_at "rd"
      refine d_iLe (SqL.of eh) ?_
      intro D fD
      refine lc_list (K := K) (a := hd) (xs := hs) (fun k H3 => H3 D = some (.lst []) ∧ Same H' H3) ⟨upd_same, same_new fD⟩ (fun k H3 _ hP => SqL.of (hP.2 _ _ eh)) (fun k x H3 hx hP => ?_) (fun H3 hP => ?_)
      · obtain ⟨e3, s3⟩ := hP
        obtain ⟨d, hd1, hd2⟩ := dpa_at k ah hx
        rw [List.getElem?_map] at hd1
        obtain ⟨y, _, rfl⟩ := Option.map_eq_some_iff.mp hd1
        have hd3 := dp_same (Same.trans (del_same _ _) s3) _ _ hd2
        walk_at "rd"
        cases hd3 with
        | lst hs1 ha1 =>
          cases ha1 with
          | cons u1 r1 =>
            cases r1 with
            | cons u2 r2 =>
              cases r2
              refine d_ixL hs1 rfl ?_
              walk_at "rd"
              refine d_ixL hs1 rfl ?_
              refine ⟨_, _, u1, u2, shaped_ints _, shaped_ints _, ?_⟩
              rw [eqv_ints]
              walk_at "rd"
              exact ⟨e3, s3⟩
      obtain ⟨e3, s3⟩ := hP
      walk_at "rd"
      refine ⟨sz (by decide), fun p4 f4 => ?_⟩
      have s4 := same_new (o := .lst []) f4
      refine ⟨.list [], .list [], .lst (SqL.of (s4 _ _ e3)) .nil, .lst (SqL.of upd_same) .nil, by decide, by decide, ?_⟩
      rw [show PyData.eqv (.list []) (.list []) = true by decide]
      exact q _

end
theorem all_mk {l : PySem.W.OpenLaw} {w : World} {K : PySem.W.Frag} {h : Heap} {mg : Str → Option Value} {fa f_1 f_2 f_3 f_5 f_6 f_7 f_8 f_9 f_10 f_11 f_12 f_13 f_14 : Addr} (X : K.In h) (G : h.Ns mainGlobals mg) (hfa : mg "law" = some (.ref fa))
    {od1 an1 od2 an2 od3 an3 od5 an5 od6 an6 od7 an7 od8 an8 od9 an9 od10 an10 od11 an11 od12 an12 od13 an13 od14 an14 : Option Addr} {sl1 sl2 sl3 sl5 sl6 sl7 sl8 sl9 sl10 sl11 sl12 sl13 sl14 : Array (Option Value)} {oc1 kV1 dc1 pm1 cd1 ct1 oc2 kV2 dc2 pm2 cd2 ct2 oc3 kV3 dc3 pm3 cd3 ct3 oc5 kV5 dc5 pm5 cd5 ct5 oc6 kV6 dc6 pm6 cd6 ct6 oc7 kV7 dc7 pm7 cd7 ct7 oc8 kV8 dc8 pm8 cd8 ct8 oc9 kV9 dc9 pm9 cd9 ct9 oc10 kV10 dc10 pm10 cd10 ct10 oc11 kV11 dc11 pm11 cd11 ct11 oc12 kV12 dc12 pm12 cd12 ct12 oc13 kV13 dc13 pm13 cd13 ct13 oc14 kV14 dc14 pm14 cd14 ct14 : Value}
    (a1 : PySem.W.nsIn K mainGlobals "tie_of" = some (some (.ref f_1))) (l1 : K.lookup f_1 = some ⟨oc1, od1, .func (PySem.W.fnOf "tie_of" "tie_of" (defArgs s_tie_of) (defBody s_tie_of) (defScope s_tie_of) .none kV1 dc1 pm1 an1 cd1 ct1), sl1⟩) (c1 : PySem.W.codeIn K cd1 "tie_of" = true) (k1 : PySem.W.keepIn K (.ref f_1) = true)
    (a2 : PySem.W.nsIn K mainGlobals "neighbours" = some (some (.ref f_2))) (l2 : K.lookup f_2 = some ⟨oc2, od2, .func (PySem.W.fnOf "neighbours" "neighbours" (defArgs s_neighbours) (defBody s_neighbours) (defScope s_neighbours) .none kV2 dc2 pm2 an2 cd2 ct2), sl2⟩) (c2 : PySem.W.codeIn K cd2 "neighbours" = true) (k2 : PySem.W.keepIn K (.ref f_2) = true)
    (a3 : PySem.W.nsIn K mainGlobals "all_neighbours" = some (some (.ref f_3))) (l3 : K.lookup f_3 = some ⟨oc3, od3, .func (PySem.W.fnOf "all_neighbours" "all_neighbours" (defArgs s_all_neighbours) (defBody s_all_neighbours) (defScope s_all_neighbours) .none kV3 dc3 pm3 an3 cd3 ct3), sl3⟩) (c3 : PySem.W.codeIn K cd3 "all_neighbours" = true) (k3 : PySem.W.keepIn K (.ref f_3) = true)
    (a5 : PySem.W.nsIn K mainGlobals "_law_hand" = some (some (.ref f_5))) (l5 : K.lookup f_5 = some ⟨oc5, od5, .func (PySem.W.fnOf "_law_hand" "_law_hand" (defArgs s_hand) (defBody s_hand) (defScope s_hand) .none kV5 dc5 pm5 an5 cd5 ct5), sl5⟩) (c5 : PySem.W.codeIn K cd5 "_law_hand" = true) (k5 : PySem.W.keepIn K (.ref f_5) = true)
    (a6 : PySem.W.nsIn K mainGlobals "_law_draw" = some (some (.ref f_6))) (l6 : K.lookup f_6 = some ⟨oc6, od6, .func (PySem.W.fnOf "_law_draw" "_law_draw" (defArgs s_draw) (defBody s_draw) (defScope s_draw) .none kV6 dc6 pm6 an6 cd6 ct6), sl6⟩) (c6 : PySem.W.codeIn K cd6 "_law_draw" = true) (k6 : PySem.W.keepIn K (.ref f_6) = true)
    (a7 : PySem.W.nsIn K mainGlobals "_law_cells" = some (some (.ref f_7))) (l7 : K.lookup f_7 = some ⟨oc7, od7, .func (PySem.W.fnOf "_law_cells" "_law_cells" (defArgs s_cells) (defBody s_cells) (defScope s_cells) .none kV7 dc7 pm7 an7 cd7 ct7), sl7⟩) (c7 : PySem.W.codeIn K cd7 "_law_cells" = true) (k7 : PySem.W.keepIn K (.ref f_7) = true)
    (a8 : PySem.W.nsIn K mainGlobals "_law_great" = some (some (.ref f_8))) (l8 : K.lookup f_8 = some ⟨oc8, od8, .func (PySem.W.fnOf "_law_great" "_law_great" (defArgs s_great) (defBody s_great) (defScope s_great) .none kV8 dc8 pm8 an8 cd8 ct8), sl8⟩) (c8 : PySem.W.codeIn K cd8 "_law_great" = true) (k8 : PySem.W.keepIn K (.ref f_8) = true)
    (a9 : PySem.W.nsIn K mainGlobals "_law_letters" = some (some (.ref f_9))) (l9 : K.lookup f_9 = some ⟨oc9, od9, .func (PySem.W.fnOf "_law_letters" "_law_letters" (defArgs s_letters) (defBody s_letters) (defScope s_letters) .none kV9 dc9 pm9 an9 cd9 ct9), sl9⟩) (c9 : PySem.W.codeIn K cd9 "_law_letters" = true) (k9 : PySem.W.keepIn K (.ref f_9) = true)
    (a10 : PySem.W.nsIn K mainGlobals "_law_web" = some (some (.ref f_10))) (l10 : K.lookup f_10 = some ⟨oc10, od10, .func (PySem.W.fnOf "_law_web" "_law_web" (defArgs s_web) (defBody s_web) (defScope s_web) .none kV10 dc10 pm10 an10 cd10 ct10), sl10⟩) (c10 : PySem.W.codeIn K cd10 "_law_web" = true) (k10 : PySem.W.keepIn K (.ref f_10) = true)
    (a11 : PySem.W.nsIn K mainGlobals "_law_size" = some (some (.ref f_11))) (l11 : K.lookup f_11 = some ⟨oc11, od11, .func (PySem.W.fnOf "_law_size" "_law_size" (defArgs s_size) (defBody s_size) (defScope s_size) .none kV11 dc11 pm11 an11 cd11 ct11), sl11⟩) (c11 : PySem.W.codeIn K cd11 "_law_size" = true) (k11 : PySem.W.keepIn K (.ref f_11) = true)
    (a12 : PySem.W.nsIn K mainGlobals "_law_tie" = some (some (.ref f_12))) (l12 : K.lookup f_12 = some ⟨oc12, od12, .func (PySem.W.fnOf "_law_tie" "_law_tie" (defArgs s_tie) (defBody s_tie) (defScope s_tie) .none kV12 dc12 pm12 an12 cd12 ct12), sl12⟩) (c12 : PySem.W.codeIn K cd12 "_law_tie" = true) (k12 : PySem.W.keepIn K (.ref f_12) = true)
    (a13 : PySem.W.nsIn K mainGlobals "_law_right" = some (some (.ref f_13))) (l13 : K.lookup f_13 = some ⟨oc13, od13, .func (PySem.W.fnOf "_law_right" "_law_right" (defArgs s_right) (defBody s_right) (defScope s_right) .none kV13 dc13 pm13 an13 cd13 ct13), sl13⟩) (c13 : PySem.W.codeIn K cd13 "_law_right" = true) (k13 : PySem.W.keepIn K (.ref f_13) = true)
    (a14 : PySem.W.nsIn K mainGlobals "law" = some (some (.ref f_14))) (l14 : K.lookup f_14 = some ⟨oc14, od14, .func (PySem.W.fnOf "law" "law" (defArgs s_law) (defBody s_law) (defScope s_law) .none kV14 dc14 pm14 an14 cd14 ct14), sl14⟩) (c14 : PySem.W.codeIn K cd14 "law" = true) (k14 : PySem.W.keepIn K (.ref f_14) = true)
    (z0 : PySem.W.nsIn K mainGlobals "bool" = some none)
    (z1 : PySem.W.nsIn K mainGlobals "enumerate" = some none)
    (z2 : PySem.W.nsIn K mainGlobals "int" = some none)
    (z3 : PySem.W.nsIn K mainGlobals "isinstance" = some none)
    (z4 : PySem.W.nsIn K mainGlobals "len" = some none)
    (z5 : PySem.W.nsIn K mainGlobals "list" = some none)
    (z6 : PySem.W.nsIn K mainGlobals "max" = some none)
    (z7 : PySem.W.nsIn K mainGlobals "min" = some none)
    (z8 : PySem.W.nsIn K mainGlobals "range" = some none)
    (z9 : PySem.W.nsIn K mainGlobals "sum" = some none)
    (z10 : PySem.W.nsIn K mainGlobals "tuple" = some none) :
    ∃ fd : FuncData, (∀ (s : Shared) (v : Value), BindsTo s fd ⟨[v], []⟩ [("script", v)]) ∧ ∀ base : Heap, K.In base → base.Ns mainGlobals mg → FnOk l.prog w K mg base CX0 4 fa fd ["script"] (spLaw K) := by
  have e := hfa.symm.trans (PySem.W.mg_of X G a14)
  cases e
  have F1 := fun_mk (st := s_tie_of) l1 c1 k1
  have b1 := F1.binds (ps := ["web", "one", "other"]) fun _ _ _ _ _ _ us hl => match us, hl with | [_, _, _], _ => rfl
  have F2 := fun_mk (st := s_neighbours) l2 c2 k2
  have b2 := F2.binds (ps := ["web", "place"]) fun _ _ _ _ _ _ us hl => match us, hl with | [_, _], _ => rfl
  have F3 := fun_mk (st := s_all_neighbours) l3 c3 k3
  have b3 := F3.binds (ps := ["web"]) fun _ _ _ _ _ _ us hl => match us, hl with | [_], _ => rfl
  have F5 := fun_mk (st := s_hand) l5 c5 k5
  have b5 := F5.binds (ps := ["cell", "k"]) fun _ _ _ _ _ _ us hl => match us, hl with | [_, _], _ => rfl
  have F6 := fun_mk (st := s_draw) l6 c6 k6
  have b6 := F6.binds (ps := ["hand", "limit"]) fun _ _ _ _ _ _ us hl => match us, hl with | [_, _], _ => rfl
  have F7 := fun_mk (st := s_cells) l7 c7 k7
  have b7 := F7.binds (ps := ["script", "many"]) fun _ _ _ _ _ _ us hl => match us, hl with | [_, _], _ => rfl
  have F8 := fun_mk (st := s_great) l8 c8 k8
  have b8 := F8.binds (ps := ["script"]) fun _ _ _ _ _ _ us hl => match us, hl with | [_], _ => rfl
  have F9 := fun_mk (st := s_letters) l9 c9 k9
  have b9 := F9.binds (ps := ["hand"]) fun _ _ _ _ _ _ us hl => match us, hl with | [_], _ => rfl
  have F10 := fun_mk (st := s_web) l10 c10 k10
  have b10 := F10.binds (ps := ["hand", "many"]) fun _ _ _ _ _ _ us hl => match us, hl with | [_, _], _ => rfl
  have F11 := fun_mk (st := s_size) l11 c11 k11
  have b11 := F11.binds (ps := ["hand", "great"]) fun _ _ _ _ _ _ us hl => match us, hl with | [_, _], _ => rfl
  have F12 := fun_mk (st := s_tie) l12 c12 k12
  have b12 := F12.binds (ps := ["web", "one", "other"]) fun _ _ _ _ _ _ us hl => match us, hl with | [_, _, _], _ => rfl
  have F13 := fun_mk (st := s_right) l13 c13 k13
  have b13 := F13.binds (ps := ["web", "place", "others", "held"]) fun _ _ _ _ _ _ us hl => match us, hl with | [_, _, _, _], _ => rfl
  have F14 := fun_mk (st := s_law) l14 c14 k14
  have b14 := F14.binds (ps := ["script"]) fun _ _ _ _ _ _ us hl => match us, hl with | [_], _ => rfl
  let T : Tx K mg := ⟨⟨_, _, F1, b1, PySem.W.mg_of X G a1⟩, ⟨_, _, F2, b2, PySem.W.mg_of X G a2⟩, ⟨_, _, F3, b3, PySem.W.mg_of X G a3⟩, ⟨_, _, F5, b5, PySem.W.mg_of X G a5⟩, ⟨_, _, F6, b6, PySem.W.mg_of X G a6⟩, ⟨_, _, F7, b7, PySem.W.mg_of X G a7⟩, ⟨_, _, F8, b8, PySem.W.mg_of X G a8⟩, ⟨_, _, F9, b9, PySem.W.mg_of X G a9⟩, ⟨_, _, F10, b10, PySem.W.mg_of X G a10⟩, ⟨_, _, F11, b11, PySem.W.mg_of X G a11⟩, ⟨_, _, F12, b12, PySem.W.mg_of X G a12⟩, ⟨_, _, F13, b13, PySem.W.mg_of X G a13⟩, ⟨_, _, F14, b14, PySem.W.mg_of X G a14⟩, PySem.W.mg_none_of X G z0, PySem.W.mg_none_of X G z1, PySem.W.mg_none_of X G z2, PySem.W.mg_none_of X G z3, PySem.W.mg_none_of X G z4, PySem.W.mg_none_of X G z5, PySem.W.mg_none_of X G z6, PySem.W.mg_none_of X G z7, PySem.W.mg_none_of X G z8, PySem.W.mg_none_of X G z9, PySem.W.mg_none_of X G z10⟩
  exact ⟨T.law.fd, fun s v => .of_eq rfl, fun base _ _ => ok_law T⟩
end Cw
open PySem PySem.W PyProof.Rows
set_option maxHeartbeats 0 in
theorem PySem.Challenge.cw_commonweb_k02_ties_and_neighbours_holds : PySem.Challenge.rw_commonweb_k02_ties_and_neighbours.Holds := by
  w_on; o_law; k_head; (case hw => w_witness2)
  k_fill
  refine L2.walk_of (l := PySem.Challenge.rw_commonweb_k02_ties_and_neighbours) (n := 63) (k := 4) (x := "script") (CX := fun _ => L2.CX0) (sp := fun w => Cw.spLaw _) rfl (by decide) rfl ⟨rfl, by decide, by decide⟩ (fun w h Y => PySem.W.kIn_of Y) ?F (fun _ _ a ns hl _ hS => ⟨a, ns, rfl, hS, hl, fun _ => rfl⟩) (fun _ _ _ _ _ h => h)
  case F =>
    intro w mg fa h KX G hmg
    refine' Cw.all_mk KX G hmg ?a1 ?l1 ?c1 ?k1 ?a2 ?l2 ?c2 ?k2 ?a3 ?l3 ?c3 ?k3 ?a5 ?l5 ?c5 ?k5 ?a6 ?l6 ?c6 ?k6 ?a7 ?l7 ?c7 ?k7 ?a8 ?l8 ?c8 ?k8 ?a9 ?l9 ?c9 ?k9 ?a10 ?l10 ?c10 ?k10 ?a11 ?l11 ?c11 ?k11 ?a12 ?l12 ?c12 ?k12 ?a13 ?l13 ?c13 ?k13 ?a14 ?l14 ?c14 ?k14 ?z0 ?z1 ?z2 ?z3 ?z4 ?z5 ?z6 ?z7 ?z8 ?z9 ?z10
    (case a1 => k_is); (case l1 => k_is); (case c1 => k_is); (case k1 => k_is); (case a2 => k_is); (case l2 => k_is); (case c2 => k_is); (case k2 => k_is); (case a3 => k_is); (case l3 => k_is); (case c3 => k_is); (case k3 => k_is); (case a5 => k_is); (case l5 => k_is); (case c5 => k_is); (case k5 => k_is); (case a6 => k_is); (case l6 => k_is); (case c6 => k_is); (case k6 => k_is); (case a7 => k_is); (case l7 => k_is); (case c7 => k_is); (case k7 => k_is); (case a8 => k_is); (case l8 => k_is); (case c8 => k_is); (case k8 => k_is); (case a9 => k_is); (case l9 => k_is); (case c9 => k_is); (case k9 => k_is); (case a10 => k_is); (case l10 => k_is); (case c10 => k_is); (case k10 => k_is); (case a11 => k_is); (case l11 => k_is); (case c11 => k_is); (case k11 => k_is); (case a12 => k_is); (case l12 => k_is); (case c12 => k_is); (case k12 => k_is); (case a13 => k_is); (case l13 => k_is); (case c13 => k_is); (case k13 => k_is); (case a14 => k_is); (case l14 => k_is); (case c14 => k_is); (case k14 => k_is); (case z0 => k_is); (case z1 => k_is); (case z2 => k_is); (case z3 => k_is); (case z4 => k_is); (case z5 => k_is); (case z6 => k_is); (case z7 => k_is); (case z8 => k_is); (case z9 => k_is); (case z10 => k_is)
