import PyProof.Rows.All
import Wide.All
import OpenK.AllK
import Wide.FinOn
import PySem.Challenge.RW_commonweb_k15_pairs_told
import HandS.ForMost
import HandS.Conv
import KE.KItemsList
import KE.KDictZip
import HandS.Deep
import HandS.Evl
import HandS.IsInst
import HandS.Zip
import HandS.Walk
import KE.KEqSeq
import KE.KEqDeep
import HandS.SortRule
import HandS.DictTup
import KE.KDictSum
import PyProof.Draws
import HandS.SetFor
import PyProof.P3Eq
import HandS.NoneIn
import HandS.TupAny
import HandS.Rev
import HandS.RevTup
import HandS.Replace
import HandS.Strs
import KE.KSetDisp
import HandS.Style
import HandS.AnyAll
import HandS.GenOver
import PyProof.ConsumeWalk
import HandS.EndTab
import PyProof.ReprRoads
set_option Elab.async false
set_option linter.all false
set_option maxRecDepth 100000
set_option maxHeartbeats 4000000
/-! list(enumerate(xs)) -/
namespace Cw
open PySem PySem.Spec PySem.Calls PyProof.Rows L2

theorem en_nolen : typeLookup (.type "enumerate") "__len__" = pure none := am_miss_of_fast (by decide +kernel)
theorem en_nohint : typeLookup (.type "enumerate") "__length_hint__" = pure none := am_miss_of_fast (by decide +kernel)

/-- how the iterator stands ahead of turn i -/
def EnSt (h : Heap) (e it l S : Addr) (items : Array Value) (i : Nat) : Prop :=
  h.IsListIter it l i ∧ h.IsList l items ∧ ((∃ old, IsEnum h e it i old) ∨ ∃ old T f oT, IsEnumHeld h e it i old T f ∧ h.get? T = some oT ∧ T ≠ e ∧ T ≠ it ∧ T ≠ S)

theorem EnSt.keep {h h' : Heap} {e it l S : Addr} {items : Array Value} {i : Nat} (x : EnSt h e it l S items i) (hk : ∀ b o, b ≠ S → h.get? b = some o → h'.get? b = some o) (h1 : e ≠ S) (h2 : it ≠ S) (h3 : l ≠ S) : EnSt h' e it l S items i := by
  obtain ⟨a, b, c⟩ := x
  refine ⟨a.at fun o q => hk it o h2 q, b.at fun o q => hk l o h3 q, ?_⟩
  rcases c with ⟨old, c⟩ | ⟨old, T, f, oT, c, hT, r1, r2, r3⟩
  · exact .inl ⟨old, hk _ _ h1 c⟩
  · exact .inr ⟨old, T, f, oT, hk _ _ h1 c, hk _ _ r3 hT, r1, r2, r3⟩

section
variable {prog : Program} {w : World} {A : Around} {E : Value → Shared → Prop} {s : Shared} {e it l S : Addr} {items : Array Value}

theorem en_item {i : Nat} {x : Value} {Q : Option Value → Shared → Prop} (st : EnSt s.heap e it l S items i) (hei : e ≠ it) (hle : l ≠ e) (hli : l ≠ it) (hS : S < s.heap.objs.size) (hx : items[i]? = some x)
    (hQ : ∀ h' t, EnSt h' e it l S items (i + 1) → h'.get? s.heap.objs.size = some { cls := .type "tuple", data := .seq #[.int i t, x] } → h'.objs.size = s.heap.objs.size + 1 →
      (∀ b o, b ≠ e → b ≠ it → s.heap.get? b = some o → h'.get? b = some o) → ∀ tk, Q (some (.ref s.heap.objs.size)) { s with heap := h', toks := tk }) : wpAny (model prog w) A (pyNext (.ref e)) Q E s := by
  obtain ⟨a, b, c⟩ := st
  have ec : ((i + 1 : Nat) : Int) = (i : Int) + 1 := by omega
  have nit : s.heap.objs.size ≠ it := let ⟨_, q, _⟩ := a; Nat.ne_of_gt (Heap.lt_size q)
  rcases c with ⟨old, c⟩ | ⟨old, T, f, oT, c, hT, r1, r2, r3⟩
  · refine wpAny_pyNext_enum_item c a b hx hei fun h' ho hit' hT hsz hk => hQ h' _ ⟨hit', b.at fun o q => hk l o hle hli q, .inr ⟨_, s.heap.objs.size, false, _, (by rw [ec]; exact ho), hT, Nat.ne_of_gt (Heap.lt_size c), nit, Nat.ne_of_gt hS⟩⟩ hT hsz hk _
  · refine wpAny_pyNext_enum_item_held c hT r1 r2 a b hx hei fun h' ho hit' hT' hsz hk => hQ h' _ ⟨hit', b.at fun o q => hk l o hle hli q, .inr ⟨old, T, true, oT, (by rw [ec]; exact ho), hk _ _ r1 r2 hT, r1, r2, r3⟩⟩ hT' hsz hk _

theorem en_done {i : Nat} {Q : Option Value → Shared → Prop} (hh : A.handled = none) (st : EnSt s.heap e it l S items i) (hx : items[i]? = none)
    (hQ : ∀ h', Heap.ExtBut it s.heap h' → Q none { s with heap := h' }) : wpAny (model prog w) A (pyNext (.ref e)) Q E s := by
  obtain ⟨a, b, c⟩ := st
  rcases c with ⟨old, c⟩ | ⟨old, T, f, oT, c, hT, r1, r2, r3⟩
  · exact wpAny_pyNext_enum_end hh c a b hx hQ
  · exact wpAny_pyNext_enum_end_held hh c a b hx hQ

/-- the tuples made so far -/
structure EnG (items : Array Value) (lo : Addr) (h : Heap) (as : List Addr) : Prop where
  rise : as.Pairwise (· < ·)
  above : ∀ a ∈ as, lo < a
  pairs : ∀ (j : Nat) (a : Addr), as[j]? = some a → ∃ t x, items[j]? = some x ∧ h.get? a = some { cls := .type "tuple", data := .seq #[.int j t, x] }
theorem EnG.there {lo : Addr} {h : Heap} {as : List Addr} (g : EnG items lo h as) {a : Addr} (ha : a ∈ as) : a < h.objs.size := by
  obtain ⟨j, hj⟩ := List.mem_iff_getElem?.mp ha
  obtain ⟨_, _, _, z⟩ := g.pairs j a hj
  exact Heap.lt_size z

theorem en_loop {R : Result → Shared → Prop} (hh : A.handled = none) (hei : e ≠ it) (hle : l ≠ e) (hli : l ≠ it) (heS : e < S) (hiS : it < S) (hlS : l < S) (hn : items.size ≤ sizeLine) (res : Value) {h₁ : Heap}
    (hR : ∀ h' tk acc c as, (∀ b o, b ≠ S → b ≠ e → b ≠ it → h₁.get? b = some o → h'.get? b = some o) → h'.get? S = some { cls := .type "list", dict := none, data := .seq acc c, slots := #[] } → as.length = items.size → EnG items S h' as →
      acc.toList = as.map Value.ref → R (.ok (.ret res)) { s with heap := h', toks := tk }) :
    ∀ (k i : Nat) (h : Heap) (tk c : Nat) (acc : Array Value) (as : List Addr), items.size - i = k → i ≤ items.size → EnSt h e it l S items i → (∀ b o, b ≠ S → b ≠ e → b ≠ it → h₁.get? b = some o → h.get? b = some o) →
      h.get? S = some { cls := .type "list", dict := none, data := .seq acc c, slots := #[] } → acc.toList = as.map Value.ref → as.length = i → EnG items S h as →
      codeAny (model prog w) A (.builtin "list.extend.loop" ⟨[.ref S, .ref e, res], []⟩) R { s with heap := h, toks := tk } := by
  have neS : e ≠ S := Nat.ne_of_lt heS
  have niS : it ≠ S := Nat.ne_of_lt hiS
  have nlS : l ≠ S := Nat.ne_of_lt hlS
  intro k
  induction k with
  | zero =>
    intro i h tk c acc as hk hi hst hkeep hS hacc hal hG
    refine codeAny_builtin (prog := prog) (w := w) PySem.F.entry_extend_loop ?_
    rw [Around.under_plainId (A := A) PySem.F.plain_extend_loop _]
    show wpAny _ A.in1 (pyNext (.ref e) >>= _) _ _ _
    refine wpAny_bind (en_done (s := { s with heap := h, toks := tk }) (A := A.in1) hh hst (Array.getElem?_eq_none (by omega)) fun h' he => ?_)
    refine wpAny_pure (hR h' tk acc c as (fun b o h1 h2 h3 q => he b o h3 (hkeep b o h1 h2 h3 q)) (he S _ niS.symm hS) (by omega) ⟨hG.rise, hG.above, fun j a hj => ?_⟩ hacc)
    obtain ⟨t, x, z1, z2⟩ := hG.pairs j a hj
    exact ⟨t, x, z1, he a _ (Nat.ne_of_gt (Nat.lt_trans hiS (hG.above a (List.mem_of_getElem? hj)))) z2⟩
  | succ k ih =>
    intro i h tk c acc as hk hi hst hkeep hS hacc hal hG
    have hlt : i < items.size := by omega
    have hx : items[i]? = some items[i] := Array.getElem?_eq_getElem hlt
    have hsz : acc.size = i := by rw [← Array.length_toList, hacc, List.length_map, hal]
    refine codeAny_builtin (prog := prog) (w := w) PySem.F.entry_extend_loop ?_
    rw [Around.under_plainId (A := A) PySem.F.plain_extend_loop _]
    show wpAny _ A.in1 (pyNext (.ref e) >>= _) _ _ _
    refine wpAny_bind (en_item (s := { s with heap := h, toks := tk }) (S := S) hst hei hle hli (Heap.lt_size hS) hx fun h' t hst' ht hz hkp tk' => ?_)
    dsimp only at ht hz hkp ⊢
    have hS' := hkp S _ neS.symm niS.symm hS
    have up : ∀ b o, b ≠ S → h'.get? b = some o → (h'.update S (Obj.mapSeq (·.push (Value.ref h.objs.size)))).get? b = some o := fun b o hb q => (Heap.get?_update_other _ _ (Ne.symm hb)).trans q
    have hSl : S < h.objs.size := Heap.lt_size hS
    show wpAny _ A.in1 (updateSeq S (·.push (Value.ref h.objs.size)) >>= _) _ _ _
    refine wpAny_bind (wpAny_updateSeq hS' rfl (wpAny_pure ⟨plainId_quiet PySem.F.plain_extend_loop _, ih (i + 1) _ tk' _ (acc.push (Value.ref h.objs.size)) (as ++ [h.objs.size]) (by omega) hlt (hst'.keep up neS niS nlS)
      (fun b o h1 h2 h3 q => up b o h1 (hkp b o h2 h3 (hkeep b o h1 h2 h3 q))) (Heap.get?_update_self _ hS' rfl) (by rw [Array.toList_push, hacc, List.map_append]; rfl) (by rw [List.length_append, hal]; rfl) ⟨?_, ?_, ?_⟩⟩) (by rw [hsz]; omega) (by show (acc.push (Value.ref h.objs.size)).size ≤ sizeLine + 1; rw [Array.size_push, hsz]; omega))
    · refine List.pairwise_append.mpr ⟨hG.rise, List.pairwise_singleton _ _, fun a ha b hb => ?_⟩
      rw [List.mem_singleton.mp hb]; exact hG.there ha
    · intro a ha
      rcases List.mem_append.mp ha with ha | ha
      · exact hG.above a ha
      · rw [List.mem_singleton.mp ha]; exact hSl
    · intro j b hj
      rcases Nat.lt_trichotomy j as.length with h1 | h1 | h1
      · rw [List.getElem?_append_left h1] at hj
        obtain ⟨t', x', z1, z2⟩ := hG.pairs j b hj
        have hb := hG.above b (List.mem_of_getElem? hj)
        exact ⟨t', x', z1, up b _ (Nat.ne_of_gt hb) (hkp b _ (Nat.ne_of_gt (Nat.lt_trans heS hb)) (Nat.ne_of_gt (Nat.lt_trans hiS hb)) z2)⟩
      · subst h1
        have hb : h.objs.size = b := by simpa using hj
        subst hb
        exact ⟨t, _, by rw [hal]; exact hx, by rw [hal]; exact up _ _ (Nat.ne_of_gt hSl) ht⟩
      · have hnone : (as ++ [h.objs.size])[j]? = none := List.getElem?_eq_none (by rw [List.length_append, List.length_singleton]; omega)
        rw [hnone] at hj; cases hj

theorem en_hint (hT : s.TypeIs (.ref e) "enumerate") {Q : Bool → Shared → Prop} (h : Q true s) : wpAny (model prog w) A (Builtin.List.listLengthHint (.ref e)) Q E s := by
  unfold Builtin.List.listLengthHint
  refine wpAny_bind (wpAny_specialOf hT en_nolen ?_)
  show wpAny _ _ (specialOf (Value.ref e) (Str.ofString "__length_hint__") >>= _) _ _ _
  refine wpAny_bind (wpAny_specialOf hT en_nohint ?_)
  exact wpAny_pure h

theorem en_extend {R : Result → Shared → Prop} (hh : A.handled = none) (he : IsEnum s.heap e it 0 .none) (hit : s.heap.IsListIter it l 0) (hl : s.heap.IsList l items) (hei : e ≠ it) (hle : l ≠ e) (hli : l ≠ it) (heS : e < S) (hiS : it < S) (hlS : l < S) (res : Value) (c₀ : Nat) (hS : s.heap.get? S = some { cls := .type "list", data := .seq #[] c₀ })
    (hR : ∀ h' tk acc c as, (∀ b o, b ≠ S → b ≠ e → b ≠ it → s.heap.get? b = some o → h'.get? b = some o) → h'.get? S = some { cls := .type "list", dict := none, data := .seq acc c, slots := #[] } → as.length = items.size → EnG items S h' as →
      acc.toList = as.map Value.ref → R (.ok (.ret res)) { s with heap := h', toks := tk }) (hn : items.size ≤ sizeLine) :
    wpAny (model prog w) A.in1 (Builtin.List.listExtendWith (.ref S) (.ref e) res)
      (fun fin s' => match fin with | .done f => R (.ok f) s' | .again c' => c'.quiet = true ∧ codeAny (model prog w) A c' R s') (fun e s' => R (.error e) s') s := by
  have hSr : S ≠ e := Nat.ne_of_gt heS
  have hTy : s.TypeIs (.ref e) "enumerate" := ⟨_, he, rfl⟩
  have key : ∀ (h : Heap) (c₁ tk : Nat), (∀ b o, b ≠ S → s.heap.get? b = some o → h.get? b = some o) → h.get? S = some { cls := .type "list", data := .seq #[] c₁ } → codeAny (model prog w) A (.builtin "list.extend.loop" ⟨[.ref S, .ref e, res], []⟩) R { s with heap := h, toks := tk } := by
    intro h c₁ tk hk hS₁
    refine en_loop (s := s) (h₁ := s.heap) hh hei hle hli heS hiS hlS hn res hR items.size 0 h tk c₁ #[] [] (Nat.sub_zero _) (Nat.zero_le _) ⟨hit.at fun o q => hk it o (Nat.ne_of_lt hiS) q, hl.at fun o q => hk l o (Nat.ne_of_lt hlS) q, .inl ⟨_, hk _ _ (Nat.ne_of_lt heS) he⟩⟩
      (fun b o h1 _ _ q => hk b o h1 q) hS₁ rfl rfl ⟨List.Pairwise.nil, (fun _ ha => nomatch ha), (fun j a hj => by simp at hj)⟩
  unfold Builtin.List.listExtendWith
  refine wpAny_bind (wpAny_typeOf (T := "enumerate") hTy ?_)
  have h1 : Builtin.List.listSameRef (.ref S) (.ref e) = false := by simp [Builtin.List.listSameRef, hSr]
  have h2 : (Value.type "enumerate" == Value.type "list") = false := by decide
  have h3 : (Value.type "enumerate" == Value.type "tuple") = false := by decide
  simp only [h1, h2, h3, Bool.or_false, Bool.false_eq_true, if_false]
  refine wpAny_bind (wpAny_pyIter_enum he ?_)
  refine wpAny_bind (wpAny_holding (en_hint hTy ?_))
  refine wpAny_ite_split (fun _ => ?_) (fun _ => wpAny_pure ⟨plainId_quiet PySem.F.plain_extend_loop _, key _ c₀ _ (fun b o _ q => q) hS⟩)
  refine wpAny_bind (wpAny_rule (wpAny_bind ?_))
  · show wpAny _ _ (updateSeq S (·.push .none) >>= fun _ => updateSeq S (·.pop)) _ _ _
    refine wpAny_bind (wpAny_updateSeq hS rfl ?_)
    have hS₂ := Heap.get?_update_self (Obj.mapSeq (·.push Value.none)) hS rfl
    refine wpAny_updateSeq (hz := by seq_fits) hS₂ rfl ?_
    have hS₃ := Heap.get?_update_self (Obj.mapSeq (·.pop)) hS₂ rfl
    refine wpAny_pure ⟨plainId_quiet PySem.F.plain_extend_loop _, key _ _ _ (fun b o hb q => ?_) hS₃⟩
    exact (Heap.get?_update_other _ _ (Ne.symm hb)).trans ((Heap.get?_update_other _ _ (Ne.symm hb)).trans q)

theorem EnG.low {lo lo' : Addr} {h : Heap} {as : List Addr} (g : EnG items lo h as) (hl : lo' ≤ lo) : EnG items lo' h as := ⟨g.rise, fun a ha => Nat.lt_of_le_of_lt hl (g.above a ha), g.pairs⟩

/-- list(e), e an enumerate that nobody has asked yet -/
theorem en_call {Q : Value → Shared → Prop} (hh : A.handled = none) (he : IsEnum s.heap e it 0 .none) (hit : s.heap.IsListIter it l 0) (hl : s.heap.IsList l items) (hei : e ≠ it) (hle : l ≠ e) (hli : l ≠ it) (hn : items.size ≤ sizeLine)
    (hQ : ∀ h' tk acc c as, (∀ b o, b ≠ e → b ≠ it → s.heap.get? b = some o → h'.get? b = some o) → h'.get? s.heap.objs.size = some { cls := .type "list", dict := none, data := .seq acc c, slots := #[] } → as.length = items.size → EnG items s.heap.objs.size h' as →
      acc.toList = as.map Value.ref → Q (.ref s.heap.objs.size) { s with heap := h', toks := tk }) : wpAny (model prog w) A (call (.type "list") [.ref e]) Q E s := by
  refine callType_codes (Q₁ := fun obj s₁ => obj = .ref s.heap.objs.size ∧ s₁ = { s with heap := s.heap.push { cls := .type "list", data := .seq #[] } }) PySem.F.called_list (PySem.F.typeCall_list_1 _) PySem.F.entry_list_init (code_list_new _ ⟨rfl, rfl⟩) fun obj s₁ h₁ => ?_
  obtain ⟨rfl, rfl⟩ := h₁
  have hS : (s.heap.push { cls := .type "list", data := .seq #[] }).get? s.heap.objs.size = some { cls := .type "list", data := .seq #[] } := Heap.get?_push_size _ rfl
  have k1 : ∀ b o, s.heap.get? b = some o → (s.heap.push { cls := .type "list", data := .seq #[] }).get? b = some o := fun b o q => Heap.get?_push_of_some _ q
  have heS : e < s.heap.objs.size := Heap.lt_size he
  have hiS : it < s.heap.objs.size := by obtain ⟨_, q, _⟩ := hit; exact Heap.lt_size q
  have hlS : l < s.heap.objs.size := by obtain ⟨_, q, _⟩ := hl; exact Heap.lt_size q
  refine ⟨⟨_, hS, rfl⟩, PySem.F.args_list_init_2 _ _, ?_⟩
  show wpAny _ _ (do let old ← Builtin.List.listItems (.ref s.heap.objs.size); Builtin.List.listUpdate (.ref s.heap.objs.size) (fun _ => #[]); letGo old.toList.reverse; Builtin.List.listExtendWith (.ref s.heap.objs.size) (.ref e) .none) _ _ _
  refine wpAny_bind ?_; unfold Builtin.List.listItems; refine wpAny_bind (wpAny_seqItems hS rfl (wpAny_pure ?_))
  show wpAny _ _ (updateSeq s.heap.objs.size (fun _ => #[]) >>= fun _ => letGo (#[] : Array Value).toList.reverse >>= fun _ => Builtin.List.listExtendWith (.ref s.heap.objs.size) (.ref e) .none) _ _ _
  refine wpAny_bind (wpAny_updateSeq hS rfl (wpAny_bind (wpAny_letGo ?_)))
  have hS₂ := Heap.get?_update_self (Obj.mapSeq (fun _ => (#[] : Array Value))) hS rfl
  have k2 : ∀ b o, b ≠ s.heap.objs.size → s.heap.get? b = some o → ((s.heap.push { cls := .type "list", data := .seq #[] }).update s.heap.objs.size (Obj.mapSeq (fun _ => (#[] : Array Value)))).get? b = some o := fun b o hb q => (Heap.get?_update_other _ _ (Ne.symm hb)).trans (k1 b o q)
  refine en_extend (A := A.in1) (s := { s with heap := (s.heap.push { cls := .type "list", data := .seq #[] }).update s.heap.objs.size (Obj.mapSeq (fun _ => (#[] : Array Value))) }) hh (k2 _ _ (Nat.ne_of_lt heS) he) (hit.at fun o q => k2 it o (Nat.ne_of_lt hiS) q) (hl.at fun o q => k2 l o (Nat.ne_of_lt hlS) q) hei hle hli heS hiS hlS .none _ hS₂ (fun h' tk acc c as hk hS' hl' hG hacc => ?_) hn
  exact ⟨rfl, hQ h' tk acc c as (fun b o h1 h2 q => hk b o (Nat.ne_of_lt (Heap.lt_size q)) h1 h2 (k2 b o (Nat.ne_of_lt (Heap.lt_size q)) q)) hS' hl' hG hacc⟩
end

/-- the tuples tracked at their addresses -/
def putE : Hp → List Addr → List V → Nat → Hp
  | H, a :: as, x :: xs, j => putE (upd H a (.tup [.int j, x])) as xs (j + 1)
  | H, _, _, _ => H
theorem putE_off {b : Addr} : ∀ (as : List Addr) (xs : List V) (j : Nat) (H : Hp), b ∉ as → putE H as xs j b = H b
  | [], _, _, _, _ => rfl
  | _ :: _, [], _, _, _ => rfl
  | a :: as, x :: xs, j, H, h => by
    show putE (upd H a (.tup [.int j, x])) as xs (j + 1) b = H b
    rw [putE_off as xs _ _ (fun z => h (List.mem_cons_of_mem _ z)), upd_ne (fun z => h (by rw [z]; exact List.mem_cons_self))]
theorem putE_at : ∀ (as : List Addr) (xs : List V) (j : Nat) (H : Hp), as.Nodup → ∀ i t x, as[i]? = some t → xs[i]? = some x → putE H as xs j t = some (.tup [.int ((j + i : Nat) : Int), x])
  | [], _, _, _, _, _, _, _, h, _ => by simp at h
  | _ :: _, [], _, _, _, _, _, _, _, h => by simp at h
  | a :: as, y :: xs, j, H, hn, 0, t, x, h1, h2 => by
    have e1 : a = t := Option.some.inj h1
    have e2 : y = x := Option.some.inj h2
    subst e1; subst e2
    show putE (upd H a (.tup [.int j, y])) as xs (j + 1) a = _
    rw [putE_off as xs _ _ (List.nodup_cons.mp hn).1, upd_same]; rfl
  | a :: as, y :: xs, j, H, hn, i + 1, t, x, h1, h2 => by
    have ih := putE_at as xs (j + 1) (upd H a (.tup [.int j, y])) (List.nodup_cons.mp hn).2 i t x h1 h2
    show putE (upd H a (.tup [.int j, y])) as xs (j + 1) t = _
    rw [ih, show j + 1 + i = j + (i + 1) by omega]
theorem refs_vals : ∀ as : List Addr, Vals (as.map V.ref) (as.map Value.ref)
  | [] => .nil
  | _ :: as => .cons rfl (refs_vals as)
def rLstEn (K : PySem.W.Frag) : List V → Hp → VK → Prop := fun vs H Q => ∃ (a : Addr) (xs : List V), vs = [.ref a] ∧ SqL K H a xs ∧
  ∀ (H' : Hp) (p : Addr) (ts : List Addr), Same H H' → H p = none → (∀ t ∈ ts, H t = none) → p ∉ ts → H' p = some (.lst (ts.map V.ref)) → ts.length = xs.length → (∀ j t x, ts[j]? = some t → xs[j]? = some x → H' t = some (.tup [.int (j : Nat), x])) → Q (.ref p) H'
def tLstEn (K : PySem.W.Frag) (ta : TA) : TE := fun σ H Q => ta σ H fun vs H1 => rLstEn K vs H1 Q
section
variable {X : Cx} {e : Expr} {ta : TA} {p1 p2 pos pos2 : Pos}
theorem enum_laid {pins : List (Addr × Obj)} {σ : L2.St} {H : Hp} {s : Shared} {h' : Heap} {tk S : Nat} {xs : List V} {its : List Value} {acc : Array Value} {c : Nat} {as : List Addr} (I : Inv X pins σ H s) (hz : xs.length ≤ sizeLine) (rv : Vals xs its)
    (hk : ∀ b o, s.heap.get? b = some o → h'.get? b = some o) (hS0 : s.heap.objs.size ≤ S) (hS : h'.get? S = some { cls := .type "list", dict := none, data := .seq acc c, slots := #[] }) (hl : as.length = its.toArray.size) (hG : EnG its.toArray S h' as) (hacc : acc.toList = as.map Value.ref) :
    ∃ H' : Hp, Same H H' ∧ H S = none ∧ (∀ t ∈ as, H t = none) ∧ S ∉ as ∧ H' S = some (.lst (as.map V.ref)) ∧ (∀ j t x, as[j]? = some t → xs[j]? = some x → H' t = some (.tup [.int (j : Nat), x])) ∧ Inv X pins σ H' { s with heap := h', toks := tk } := by
  have lk : xs.length = its.length := Vals.length rv
  have hl' : as.length = xs.length := by rw [hl, List.size_toArray, lk]
  have hSn : S ∉ as := fun z => Nat.lt_irrefl _ (hG.above _ z)
  have nd : as.Nodup := List.Pairwise.imp (fun {a b} (h : a < b) => Nat.ne_of_lt h) hG.rise
  have new : ∀ t ∈ as, H t = none := fun t ht => I.hok.fresh (Nat.le_trans hS0 (Nat.le_of_lt (hG.above t ht)))
  have newS : H S = none := I.hok.fresh hS0
  have off : ∀ b, b ∉ as → b ≠ S → putE (upd H S (.lst (as.map V.ref))) as xs 0 b = H b := fun b h1 h2 => by rw [putE_off as xs _ _ h1, upd_ne h2]
  have low : ∀ b o, s.heap.get? b = some o → b ∉ as ∧ b ≠ S := fun b o q => ⟨fun z => absurd (Heap.lt_size q) (Nat.not_lt.mpr (Nat.le_trans hS0 (Nat.le_of_lt (hG.above b z)))), Nat.ne_of_lt (Nat.lt_of_lt_of_le (Heap.lt_size q) hS0)⟩
  have kp : Same H (putE (upd H S (.lst (as.map V.ref))) as xs 0) := fun b u q => by
    rw [off b (fun z => by rw [new b z] at q; cases q) (fun z => by rw [z, newS] at q; cases q)]
    exact q
  have eS : putE (upd H S (.lst (as.map V.ref))) as xs 0 S = some (.lst (as.map V.ref)) := by rw [putE_off as xs _ _ hSn, upd_same]
  have atP : ∀ j t x, as[j]? = some t → xs[j]? = some x → putE (upd H S (.lst (as.map V.ref))) as xs 0 t = some (.tup [.int (j : Nat), x]) := fun j t x h1 h2 => by
    rw [putE_at as xs 0 _ nd j t x h1 h2, Nat.zero_add]
  refine ⟨_, kp, newS, new, hSn, eS, atP, ?_⟩
  refine I.call' (ch := []) rfl ⟨fun b o q _ _ _ => hk b o q, fun b o q _ _ _ => ⟨o.slots, hk b o q⟩, fun b o q n _ => (off b (low b o q).1 (low b o q).2).trans n, fun b o q _ => ⟨o, hk b o q⟩, fun b xs q => kp b _ q, fun b o u q => kp b _ q, fun b ps q => ⟨#[], by rw [kp b _ q]; simp⟩⟩ (fun b u q => ?_) I.bare fun b z => by simp at z
  by_cases hb : b ∈ as
  · obtain ⟨j, e1⟩ := List.mem_iff_getElem?.mp hb
    have hj : j < xs.length := by
      have := (List.getElem?_eq_some_iff.mp e1).1
      omega
    have e2 : xs[j]? = some xs[j] := List.getElem?_eq_getElem hj
    rw [atP j b _ e1 e2] at q
    cases q
    obtain ⟨t, x, f1, f2⟩ := hG.pairs j b e1
    obtain ⟨u, g1, g2⟩ := rv.get e2
    have f1' : its[j]? = some x := by simpa using f1
    rw [g1] at f1'
    cases f1'
    exact ⟨by show 2 ≤ sizeLine; decide, [.int j t, x], .cons ⟨t, rfl⟩ (.cons g2 .nil), ⟨_, f2, rfl, _, rfl⟩⟩
  · by_cases hb2 : b = S
    · rw [hb2] at q ⊢
      rw [eS] at q
      cases q
      refine ⟨by rw [List.length_map]; omega, acc.toList, c, by rw [hacc]; exact refs_vals as, ?_⟩
      rw [Array.toArray_toList]; exact hS
    · rw [off b hb hb2] at q
      exact (I.hok b u q).stay (fun d v _ y => hk d v y) (fun d y => kp d _ y) fun d xs y => kp d _ y
/-- list(enumerate(e)) -/
theorem pe_listEnum (hc : X.calm = true) (hg : Gl X "list") (hm : X.mg "list" = none) (hg2 : Gl X "enumerate") (hm2 : X.mg "enumerate" = none) (ha : PA X [e] ta)
    (hs : starEach [.Call (.Name "enumerate" p2) [e] [] pos2] X.env = [(false, eval (.Call (.Name "enumerate" p2) [e] [] pos2) X.env)] := by rfl) (hs2 : starEach [e] X.env = [(false, eval e X.env)] := by rfl) :
    PE X (.Call (.Name "list" p1) [.Call (.Name "enumerate" p2) [e] [] pos2] [] pos) (tLstEn X.K ta) := by
  refine ⟨fun pins s σ H Q I hq => ?_⟩
  refine Call_ (ld_blt I hg hm boot_list (PyProof.Rows.callWith_type1 ?_ hs rfl))
  rw [hs]
  show wpAny _ _ (spliced ((false, eval (.Call (.Name "enumerate" p2) [e] [] pos2) X.env) :: backTo pos [])) _ _ s
  refine Calls.spliced_cons (Call_ (ld_blt I hg2 hm2 boot_enumerate (PyProof.Rows.callWith_type1 (thn (ha.run pos2 pins s σ H _ I hq) fun us s1 ⟨vs, H1, I1, r1, q1⟩ => ?_) hs2 rfl)))
  obtain ⟨a, xs, ex, hq, q⟩ := q1
  subst ex
  cases r1 with
  | cons r rr =>
    cases rr; cases r
    obtain ⟨its, rv, p', hz⟩ := I1.list hq
    have hl0 : a < s1.heap.objs.size := by obtain ⟨_, z, _⟩ := p'.isList; exact Heap.lt_size z
    refine call_enumerate_list p'.isList fun h' he hit hsz hk => ?_
    have I2 : Inv X pins σ H1 { s1 with heap := h' } := I1.kept (t' := s1.toks) hk
    refine Calls.spliced_nil ?_
    refine en_call (s := { s1 with heap := h' }) (I1.ok.hd hc) he hit (p'.isList.at fun o z => hk a o z) (Nat.succ_ne_self _) (Nat.ne_of_lt (Nat.lt_succ_of_lt hl0)) (Nat.ne_of_lt hl0) (by rw [List.size_toArray, ← rv.length]; exact hz) fun h'' tk acc c as hk2 hS hl hG hacc => ?_
    have hk3 : ∀ b o, s1.heap.get? b = some o → h''.get? b = some o := fun b o z => hk2 b o (Nat.ne_of_lt (Nat.lt_succ_of_lt (Heap.lt_size z))) (Nat.ne_of_lt (Heap.lt_size z)) (hk b o z)
    obtain ⟨H', k1, k2, k3, k4, k5, k6, J⟩ := enum_laid (tk := tk) I1 hz rv hk3 (by show s1.heap.objs.size ≤ h'.objs.size; omega) hS hl hG hacc
    exact ⟨.ref _, H', J, rfl, q H' _ as k1 k2 k3 k4 k5 (by rw [hl, List.size_toArray, rv.length]) k6⟩
end
end Cw

namespace Cw
open PySem PySem.Spec PyProof.Rows L2

/-! ### a def of the text, called by its name -/
structure Df (K : PySem.W.Frag) (mg : Str → Option Value) (x : Str) (st : Stmt) (ps : List Str) where
  f : Addr
  fd : FuncData
  F : Fun K x x st f fd
  b : Binds K fd ps []
  g : mg x = some (.ref f)

theorem units1 {k : Nat} {A : Around} (r : Room k A) : A.units + 65 < cLine := by have := r.un; omega
theorem blkOk_in {N : List Str} {sc scO scope : Scope} {own : List (Str × Nat)} {cl : List (Str × Addr)} {C : Addr} {env : Env} (he : env.scope = sc) (h : blkC N (relS scO sc) scope own = true) : BlkOk N (compEnvC scO cl C env).scope scope own := by
  subst he
  exact blkOk_by h
/-! ### heaps -/
/-- all but h is as it was -/
def Keep (h : Addr) (H H' : Hp) : Prop := ∀ b o, b ≠ h → H b = some o → H' b = some o
theorem Keep.refl (h : Addr) (H : Hp) : Keep h H H := fun _ _ _ e => e
theorem Keep.trans {h : Addr} {H H1 H2 : Hp} (a : Keep h H H1) (b : Keep h H1 H2) : Keep h H H2 := fun c o n e => b c o n (a c o n e)
theorem Keep.same {h : Addr} {H H1 H2 : Hp} (a : Keep h H H1) (b : Same H1 H2) : Keep h H H2 := fun c o n e => b c o (a c o n e)
theorem Same.keep {h : Addr} {H H1 : Hp} (a : Same H H1) : Keep h H H1 := fun c o _ e => a c o e
theorem Keep.put {h : Addr} {H : Hp} {o : HO} : Keep h H (upd H h o) := fun c u n e => by rw [upd_ne n]; exact e
/-- what was new ahead of it is not told -/
theorem Keep.out {h : Addr} {H0 H H1 : Hp} (s : Same H0 H) (k : Keep h H H1) (n : H0 h = none) : Same H0 H1 := fun c o e => k c o (ne_of_none e n) (s c o e)
theorem same_new {H : Hp} {p : Addr} {o : HO} (h : H p = none) : Same H (upd H p o) := fun b x e => by rw [upd_ne (ne_of_none e h)]; exact e
theorem same_upd {H H' : Hp} {p : Addr} {o : HO} (s : Same H H') (h : H p = none) : Same H (upd H' p o) := fun b x e => by rw [upd_ne (ne_of_none e h)]; exact s b x e
theorem Same.sqt {K : PySem.W.Frag} {H H' : Hp} {a : Addr} {xs : List V} (e : Same H H') (h : SqT K H a xs) : SqT K H' a xs := by
  rcases h with (h | ⟨o, h⟩) | h
  · exact .inl (.inl (e _ _ h))
  · exact .inl (.inr ⟨o, e _ _ h⟩)
  · exact .inr h
theorem at_upd {H : Hp} {a b : Addr} {o u : HO} (h : H a = some o) (n : H b = none) : upd H b u a = some o := by rw [upd_ne (ne_of_none h n)]; exact h

theorem Keep.new {h p : Addr} {H H' : Hp} {o : HO} (k : Keep h H H') (n : H p = none) : Keep h H (upd H' p o) := fun b u nb e => by rw [upd_ne (ne_of_none e n)]; exact k b u nb e
theorem Keep.free {h p : Addr} {H H' : Hp} (k : Keep h H H') (ne : p ≠ h) (n : H' p = none) : H p = none := by
  cases q : H p with
  | none => rfl
  | some o => rw [k p o ne q] at n; cases n
theorem Keep.self {h : Addr} {H H' : Hp} {o : HO} (k : Keep h H H') : Keep h H (upd H' h o) := fun b u nb e => by rw [upd_ne nb]; exact k b u nb e
theorem Keep.seqN {K : PySem.W.Frag} {H H' : Hp} {a h : Addr} {xs : List V} (k : Keep h H H') (n : H h = none) (q : SqL K H a xs) : SqL K H' a xs := by
  rcases q with (q | ⟨o, q⟩) | q
  · exact .inl (.inl (k _ _ (ne_of_none q n) q))
  · exact .inl (.inr ⟨o, k _ _ (ne_of_none q n) q⟩)
  · exact .inr q
/-- a tuple stands behind a store at a new place, at a list -/
theorem sqt_upd {K : PySem.W.Frag} {H : Hp} {a b : Addr} {xs : List V} {o : HO} (n : H b = none ∨ ∃ ys, H b = some (.lst ys)) (q : SqT K H a xs) : SqT K (upd H b o) a xs := by
  have ne : ∀ u, H a = some u → (∀ ys, u ≠ .lst ys) → a ≠ b := fun u e hu z => by
    subst z
    rcases n with n | ⟨ys, n⟩
    · rw [n] at e; cases e
    · rw [n] at e; exact hu ys (Option.some.inj e).symm
  rcases q with (q | ⟨o', q⟩) | q
  · exact .inl (.inl (by rw [upd_ne (ne _ q (by intro ys z; cases z))]; exact q))
  · exact .inl (.inr ⟨o', by rw [upd_ne (ne _ q (by intro ys z; cases z))]; exact q⟩)
  · exact .inr q
/-- x in (a, b, ..), data at any depth -/
def rInT (K : PySem.W.Frag) (neg : Bool) : R2 := fun x y H Q => ∃ d ds, Dp K H x d ∧ Dp K H y (.tuple ds) ∧ SeqAt.shaped d = true ∧ SeqAt.shaped (.tuple ds) = true ∧ Q (.bl (if neg then !(ds.any fun z => PyData.eqv z d) else ds.any fun z => PyData.eqv z d)) H
theorem op_inT {X : Cx} (hu : X.A.units + 65 < cLine) : OpR X (compareOp .In) (rInT X.K false) := by
  intro pins s σ H x y v u Q I rx ry h
  obtain ⟨d, ds, hd, he, sd, se, q⟩ := h
  obtain ⟨as, r1⟩ := Dp.reads I d x v hd rx
  obtain ⟨bs, r2⟩ := Dp.reads I (.tuple ds) y u he ry
  exact SeqAt.in_tuple_reads r2 r1 (SeqAt.canLay_of_shaped se) (SeqAt.canLay_of_shaped sd) (room_in_shaped sd hu) ⟨.bl _, H, I, rfl, q⟩
/-! ### readings, step by step -/
section
variable {K : PySem.W.Frag} {σ : L2.St} {H : Hp} {Q : VK} {QA : List V → Hp → Prop} {QT : Bool → Hp → Prop} {D : Ends} {ta tb tc te : TE} {tr t1 : TA} {tt tu : TT} {t u : TS} {r r' : R2} {v x y : V} {i j : Int} {n : Nat} {p : Addr} {xs : List V}
theorem d_var {i : Nat} (e : σ[i]? = some (some v)) (h : Q v H) : tVar i σ H Q := ⟨v, e, h⟩
theorem d_c (h : Q v H) : tC v σ H Q := h
theorem d_op (h : ta σ H fun x H1 => tb σ H1 fun y H2 => r x y H2 Q) : tOp r ta tb σ H Q := h
theorem d_un {r : V → Hp → VK → Prop} (h : ta σ H fun x H1 => r x H1 Q) : tUn r ta σ H Q := h
theorem d_cons (h : ta σ H fun x H1 => tr σ H1 fun xs H2 => QA (x :: xs) H2) : tCons ta tr σ H QA := h
theorem d_nil (h : QA [] H) : tNil σ H QA := h
theorem d_cb {r : List V → Hp → VK → Prop} (h : tr σ H fun vs H1 => r vs H1 Q) : tCB r tr σ H Q := h
theorem d_call {sp : Sp} {dvs : List V} {E : XK} (h : tr σ H fun vs H1 => sp (vs ++ dvs) H1 Q E) : tCall sp dvs E tr σ H Q := h
theorem d_tup (h : tr σ H fun xs H1 => xs.length ≤ sizeLine ∧ ∀ p, H1 p = none → Q (.ref p) (upd H1 p (.tup xs))) : tTup tr σ H Q := h
theorem d_lst (h : tr σ H fun xs H1 => xs.length ≤ sizeLine ∧ ∀ p, H1 p = none → Q (.ref p) (upd H1 p (.lst xs))) : tLst tr σ H Q := h
theorem d_rI {C : Int → Int → Prop} {g : Int → Int → V} (hc : C i j) (h : Q (g i j) H) : rI C g (.int i) (.int j) H Q := ⟨i, j, rfl, rfl, hc, h⟩
theorem d_rI0 {g : Int → Int → V} (h : Q (g i j) H) : rI0 g (.int i) (.int j) H Q := ⟨i, j, rfl, rfl, h⟩
theorem d_rU {g : Int → V} (h : Q (g i) H) : rU g (.int i) H Q := ⟨i, rfl, h⟩
theorem d_eqI (h : Q (.bl (decide (i = j))) H) : rEq (.int i) (.int j) H Q := ⟨rfl, by
  rw [show decide (V.int i = V.int j) = decide (i = j) by rw [Bool.eq_iff_iff]; simp]; exact h⟩
theorem d_neI (h : Q (.bl (!decide (i = j))) H) : rNe (.int i) (.int j) H Q := ⟨rfl, by
  rw [show decide (V.int i = V.int j) = decide (i = j) by rw [Bool.eq_iff_iff]; simp]; exact h⟩
theorem d_ixL (h : SqL K H p xs) (e : atI xs i = some v) (q : Q v H) : rIxL K (.ref p) (.int i) H Q := ⟨p, xs, i, v, rfl, rfl, h, e, q⟩
theorem d_ixLm (h : H p = some (.lst xs)) (e : atI xs i = some v) (q : Q v H) : rIxL K (.ref p) (.int i) H Q := ⟨p, xs, i, v, rfl, rfl, SqL.of h, e, q⟩
theorem d_ixT (h : SqT K H p xs) (e : atI xs i = some v) (q : Q v H) : rIxT K (.ref p) (.int i) H Q := ⟨p, xs, i, v, rfl, rfl, h, e, q⟩
theorem d_ixTm (h : H p = some (.tup xs)) (e : atI xs i = some v) (q : Q v H) : rIxT K (.ref p) (.int i) H Q := ⟨p, xs, i, v, rfl, rfl, SqT.of h, e, q⟩
theorem d_test (h : te σ H fun x H' => ∃ k, x = .bl k ∧ QT k H') : tTest te σ H QT := h
theorem d_tB (h : te σ H fun x H' => ∃ k, x = .bl k ∧ QT k H') : tB te σ H QT := h
theorem d_bl {b : Bool} {C : Bool → Prop} (h : C b) : ∃ k, V.bl b = .bl k ∧ C k := ⟨b, rfl, h⟩
theorem d_not (h : tt σ H fun c H1 => QT (!c) H1) : tNot tt σ H QT := h
theorem d_and (h : tt σ H fun c H1 => if c = true then tu σ H1 QT else QT false H1) : tAnd tt tu σ H QT := h
theorem d_or (h : tt σ H fun c H1 => if c = true then QT true H1 else tu σ H1 QT) : tOr tt tu σ H QT := h
theorem d_if (h : tt σ H fun c H1 => if c = true then ta σ H1 Q else tb σ H1 Q) : tIf tt ta tb σ H Q := h
theorem d_andV (h : ta σ H fun x H1 => ∃ c, x = .bl c ∧ if c = true then tb σ H1 Q else Q (.bl false) H1) : tAndV ta tb σ H Q := h
theorem d_sl {r : V → Option Int → Option Int → Hp → VK → Prop} {tl th : TO} (h : te σ H fun x H1 => tl σ H1 fun l H2 => th σ H2 fun u H3 => r x l u H3 Q) : tSl r te tl th σ H Q := h
theorem d_nop {QO : Option Int → Hp → Prop} (h : QO none H) : tNoPart σ H QO := h
theorem d_part {QO : Option Int → Hp → Prop} (h : te σ H fun x H1 => ∃ i, x = .int i ∧ QO (some i) H1) : tPart te σ H QO := h
theorem d_in {C : Int → Prop} (h : C i) : ∃ k, V.int i = .int k ∧ C k := ⟨i, rfl, h⟩
theorem d_bm {T : String} {r : V → List V → Hp → VK → Prop} (h : te σ H fun x H1 => tyV K T x H1 ∧ tr σ H1 fun xs H2 => r x xs H2 Q) : tBM K T r te tr σ H Q := h
theorem d_bm0 {T : String} {r : V → List V → Hp → VK → Prop} (h : te σ H fun x H1 => tyV K T x H1 ∧ r x [] H1 Q) : tBM0 K T r te σ H Q := h
theorem d_m1 {r : V → List V → Hp → VK → Prop} (h : ta σ H fun x H1 => (∃ a, x = .str a) ∧ te σ H1 fun y H2 => r x [y] H2 Q) : tM1 r ta te σ H Q := h
theorem d_exs {A : Str} {C : Prop} (h : C) : (∃ a, V.str A = .str a) ∧ C := ⟨⟨_, rfl⟩, h⟩
theorem d_app {l : Addr} {ys : List V} (h : H l = some (.lst ys)) (q : tr σ H fun zs H2 => rAppend (.ref l) zs H2 Q) : tyV K "list" (.ref l) H ∧ tr σ H fun zs H2 => rAppend (.ref l) zs H2 Q := ⟨.inl ⟨rfl, _, SqL.of h⟩, q⟩
theorem d_append {l : Addr} {ys : List V} (h : H l = some (.lst ys)) (hl : ys.length < sizeLine) (q : Q .non (upd H l (.lst (ys ++ [y])))) : rAppend (.ref l) [y] H Q := ⟨l, ys, y, rfl, rfl, h, hl, q⟩
theorem d_setL {QU : Hp → Prop} {l : Addr} {ys : List V} {j : Nat} (h : H l = some (.lst ys)) (e : ixN ys.length i = some j) (q : QU (upd H l (.lst (ys.set j v)))) : rSetL (.ref l) (.int i) v H QU := ⟨l, ys, i, j, rfl, rfl, h, e, q⟩
theorem d_lenL {C : List V → Prop} (h : SqL K H p xs) (q : C xs) : ∃ p' ys, [V.ref p] = [.ref p'] ∧ (SqL K H p' ys ∨ SqT K H p' ys) ∧ C ys := ⟨p, xs, rfl, .inl h, q⟩
theorem d_lenT {C : List V → Prop} (h : SqT K H p xs) (q : C xs) : ∃ p' ys, [V.ref p] = [.ref p'] ∧ (SqL K H p' ys ∨ SqT K H p' ys) ∧ C ys := ⟨p, xs, rfl, .inr h, q⟩
theorem d_lenS {C : Str → Prop} {z : Str} (h : z.length ≤ sizeLine) (q : C z) : ∃ z', [V.str z] = [.str z'] ∧ z'.length ≤ sizeLine ∧ C z' := ⟨z, rfl, h, q⟩
theorem d_isN {C : Prop} (q : C) : V.non = .non ∧ C := ⟨rfl, q⟩
-- statements
theorem d_next (h : D.nx σ H) : tNext D σ H := h
theorem d_seq (h : t { D with nx := u D } σ H) : tSeq t u D σ H := h
theorem d_asg {g : TG} (h : te σ H fun x H1 => g x σ H1 D.nx) : tAsg te g D σ H := h
theorem d_drop (h : te σ H fun _ H1 => D.nx σ H1) : tDrop te D σ H := h
theorem d_ret (h : te σ H D.rt) : tRet te D σ H := h
theorem d_retN (h : D.rt .non H) : tRetN D σ H := h
theorem d_ifS (h : tt σ H fun b H1 => if b = true then t D σ H1 else u D σ H1) : tIfS tt t u D σ H := h
theorem d_brk (h : D.bk σ H) : tBreak D σ H := h
theorem d_ct (h : D.ct σ H) : tCont D σ H := h
theorem d_aug {i : Nat} {ti : TIp} (e : σ[i]? = some (some x)) (h : te σ H fun y H1 => ti x y H1 fun z H2 => D.nx (σ.set i (some z)) H2) : tAug i te ti D σ H := ⟨x, e, h⟩
theorem d_gname {i : Nat} {QS : L2.St → Hp → Prop} (h : QS (σ.set i (some v)) H) : gName i v σ H QS := h
theorem d_gnil {QS : L2.St → Hp → Prop} (h : QS σ H) : gNil [] σ H QS := ⟨rfl, h⟩
theorem d_gcons {t : TG} {u : TGs} {vs : List V} {QS : L2.St → Hp → Prop} (h : t v σ H fun σ' H' => u vs σ' H' QS) : gCons t u (v :: vs) σ H QS := ⟨v, vs, rfl, h⟩
theorem d_gtup {t : TGs} {QS : L2.St → Hp → Prop} (h : SqT K H p xs) (hl : xs.length = n) (q : t xs σ H QS) : gTup K n t (.ref p) σ H QS := ⟨p, xs, rfl, h, hl, q⟩
theorem d_gtupm {t : TGs} {QS : L2.St → Hp → Prop} (h : H p = some (.tup xs)) (hl : xs.length = n) (q : t xs σ H QS) : gTup K n t (.ref p) σ H QS := ⟨p, xs, rfl, SqT.of h, hl, q⟩
theorem d_gsub {ti : TE} {s : TSet} {QS : L2.St → Hp → Prop} (h : ta σ H fun o H1 => ti σ H1 fun i H2 => s o i v H2 fun H3 => QS σ H3) : gSub ta ti s v σ H QS := h
-- what is walked
theorem d_for {wi : TI} {g : TG} (h : wi σ H fun J H1 => ∃ W : Nat → Nat → L2.St → Hp → Prop, (∃ m, W 0 m σ H1) ∧ ∀ i m σ H, W i m σ H →
  (J.stop i H ∧ D.nx σ H) ∨ (J.go i H ∧ ∃ N : L2.St → Hp → Prop, (∀ σ' H', N σ' H' → ∃ m', m' < m ∧ W (i + 1) m' σ' H') ∧ ∀ x H', J.yld i H x H' → g x σ H' fun σ2 H2 => t { D with nx := N, ct := N, bk := D.nx } σ2 H2)) : tFor wi g t D σ H := h
theorem d_lc {wi : TI} {g : TG} {vs : List Nat} (h : wi σ H fun J H1 => ∀ D, H1 D = none → ∃ W : Nat → Nat → Hp → Prop, (∃ m, W 0 m (upd H1 D (.lst []))) ∧ ∀ i m H, W i m H →
  (J.stop i H ∧ Q (.ref D) H) ∨ (J.go i H ∧ ∃ Nx : Hp → Prop, (∀ H', Nx H' → ∃ m', m' < m ∧ W (i + 1) m' H') ∧ ∀ x H', J.yld i H x H' → g x (wipe σ vs) H' fun σ2 H2 => wipe σ2 vs = wipe σ vs ∧ tt σ2 H2 fun b H3 =>
    if b = true then te σ2 H3 fun y H4 => ∃ acc, H4 D = some (.lst acc) ∧ acc.length < sizeLine ∧ Nx (upd H4 D (.lst (acc ++ [y]))) else Nx H3)) : tLc wi g tt te vs σ H Q := h
theorem d_iR1 {R : It → Hp → Prop} (h : tr σ H fun vs H1 => ∃ j : Int, vs = [.int j] ∧ -(2 ^ 62) ≤ j ∧ j < 2 ^ 62 ∧ R (Itr 0 j.toNat) H1) : iRng1 tr σ H R := h
theorem d_iR2 {R : It → Hp → Prop} (h : tr σ H fun vs H1 => ∃ i j : Int, vs = [.int i, .int j] ∧ (-(2 ^ 62) ≤ i ∧ i < 2 ^ 62 ∧ -(2 ^ 62) ≤ j ∧ j < 2 ^ 62) ∧ R (Itr i (j - i).toNat) H1) : iRng2 tr σ H R := h
theorem d_iR1e {C : Int → Prop} (h1 : -(2 ^ 62) ≤ j) (h2 : j < 2 ^ 62) (h : C j) : ∃ k : Int, [V.int j] = [.int k] ∧ -(2 ^ 62) ≤ k ∧ k < 2 ^ 62 ∧ C k := ⟨j, rfl, h1, h2, h⟩
theorem d_iR2e {C : Int → Int → Prop} (h1 : -(2 ^ 62) ≤ i ∧ i < 2 ^ 62 ∧ -(2 ^ 62) ≤ j ∧ j < 2 ^ 62) (h : C i j) : ∃ k l : Int, [V.int i, V.int j] = [.int k, .int l] ∧ (-(2 ^ 62) ≤ k ∧ k < 2 ^ 62 ∧ -(2 ^ 62) ≤ l ∧ l < 2 ^ 62) ∧ C k l := ⟨i, j, rfl, h1, h⟩
theorem d_iL {R : It → Hp → Prop} (h : te σ H fun x H1 => ∃ a, x = .ref a ∧ (∃ xs, SqL K H1 a xs) ∧ R (Itl K a) H1) : iList K te σ H R := h
theorem d_iT {R : It → Hp → Prop} (h : te σ H fun x H1 => ∃ a, x = .ref a ∧ (∃ xs, SqT K H1 a xs) ∧ R (Itt K a) H1) : iTup K te σ H R := h
theorem d_iTe {C : Addr → Prop} {a : Addr} (h : SqT K H a xs) (q : C a) : ∃ a', V.ref a = .ref a' ∧ (∃ xs, SqT K H a' xs) ∧ C a' := ⟨a, rfl, ⟨xs, h⟩, q⟩
theorem d_iLe {C : Addr → Prop} {a : Addr} (h : SqL K H a xs) (q : C a) : ∃ a', V.ref a = .ref a' ∧ (∃ xs, SqL K H a' xs) ∧ C a' := ⟨a, rfl, ⟨xs, h⟩, q⟩
theorem d_iS {R : It → Hp → Prop} (h : te σ H fun v H1 => ∃ x, v = .str x ∧ R (Its x) H1) : iStr te σ H R := h
theorem d_iSe {C : Str → Prop} {z : Str} (q : C z) : ∃ x, V.str z = .str x ∧ C x := ⟨z, rfl, q⟩
theorem d_yes (h : QT true H) : tYes σ H QT := h
theorem d_dget1 {td ty : TE} (h : td σ H fun x H1 => ∃ a, x = .ref a ∧ IsD H1 a ∧ ty σ H1 fun y H2 => ∃ o, DGet H2 a y o ∧ Q (o.getD .non) H2) : tDGet1 td ty σ H Q := h
theorem d_dget2 {td ty tx : TE} (h : td σ H fun x H1 => ∃ a, x = .ref a ∧ IsD H1 a ∧ ty σ H1 fun y H2 => tx σ H2 fun z H3 => ∃ o, DGet H3 a y o ∧ Q (o.getD z) H3) : tDGet2 td ty tx σ H Q := h
theorem d_daug {td ty tv : TE} {rd : V → V → Hp → VK → Prop} (h : td σ H fun x H1 => ty σ H1 fun y H2 => ∃ a v, x = .ref a ∧ DGet H2 a y (some v) ∧ tv σ H2 fun y2 H3 => rd v y2 H3 fun z H4 => ∃ H5, DPut H4 a y z H5 ∧ D.nx σ H5) : sDAug td ty tv rd D σ H := h
theorem d_notV (h : ta σ H fun x H1 => ∃ c, x = .bl c ∧ Q (.bl (!c)) H1) : tNotV ta σ H Q := h
theorem d_par {i j : Nat} (h : tr σ H fun vs H1 => ∃ v w, vs = [v, w] ∧ D.nx ((σ.set i (some v)).set j (some w)) H1) : tPar i j tr D σ H := h
theorem d_par2 {C : V → V → Prop} (h : C x y) : ∃ v w, [x, y] = [v, w] ∧ C v w := ⟨x, y, rfl, h⟩
theorem d_dget {td ty : TE} (h : td σ H fun x H1 => ty σ H1 fun y H2 => ∃ a v, x = .ref a ∧ DGet H2 a y (some v) ∧ Q v H2) : tDGet td ty σ H Q := h
theorem d_dput {td ty tv : TE} (h : tv σ H fun v H1 => td σ H1 fun x H2 => ty σ H2 fun y H3 => ∃ a H4, x = .ref a ∧ DPut H3 a y v H4 ∧ D.nx σ H4) : sDPut td ty tv D σ H := h
theorem d_din {td ty : TE} (h : ty σ H fun y H1 => td σ H1 fun x H2 => ∃ a o, x = .ref a ∧ DGet H2 a y o ∧ Q (.bl o.isSome) H2) : tDIn ty td σ H Q := h
theorem d_dnewT (h : ∀ p, H p = none → Q (.ref p) (upd H p (.dT []))) : tDNewT σ H Q := h
theorem d_dnewK (h : ∀ p, H p = none → Q (.ref p) (upd H p (.dK []))) : tDNewK σ H Q := h
theorem iteNT {A B : Prop} (h : B) : if (!true) = true then A else B := h
theorem iteNF {A B : Prop} (h : A) : if (!false) = true then A else B := h
theorem d_cut (M : L2.St → Hp → Prop) (h : t { D with nx := M } σ H) (k : ∀ σ' H', M σ' H' → u D σ' H') : Evl.tCut t u D σ H := ⟨M, h, k⟩
/-- a and b where b only looks -/
theorem if_any {c : Bool} {tb : TE} (hb : ∀ Q' : VK, (∀ b H', Same H H' → Q' (.bl b) H') → tb σ H Q') (q : ∀ b H', Same H H' → Q (.bl b) H') : if c = true then tb σ H Q else Q (.bl false) H := by
  cases c with
  | true => exact iteT (hb Q q)
  | false => exact iteF (q _ _ (Same.refl _))
theorem d_wipe {σ2 σ3 : L2.St} {vs : List Nat} {C : Prop} (e : wipe σ2 vs = wipe σ3 vs) (h : C) : wipe σ2 vs = wipe σ3 vs ∧ C := ⟨e, h⟩
theorem d_lsten (h : tr σ H fun vs H1 => rLstEn K vs H1 Q) : tLstEn K tr σ H Q := h
theorem d_slL {a : Addr} {lo hi : Option Int} (h : SqL K H a xs) (q : ∀ p, H p = none → Q (.ref p) (upd H p (.lst (cutV xs lo hi)))) : rSlL K (.ref a) lo hi H Q := ⟨a, xs, rfl, h, q⟩
theorem d_lrg {tg : L2.St → Hp → (Int → Int → Hp → Prop) → Prop} (h : tg σ H fun a b H1 => RgOk a b ∧ ∀ q, H1 q = none → Q (.ref q) (upd H1 q (.lst (rgV a b)))) : tLstRg tg σ H Q := h
theorem d_rg1 {R : Int → Int → Hp → Prop} (h : te σ H fun x H1 => ∃ n, x = .int n ∧ R 0 n H1) : tRg1 te σ H R := h
end
/-- the law's hand: two whole numbers -/
def Hand (H : Hp) (h : Addr) : Prop := ∃ d m : Int, H h = some (.lst [.int d, .int m]) ∧ 0 ≤ d ∧ 0 ≤ m ∧ m < 2147483587
theorem Hand.same {H H' : Hp} {h : Addr} (x : Hand H h) (s : Same H H') : Hand H' h := by
  obtain ⟨d, m, e, r⟩ := x
  exact ⟨d, m, s _ _ e, r⟩
theorem Hand.ne {H : Hp} {h p : Addr} (x : Hand H h) (n : H p = none) : p ≠ h := by
  obtain ⟨d, m, e, r⟩ := x
  exact (ne_of_none e n).symm
theorem Hand.put {H : Hp} {h p : Addr} {o : HO} (x : Hand H h) (n : p ≠ h) : Hand (upd H p o) h := by
  obtain ⟨d, m, e, r⟩ := x
  exact ⟨d, m, by rw [upd_ne n.symm]; exact e, r⟩
/-- a tuple stays where a list changes -/
theorem Keep.sqt {K : PySem.W.Frag} {h : Addr} {H H' : Hp} {a : Addr} {xs ys : List V} (k : Keep h H H') (e : H h = some (.lst ys)) (q : SqT K H a xs) : SqT K H' a xs := by
  rcases q with (q | ⟨o, q⟩) | q
  · exact .inl (.inl (k _ _ (ne_of q e (by intro z; cases z)) q))
  · exact .inl (.inr ⟨o, k _ _ (ne_of q e (by intro z; cases z)) q⟩)
  · exact .inr q
mutual
theorem dp_same {K : PySem.W.Frag} {H H' : Hp} (s : Same H H') : ∀ (d : PyData) (v : V), Dp K H v d → Dp K H' v d
  | .none, _, h => by cases h; exact .non
  | .bool b, _, h => by cases h; exact .bl b
  | .int i, _, h => by cases h; exact .int i
  | .str x, _, h => by cases h; exact .str x
  | .list ds, _, h => by
    cases h with
    | lst hs ha => exact .lst (Same.seq s hs) (dpa_same s ds _ ha)
  | .tuple ds, _, h => by
    cases h with
    | tup hs ha => exact .tup (Same.sqt s hs) (dpa_same s ds _ ha)
  | .dict _, _, h => by cases h
theorem dpa_same {K : PySem.W.Frag} {H H' : Hp} (s : Same H H') : ∀ (ds : List PyData) (vs : List V), DpAll K H vs ds → DpAll K H' vs ds
  | [], _, h => by cases h; exact .nil
  | d :: ds, _, h => by
    cases h with
    | cons a b => exact .cons (dp_same s d _ a) (dpa_same s ds _ b)
end
theorem dpa_ints {K : PySem.W.Frag} {H : Hp} : ∀ ns : List Int, DpAll K H (ns.map V.int) (ns.map PyData.int)
  | [] => .nil
  | n :: r => .cons (.int n) (dpa_ints r)
theorem shaped_ints (ns : List Int) : SeqAt.shaped (.list (ns.map PyData.int)) = true := PySem.W.ke_shaped_ints ns
/-- one sign -/
abbrev sg (c : Nat) : Str := ⟨#[c]⟩
def Ltr (c : Nat) : Prop := 97 ≤ c ∧ c ≤ 122
abbrev Tie := Nat × Nat × Nat
/-- places' kinds, ties -/
abbrev Web := List Nat × List Tie
def TieAt (K : PySem.W.Frag) (H : Hp) (v : V) (t : Tie) : Prop := ∃ a, v = .ref a ∧ SqT K H a [.int (t.1 : Nat), .int (t.2.1 : Nat), .str (sg t.2.2)]
def WebAt (K : PySem.W.Frag) (H : Hp) (v : V) (w : Web) : Prop := ∃ a b tvs, v = .ref a ∧ SqT K H a [.str ⟨w.1.toArray⟩, .ref b] ∧ SqT K H b tvs ∧ Paired (TieAt K H) tvs w.2
def tlt (s t : Tie) : Prop := s.1 < t.1 ∨ (s.1 = t.1 ∧ s.2.1 < t.2.1)
structure WOk (w : Web) : Prop where
  few : w.1.length ≤ 40
  most : w.2.length ≤ 1600
  kinds : ∀ c ∈ w.1, Ltr c
  rise : w.2.Pairwise tlt
  ends : ∀ t ∈ w.2, t.1 < t.2.1 ∧ t.2.1 < w.1.length ∧ Ltr t.2.2
theorem Paired.imp {α β : Type} {F G : α → β → Prop} {xs : List α} {ys : List β} (p : Paired F xs ys) (h : ∀ a b, F a b → G a b) : Paired G xs ys := by
  induction p with
  | nil => exact .nil
  | cons a _ ih => exact .cons (h _ _ a) ih
theorem TieAt.same {K : PySem.W.Frag} {H H' : Hp} {v : V} {t : Tie} (x : TieAt K H v t) (s : Same H H') : TieAt K H' v t := by
  obtain ⟨a, e, q⟩ := x
  exact ⟨a, e, Same.sqt s q⟩
theorem TieAt.keep {K : PySem.W.Frag} {H H' : Hp} {v : V} {t : Tie} {h : Addr} {ys : List V} (x : TieAt K H v t) (k : Keep h H H') (e : H h = some (.lst ys)) : TieAt K H' v t := by
  obtain ⟨a, e', q⟩ := x
  exact ⟨a, e', k.sqt e q⟩
theorem WebAt.same {K : PySem.W.Frag} {H H' : Hp} {v : V} {w : Web} (x : WebAt K H v w) (s : Same H H') : WebAt K H' v w := by
  obtain ⟨a, b, tvs, e, q1, q2, q3⟩ := x
  exact ⟨a, b, tvs, e, Same.sqt s q1, Same.sqt s q2, Paired.imp q3 fun _ _ z => z.same s⟩
theorem WebAt.keep {K : PySem.W.Frag} {H H' : Hp} {v : V} {w : Web} {h : Addr} {ys : List V} (x : WebAt K H v w) (k : Keep h H H') (e : H h = some (.lst ys)) : WebAt K H' v w := by
  obtain ⟨a, b, tvs, e', q1, q2, q3⟩ := x
  exact ⟨a, b, tvs, e', k.sqt e q1, k.sqt e q2, Paired.imp q3 fun _ _ z => z.keep k e⟩
theorem TieAt.put {K : PySem.W.Frag} {H : Hp} {v : V} {t : Tie} {b : Addr} {o : HO} (x : TieAt K H v t) (n : H b = none ∨ ∃ ys, H b = some (.lst ys)) : TieAt K (upd H b o) v t := by
  obtain ⟨a, e, q⟩ := x
  exact ⟨a, e, sqt_upd n q⟩
theorem WebAt.put {K : PySem.W.Frag} {H : Hp} {v : V} {w : Web} {b : Addr} {o : HO} (x : WebAt K H v w) (n : H b = none ∨ ∃ ys, H b = some (.lst ys)) : WebAt K (upd H b o) v w := by
  obtain ⟨a, b, tvs, e', q1, q2, q3⟩ := x
  exact ⟨a, b, tvs, e', sqt_upd n q1, sqt_upd n q2, Paired.imp q3 fun _ _ z => z.put n⟩
theorem Paired.at {α β : Type} {F : α → β → Prop} : ∀ {xs : List α} {ys : List β}, Paired F xs ys → ∀ {i : Nat} {x : α}, xs[i]? = some x → ∃ y, ys[i]? = some y ∧ F x y
  | _, _, .nil, i, x, h => by cases h
  | _, _, .cons r t, 0, x, h => by
    cases h
    exact ⟨_, rfl, r⟩
  | _, _, .cons r t, i + 1, x, h => Paired.at t h
open TL in
theorem joinL_nil : ∀ ps : List (List Nat), joinL [] ps = ps.flatten
  | [] => rfl
  | [p] => by show p = [p].flatten; simp
  | p :: q :: r => by
    show p ++ ([] ++ joinL [] (q :: r)) = (p :: q :: r).flatten
    rw [joinL_nil (q :: r)]; simp
theorem str_ext {x y : Str} (h : x.cps.toList = y.cps.toList) : x = y := by
  cases x; cases y
  simpa using h
open TL in
theorem join_signs (cs : List Nat) : Txt.join (Str.ofString "") (cs.map sg) = ⟨cs.toArray⟩ := by
  rw [join_eq]
  apply str_ext
  show tl (Str.join (Str.ofString "") (cs.map sg)) = cs
  rw [tl_join, show tl (Str.ofString "") = [] from by decide +kernel, joinL_nil, List.map_map]
  induction cs with
  | nil => rfl
  | cons c r ih =>
    rw [List.map_cons, List.flatten_cons, ih]
    rfl
theorem sum_const {α : Type} (f : α → Nat) (n : Nat) : ∀ l : List α, (∀ x ∈ l, f x = n) → (l.map f).sum = l.length * n
  | [], _ => by simp
  | a :: r, h => by
    rw [List.map_cons, List.sum_cons, sum_const f n r fun x hx => h x (List.mem_cons_of_mem _ hx), h a List.mem_cons_self, List.length_cons, Nat.succ_mul]
    omega
theorem sz {n : Nat} (h : n ≤ 100000) : n ≤ sizeLine := Nat.le_trans h (by decide)
theorem szl {n : Nat} (h : n ≤ 100000) : n < sizeLine := Nat.lt_of_le_of_lt h (by decide)
end Cw

namespace Cw
open PySem PySem.Spec PyProof.Rows L2
/-! ### ties -/
def at2 (a b : Nat) (t : Tie) : Bool := (t.1 == a && t.2.1 == b) || (t.1 == b && t.2.1 == a)
def tieL (ts : List Tie) (a b : Nat) : Option Nat := (ts.find? (at2 a b)).map (·.2.2)
def beside (p : Nat) (t : Tie) : Option Nat := if t.1 = p then some t.2.1 else if t.2.1 = p then some t.1 else none
def nb (ts : List Tie) (p : Nat) : List Nat := ts.filterMap (beside p)
theorem at2_iff {a b : Nat} {t : Tie} : at2 a b t = true ↔ (t.1 = a ∧ t.2.1 = b) ∨ (t.1 = b ∧ t.2.1 = a) := by
  simp [at2]
theorem at2_swap (a b : Nat) (t : Tie) : at2 a b t = at2 b a t := by
  unfold at2; rw [Bool.or_comm]
theorem tieL_swap (ts : List Tie) (a b : Nat) : tieL ts a b = tieL ts b a := by
  unfold tieL
  rw [show at2 a b = at2 b a from funext (at2_swap a b)]
theorem tieL_isSome {ts : List Tie} {a b : Nat} : (tieL ts a b).isSome = true ↔ ∃ t ∈ ts, at2 a b t = true := by
  unfold tieL
  rw [Option.isSome_map, List.find?_isSome]
theorem tieL_none {ts : List Tie} {a b : Nat} (h : ∀ t ∈ ts, at2 a b t = false) : tieL ts a b = none := by
  unfold tieL
  rw [List.find?_eq_none.mpr (fun t ht => by rw [h t ht]; simp)]; rfl
theorem tieL_snoc (l : List Tie) (t : Tie) (a b : Nat) : tieL (l ++ [t]) a b = (tieL l a b).or (if at2 a b t = true then some t.2.2 else none) := by
  unfold tieL
  rw [List.find?_append]
  cases l.find? (at2 a b) with
  | some x => rfl
  | none =>
    show ((none : Option Tie).or ([t].find? (at2 a b))).map (·.2.2) = (none : Option Nat).or _
    rw [Option.none_or, Option.none_or]
    by_cases h : at2 a b t = true
    · rw [if_pos h, List.find?_cons_of_pos h]; rfl
    · rw [if_neg h, List.find?_cons_of_neg h]; rfl
theorem nb_snoc (l : List Tie) (t : Tie) (p : Nat) : nb (l ++ [t]) p = nb l p ++ (if t.1 = p then [t.2.1] else if t.2.1 = p then [t.1] else []) := by
  unfold nb
  rw [List.filterMap_append]
  congr 1
  by_cases h1 : t.1 = p
  · rw [if_pos h1]; simp [beside, h1]
  · by_cases h2 : t.2.1 = p
    · rw [if_neg h1, if_pos h2]; simp [beside, h1, h2]
    · rw [if_neg h1, if_neg h2]; simp [beside, h1, h2]
theorem nb_len (l : List Tie) (p : Nat) : (nb l p).length ≤ l.length := List.length_filterMap_le _ _
theorem take_snoc {α : Type} {l : List α} {i : Nat} {x : α} (h : l[i]? = some x) : l.take (i + 1) = l.take i ++ [x] := by
  rw [List.take_add_one, h]; rfl
/-- no tie stands twice -/
theorem tieL_new {ts : List Tie} (s : ts.Pairwise tlt) (e : ∀ t ∈ ts, t.1 < t.2.1) {i : Nat} {t : Tie} (h : ts[i]? = some t) : tieL (ts.take i) t.1 t.2.1 = none := by
  refine tieL_none fun u hu => ?_
  have hl : (ts.take i ++ [t]).Pairwise tlt := by rw [← take_snoc h]; exact s.sublist (List.take_sublist _ _)
  have lt := (List.pairwise_append.mp hl).2.2 u hu t List.mem_cons_self
  have e1 := e u (List.mem_of_mem_take hu)
  have e2 := e t (List.mem_of_getElem? h)
  cases q : at2 t.1 t.2.1 u with
  | false => rfl
  | true =>
    rcases at2_iff.mp q with ⟨a, b⟩ | ⟨a, b⟩
    · rcases lt with z | ⟨_, z⟩ <;> omega
    · omega
theorem sorted_ext : ∀ {l m : List Nat}, l.Pairwise (· < ·) → m.Pairwise (· < ·) → (∀ x, x ∈ l ↔ x ∈ m) → l = m
  | [], [], _, _, _ => rfl
  | [], y :: m, _, _, h => absurd ((h y).mpr List.mem_cons_self) (by simp)
  | x :: l, [], _, _, h => absurd ((h x).mp List.mem_cons_self) (by simp)
  | x :: l, y :: m, hl, hm, h => by
    obtain ⟨l1, l2⟩ := List.pairwise_cons.mp hl
    obtain ⟨m1, m2⟩ := List.pairwise_cons.mp hm
    have hx : x = y := by
      rcases List.mem_cons.mp ((h x).mp List.mem_cons_self) with z | z
      · exact z
      · rcases List.mem_cons.mp ((h y).mpr List.mem_cons_self) with z' | z'
        · exact z'.symm
        · have a := m1 x z
          have b := l1 y z'
          omega
    subst hx
    congr 1
    refine sorted_ext l2 m2 fun z => ⟨fun hz => ?_, fun hz => ?_⟩
    · rcases List.mem_cons.mp ((h z).mp (List.mem_cons_of_mem _ hz)) with q | q
      · have := l1 z hz; omega
      · exact q
    · rcases List.mem_cons.mp ((h z).mpr (List.mem_cons_of_mem _ hz)) with q | q
      · have := m1 z hz; omega
      · exact q
theorem beside_iff {p o : Nat} {t : Tie} (e : t.1 < t.2.1) : beside p t = some o ↔ at2 p o t = true := by
  rw [at2_iff]
  unfold beside
  by_cases h1 : t.1 = p
  · rw [if_pos h1]
    constructor
    · intro z; exact .inl ⟨h1, Option.some.inj z⟩
    · rintro (⟨_, z⟩ | ⟨z1, z2⟩)
      · rw [z]
      · omega
  · rw [if_neg h1]
    by_cases h2 : t.2.1 = p
    · rw [if_pos h2]
      constructor
      · intro z; exact .inr ⟨Option.some.inj z, h2⟩
      · rintro (⟨z, _⟩ | ⟨z1, z2⟩)
        · exact absurd z h1
        · rw [z1]
    · rw [if_neg h2]
      constructor
      · intro z; cases z
      · rintro (⟨z, _⟩ | ⟨_, z⟩)
        · exact absurd z h1
        · exact absurd z h2
theorem nb_rise {ts : List Tie} (s : ts.Pairwise tlt) (e : ∀ t ∈ ts, t.1 < t.2.1) (p : Nat) : (nb ts p).Pairwise (· < ·) := by
  unfold nb
  rw [List.pairwise_filterMap]
  refine List.Pairwise.imp_of_mem (fun {t u} ht hu lt a ha b hb => ?_) s
  have e1 := e t ht
  have e2 := e u hu
  rcases at2_iff.mp ((beside_iff e1).mp ha) with ⟨a1, a2⟩ | ⟨a1, a2⟩ <;> rcases at2_iff.mp ((beside_iff e2).mp hb) with ⟨b1, b2⟩ | ⟨b1, b2⟩ <;> rcases lt with z | ⟨z1, z2⟩ <;> omega
theorem nb_eq {w : Web} (W : WOk w) (p : Nat) : nb w.2 p = (List.range w.1.length).filter fun o => (tieL w.2 p o).isSome := by
  refine sorted_ext (nb_rise W.rise (fun t ht => (W.ends t ht).1) p) (List.Pairwise.filter _ List.pairwise_lt_range) fun o => ?_
  rw [List.mem_filter, tieL_isSome, List.mem_range]
  unfold nb
  rw [List.mem_filterMap]
  constructor
  · rintro ⟨t, ht, hb⟩
    have q := (beside_iff (W.ends t ht).1).mp hb
    refine ⟨?_, t, ht, q⟩
    have r := W.ends t ht
    rcases at2_iff.mp q with ⟨_, a⟩ | ⟨a, _⟩ <;> omega
  · rintro ⟨_, t, ht, q⟩
    exact ⟨t, ht, (beside_iff (W.ends t ht).1).mpr q⟩
theorem tieL_self {w : Web} (W : WOk w) (p : Nat) : tieL w.2 p p = none := by
  refine tieL_none fun t ht => ?_
  have r := W.ends t ht
  cases q : at2 p p t with
  | false => rfl
  | true => rcases at2_iff.mp q with ⟨a, b⟩ | ⟨a, b⟩ <;> omega
/-- a tie's kind, or None -/
def optV : Option Nat → V
  | some c => .str (sg c)
  | none => .non
theorem optV_non (o : Option Nat) : (!decide (optV o = .non)) = o.isSome := by cases o <;> rfl
theorem optV_scal (o : Option Nat) : scal (optV o) (optV o) = true := by cases o <;> rfl
def zs (l : List Nat) : List Int := l.map fun (o : Nat) => (o : Int)
theorem ints_map (l : List Nat) : (l.map fun o => V.int (o : Nat)) = (zs l).map V.int := by
  unfold zs; rw [List.map_map]; rfl
theorem eqv_ints (l : List Int) : PyData.eqv (.list (l.map PyData.int)) (.list (l.map PyData.int)) = true := by
  show PyData.eqvAll _ _ = true
  rw [PySem.W.ked_eqvAll, decide_eq_true rfl]
theorem dp_nats {K : PySem.W.Frag} {H : Hp} {a : Addr} {l : List Nat} (h : H a = some (.lst (l.map fun o => V.int (o : Nat)))) : Dp K H (.ref a) (.list ((zs l).map PyData.int)) := by
  rw [ints_map] at h
  exact .lst (SqL.of h) (dpa_ints _)
/-- the heap without one object -/
def del (H : Hp) (a : Addr) : Hp := fun b => if b = a then none else H b
theorem del_ne {H : Hp} {a b : Addr} (n : b ≠ a) : del H a b = H b := by unfold del; rw [if_neg n]
theorem del_at {H : Hp} {a b : Addr} {o : HO} (n : b ≠ a) (h : H b = some o) : del H a b = some o := by rw [del_ne n]; exact h
theorem del_same (H : Hp) (a : Addr) : Same (del H a) H := fun b o e => by
  by_cases n : b = a
  · unfold del at e; rw [if_pos n] at e; cases e
  · rw [del_ne n] at e; exact e
theorem Keep.del {h : Addr} {H H' : Hp} (k : Keep h H H') : Same (del H h) (del H' h) := fun b o e => by
  by_cases n : b = h
  · unfold Cw.del at e; rw [if_pos n] at e; cases e
  · rw [del_ne n] at e ⊢; exact k b o n e
theorem dpa_snoc {K : PySem.W.Frag} {H : Hp} : ∀ {vs : List V} {ds : List PyData} {v : V} {d : PyData}, DpAll K H vs ds → Dp K H v d → DpAll K H (vs ++ [v]) (ds ++ [d])
  | [], [], _, _, _, h => .cons h .nil
  | _ :: _, _ :: _, _, _, .cons a b, h => .cons a (dpa_snoc b h)
/-- what is held: pairs of equal lists of whole numbers -/
def hD (x : List Int) : PyData := .list [.list (x.map PyData.int), .list (x.map PyData.int)]
def Held (K : PySem.W.Frag) (H : Hp) (hd : Addr) (m : Nat) : Prop := ∃ (hs : List V) (xs : List (List Int)), H hd = some (.lst hs) ∧ hs.length ≤ m ∧ DpAll K (del H hd) hs (xs.map hD)
theorem Held.same {K : PySem.W.Frag} {H H' : Hp} {hd : Addr} {m : Nat} (x : Held K H hd m) (s : Same H H') : Held K H' hd m := by
  obtain ⟨hs, xs, e, l, a⟩ := x
  exact ⟨hs, xs, s _ _ e, l, dpa_same (Keep.del (Same.keep s)) _ _ a⟩
theorem Held.mono {K : PySem.W.Frag} {H : Hp} {hd : Addr} {m n : Nat} (x : Held K H hd m) (h : m ≤ n) : Held K H hd n := by
  obtain ⟨hs, xs, e, l, a⟩ := x
  exact ⟨hs, xs, e, Nat.le_trans l h, a⟩
theorem dpa_at {K : PySem.W.Frag} {H : Hp} : ∀ {vs : List V} {ds : List PyData} (i : Nat) {v : V}, DpAll K H vs ds → vs[i]? = some v → ∃ d, ds[i]? = some d ∧ Dp K H v d
  | [], _, _, _, _, h => by simp at h
  | _ :: _, _ :: _, 0, _, .cons a b, h => by
    cases h
    exact ⟨_, rfl, a⟩
  | _ :: _, _ :: _, i + 1, _, .cons a b, h => dpa_at i b (by simpa using h)
theorem rgV_nats (n : Int) : rgV 0 n = (List.range n.toNat).map fun q => V.int (q : Nat) := by
  unfold rgV
  rw [Int.sub_zero]
  congr 1
  funext i
  rw [Int.zero_add]
end Cw

namespace Cw
open PySem PySem.Spec PyProof.Rows L2 Srt

/-! ### triples (whole number, whole number, one sign), by all three -/
abbrev Tri := Int × Int × Nat
def lexT (p q : Tri) : Bool := if p.1 = q.1 then (if p.2.1 = q.2.1 then decide (p.2.2 < q.2.2) else decide (p.2.1 < q.2.1)) else decide (p.1 < q.1)
theorem lexT_iff {p q : Tri} : lexT p q = true ↔ p.1 < q.1 ∨ (p.1 = q.1 ∧ (p.2.1 < q.2.1 ∨ (p.2.1 = q.2.1 ∧ p.2.2 < q.2.2))) := by
  unfold lexT
  by_cases e : p.1 = q.1
  · rw [if_pos e]
    by_cases e2 : p.2.1 = q.2.1
    · rw [if_pos e2, decide_eq_true_eq]; omega
    · rw [if_neg e2, decide_eq_true_eq]; omega
  · rw [if_neg e, decide_eq_true_eq]; omega
theorem lexT_no {p q : Tri} : lexT p q = false ↔ ¬ (p.1 < q.1 ∨ (p.1 = q.1 ∧ (p.2.1 < q.2.1 ∨ (p.2.1 = q.2.1 ∧ p.2.2 < q.2.2)))) := by
  rw [← lexT_iff]
  cases lexT p q <;> simp
theorem swo_T {α : Type} (k : α → Tri) : SrtO.Swo fun v u => lexT (k v) (k u) := by
  refine ⟨fun x y h => ?_, fun x y z h1 h2 => ?_⟩
  · have a := lexT_iff.mp h
    exact lexT_no.mpr (by omega)
  · have a := lexT_no.mp h1
    have b := lexT_no.mp h2
    exact lexT_no.mpr (by omega)
def IsTri (h : Heap) (v : Value) (p : Tri) : Prop := ∃ a o t u t3 n, v = .ref a ∧ h.get? a = some o ∧ o.cls = .type "tuple" ∧ o.data = .seq #[.int p.1 t, .int p.2.1 u, .str (sg p.2.2) t3] n
theorem IsTri.keeps {h h' : Heap} {v : Value} {p : Tri} (x : IsTri h v p) (k : ∀ b o, h.get? b = some o → o.cls = .type "tuple" → h'.get? b = some o) : IsTri h' v p := by
  obtain ⟨a, o, t, u, t3, n, e, ho, hc, hd⟩ := x
  exact ⟨a, o, t, u, t3, n, e, k _ _ ho hc, hc, hd⟩
theorem sg_lt (c d : Nat) : decide ((sg c).cps.toList < (sg d).cps.toList) = decide (c < d) := by
  rw [Bool.eq_iff_iff, decide_eq_true_eq, decide_eq_true_eq]
  show ([c] : List Nat) < [d] ↔ c < d
  rw [List.cons_lt_cons_iff]
  constructor
  · rintro (h | ⟨_, h⟩)
    · exact h
    · exact absurd h (List.not_lt_nil _)
  · intro h; exact .inl h
theorem sg_inj {c d : Nat} : sg c = sg d ↔ c = d := by
  constructor
  · intro h
    have e : (sg c).cps.toList = (sg d).cps.toList := by rw [h]
    simpa using e
  · rintro rfl; rfl
section
variable {prog : Program} {w : World} {A : Around} {E : Value → Shared → Prop} {s : Shared}
theorem tri_cmp {vs : List Value} {k : Value → Tri} (hp : ∀ v ∈ vs, IsTri s.heap v (k v)) : SrtO.Cmp prog w A s (tuples' true) (fun p => p.1 ∈ vs) (SrtO.lt2 fun v u => lexT (k v) (k u)) := by
  intro p q hm hm'
  have h1 := hp _ hm
  have h2 := hp _ hm'
  show wpAny (model prog w) A (keyLt' (tuples' true) p.1 q.1) (fun r s' => s' = s ∧ r = lexT (k p.1) (k q.1)) (fun _ _ => False) s
  generalize k p.1 = P at h1 ⊢
  generalize k q.1 = R at h2 ⊢
  obtain ⟨x, y, c⟩ := P
  obtain ⟨x', y', c'⟩ := R
  obtain ⟨a, o, t, u, t3, n, e, ho, hc, hd⟩ := h1
  obtain ⟨a', o', t', u', t3', n', e', ho', hc', hd'⟩ := h2
  dsimp only at hd hd'
  rw [e, e']
  refine PySem.W.kat_lt ho hd ho' hd' ?_
  show PySem.W.KatLex prog w A true (decide (3 < 3)) _ [(.int x t, .int x' t'), (.int y u, .int y' u'), (.str (sg c) t3, .str (sg c') t3')] 0 s
  refine PySem.W.kat_cons (SeqAt.EqAt.int_int x t x' t' prog w _ _ (PySem.W.kat_go (fun e1 => ?_) (fun e1 => ?_)))
  · have ex : x = x' := by simpa using e1
    subst ex
    refine PySem.W.kat_yes (PySem.W.kat_cons (SeqAt.EqAt.int_int y u y' u' prog w _ _ (PySem.W.kat_go (fun e2 => ?_) (fun e2 => ?_))))
    · have ey : y = y' := by simpa using e2
      subst ey
      refine PySem.W.kat_yes (PySem.W.kat_cons (wpAny_eqBool_str (PySem.W.kat_go (fun e3 => ?_) (fun e3 => ?_))))
      · have ec : c = c' := sg_inj.mp (by simpa using e3)
        subst ec
        exact PySem.W.kat_yes (PySem.W.kat_nil ⟨rfl, (lexT_no.mpr (by show ¬ (x < x ∨ (x = x ∧ (y < y ∨ (y = y ∧ c < c)))); omega)).symm⟩)
      · refine PySem.W.kat_no (PySem.W.kat_one _ _ (PyProof.Rows.lt_str ?_))
        refine (show s = s ∧ decide ((sg c).cps.toList < (sg c').cps.toList) = lexT (x, y, c) (x, y, c') from ⟨rfl, ?_⟩)
        rw [sg_lt]
        unfold lexT
        rw [if_pos rfl, if_pos rfl]
    · have ey : ¬ y = y' := by simpa using e2
      refine PySem.W.kat_no (PySem.W.kat_one _ _ (PyProof.Rows.lt_int ?_))
      refine (show s = s ∧ decide (y < y') = lexT (x, y, c) (x, y', c') from ⟨rfl, ?_⟩)
      unfold lexT
      rw [if_pos rfl, if_neg ey]
  · have ex : ¬ x = x' := by simpa using e1
    refine PySem.W.kat_no (oneLt_int ⟨rfl, ?_⟩)
    unfold lexT
    rw [if_neg ex]
theorem tri_firsts {h : Heap} : ∀ {vs : List Value}, (∀ v ∈ vs, ∃ p, IsTri h v p) → ∃ fs : List Value, PySem.W.KatTups h vs fs ∧ fs.length = vs.length ∧ ∀ f ∈ fs, ∃ x t, f = Value.int x t
  | [], _ => ⟨[], PySem.W.KatTups.nil, rfl, fun _ hm => by simp at hm⟩
  | v :: vs, hp => by
    obtain ⟨fs, h1, h2, h3⟩ := tri_firsts (vs := vs) fun v' hm => hp v' (List.mem_cons_of_mem _ hm)
    obtain ⟨p, a, o, t, u, t3, n, e, ho, hc, hd⟩ := hp v List.mem_cons_self
    subst e
    refine ⟨.int p.1 t :: fs, PySem.W.KatTups.cons ho hc hd rfl h1, by rw [List.length_cons, List.length_cons, h2], fun f hm => ?_⟩
    rcases List.mem_cons.mp hm with rfl | hm
    · exact ⟨_, t, rfl⟩
    · exact h3 f hm
theorem tri_sortable {a : Addr} {vs : List Value} {k : Value → Tri} (h0 : 0 < vs.length) (hp : ∀ v ∈ vs, IsTri s.heap v (k v)) (ha : ∀ o, s.heap.get? a = some o → o.cls ≠ .type "tuple") : SrtO.SortableO prog w A s a vs fun v u => lexT (k v) (k u) := by
  intro h' keep
  have hp' : ∀ v ∈ vs, IsTri h' v (k v) := fun v hm => (hp v hm).keeps fun b o e c => keep b o (fun z => by subst z; exact ha o e c) e
  obtain ⟨fs, h1, h2, h3⟩ := tri_firsts fun v hm => ⟨_, hp' v hm⟩
  refine ⟨tuples' true, fun Q E hq => PySem.W.kat_kind (T := .type "int") h1 (by omega) (fun f hm => ?_) (by rfl) ?_, tri_cmp hp'⟩
  · obtain ⟨x, t, rfl⟩ := h3 f hm
    exact PySem.W.Looks.now
  · rw [show (Value.type "int" != Value.type "tuple") = true by decide +kernel]; exact hq
theorem sorted_tris {l : Addr} {vs : List Value} {k : Value → Tri} {Q : Value → Shared → Prop} (hl : s.heap.IsList l vs.toArray) (hz : vs.length ≤ sizeLine) (hp : ∀ v ∈ vs, IsTri s.heap v (k v))
    (h : ∀ (h' : Heap) (d : Addr) (out : List Value), SrtO.Srtd (fun v u => lexT (k v) (k u)) out → out.Perm vs → (∀ b o, s.heap.get? b = some o → h'.get? b = some o) → s.heap.objs.size ≤ d → (∃ n, h'.get? d = some (seqObj "list" out.toArray n)) → Q (.ref d) { s with heap := h' }) :
    wpAny (model prog w) A (call (.builtin "sorted") [.ref l]) Q E s := by
  refine SrtO.sorted_ord (swo_T k) hl hz (fun h2 h₁ a ha kk => tri_sortable (s := { s with heap := h₁ }) (by omega) (fun v hm => (hp v hm).keeps fun b o e _ => (kk b o e).2) fun o e c => ?_) fun out hs hb => ?_
  · have e' : some o = some (seqObj "list" vs.toArray 0) := e.symm.trans ha
    cases e'
    exact absurd (Value.type.inj c) (by decide)
  · exact h _ _ out hs hb.perm (fun b o e => sortedAll_old e) (Nat.le_succ _) (sortedAll_at s.heap vs out.toArray)
end
def triV (p : Tri) : List V := [.int p.1, .int p.2.1, .str (sg p.2.2)]
/-- sorted(ties): the same tuples, by their three -/
def rSorted3 (K : PySem.W.Frag) : List V → Hp → VK → Prop := fun vs H Q => ∃ (a : Addr) (es : List (Addr × Tri)), vs = [V.ref a] ∧ SqL K H a (es.map fun e => V.ref e.1) ∧ (∀ e ∈ es, H e.1 = some (.tup (triV e.2))) ∧
  ∀ (es' : List (Addr × Tri)) p, es'.Perm es → (es'.map (·.2)).Pairwise (fun x y => lexT y x = false) → H p = none → Q (.ref p) (upd H p (.lst (es'.map fun e => V.ref e.1)))
section
variable {X : Cx}
theorem cr_sorted3 : CallR X (.builtin "sorted") (rSorted3 X.K) := by
  intro pins s σ H vs us Q I r h
  obtain ⟨a, es, rfl, hs, hx, q⟩ := h
  obtain ⟨its, rv, hl, hz⟩ := I.list hs
  obtain ⟨u, rfl, ru⟩ := vals1 r
  obtain rfl : u = Value.ref a := ru
  -- the items, by their addresses
  have eits : its = es.map fun e => Value.ref e.1 := by
    have : ∀ {xs : List (Addr × Tri)} {us : List Value}, Vals (xs.map fun e => V.ref e.1) us → us = xs.map fun e => Value.ref e.1 := by
      intro xs
      induction xs with
      | nil => intro us r; cases r; rfl
      | cons x xs ih =>
        intro us r
        cases r with
        | cons r1 r2 => rw [ih r2, (show _ = Value.ref x.1 from r1)]; rfl
    exact this rv
  -- the key, read off the heap
  let kA : Addr → Tri := fun b => match H b with
    | some (.tup [.int x, .int y, .str z]) => (x, y, (z.cps.toList.headD 0))
    | _ => (0, 0, 0)
  have kA_eq : ∀ e ∈ es, kA e.1 = e.2 := fun e he => by
    show (match H e.1 with
      | some (.tup [.int x, .int y, .str z]) => (x, y, (z.cps.toList.headD 0))
      | _ => (0, 0, 0)) = e.2
    rw [hx e he]; rfl
  let kV' : Value → Tri := fun v => match v with
    | .ref b => kA b
    | _ => (0, 0, 0)
  refine sorted_tris (k := kV') hl.isList (by rw [← rv.length]; exact hz) (fun v hv => ?_) fun h' d out h1 h2 kp hd hn => ?_
  · rw [eits] at hv
    obtain ⟨e, he, rfl⟩ := List.mem_map.mp hv
    obtain ⟨_, its2, r2, o, ho, hc, n, hd⟩ := I.hok _ _ (hx e he)
    have ek : kV' (Value.ref e.1) = e.2 := kA_eq e he
    rw [ek]
    cases r2 with
    | cons ra rr =>
      cases rr with
      | cons rb rr =>
        cases rr with
        | cons rc rr =>
          cases rr
          obtain ⟨t1, rfl⟩ := ra
          obtain ⟨t2, rfl⟩ := rb
          obtain ⟨t3, rfl⟩ := rc
          exact ⟨e.1, o, t1, t2, t3, n, rfl, ho, hc, hd⟩
  · obtain ⟨n, hn⟩ := hn
    rw [eits] at h2
    have hmem : ∀ v ∈ out, ∃ e ∈ es, v = Value.ref e.1 := fun v hv => by
      obtain ⟨e, he, e'⟩ := List.mem_map.mp (h2.mem_iff.mp hv)
      exact ⟨e, he, e'.symm⟩
    -- back to pairs
    let back : Value → Addr × Tri := fun v => match v with
      | .ref b => (b, kA b)
      | _ => (0, (0, 0, 0))
    have p1 : (out.map back).Perm es := by
      have z := h2.map back
      rw [List.map_map] at z
      have e2 : es.map (back ∘ fun e => Value.ref e.1) = es := by
        conv => rhs; rw [← List.map_id es]
        refine List.map_congr_left fun e he => ?_
        show (e.1, kA e.1) = e
        rw [kA_eq e he]
      rw [e2] at z
      exact z
    have e3 : (out.map back).map (fun e => V.ref e.1) = out.map backV := by
      rw [List.map_map]
      refine List.map_congr_left fun v hv => ?_
      obtain ⟨e, he, rfl⟩ := hmem v hv
      rfl
    have srt : ((out.map back).map (·.2)).Pairwise (fun x y => lexT y x = false) := by
      rw [List.map_map, List.pairwise_map]
      refine h1.imp_of_mem fun {x y} hx' hy' hxy => ?_
      obtain ⟨e, he, rfl⟩ := hmem x hx'
      obtain ⟨e', he', rfl⟩ := hmem y hy'
      exact hxy
    have g := q (out.map back) d p1 srt (I.hok.fresh hd)
    rw [e3] at g
    have hzo : (out.map backV).length ≤ sizeLine := by
      rw [List.length_map, h2.length_eq, List.length_map]
      rw [List.length_map] at hz
      exact hz
    have hvb : Vals (out.map backV) out := vals_back fun u hu => by
      obtain ⟨e, he, rfl⟩ := hmem u hu
      exact ⟨_, rfl⟩
    exact ⟨.ref d, upd H d (.lst (out.map backV)), I.laid (t' := s.toks) kp hd (show ObjOk X.prog X.w _ _ _ (.lst (out.map backV)) from ⟨hzo, out, n, hvb, hn⟩), rfl, g⟩

/-- sorted(d), the keys pairs of whole numbers -/
def rSortedD : List V → Hp → VK → Prop := fun vs H Q => ∃ (d : Addr) (kvs : List (List Key × V)), vs = [V.ref d] ∧ H d = some (.dT kvs) ∧ (∀ p ∈ kvs, ∃ i j : Int, p.1 = [.inl i, .inl j]) ∧
  ∀ (es : List (Addr × Int × Int)) p, (es.map fun e => ([.inl e.2.1, .inl e.2.2] : List Key)).Perm (kvs.map (·.1)) → (∀ e ∈ es, H e.1 = some (.tup [.int e.2.1, .int e.2.2])) → (es.map (·.2)).Pairwise (fun x y => SrtO.lexB y x = false) → H p = none → Q (.ref p) (upd H p (.lst (es.map fun e => V.ref e.1)))
theorem cr_sortedD (hc : X.calm = true) : CallR X (.builtin "sorted") rSortedD := by
  intro pins s σ H vs us Q I r h
  obtain ⟨d, kvs, rfl, hd, hk, q⟩ := h
  obtain ⟨u, rfl, ru⟩ := vals1 r
  obtain rfl : u = Value.ref d := ru
  obtain ⟨z, lo, ks, pr, o, es0, ep, ho, hx, hdt, he, hn⟩ := (show ObjOk X.prog X.w H s.heap d (.dT kvs) from I.hok d _ hd)
  have l1 : es0.size = ks.length := size_of_entries he
  have l2 : kvs.length = ks.length := Paired.length pr
  refine Calls.call_function_entry PyProof.Rows.kind_sorted PyProof.Rows.plain_sorted PyProof.Rows.entry_sorted (PyProof.Rows.args_sorted1 _) ?_; unfold Builtin.«sorted»
  refine wpAny_bind (m := checkCount "sorted" 1 1 _) (wpAny_pure (wpAny_bind (PySem.W.kdu_collect (A := X.A.in1) (kdl_raw lo hx hdt) (I.ok.hd hc) ho (by omega) fun h' tk acc hk' hacc => ?_)))
  -- the collected keys
  have ea : acc.toList = ks.map fun x => Value.ref x.2.1 := by
    have hl : acc.toList.length = ks.length := by rw [Array.length_toList, hacc.1]; exact l1
    refine List.ext_getElem? fun j => ?_
    rw [List.getElem?_map]
    cases hj : acc.toList[j]? with
    | none => rw [List.getElem?_eq_none (by have := List.getElem?_eq_none_iff.mp hj; omega)]; rfl
    | some v =>
      obtain ⟨en, hen, hv⟩ := hacc.2 j v (by rw [← Array.getElem?_toList]; exact hj)
      have qe := entry_at he j
      rw [hen] at qe
      cases hb : ks[j]? with
      | none => rw [hb] at qe; cases qe
      | some b =>
        rw [hb] at qe
        have e2 : en = entryOfKey (tupleKind (mixKind X.prog X.w)) b := Option.some.inj qe
        rw [hv, e2]; rfl
  have pk : ∀ x ∈ ks, ∃ i j : Int, x.1 = [.inl i, .inl j] ∧ H x.2.1 = some (.tup [.int i, .int j]) := by
    have go : ∀ {kvs : List (List Key × V)} {ks : List (List Key × Addr × Value)}, Paired (fun (p : List Key × V) (q : List Key × Addr × Value) => p.1 = q.1 ∧ H q.2.1 = some (.tup (p.1.map kV)) ∧ RelV p.2 q.2.2) kvs ks → (∀ p ∈ kvs, ∃ i j : Int, p.1 = [.inl i, .inl j]) → ∀ x ∈ ks, ∃ i j : Int, x.1 = [.inl i, .inl j] ∧ H x.2.1 = some (.tup [.int i, .int j]) := by
      intro kvs ks pr
      induction pr with
      | nil => intro _ x hx; simp at hx
      | cons a _ ih =>
        intro hk x hx
        rcases List.mem_cons.mp hx with rfl | hx
        · obtain ⟨i, j, e⟩ := hk _ List.mem_cons_self
          refine ⟨i, j, a.1.symm.trans e, ?_⟩
          have := a.2.1
          rw [e] at this
          exact this
        · exact ih (fun p hp => hk p (List.mem_cons_of_mem _ hp)) x hx
    exact go pr hk
  have ek : ks.map (·.1) = kvs.map (·.1) := by
    have go : ∀ {kvs : List (List Key × V)} {ks : List (List Key × Addr × Value)}, Paired (fun (p : List Key × V) (q : List Key × Addr × Value) => p.1 = q.1 ∧ H q.2.1 = some (.tup (p.1.map kV)) ∧ RelV p.2 q.2.2) kvs ks → ks.map (·.1) = kvs.map (·.1) := by
      intro kvs ks pr
      induction pr with
      | nil => rfl
      | cons a _ ih => rw [List.map_cons, List.map_cons, ih, a.1]
    exact go pr
  let kA : Addr → Int × Int := fun b => match H b with
    | some (.tup [.int x, .int y]) => (x, y)
    | _ => (0, 0)
  have kA_eq : ∀ {b : Addr} {i j : Int}, H b = some (.tup [.int i, .int j]) → kA b = (i, j) := fun {b i j} e => by
    show (match H b with
      | some (.tup [.int x, .int y]) => (x, y)
      | _ => (0, 0)) = (i, j)
    rw [e]
  let kW : Value → Int × Int := fun v => match v with
    | .ref b => kA b
    | _ => (0, 0)
  have I1 : Inv X pins σ H { s with heap := h', toks := tk } := I.kept hk'
  have hal : acc.toList.length ≤ sizeLine := by rw [ea, List.length_map]; omega
  refine wpAny_bind (wpAny_newList ?_ hal)
  have hoL : (h'.push (seqObj "list" acc.toList.toArray 0)).get? h'.objs.size = some (seqObj "list" acc.toList.toArray 0) := Heap.get?_push_size _ rfl
  have hpair : ∀ v ∈ acc.toList, Srt.IsPair (h'.push (seqObj "list" acc.toList.toArray 0)) v (kW v).1 (kW v).2 := fun v hv => by
    rw [ea] at hv
    obtain ⟨x, hx', rfl⟩ := List.mem_map.mp hv
    obtain ⟨i, j, _, e⟩ := pk x hx'
    obtain ⟨_, its2, r2, o', ho', hc', n', hd'⟩ := I1.hok _ _ e
    have e2 : kW (Value.ref x.2.1) = (i, j) := kA_eq e
    rw [e2]
    obtain ⟨u1, u2, rfl, ⟨t1, rfl⟩, ⟨t2, rfl⟩⟩ := vals2 r2
    exact ⟨x.2.1, o', t1, t2, n', rfl, Heap.get?_push_of_some _ ho', hc', hd'⟩
  show wpAny _ _ _ _ _ { s with heap := h'.push (seqObj "list" acc.toList.toArray 0), toks := tk }
  refine wpAny_bind (wpAny_holding (wpAny_call_entry PyProof.Rows.slot_list_sort ⟨_, hoL, rfl⟩ PyProof.Rows.entry_list_sort
    (SrtO.list_sort_ord (s := { s with heap := h'.push (seqObj "list" acc.toList.toArray 0), toks := tk }) (SrtO.swo_lex kW) hoL hal (fun h2 => SrtO.pairs_sortableO (by omega) hpair fun o e c => ?_) fun out hs hb => ⟨_, rfl, ?_⟩) (PyProof.Rows.args_list_sort _)))
  · have e' : some o = some (seqObj "list" acc.toList.toArray 0) := e.symm.trans hoL
    cases e'
    exact absurd (Value.type.inj c) (by decide)
  obtain ⟨n, hn2⟩ := PyProof.Rows.sortedHeap_at (vs := acc.toList) (out := out.toArray) hoL
  have h2 := hb.perm
  rw [ea] at h2
  have hmem : ∀ v ∈ out, ∃ x ∈ ks, v = Value.ref x.2.1 := fun v hv => by
    obtain ⟨x, hx', e'⟩ := List.mem_map.mp (h2.mem_iff.mp hv)
    exact ⟨x, hx', e'.symm⟩
  let back : Value → Addr × Int × Int := fun v => match v with
    | .ref b => (b, kA b)
    | _ => (0, (0, 0))
  have g := q (out.map back) h'.objs.size (by
      have z := h2.map fun v => ([.inl (back v).2.1, .inl (back v).2.2] : List Key)
      rw [List.map_map] at z
      have e2 : ks.map ((fun v => ([.inl (back v).2.1, .inl (back v).2.2] : List Key)) ∘ fun x => Value.ref x.2.1) = ks.map (·.1) := by
        refine List.map_congr_left fun x hx' => ?_
        obtain ⟨i, j, e3, e4⟩ := pk x hx'
        show ([.inl (kA x.2.1).1, .inl (kA x.2.1).2] : List Key) = x.1
        rw [kA_eq e4, e3]
      rw [e2, ek] at z
      rw [List.map_map]
      exact z) (fun e he' => by
      obtain ⟨v, hv, rfl⟩ := List.mem_map.mp he'
      obtain ⟨x, hx', rfl⟩ := hmem v hv
      obtain ⟨i, j, e3, e4⟩ := pk x hx'
      show H x.2.1 = some (.tup [.int (kA x.2.1).1, .int (kA x.2.1).2])
      rw [kA_eq e4, e4]) (by
      rw [List.map_map, List.pairwise_map]
      refine hs.imp_of_mem fun {x y} hx' hy' hxy => ?_
      obtain ⟨e1, _, rfl⟩ := hmem x hx'
      obtain ⟨e2, _, rfl⟩ := hmem y hy'
      exact hxy) (I1.hok.fresh (Nat.le_refl _))
  have e3 : (out.map back).map (fun e => V.ref e.1) = out.map backV := by
    rw [List.map_map]
    refine List.map_congr_left fun v hv => ?_
    obtain ⟨e, he', rfl⟩ := hmem v hv
    rfl
  rw [e3] at g
  have hzo : (out.map backV).length ≤ sizeLine := by
    rw [List.length_map, h2.length_eq, List.length_map]; omega
  have hvb : Vals (out.map backV) out := vals_back fun u hu => by
    obtain ⟨e, _, rfl⟩ := hmem u hu
    exact ⟨_, rfl⟩
  refine wpAny_pure ⟨_, rfl, .ref h'.objs.size, upd H h'.objs.size (.lst (out.map backV)), I1.laid (t' := tk) (fun b u e => ?_) (Nat.le_refl _) (show ObjOk X.prog X.w _ _ _ (.lst (out.map backV)) from ⟨hzo, out, n, hvb, hn2⟩), rfl, g⟩
  have hb' : b < h'.objs.size := Heap.lt_size e
  rw [PyProof.Rows.sortedHeap_old (Nat.ne_of_lt hb') (by rw [size_push']; exact Nat.lt_succ_of_lt hb')]; exact Heap.get?_push_of_some _ e

/-- d.pop(k), k a tuple that is there -/
def rPop1 : V → List V → Hp → VK → Prop := fun x xs H Q => ∃ (a : Addr) (kvs : List (List Key × V)) (k : List Key) (b : Addr) (v : V), x = .ref a ∧ xs = [.ref b] ∧ H a = some (.dT kvs) ∧ H b = some (.tup (k.map kV)) ∧ valV kvs k = some v ∧ Q v (upd H a (.dT (dropK kvs k)))
end
section
variable {prog : Program} {w : World} {K : Type} [DecidableEq K] {knd : HeapKind prog w K}
theorem meets_pop1 {d b : Addr} {k : K} (hd : (d == sysModules) = false) :
    MeetsIn prog w (Builtin.«dict.pop» ⟨[.ref d, .ref b], []⟩) (fun A R s => ∃ xs p0, knd.room A.in1 ∧ knd.is s.heap k b ∧ s.heap.DictOfH knd d xs ∧ xs.length ≤ sizeLine ∧ atKey xs k = some p0 ∧
      ∀ p, atKey xs k = some p → ∀ h' tk, h'.DictOfH knd d (DT.dropH xs k) → Heap.SameBut d s.heap h' → R (.ok (.ret p.2)) { s with heap := h', toks := tk }) :=
  .of_wp fun A R s ⟨xs, p0, hu, hkey, hm, hsz, hp0, hsome⟩ => by
    obtain ⟨o, es, ep, ho, hc, hdat, he, his, hn⟩ := id hm
    have hes : es.size = xs.length := size_of_entries he
    have hne : xs ≠ [] := fun z => by rw [z] at hp0; cases hp0
    have hem : es.isEmpty = false := by
      cases q : es.isEmpty with
      | false => rfl
      | true =>
        have z : es.size = 0 := by simpa using q
        exact absurd (List.length_eq_zero_iff.mp (by omega)) hne
    unfold Builtin.«dict.pop»
    refine wpAny_bind ?_; unfold Builtin.Dict.keyAndDefault
    refine wpAny_bind (wpAny_notOrdered_dict hm.typeIs ?_)
    show wpAny _ _ (pure (d, Value.ref b, (none : Option Value))) _ _ s
    refine wpAny_pure ?_
    simp only [show (keyPart (Value.ref b)).isSome = false from rfl, Bool.false_eq_true, if_false]
    refine wpAny_bind (wpAny_dictEntries ho hdat (wpAny_bind (wpAny_pure ?_)))
    simp only [hem, Bool.false_eq_true, if_false]
    refine wpAny_bind (DT.takeH hu hkey hm hsz (fun hno => ?_) fun p e hp hev h' hm' hs' => ?_)
    · rw [hno] at hp0; cases hp0
    · simp only [Option.isNone_some, Bool.false_eq_true, if_false]
      exact wpAny_bind (wpAny_letGo (wpAny_pure ⟨e.val, rfl, by rw [hev]; exact hsome p hp h' _ hm' hs'⟩))
end
section
variable {X : Cx}
theorem mt_pop1T (hu : X.A.units + 1 < cLine) : MtR X "dict.pop" rPop1 := by
  intro pins s σ H x xs v us Q I rx rxs h
  obtain ⟨a, kvs, k, b, v0, rfl, rfl, ha, hb, hv0, q⟩ := h
  cases rx
  obtain ⟨u1, rfl, r1⟩ := vals1 rxs
  cases r1
  obtain ⟨z, hd, xs', rel, dd⟩ := dt_of I.hok ha
  have hz : xs'.length ≤ sizeLine := by rw [← Paired.length rel]; exact z
  have r := rel.val k
  rw [hv0] at r
  obtain ⟨p0, hp0, rv⟩ : ∃ p0, atKey xs' k = some p0 ∧ RelV v0 p0.2 := by
    cases ev : atKey xs' k with
    | none => rw [ev] at r; exact (show False from r).elim
    | some p0 => rw [ev] at r; exact ⟨p0, rfl, r⟩
  refine call_meetsIn PySem.F.slot_dict_pop dd.typeIs PySem.F.entry_dict_pop (PySem.F.args_dict_pop_2 _ _) (meets_pop1 (knd := tupleKind (mixKind X.prog X.w)) (k := k) hd) ⟨xs', p0, tupleKind_room_in1 hu, key_of I.hok hb, dd, hz, hp0, fun p hp h' tk dd' hs => ?_⟩
  rw [hp0] at hp
  cases hp
  obtain ⟨o, es, ep, hq, h2, h3, h4, _, h5⟩ := dd'
  have I2 : Inv X pins σ (upd H a (.dT (dropK kvs k))) { s with heap := h', toks := tk } :=
    d_write I (by rw [ha]; exact True.intro) hs ⟨o, hq⟩ ⟨Nat.le_trans (dropK_le kvs k) z, hd, _, (L2.DX.KT_drop k rel).keeps (fun c ys ec => (by rw [upd_ne (ne_of ec ha (fun z => nomatch z))]; exact ec)), o, es, ep, hq, h2, h3, h4, h5⟩
  show EP X pins σ Q p0.2 _
  exact ⟨v0, _, I2, rv, q⟩
end
/-- a text's signs with their places -/
def Itse (x : Str) : It := ⟨fun i _ => i < x.cps.size, fun i H v H' => ∃ T c, v = .ref T ∧ H T = none ∧ H' = upd H T (.tup [.int (i : Nat), .str ⟨#[c]⟩]) ∧ x.cps[i]? = some c, fun i _ => x.cps.size ≤ i⟩
theorem turn_enumS {P : Program} {w : World} {K : PySem.W.Frag} {elts : List Expr} {kk : Nat} {tpos : Pos} (e it : Addr) (x : Str) (t : Tok) (ty : String) (hty : ty = "str_ascii_iterator" ∨ ty = "str_iterator") :
    Turn P w K (.Tuple elts kk tpos) (Itse x) [e, it] e (fun i h => (∃ old, IsEnum h e it i old) ∧ h.IsStrIter it ty x t i ∧ e ≠ it ∧ i ≤ x.cps.size) where
  mem := by simp
  obj := fun i h st b hb => by
    obtain ⟨⟨old, he⟩, ⟨o, ho, hc, hd⟩, _⟩ := st
    have e' : b = e ∨ b = it := by simpa using hb
    rcases e' with z | z
    · rw [z]; exact ⟨_, he, fun v q => nomatch q⟩
    · rw [z]; exact ⟨o, ho, fun v q => by rw [hd] at q; cases q⟩
  keep := fun i h h' st k => by
    obtain ⟨⟨old, he⟩, ⟨o, ho, r⟩, hne⟩ := st
    exact ⟨⟨old, k e (by simp) _ he⟩, ⟨o, k it (by simp) o ho, r⟩, hne⟩
  item := by
    intro X hP hw hK hc i pins s σ H E I hf st hg
    subst hP hw hK
    obtain ⟨⟨old, he⟩, hit, hne, hi⟩ := st
    have hg' : i < x.cps.size := hg
    have hel : e < s.heap.objs.size := Heap.lt_size he
    have hil : it < s.heap.objs.size := by obtain ⟨_, q, _⟩ := hit; exact Heap.lt_size q
    have D : Draws X.prog X.w X.A.in1 it [it] x.cps.size (fun i v => ∃ c u, x.cps[i]? = some c ∧ v = .str ⟨#[c]⟩ u) (fun i h => h.IsStrIter it ty x t i) := by
      rcases hty with z | z
      · rw [z]; exact Draws.strAscii (A := X.A.in1) (I.ok.hd hc) it x t
      · rw [z]; exact Draws.strWide (A := X.A.in1) (I.ok.hd hc) it x t
    refine wpAny_pyNext_enum_itemD D he hit hg hne (by simpa using hne) fun v h' tk hv ho hit' hT hsz hk => ?_
    obtain ⟨c, u, hcx, rfl⟩ := hv
    refine ⟨_, rfl, wpAny_letOwnedTupleGo_enum (s := { s with heap := h', toks := tk + 1 }) ho fun h'' he' sb => ?_⟩
    have hT2 : h''.get? s.heap.objs.size = some { cls := .type "tuple", data := .seq #[.int i tk, .str ⟨#[c]⟩ u] } := (sb.2 _ (Nat.ne_of_gt hel)).trans hT
    have new : ObjOk X.prog X.w (upd H s.heap.objs.size (.tup [.int (i : Nat), .str ⟨#[c]⟩])) h'' s.heap.objs.size (.tup [.int (i : Nat), .str ⟨#[c]⟩]) :=
      ⟨(by show 2 ≤ sizeLine; decide), [.int i tk, .str ⟨#[c]⟩ u], .cons ⟨_, rfl⟩ (.cons ⟨u, rfl⟩ .nil), ⟨_, hT2, rfl, _, rfl⟩⟩
    have I1 : Inv X pins σ (upd H s.heap.objs.size (.tup [.int (i : Nat), .str ⟨#[c]⟩])) { s with heap := h'', toks := tk + 1 } :=
      I.turnedNew (ch := [e, it]) (fun b ob hb q => (sb.2 b (fun z => hb (by simp [z]))).trans (hk b ob (fun z => hb (by simp [z])) (fun z => hb (by simp [z])) q)) hf (Nat.le_refl _) new
    refine ⟨.ref s.heap.objs.size, _, I1, rfl, ⟨_, c, rfl, I.hok.fresh (Nat.le_refl _), rfl, hcx⟩, ⟨⟨.str ⟨#[c]⟩ u, ?_⟩, (by obtain ⟨o, a, b⟩ := hit'; exact ⟨o, (sb.2 it (Ne.symm hne)).trans a, b⟩), hne, hg'⟩, fun b hb => ?_⟩
    · rw [show ((i + 1 : Nat) : Int) = (i : Int) + 1 by omega]; exact he'
    · have hb' : b < s.heap.objs.size := by
        have z : b = e ∨ b = it := by simpa using hb
        rcases z with z | z
        · rw [z]; exact hel
        · rw [z]; exact hil
      rw [upd_ne (Nat.ne_of_lt hb')]; exact (hf b hb).1
  done := by
    intro X hP hw hK hc i pins s σ H E I hf st hg
    subst hP hw hK
    obtain ⟨⟨old, he⟩, hit, hne, hi⟩ := st
    have hg' : x.cps.size ≤ i := hg
    obtain rfl : i = x.cps.size := by omega
    have D : Draws X.prog X.w X.A.in1 it [it] x.cps.size (fun i v => ∃ c u, x.cps[i]? = some c ∧ v = .str ⟨#[c]⟩ u) (fun i h => h.IsStrIter it ty x t i) := by
      rcases hty with z | z
      · rw [z]; exact Draws.strAscii (A := X.A.in1) (I.ok.hd hc) it x t
      · rw [z]; exact Draws.strWide (A := X.A.in1) (I.ok.hd hc) it x t
    obtain ⟨f0, f1, f2, f3, f4, f5⟩ := hf it (by simp)
    exact wpAny_pyNext_enum_endD D he hit fun h' eb => ⟨rfl, I.turned (t' := s.toks) (fun b o hb q => eb b o hb q) f0 f1 f3 f4 f5⟩
  self := fun A i s Q E st h => by
    obtain ⟨⟨old, he⟩, _, _⟩ := st
    exact wpAny_pyIter_enum he h
def iEnumS (ta : TA) : TI := fun σ H R => ta σ H fun vs H1 => ∃ x, vs = [.str x] ∧ R (Itse x) H1
theorem strIter_ty (x : Str) : strIterType x = "str_ascii_iterator" ∨ strIterType x = "str_iterator" := by
  unfold strIterType
  cases x.cps.all (· < 128)
  · exact .inr rfl
  · exact .inl rfl
theorem pi_enumS {X : Cx} {e : Expr} {ta : TA} {p pos tpos : Pos} {elts : List Expr} {kk : Nat} (hg : Gl X "enumerate") (hm : X.mg "enumerate" = none) (ha : PA X [e] ta) (hs : starEach [e] X.env = [(false, eval e X.env)] := by rfl) :
    PI X (.Tuple elts kk tpos) (.Call (.Name "enumerate" p) [e] [] pos) (iEnumS ta) := by
  refine ⟨fun pins s σ H R I h => Call_ (ld_blt I hg hm boot_enumerate (PyProof.Rows.callWith_type1 (thn (ha.run pos pins s σ H _ I h) fun us s1 ⟨vs, H1, I1, r1, q1⟩ => ?_) hs rfl))⟩
  obtain ⟨x, ex, q⟩ := q1
  subst ex
  cases r1 with
  | cons r rr =>
    cases rr
    obtain ⟨t, rfl⟩ := r
    refine call_enumerate_str fun h' he hit hsz hk => wpAny_pyIter_enum he ?_
    have I2 : Inv X pins σ H1 { s1 with heap := h' } := I1.kept (t' := s1.toks) hk
    refine ⟨s1.heap.objs.size + 1, [s1.heap.objs.size + 1, s1.heap.objs.size], _, _, H1, rfl, I2, turn_enumS (s1.heap.objs.size + 1) s1.heap.objs.size x t (strIterType x) (strIter_ty x), ⟨⟨.none, he⟩, hit, Nat.succ_ne_self _, Nat.zero_le _⟩, fun b hb => ?_, q⟩
    have hle : s1.heap.objs.size ≤ b := by
      have z : b = s1.heap.objs.size + 1 ∨ b = s1.heap.objs.size := by simpa using hb
      rcases z with z | z
      · rw [z]; exact Nat.le_add_right _ _
      · rw [z]; exact Nat.le_refl _
    exact I1.fpOk hle (I1.hok.fresh hle)
theorem walk_enumS {z : Str} : Walk (Itse z) z.cps.size (fun _ => True) (YPair (fun i => some (.int (i : Nat))) (fun i => z.cps[i]?.map fun c => V.str ⟨#[c]⟩)) := by
  refine ⟨fun _ _ hi _ => hi, fun _ _ => Nat.le_refl _, fun i H v H' _ _ y => ?_⟩
  obtain ⟨T, c, h1, h2, h3, h4⟩ := y
  exact ⟨T, .int (i : Nat), .str ⟨#[c]⟩, h1, h2, h3, rfl, by show (z.cps[i]?).map _ = _; rw [h4]; rfl⟩
theorem d_iEnS {ta : TA} {σ : L2.St} {H : Hp} {R : It → Hp → Prop} (h : ta σ H fun vs H1 => ∃ x, vs = [.str x] ∧ R (Itse x) H1) : iEnumS ta σ H R := h
theorem d_iEnSe {C : Str → Prop} {z : Str} (q : C z) : ∃ x, [V.str z] = [.str x] ∧ C x := ⟨z, rfl, q⟩
theorem d_iEn {K : PySem.W.Frag} {ta : TA} {σ : L2.St} {H : Hp} {R : It → Hp → Prop} (h : ta σ H fun vs H1 => ∃ a xs, vs = [.ref a] ∧ SqL K H1 a xs ∧ R (Ite K a) H1) : iEnum K ta σ H R := h
end Cw

namespace Cw
open PySem PySem.Spec PyProof.Rows L2
theorem erase_map {α β : Type} (f : α → β) : ∀ (l : List α) (m : Nat), (l.map f).eraseIdx m = (l.eraseIdx m).map f
  | [], m => by simp
  | _ :: _, 0 => rfl
  | x :: l, m + 1 => by
    show f x :: (l.map f).eraseIdx m = f x :: (l.eraseIdx m).map f
    rw [erase_map f l m]
theorem erase_perm {α : Type} : ∀ (l : List α) (m : Nat) (h : m < l.length), (l[m] :: l.eraseIdx m).Perm l
  | [], m, h => absurd h (Nat.not_lt_zero _)
  | x :: l, 0, _ => List.Perm.refl _
  | x :: l, m + 1, h => by
    have hm : m < l.length := Nat.lt_of_succ_lt_succ h
    have ih := erase_perm l m hm
    exact (List.Perm.swap x l[m] _).trans (ih.cons x)
/-- as many different numbers below n as there are, at most -/
theorem nodup_len : ∀ (n : Nat) (l : List Nat), l.Nodup → (∀ x ∈ l, x < n) → l.length ≤ n
  | 0, l, _, h => by
    cases l with
    | nil => exact Nat.le_refl _
    | cons x r => exact absurd (h x List.mem_cons_self) (Nat.not_lt_zero _)
  | n + 1, l, hn, h => by
    by_cases hm : n ∈ l
    · have ih := nodup_len n (l.erase n) (hn.erase n) fun x hx => by
        have h1 := h x (List.mem_of_mem_erase hx)
        have h2 : x ≠ n := fun z => by
          subst z
          exact absurd hx (List.Nodup.not_mem_erase hn)
        omega
      rw [List.length_erase_of_mem hm] at ih
      omega
    · have ih := nodup_len n l hn fun x hx => by
        have h1 := h x hx
        have h2 : x ≠ n := fun z => hm (z ▸ hx)
        omega
      omega
/-! ### places called otherwise -/
def qa (qs : List Nat) (p : Nat) : Nat := qs.getD p 0
def mapTie (qs : List Nat) (t : Tie) : Tie := (min (qa qs t.1) (qa qs t.2.1), max (qa qs t.1) (qa qs t.2.1), t.2.2)
theorem qa_at {qs : List Nat} {p : Nat} (h : p < qs.length) : qs[p]? = some (qa qs p) := by
  unfold qa
  rw [List.getD_eq_getElem?_getD, List.getElem?_eq_getElem h]; rfl
structure Ord (qs : List Nat) (n : Nat) : Prop where
  len : qs.length = n
  nd : qs.Nodup
  lt : ∀ q ∈ qs, q < n
  all : ∀ j, j < n → j ∈ qs
theorem Ord.of {qs : List Nat} {n : Nat} (p : qs.Perm (List.range n)) : Ord qs n :=
  ⟨by rw [p.length_eq, List.length_range], p.nodup_iff.mpr List.nodup_range, fun q hq => List.mem_range.mp (p.mem_iff.mp hq), fun j hj => p.mem_iff.mpr (List.mem_range.mpr hj)⟩
theorem Ord.inj {qs : List Nat} {n p r : Nat} (o : Ord qs n) (hp : p < n) (hr : r < n) (h : qa qs p = qa qs r) : p = r := by
  have h1 : p < qs.length := by rw [o.len]; exact hp
  have h2 : r < qs.length := by rw [o.len]; exact hr
  have e1 := qa_at h1
  have e2 := qa_at h2
  rw [List.getElem?_eq_getElem h1] at e1
  rw [List.getElem?_eq_getElem h2] at e2
  exact (List.getElem_inj o.nd).mp ((Option.some.inj e1).trans (h.trans (Option.some.inj e2).symm))
theorem Ord.lt' {qs : List Nat} {n p : Nat} (o : Ord qs n) (hp : p < n) : qa qs p < n := o.lt _ (List.mem_of_getElem? (qa_at (by rw [o.len]; exact hp)))
theorem Ord.onto {qs : List Nat} {n j : Nat} (o : Ord qs n) (hj : j < n) : ∃ p, p < n ∧ qa qs p = j := by
  obtain ⟨p, hp⟩ := List.mem_iff_getElem?.mp (o.all j hj)
  have h1 : p < qs.length := (List.getElem?_eq_some_iff.mp hp).1
  rw [qa_at h1] at hp
  exact ⟨p, by rw [← o.len]; exact h1, Option.some.inj hp⟩
def ends (t : Tie) : Nat × Nat := (t.1, t.2.1)
structure Named (w : Web) (qs : List Nat) (w' : Web) : Prop where
  len : w'.1.length = w.1.length
  kinds : ∀ p, p < w.1.length → w'.1[qa qs p]? = w.1[p]?
  ties : w'.2.Perm (w.2.map (mapTie qs))
theorem mapTie_ends {w : Web} {qs : List Nat} (W : WOk w) (o : Ord qs w.1.length) : (w.2.map (mapTie qs)).Pairwise (fun x y => ends x ≠ ends y) := by
  rw [List.pairwise_map]
  refine List.Pairwise.imp_of_mem (fun {t u} ht hu lt e => ?_) W.rise
  have r1 := W.ends t ht
  have r2 := W.ends u hu
  unfold ends mapTie at e
  simp only [Prod.mk.injEq] at e
  obtain ⟨e1, e2⟩ := e
  by_cases c : qa qs t.1 = qa qs u.1
  · have a := o.inj (by omega) (by omega) c
    have c2 : qa qs t.2.1 = qa qs u.2.1 := by omega
    have b := o.inj (by omega) (by omega) c2
    rcases lt with z | ⟨_, z⟩ <;> omega
  · have c1 : qa qs t.1 = qa qs u.2.1 := by omega
    have c2 : qa qs t.2.1 = qa qs u.1 := by omega
    have a := o.inj (by omega) (by omega) c1
    have b := o.inj (by omega) (by omega) c2
    omega
/-- sorted ties of different ends rise -/
theorem rise_of {ts : List Tie} (s : ts.Pairwise (fun x y => lexT ((y.1 : Int), (y.2.1 : Int), y.2.2) ((x.1 : Int), (x.2.1 : Int), x.2.2) = false)) (d : ts.Pairwise (fun x y => ends x ≠ ends y)) : ts.Pairwise tlt := by
  refine (s.and d).imp fun {x y} h => ?_
  obtain ⟨h1, h2⟩ := h
  have a := lexT_no.mp h1
  unfold ends at h2
  simp only [ne_eq, Prod.mk.injEq, not_and] at h2
  dsimp only at a
  unfold tlt
  by_cases c : x.1 = y.1
  · have := h2 c
    right
    omega
  · left
    omega
theorem named_ok {w w' : Web} {qs : List Nat} (W : WOk w) (o : Ord qs w.1.length) (N : Named w qs w') (s : w'.2.Pairwise (fun x y => lexT ((y.1 : Int), (y.2.1 : Int), y.2.2) ((x.1 : Int), (x.2.1 : Int), x.2.2) = false)) : WOk w' := by
  refine ⟨by rw [N.len]; exact W.few, by rw [N.ties.length_eq, List.length_map]; exact W.most, fun c hc => ?_, rise_of s ?_, fun t ht => ?_⟩
  · obtain ⟨j, hj⟩ := List.mem_iff_getElem?.mp hc
    have hj' : j < w.1.length := by rw [← N.len]; exact (List.getElem?_eq_some_iff.mp hj).1
    obtain ⟨p, hp, rfl⟩ := o.onto hj'
    rw [N.kinds p hp] at hj
    exact W.kinds c (List.mem_of_getElem? hj)
  · exact (List.Perm.pairwise_iff (fun {x y} h => h.symm) N.ties).mpr (mapTie_ends W o)
  · obtain ⟨u, hu, rfl⟩ := List.mem_map.mp (N.ties.mem_iff.mp ht)
    have r := W.ends u hu
    have a := o.lt' (p := u.1) (by omega)
    have b := o.lt' (p := u.2.1) (by omega)
    have n : qa qs u.1 ≠ qa qs u.2.1 := fun z => by
      have := o.inj (by omega) (by omega) z
      omega
    refine ⟨?_, ?_, r.2.2⟩
    · show min _ _ < max _ _; omega
    · show max _ _ < w'.1.length; rw [N.len]; omega
theorem flat_rep (n : Nat) (x : V) : (List.replicate n [x]).flatten = List.replicate n x := by
  induction n with
  | zero => rfl
  | succ n ih => rw [List.replicate_succ, List.flatten_cons, ih, List.replicate_succ]; rfl
end Cw

namespace Cw
open PySem PySem.Spec PyProof.Rows L2
/-! ### a dict of ties by their ends -/
def kE (a b : Int) : List Key := [.inl a, .inl b]
structure DictOk (n : Nat) (kvs : List (List Key × V)) : Prop where
  nd : (kvs.map (·.1)).Nodup
  ok : ∀ p ∈ kvs, ∃ a b c : Nat, p = (kE a b, V.str (sg c)) ∧ a < b ∧ b < n ∧ Ltr c
theorem DictOk.nil (n : Nat) : DictOk n [] := ⟨List.nodup_nil, fun p hp => by simp at hp⟩
theorem valV_mem {kvs : List (List Key × V)} {k : List Key} {v : V} (h : valV kvs k = some v) : (k, v) ∈ kvs := by
  unfold valV at h
  obtain ⟨p, hp, rfl⟩ := Option.map_eq_some_iff.mp h
  have h1 := List.find?_some hp
  have h2 := List.mem_of_find?_eq_some hp
  have e : p.1 = k := of_decide_eq_true h1
  subst e
  exact h2
theorem DictOk.at {n : Nat} {kvs : List (List Key × V)} (d : DictOk n kvs) {k : List Key} {v : V} (h : valV kvs k = some v) : ∃ a b c : Nat, k = kE a b ∧ v = V.str (sg c) ∧ a < b ∧ b < n ∧ Ltr c := by
  obtain ⟨a, b, c, e, r⟩ := d.ok _ (valV_mem h)
  cases e
  exact ⟨a, b, c, rfl, rfl, r⟩
theorem DictOk.put {n : Nat} {kvs : List (List Key × V)} (d : DictOk n kvs) {a b c : Nat} (h1 : a < b) (h2 : b < n) (h3 : Ltr c) : DictOk n (putK kvs (kE a b) (.str (sg c))) := by
  unfold putK
  by_cases h : (kvs.any fun kv => decide (kv.1 = kE a b)) = true
  · rw [if_pos h]
    refine ⟨?_, fun p hp => ?_⟩
    · rw [List.map_map]
      have e : kvs.map ((·.1) ∘ fun kv => if kv.1 = kE a b then (kv.1, V.str (sg c)) else kv) = kvs.map (·.1) := by
        refine List.map_congr_left fun x _ => ?_
        show (if x.1 = kE a b then (x.1, V.str (sg c)) else x).1 = x.1
        split <;> rfl
      rw [e]
      exact d.nd
    · obtain ⟨x, hx, rfl⟩ := List.mem_map.mp hp
      by_cases e : x.1 = kE a b
      · rw [if_pos e, e]
        exact ⟨a, b, c, rfl, h1, h2, h3⟩
      · rw [if_neg e]
        exact d.ok x hx
  · rw [if_neg h]
    have hno : kE a b ∉ kvs.map (·.1) := fun hm => by
      obtain ⟨x, hx, e⟩ := List.mem_map.mp hm
      exact h (List.any_eq_true.mpr ⟨x, hx, decide_eq_true e⟩)
    refine ⟨?_, fun p hp => ?_⟩
    · rw [List.map_append]
      exact List.nodup_append.mpr ⟨d.nd, by simp, fun x hx y hy => by rw [List.mem_singleton.mp hy]; intro z; exact hno (by rw [← (show x = kE a b from z)]; exact hx)⟩
    · rcases List.mem_append.mp hp with hp | hp
      · exact d.ok p hp
      · rw [List.mem_singleton.mp hp]
        exact ⟨a, b, c, rfl, h1, h2, h3⟩
theorem DictOk.drop {n : Nat} {kvs : List (List Key × V)} (d : DictOk n kvs) (k : List Key) : DictOk n (dropK kvs k) :=
  ⟨d.nd.sublist ((List.filter_sublist).map _), fun p hp => d.ok p (List.mem_filter.mp hp).1⟩
theorem valV_drop {kvs : List (List Key × V)} {k j : List Key} (h : j ≠ k) : valV (dropK kvs k) j = valV kvs j := by
  unfold valV dropK
  congr 1
  induction kvs with
  | nil => rfl
  | cons x kvs ih =>
    by_cases e : x.1 = k
    · have e2 : ¬ x.1 = j := fun z => h (z.symm.trans e)
      rw [List.filter_cons_of_neg (by simp [e]), List.find?_cons_of_neg (by simp [e2])]
      exact ih
    · rw [List.filter_cons_of_pos (by simp [e])]
      by_cases e2 : x.1 = j
      · rw [List.find?_cons_of_pos (by simp [e2]), List.find?_cons_of_pos (by simp [e2])]
      · rw [List.find?_cons_of_neg (by simp [e2]), List.find?_cons_of_neg (by simp [e2])]
        exact ih
theorem DictOk.has {n : Nat} {kvs : List (List Key × V)} {k : List Key} (d : DictOk n kvs) (h : k ∈ kvs.map (·.1)) : ∃ v, valV kvs k = some v := by
  obtain ⟨x, hx, rfl⟩ := List.mem_map.mp h
  cases e : valV kvs x.1 with
  | some v => exact ⟨v, rfl⟩
  | none => exact absurd (List.mem_map.mpr ⟨x, hx, rfl⟩) (valV_not e)
theorem DictOk.len {n : Nat} {kvs : List (List Key × V)} (d : DictOk n kvs) (hn : n ≤ 40) : kvs.length ≤ 1600 := by
  let code : List Key × V → Nat := fun p => match p.1 with
    | [.inl a, .inl b] => a.toNat * 40 + b.toNat
    | _ => 0
  have hc : ∀ p ∈ kvs, ∃ a b : Nat, p.1 = kE a b ∧ code p = a * 40 + b ∧ a < 40 ∧ b < 40 := fun p hp => by
    obtain ⟨a, b, c, rfl, h1, h2, _⟩ := d.ok p hp
    exact ⟨a, b, rfl, rfl, by omega, by omega⟩
  have l := nodup_len 1600 (kvs.map code) (by
    have z := d.nd
    unfold List.Nodup at z ⊢
    rw [List.pairwise_map] at z ⊢
    refine List.Pairwise.imp_of_mem (fun {x y} hx hy hne e => ?_) z
    obtain ⟨a, b, e1, e2, b1, b2⟩ := hc x hx
    obtain ⟨a', b', e1', e2', b1', b2'⟩ := hc y hy
    rw [e2, e2'] at e
    have : a = a' ∧ b = b' := by omega
    rw [e1, e1', this.1, this.2] at hne
    exact hne rfl) (fun x hx => by
    obtain ⟨p, hp, rfl⟩ := List.mem_map.mp hx
    obtain ⟨a, b, _, e2, b1, b2⟩ := hc p hp
    rw [e2]; omega)
  rw [List.length_map] at l
  exact l
theorem DictOk.pairs {n : Nat} {kvs : List (List Key × V)} (d : DictOk n kvs) : ∀ p ∈ kvs, ∃ i j : Int, p.1 = [.inl i, .inl j] := fun p hp => by
  obtain ⟨a, b, c, rfl, _⟩ := d.ok p hp
  exact ⟨a, b, rfl⟩
/-- the web's other, in the making -/
def OI (h d : Addr) (H3 : Hp) (N : Nat) (kvs : List (List Key × V)) (H' : Hp) : Prop := H' d = some (.dT kvs) ∧ Keep h H3 H' ∧ Hand H' h ∧ DictOk N kvs
section
variable {h d p : Addr} {H3 H' H'' : Hp} {N : Nat} {kvs : List (List Key × V)} {o : HO}
theorem OI.new (x : OI h d H3 N kvs H') (f : H' p = none) : OI h d H3 N kvs (upd H' p o) := by
  obtain ⟨e, k, hh, dk⟩ := x
  exact ⟨at_upd e f, Keep.new k (Keep.free k (hh.ne f) f), hh.put (hh.ne f), dk⟩
theorem OI.draw (x : OI h d H3 N kvs H') (k' : Keep h H' H'') (hh' : Hand H'' h) : OI h d H3 N kvs H'' := by
  obtain ⟨e, k, hh, dk⟩ := x
  obtain ⟨_, _, eh, _⟩ := hh
  exact ⟨k' d _ (ne_of e eh (by intro z; cases z)) e, Keep.trans k k', hh', dk⟩
theorem OI.same (x : OI h d H3 N kvs H') (s : Same H' H'') : OI h d H3 N kvs H'' := x.draw (Same.keep s) (x.2.2.1.same s)
theorem OI.set (x : OI h d H3 N kvs H') (f : H3 d = none) {kvs' : List (List Key × V)} (dk' : DictOk N kvs') : OI h d H3 N kvs' (upd H' d (.dT kvs')) := by
  obtain ⟨e, k, hh, dk⟩ := x
  obtain ⟨_, _, eh, _⟩ := id hh
  exact ⟨upd_same, Keep.new k f, hh.put (ne_of e eh (by intro z; cases z)), dk'⟩
end
theorem putK_keys {kvs : List (List Key × V)} {k j : List Key} {v : V} (h : j ∈ kvs.map (·.1)) : j ∈ (putK kvs k v).map (·.1) := by
  obtain ⟨x, hx, rfl⟩ := List.mem_map.mp h
  unfold putK
  split
  · refine List.mem_map.mpr ⟨_, List.mem_map.mpr ⟨x, hx, rfl⟩, ?_⟩
    split <;> rfl
  · exact List.mem_map.mpr ⟨x, List.mem_append_left _ hx, rfl⟩
theorem dropK_keys {kvs : List (List Key × V)} {k j : List Key} (h : j ∈ kvs.map (·.1)) (n : j ≠ k) : j ∈ (dropK kvs k).map (·.1) := by
  obtain ⟨x, hx, rfl⟩ := List.mem_map.mp h
  exact List.mem_map.mpr ⟨x, List.mem_filter.mpr ⟨hx, decide_eq_true n⟩, rfl⟩
/-- the web's other, its keys being gone through -/
def OL (h d : Addr) (H3 : Hp) (N : Nat) (p : Addr) (es : List (Addr × Int × Int)) (i : Nat) (kvs : List (List Key × V)) (H' : Hp) : Prop :=
  OI h d H3 N kvs H' ∧ H' p = some (.lst (es.map fun e => V.ref e.1)) ∧ p ≠ h ∧ (∀ e ∈ es, H' e.1 = some (.tup [.int e.2.1, .int e.2.2])) ∧ (∀ j e, i ≤ j → es[j]? = some e → kE e.2.1 e.2.2 ∈ kvs.map (·.1)) ∧ (es.map fun e => kE e.2.1 e.2.2).Nodup
section
variable {h d p b : Addr} {H3 H' H'' : Hp} {N i : Nat} {kvs : List (List Key × V)} {o : HO} {es : List (Addr × Int × Int)}
theorem OL.start (x : OI h d H3 N kvs H') (f : H' p = none) (pm : (es.map fun e => kE e.2.1 e.2.2).Perm (kvs.map (·.1))) (he : ∀ e ∈ es, H' e.1 = some (.tup [.int e.2.1, .int e.2.2])) : OL h d H3 N p es 0 kvs (upd H' p (.lst (es.map fun e => V.ref e.1))) :=
  ⟨x.new f, upd_same, x.2.2.1.ne f, fun e h => at_upd (he e h) f, fun j e _ h => pm.mem_iff.mp (List.mem_map.mpr ⟨e, List.mem_of_getElem? h, rfl⟩), pm.nodup_iff.mpr x.2.2.2.nd⟩
theorem OL.next (x : OL h d H3 N p es i kvs H') : OL h d H3 N p es (i + 1) kvs H' := ⟨x.1, x.2.1, x.2.2.1, x.2.2.2.1, fun j e hj => x.2.2.2.2.1 j e (by omega), x.2.2.2.2.2⟩
theorem OL.new (x : OL h d H3 N p es i kvs H') (f : H' b = none) : OL h d H3 N p es i kvs (upd H' b o) := ⟨x.1.new f, at_upd x.2.1 f, x.2.2.1, fun e h => at_upd (x.2.2.2.1 e h) f, x.2.2.2.2⟩
theorem OL.list (x : OL h d H3 N p es i kvs H') {ys ys' : List V} (e : H' b = some (.lst ys)) (np : b ≠ p) (nh : b ≠ h) (f : H3 b = none) : OL h d H3 N p es i kvs (upd H' b (.lst ys')) := by
  obtain ⟨⟨ed, k, hh, dk⟩, ep, n, he, r⟩ := x
  exact ⟨⟨by rw [upd_ne (ne_of ed e (by intro z; cases z))]; exact ed, Keep.new k f, hh.put nh, dk⟩, by rw [upd_ne np.symm]; exact ep, n, fun t h => by rw [upd_ne (ne_of (he t h) e (by intro z; cases z))]; exact he t h, r⟩
theorem OL.draw (x : OL h d H3 N p es i kvs H') (k' : Keep h H' H'') (hh' : Hand H'' h) : OL h d H3 N p es i kvs H'' := by
  obtain ⟨O, ep, np, he, r⟩ := x
  obtain ⟨_, _, eh, _⟩ := id O.2.2.1
  exact ⟨O.draw k' hh', k' p _ np ep, np, fun e h => k' _ _ (ne_of (he e h) eh (by intro z; cases z)) (he e h), r⟩
theorem OL.set (x : OL h d H3 N p es i kvs H') (f : H3 d = none) {c c2 t : Nat} (h1 : c < c2) (h2 : c2 < N) (h3 : Ltr t) : OL h d H3 N p es i (putK kvs (kE c c2) (.str (sg t))) (upd H' d (.dT (putK kvs (kE c c2) (.str (sg t))))) := by
  obtain ⟨O, ep, np, he, hk, nd⟩ := x
  exact ⟨O.set f (O.2.2.2.put h1 h2 h3), by rw [upd_ne (ne_of ep O.1 (by intro z; cases z))]; exact ep, np, fun e h => by rw [upd_ne (ne_of (he e h) O.1 (by intro z; cases z))]; exact he e h, fun j e hj h => putK_keys (hk j e hj h), nd⟩
theorem OL.pop (x : OL h d H3 N p es i kvs H') (f : H3 d = none) {e : Addr × Int × Int} (h0 : es[i]? = some e) : OL h d H3 N p es (i + 1) (dropK kvs (kE e.2.1 e.2.2)) (upd H' d (.dT (dropK kvs (kE e.2.1 e.2.2)))) := by
  obtain ⟨O, ep, np, he, hk, nd⟩ := x
  refine ⟨O.set f (O.2.2.2.drop _), by rw [upd_ne (ne_of ep O.1 (by intro z; cases z))]; exact ep, np, fun e h => by rw [upd_ne (ne_of (he e h) O.1 (by intro z; cases z))]; exact he e h, fun j e' hj h => dropK_keys (hk j e' (by omega) h) fun z => ?_, nd⟩
  have li : i < es.length := (List.getElem?_eq_some_iff.mp h0).1
  have lj : j < es.length := (List.getElem?_eq_some_iff.mp h).1
  have e1 := (List.getElem?_eq_some_iff.mp h0).2
  have e2 := (List.getElem?_eq_some_iff.mp h).2
  have ne := List.pairwise_iff_getElem.mp nd i j (by rw [List.length_map]; exact li) (by rw [List.length_map]; exact lj) (by omega)
  simp only [List.getElem_map, e1, e2] at ne
  exact ne z.symm
end
theorem valV_mem' {kvs : List (List Key × V)} {n : Nat} (d : DictOk n kvs) {k : List Key} (h : k ∈ kvs.map (·.1)) : ∃ a b c : Nat, k = kE a b ∧ valV kvs k = some (V.str (sg c)) ∧ a < b ∧ b < n ∧ Ltr c := by
  obtain ⟨v, e⟩ := d.has h
  obtain ⟨a, b, c, e1, rfl, r⟩ := d.at e
  exact ⟨a, b, c, e1, e, r⟩
theorem kE_inj {a b c d : Int} (h : kE a b = kE c d) : a = c ∧ b = d := by
  unfold kE at h
  injection h with h1 h2
  injection h1 with h1
  injection h2 with h2
  injection h2 with h2
  exact ⟨h1, h2⟩
theorem rise_keys {es : List (Addr × Int × Int)} {ts : List Tie} (e : ts.map (fun t => ((t.1 : Int), (t.2.1 : Int))) = es.map (·.2)) (nd : (es.map fun e => kE e.2.1 e.2.2).Nodup)
    (s : (es.map (·.2)).Pairwise (fun x y => SrtO.lexB y x = false)) : ts.Pairwise tlt := by
  rw [← e, List.pairwise_map] at s
  have e2 : (es.map fun e => kE e.2.1 e.2.2) = ts.map fun t => kE t.1 t.2.1 := by
    have z := congrArg (List.map fun q : Int × Int => kE q.1 q.2) e
    rw [List.map_map, List.map_map] at z
    exact z.symm
  rw [e2] at nd
  have nd' := List.pairwise_map.mp nd
  refine (List.Pairwise.and s nd').imp fun {x y} ⟨h1, h2⟩ => ?_
  have h3 : ¬ ((y.1 : Int) < x.1 ∨ ((y.1 : Int) = x.1 ∧ (y.2.1 : Int) < x.2.1)) := fun z => by
    rw [← SrtO.lexB_iff (p := ((y.1 : Int), (y.2.1 : Int))) (q := ((x.1 : Int), (x.2.1 : Int)))] at z
    rw [z] at h1; cases h1
  have h4 : ¬ (x.1 = y.1 ∧ x.2.1 = y.2.1) := fun z => h2 (by rw [z.1, z.2])
  unfold tlt
  omega
/-- names that lead each place of the one to a like place of the other -/
structure NamesOk (w w' : Web) (ns : List Nat) : Prop where
  len : ns.length = w.1.length
  nd : ns.Nodup
  like : ∀ p q : Nat, ns[p]? = some q → q < w'.1.length ∧ w'.1[q]? = w.1[p]?
theorem cut_take (xs : List V) (n : Nat) (h : n ≤ xs.length) : cutV xs none (some (n : Nat)) = xs.take n := by
  unfold cutV
  have e : HT.sIx xs.length xs.length (some ((n : Nat) : Int)) = min n xs.length := HT.sIx_nat xs.length xs.length n
  rw [HT.sIx_none, e, List.drop_zero, Nat.sub_zero, Nat.min_eq_left h]
end Cw

namespace Cw
open PySem PySem.Spec PyProof.Rows L2
/-! ### leads -/
abbrev Lead := List (Nat × Nat)
structure LOk (w w' : Web) (ld : Lead) : Prop where
  rise : ld.Pairwise (fun x y => x.1 < y.1)
  ends : (ld.map (·.2)).Nodup
  like : ∀ p ∈ ld, p.1 < w.1.length ∧ p.2 < w'.1.length ∧ w'.1[p.2]? = w.1[p.1]?
def PairAt (K : PySem.W.Frag) (H : Hp) (v : V) (p : Nat × Nat) : Prop := ∃ a, v = .ref a ∧ SqT K H a [.int (p.1 : Nat), .int (p.2 : Nat)]
theorem PairAt.same {K : PySem.W.Frag} {H H' : Hp} {v : V} {p : Nat × Nat} (x : PairAt K H v p) (s : Same H H') : PairAt K H' v p := by
  obtain ⟨a, e, q⟩ := x
  exact ⟨a, e, Same.sqt s q⟩
theorem PairAt.keep {K : PySem.W.Frag} {H H' : Hp} {v : V} {p : Nat × Nat} {h : Addr} {ys : List V} (x : PairAt K H v p) (k : Keep h H H') (e : H h = some (.lst ys)) : PairAt K H' v p := by
  obtain ⟨a, e', q⟩ := x
  exact ⟨a, e', k.sqt e q⟩
theorem PairAt.put {K : PySem.W.Frag} {H : Hp} {v : V} {p : Nat × Nat} {b : Addr} {o : HO} (x : PairAt K H v p) (n : H b = none ∨ ∃ ys, H b = some (.lst ys)) : PairAt K (upd H b o) v p := by
  obtain ⟨a, e, q⟩ := x
  exact ⟨a, e, sqt_upd n q⟩
def Pairs (K : PySem.W.Frag) (H : Hp) (pvs : List V) (ld : Lead) : Prop := Paired (PairAt K H) pvs ld
section
variable {K : PySem.W.Frag} {H H' : Hp} {pvs : List V} {ld : Lead} {h b : Addr} {ys : List V} {o : HO}
theorem Pairs.same (x : Pairs K H pvs ld) (s : Same H H') : Pairs K H' pvs ld := Paired.imp x fun _ _ z => z.same s
theorem Pairs.keep (x : Pairs K H pvs ld) (k : Keep h H H') (e : H h = some (.lst ys)) : Pairs K H' pvs ld := Paired.imp x fun _ _ z => z.keep k e
theorem Pairs.put (x : Pairs K H pvs ld) (n : H b = none ∨ ∃ ys, H b = some (.lst ys)) : Pairs K (upd H b o) pvs ld := Paired.imp x fun _ _ z => z.put n
/-- one more pair, at a new place, and the list itself -/
theorem Pairs.more {p q : Nat} {l : Addr} {zs : List V} (x : Pairs K H pvs ld) (e : H l = some (.lst ys)) (f : H b = none) : Pairs K (upd (upd H b (.tup [.int (p : Nat), .int (q : Nat)])) l (.lst zs)) (pvs ++ [.ref b]) (ld ++ [(p, q)]) := by
  have el : (upd H b (.tup [.int (p : Nat), .int (q : Nat)])) l = some (.lst ys) := at_upd e f
  exact Paired.snoc ((x.put (.inl f)).put (.inr ⟨_, el⟩)) ⟨b, rfl, sqt_upd (.inr ⟨_, el⟩) (SqT.of upd_same)⟩
theorem Pairs.len (x : Pairs K H pvs ld) : pvs.length = ld.length := Paired.length x
end
theorem LOk.few {w w' : Web} {ld : Lead} (l : LOk w w' ld) : ld.length ≤ w'.1.length := by
  have := nodup_len w'.1.length (ld.map (·.2)) l.ends fun x hx => by
    obtain ⟨p, hp, rfl⟩ := List.mem_map.mp hx
    exact (l.like p hp).2.1
  rwa [List.length_map] at this
theorem eqv_nil (ds : List PyData) : PyData.eqv (.list ds) (.list []) = ds.isEmpty := by
  cases ds <;> simp [PyData.eqv, PyData.eqvAll]
theorem erase_zs (ls : List Nat) (j : Nat) : (zs ls).eraseIdx j = zs (ls.eraseIdx j) := erase_map _ _ _
theorem zs_at {ls : List Nat} {j x : Nat} : (zs ls)[j]? = some (x : Int) ↔ ls[j]? = some x := by
  unfold zs
  rw [List.getElem?_map, Option.map_eq_some_iff]
  constructor
  · rintro ⟨a, ha, e⟩
    rw [ha]; congr 1; omega
  · intro h
    exact ⟨x, h, rfl⟩
theorem nodup_at {ls : List Nat} (nd : ls.Nodup) {i j x : Nat} (h1 : ls[i]? = some x) (h2 : ls[j]? = some x) : i = j := by
  obtain ⟨l1, e1⟩ := List.getElem?_eq_some_iff.mp h1
  obtain ⟨l2, e2⟩ := List.getElem?_eq_some_iff.mp h2
  rcases Nat.lt_trichotomy i j with z | z | z
  · exact absurd (e1.trans e2.symm) (List.pairwise_iff_getElem.mp nd i j l1 l2 z)
  · exact z
  · exact absurd (e2.trans e1.symm) (List.pairwise_iff_getElem.mp nd j i l2 l1 z)
theorem nodup_erase {ls : List Nat} (nd : ls.Nodup) {j x : Nat} (h : ls[j]? = some x) : ∀ y, y ∈ ls.eraseIdx j ↔ y ∈ ls ∧ y ≠ x := by
  intro y
  obtain ⟨l1, e1⟩ := List.getElem?_eq_some_iff.mp h
  have p := erase_perm ls j l1
  rw [e1] at p
  have nd2 := p.nodup_iff.mpr nd
  rw [List.nodup_cons] at nd2
  have m := p.mem_iff (a := y)
  rw [List.mem_cons] at m
  constructor
  · intro hy
    exact ⟨m.mp (.inr hy), fun z => nd2.1 (z ▸ hy)⟩
  · rintro ⟨hy, ne⟩
    rcases m.mpr hy with z | z
    · exact absurd z ne
    · exact z
/-! ### led ties -/
def ldAt (ld : Lead) (p : Nat) : Option Nat := (ld.find? fun q => q.1 == p).map (·.2)
def isLed (w' : Web) (ld : Lead) (t : Tie) : Bool := match ldAt ld t.1, ldAt ld t.2.1 with
  | some a, some b => decide (tieL w'.2 a b = some t.2.2)
  | _, _ => false
def dueL (w w' : Web) (ld : Lead) : List Tie := w.2.filter (isLed w' ld)
theorem ldAt_nil (p : Nat) : ldAt [] p = none := rfl
theorem ldAt_pos {x : Nat × Nat} {r : Lead} {p : Nat} (e : x.1 = p) : ldAt (x :: r) p = some x.2 := by
  unfold ldAt; rw [List.find?_cons_of_pos (by simp [e])]; rfl
theorem ldAt_neg {x : Nat × Nat} {r : Lead} {p : Nat} (e : x.1 ≠ p) : ldAt (x :: r) p = ldAt r p := by
  unfold ldAt; rw [List.find?_cons_of_neg (by simp [e])]
theorem ldAt_none {ld : Lead} {p : Nat} (h : ∀ q ∈ ld, q.1 ≠ p) : ldAt ld p = none := by
  unfold ldAt
  rw [List.find?_eq_none.mpr fun q hq => by simp [h q hq]]; rfl
theorem filt_at (p : Nat) : ∀ ld : Lead, ld.Pairwise (fun x y => x.1 < y.1) → (ld.filter fun q => q.1 == p).map (·.2) = (ldAt ld p).toList
  | [], _ => rfl
  | x :: r, s => by
    obtain ⟨h, t⟩ := List.pairwise_cons.mp s
    by_cases e : x.1 = p
    · rw [ldAt_pos e, List.filter_cons_of_pos (by simp [e]), List.map_cons, filt_at p r t, ldAt_none fun q hq => by have := h q hq; omega]; rfl
    · rw [ldAt_neg e, List.filter_cons_of_neg (by simp [e])]; exact filt_at p r t
theorem ldAt_mem {ld : Lead} {p q : Nat} (h : ldAt ld p = some q) : (p, q) ∈ ld := by
  unfold ldAt at h
  obtain ⟨x, hx, rfl⟩ := Option.map_eq_some_iff.mp h
  have e : x.1 = p := by simpa using List.find?_some hx
  subst e
  exact List.mem_of_find?_eq_some hx
theorem led_merge (k : Nat) : ∀ (ld : Lead) (acc : List (Key × V)), ld.Pairwise (fun x y => x.1 < y.1) → valV (mergeK acc (ld.map fun p => ((.inl (p.1 : Int) : Key), V.int (p.2 : Nat)))) (.inl (k : Int)) = ((ldAt ld k).map fun q => V.int (q : Nat)).or (valV acc (.inl (k : Int)))
  | [], acc, _ => rfl
  | x :: r, acc, s => by
    obtain ⟨h, t⟩ := List.pairwise_cons.mp s
    show valV (mergeK (putK acc (.inl (x.1 : Int)) (V.int (x.2 : Nat))) (r.map _)) _ = _
    rw [led_merge k r _ t, valV_put]
    by_cases e : x.1 = k
    · rw [ldAt_pos e, ldAt_none fun q hq => by have := h q hq; omega, e, if_pos rfl]; rfl
    · rw [ldAt_neg e, if_neg (by intro z; injection z with z; omega)]
theorem led_dict (ld : Lead) (s : ld.Pairwise (fun x y => x.1 < y.1)) (k : Nat) : valV (mergeK [] (ld.map fun p => ((.inl (p.1 : Int) : Key), V.int (p.2 : Nat)))) (.inl (k : Int)) = (ldAt ld k).map fun q => V.int (q : Nat) := by
  rw [led_merge k ld [] s]
  show Option.or _ none = _
  rw [Option.or_none]
theorem optV_get (o : Option Nat) : (o.map fun c => V.str (sg c)).getD .non = optV o := by cases o <;> rfl
theorem optV_str (o : Option Nat) (c : Nat) : scal (optV o) (.str (sg c)) = true := by cases o <;> rfl
theorem optV_eq (o : Option Nat) (c : Nat) : decide (optV o = .str (sg c)) = decide (o = some c) := by
  cases o with
  | none => rfl
  | some d =>
    rw [Bool.eq_iff_iff, decide_eq_true_eq, decide_eq_true_eq]
    constructor
    · intro z
      injection z with z
      rw [sg_inj.mp z]
    · intro z
      cases z; rfl
theorem due_snoc {w' : Web} {ld : Lead} {ts : List Tie} {i : Nat} {t : Tie} (h : ts[i]? = some t) : (ts.take (i + 1)).filter (isLed w' ld) = (ts.take i).filter (isLed w' ld) ++ if isLed w' ld t = true then [t] else [] := by
  rw [take_snoc h, List.filter_append]
  congr 1
  by_cases c : isLed w' ld t = true
  · rw [if_pos c, List.filter_cons_of_pos c]; rfl
  · rw [if_neg c, List.filter_cons_of_neg c]; rfl
def Ties (K : PySem.W.Frag) (H : Hp) (xs : List V) (ts : List Tie) : Prop := Paired (TieAt K H) xs ts
section
variable {K : PySem.W.Frag} {H H' : Hp} {xs : List V} {ts : List Tie} {h b : Addr} {ys : List V} {o : HO}
theorem Ties.same (x : Ties K H xs ts) (s : Same H H') : Ties K H' xs ts := Paired.imp x fun _ _ z => z.same s
theorem Ties.keep (x : Ties K H xs ts) (k : Keep h H H') (e : H h = some (.lst ys)) : Ties K H' xs ts := Paired.imp x fun _ _ z => z.keep k e
theorem Ties.put (x : Ties K H xs ts) (n : H b = none ∨ ∃ ys, H b = some (.lst ys)) : Ties K (upd H b o) xs ts := Paired.imp x fun _ _ z => z.put n
theorem Ties.more {t : Tie} {l : Addr} {zs : List V} (x : Ties K H xs ts) (e : H l = some (.lst ys)) (f : H b = none) : Ties K (upd (upd H b (.tup [.int (t.1 : Nat), .int (t.2.1 : Nat), .str (sg t.2.2)])) l (.lst zs)) (xs ++ [.ref b]) (ts ++ [t]) := by
  have el : (upd H b (.tup [.int (t.1 : Nat), .int (t.2.1 : Nat), .str (sg t.2.2)])) l = some (.lst ys) := at_upd e f
  exact Paired.snoc ((x.put (.inl f)).put (.inr ⟨_, el⟩)) ⟨b, rfl, sqt_upd (.inr ⟨_, el⟩) (SqT.of upd_same)⟩
theorem Ties.len (x : Ties K H xs ts) : xs.length = ts.length := Paired.length x
end
theorem two_led {ld : Lead} {t : Tie} (h : ((ldAt ld t.1).toList ++ (ldAt ld t.2.1).toList).length = 2) : ∃ x y, ldAt ld t.1 = some x ∧ ldAt ld t.2.1 = some y := by
  cases e1 : ldAt ld t.1 <;> cases e2 : ldAt ld t.2.1 <;> rw [e1, e2] at h <;> simp at h
  exact ⟨_, _, rfl, rfl⟩
theorem not_two {w' : Web} {ld : Lead} {t : Tie} (h : ¬ ((ldAt ld t.1).toList ++ (ldAt ld t.2.1).toList).length = 2) : isLed w' ld t = false := by
  unfold isLed
  cases e1 : ldAt ld t.1 <;> cases e2 : ldAt ld t.2.1 <;> rw [e1, e2] at h <;> simp at h <;> rfl
theorem isLed_at {w' : Web} {ld : Lead} {t : Tie} {x y : Nat} (h1 : ldAt ld t.1 = some x) (h2 : ldAt ld t.2.1 = some y) : isLed w' ld t = decide (tieL w'.2 x y = some t.2.2) := by
  unfold isLed; rw [h1, h2]
theorem isLed_no {w' : Web} {ld : Lead} {t : Tie} (h : ldAt ld t.1 = none ∨ ldAt ld t.2.1 = none) : isLed w' ld t = false := by
  unfold isLed
  rcases h with h | h
  · rw [h]
  · rw [h]; cases ldAt ld t.1 <;> rfl
theorem Pairs.refs {K : PySem.W.Frag} {H : Hp} : ∀ {pvs : List V} {ld : Lead}, Pairs K H pvs ld → ∃ ps : List Addr, pvs = ps.map V.ref ∧ Paired (fun p (kv : Key × V) => SqT K H p [kV kv.1, kv.2]) ps (ld.map fun p => ((.inl (p.1 : Int) : Key), V.int (p.2 : Nat)))
  | _, _, .nil => ⟨[], rfl, .nil⟩
  | _, _, .cons h t => by
    obtain ⟨a, rfl, q⟩ := h
    obtain ⟨ps, rfl, r⟩ := Pairs.refs t
    exact ⟨a :: ps, rfl, .cons q r⟩
end Cw

namespace Cw
open PySem PySem.Spec PyProof.Rows L2
/-! ### data told -/
def tieD (t : Tie) : PyData := .tuple [.int (t.1 : Nat), .int (t.2.1 : Nat), .str (sg t.2.2)]
def pairD (p : Nat × Nat) : PyData := .tuple [.int (p.1 : Nat), .int (p.2 : Nat)]
def tiesD (ts : List Tie) : PyData := .list (ts.map tieD)
def pairsD (ld : Lead) : PyData := .list (ld.map pairD)
theorem Ties.dpa {K : PySem.W.Frag} {H : Hp} : ∀ {xs : List V} {ts : List Tie}, Ties K H xs ts → DpAll K H xs (ts.map tieD)
  | _, _, .nil => .nil
  | _, _, .cons h t => by
    obtain ⟨a, rfl, q⟩ := h
    exact .cons (.tup q (.cons (.int _) (.cons (.int _) (.cons (.str _) .nil)))) (Ties.dpa t)
theorem Pairs.dpa {K : PySem.W.Frag} {H : Hp} : ∀ {xs : List V} {ts : Lead}, Pairs K H xs ts → DpAll K H xs (ts.map pairD)
  | _, _, .nil => .nil
  | _, _, .cons h t => by
    obtain ⟨a, rfl, q⟩ := h
    exact .cons (.tup q (.cons (.int _) (.cons (.int _) .nil))) (Pairs.dpa t)
theorem Ties.dp {K : PySem.W.Frag} {H : Hp} {xs : List V} {ts : List Tie} {l : Addr} (x : Ties K H xs ts) (e : H l = some (.lst xs)) : Dp K H (.ref l) (tiesD ts) := .lst (SqL.of e) x.dpa
theorem Pairs.dp {K : PySem.W.Frag} {H : Hp} {xs : List V} {ts : Lead} {l : Addr} (x : Pairs K H xs ts) (e : H l = some (.lst xs)) : Dp K H (.ref l) (pairsD ts) := .lst (SqL.of e) x.dpa
theorem lay_all : ∀ {ds : List PyData} {k : Nat}, (∀ d ∈ ds, d.canLay0 = true ∧ d.depth ≤ k) → PyData.canLayAll0 ds = true ∧ PyData.depthAll ds ≤ k
  | [], k, _ => ⟨by simp [PyData.canLayAll0], by simp [PyData.depthAll]⟩
  | d :: ds, k, h => by
    obtain ⟨h1, h2⟩ := lay_all (ds := ds) (k := k) fun x hx => h x (List.mem_cons_of_mem _ hx)
    obtain ⟨h3, h4⟩ := h d List.mem_cons_self
    exact ⟨by simp [PyData.canLayAll0, h1, h3], by simp only [PyData.depthAll]; omega⟩
theorem shaped_list {ds : List PyData} {k : Nat} (hk : k ≤ 63) (h : ∀ d ∈ ds, d.canLay0 = true ∧ d.depth ≤ k) : SeqAt.shaped (.list ds) = true := by
  obtain ⟨h1, h2⟩ := lay_all h
  have : PyData.depth (.list ds) ≤ 64 := by simp only [PyData.depth]; omega
  simp [SeqAt.shaped, PyData.canLay0, h1, this]
theorem good_eqv {d : PyData} (h : SeqAt.shaped d = true) : PyData.eqv d d = true := SeqAt.eqv_refl d (SeqAt.canLay_of_shaped h)
theorem str_ok : ∀ c : Nat, c < 123 → PyData.strOk (sg c) = true := fun c h => by
  unfold PyData.strOk sg
  simp; omega
theorem tieD_lay {t : Tie} (h : Ltr t.2.2) : (tieD t).canLay0 = true ∧ (tieD t).depth ≤ 1 := by
  have := str_ok t.2.2 (by unfold Ltr at h; omega)
  unfold tieD
  simp [PyData.canLay0, PyData.canLayAll0, PyData.depth, PyData.depthAll, this]
theorem pairD_lay (p : Nat × Nat) : (pairD p).canLay0 = true ∧ (pairD p).depth ≤ 1 := by
  unfold pairD
  simp [PyData.canLay0, PyData.canLayAll0, PyData.depth, PyData.depthAll]
theorem tiesD_good {ts : List Tie} (h : ∀ t ∈ ts, Ltr t.2.2) : SeqAt.shaped (tiesD ts) = true := shaped_list (k := 1) (by decide) fun d hd => by
  obtain ⟨t, ht, rfl⟩ := List.mem_map.mp hd
  exact tieD_lay (h t ht)
theorem pairsD_good (ld : Lead) : SeqAt.shaped (pairsD ld) = true := shaped_list (k := 1) (by decide) fun d hd => by
  obtain ⟨t, ht, rfl⟩ := List.mem_map.mp hd
  exact pairD_lay t
theorem due_good {w w' : Web} (W : WOk w) (ld : Lead) : SeqAt.shaped (tiesD (dueL w w' ld)) = true := tiesD_good fun t ht => (W.ends t (List.mem_filter.mp ht).1).2.2
/-! ### what is held -/
def HeldG (K : PySem.W.Frag) (H : Hp) (hd : Addr) (m : Nat) : Prop := ∃ (hs : List V) (xs : List PyData), H hd = some (.lst hs) ∧ hs.length ≤ m ∧ DpAll K (del H hd) hs (xs.map fun x => PyData.list [x, x]) ∧ ∀ x ∈ xs, SeqAt.shaped x = true
/-- and nothing of it at h -/
def HeldH (K : PySem.W.Frag) (H : Hp) (hd h : Addr) (m : Nat) : Prop := ∃ (hs : List V) (xs : List PyData), H hd = some (.lst hs) ∧ hs.length ≤ m ∧ DpAll K (del (del H hd) h) hs (xs.map fun x => PyData.list [x, x]) ∧ ∀ x ∈ xs, SeqAt.shaped x = true
section
variable {K : PySem.W.Frag} {H H' : Hp} {hd h : Addr} {m n : Nat}
theorem HeldG.same (x : HeldG K H hd m) (s : Same H H') : HeldG K H' hd m := by
  obtain ⟨hs, xs, e, l, a, g⟩ := x
  exact ⟨hs, xs, s _ _ e, l, dpa_same (Keep.del (Same.keep s)) _ _ a, g⟩
theorem HeldG.mono (x : HeldG K H hd m) (h : m ≤ n) : HeldG K H hd n := by
  obtain ⟨hs, xs, e, l, a, g⟩ := x
  exact ⟨hs, xs, e, Nat.le_trans l h, a, g⟩
theorem HeldG.hand (x : HeldG K H hd m) (s : Same H H') (f : H h = none) : HeldH K H' hd h m := by
  obtain ⟨hs, xs, e, l, a, g⟩ := x
  refine ⟨hs, xs, s _ _ e, l, dpa_same (fun b o hb => ?_) _ _ a, g⟩
  have h1 := del_same _ _ b o hb
  rw [del_ne (ne_of_none h1 f)]
  exact Keep.del (Same.keep s) b o hb
theorem HeldH.out (x : HeldH K H hd h m) : HeldG K H hd m := by
  obtain ⟨hs, xs, e, l, a, g⟩ := x
  exact ⟨hs, xs, e, l, dpa_same (del_same _ _) _ _ a, g⟩
theorem keep_dd (k : Keep h H H') : Same (del (del H hd) h) (del (del H' hd) h) := Keep.del fun b o nb e => by
  have := del_same _ _ b o e
  by_cases n : b = hd
  · unfold del at e; rw [if_pos n] at e; cases e
  · rw [del_ne n]; exact k b o nb this
theorem HeldH.keep (x : HeldH K H hd h m) (k : Keep h H H') (n : hd ≠ h) : HeldH K H' hd h m := by
  obtain ⟨hs, xs, e, l, a, g⟩ := x
  exact ⟨hs, xs, k _ _ n e, l, dpa_same (keep_dd k) _ _ a, g⟩
theorem HeldH.same (x : HeldH K H hd h m) (s : Same H H') (n : hd ≠ h) : HeldH K H' hd h m := x.keep (Same.keep s) n
end
theorem sqt_del {K : PySem.W.Frag} {H : Hp} {a b : Addr} {xs ys : List V} (e : H b = some (.lst ys)) (q : SqT K H a xs) : SqT K (del H b) a xs := by
  rcases q with (q | ⟨o, q⟩) | q
  · exact .inl (.inl (del_at (ne_of q e (by intro z; cases z)) q))
  · exact .inl (.inr ⟨o, del_at (ne_of q e (by intro z; cases z)) q⟩)
  · exact .inr q
theorem Ties.del {K : PySem.W.Frag} {H : Hp} {b : Addr} {xs ys : List V} {ts : List Tie} (x : Ties K H xs ts) (e : H b = some (.lst ys)) : Ties K (Cw.del H b) xs ts := Paired.imp x fun _ _ ⟨a, r, q⟩ => ⟨a, r, sqt_del e q⟩
/-- a pair of lists of ties, held -/
theorem dp_two {K : PySem.W.Frag} {H : Hp} {hd h r t f : Addr} {hs hv tv fv : List V} {ts : List Tie} (ehd : H hd = some (.lst hs)) (eh : H h = some (.lst hv)) (er : H r = some (.lst [.ref t, .ref f])) (et : H t = some (.lst tv)) (ef : H f = some (.lst fv)) (x : Ties K H tv ts) (y : Ties K H fv ts)
    (n0 : h ≠ hd) (n1 : r ≠ hd) (n2 : t ≠ hd) (n3 : f ≠ hd) (m1 : r ≠ h) (m2 : t ≠ h) (m3 : f ≠ h) : Dp K (del (del H hd) h) (.ref r) (.list [tiesD ts, tiesD ts]) := by
  have eh' := del_at n0 eh
  refine .lst (SqL.of (del_at m1 (del_at n1 er))) (.cons ?_ (.cons ?_ .nil))
  · exact ((x.del ehd).del eh').dp (del_at m2 (del_at n2 et))
  · exact ((y.del ehd).del eh').dp (del_at m3 (del_at n3 ef))
end Cw

/-! list(reversed(xs)), xs[i:j:k] -/
namespace Cw
open PySem PySem.Spec PySem.Calls PyProof.Rows L2
section
variable {prog : Program} {w : World} {A : Around} {E : Value → Shared → Prop} {s : Shared} {rv l S : Addr} {items : Array Value}
abbrev BackOf (items : Array Value) (acc : Array Value) : Prop := ItemsOf (fun k y => items[items.size - 1 - k]? = some y) acc items.size
theorem rv_extend {R : Result → Shared → Prop} (hh : A.handled = none) (hit : s.heap.IsRevIter rv l ((items.size : Int) - 1)) (hl : s.heap.IsList l items) (hli : l ≠ rv) (hiS : rv ≠ S) (hlS : l ≠ S) (res : Value) (c₀ : Nat) (hS : s.heap.get? S = some { cls := .type "list", data := .seq #[] c₀ })
    (hR : ∀ h' tk acc c, (∀ b o, b ≠ S → b ≠ rv → s.heap.get? b = some o → h'.get? b = some o) → h'.get? S = some { cls := .type "list", dict := none, data := .seq acc c, slots := #[] } → BackOf items acc → R (.ok (.ret res)) { s with heap := h', toks := tk })
    (hn : items.size ≤ sizeLine) :
    wpAny (model prog w) A.in1 (Builtin.List.listExtendWith (.ref S) (.ref rv) res)
      (fun fin s' => match fin with | .done f => R (.ok f) s' | .again c' => c'.quiet = true ∧ codeAny (model prog w) A c' R s') (fun e s' => R (.error e) s') s := by
  have Wk := (Walks.listRev (prog := prog) (w := w) (A := A.in1) hh rv l hli items).toS
  have apart : S ∉ [rv, l] := by
    simp only [List.mem_cons, List.not_mem_nil, or_false, not_or]
    exact ⟨hiS.symm, hlS.symm⟩
  have tyR : s.TypeIs (.ref rv) "list_reverseiterator" := Heap.IsRevIter.typeIs hit
  have ns : Builtin.List.listSameRef (.ref S) (.ref rv) = false := by
    simp [Builtin.List.listSameRef, hiS.symm]
  unfold Builtin.List.listExtendWith
  refine wpAny_bind (wpAny_typeOf tyR ?_)
  rw [if_neg (by rw [ns]; decide)]
  refine wpAny_bind (wpAny_pyIter_revIter (s := s) hit ?_)
  refine wpAny_bind (wpAny_holding ?_)
  unfold Builtin.List.listLengthHint
  refine wpAny_bind (wpAny_specialOf tyR RT.nolen_lri ?_)
  show wpAny _ A.in1 (specialOf (Value.ref rv) (Str.ofString "__length_hint__") >>= _) _ _ _
  refine wpAny_bind (wpAny_specialOf tyR RT.hint_lri ?_)
  generalize hid : ("list_reverseiterator.__length_hint__" : String) = nm
  wp_delta
  rw [show splitId nm = some ("list_reverseiterator", "__length_hint__") from by subst hid; decide +kernel]
  subst hid
  refine wpAny_bind (wpAny_isInstance (b := true) tyR (by rw [isSubtype_type]; kernel_rfl) ?_)
  refine wpAny_pure ?_
  rw [if_neg (by decide)]
  have z0 : ((items.size : Nat) : Int) - 1 - ((0 : Nat) : Int) = (items.size : Int) - 1 := by omega
  refine wpAny_pure ⟨plainId_quiet PySem.F.plain_extend_loop _, codeAny_extend_loopS Wk hn _ apart _ items.size 0 _ _ _ rfl (Nat.zero_le _) ⟨Nat.zero_le _, by rw [z0]; exact hit, hl⟩ hS (ItemsOf.nil _) fun s' acc' c' mv eS got => ?_⟩
  rw [Moved.eq_with mv]
  refine hR s'.heap s'.toks acc' c' (fun b o h1 h2 q => mv.heap b o (fun m => ?_) q) eS got
  rcases List.mem_cons.mp m with m | m
  · exact h1 m
  · exact h2 (List.mem_singleton.mp m)
theorem rv_call {Q : Value → Shared → Prop} (hh : A.handled = none) (hit : s.heap.IsRevIter rv l ((items.size : Int) - 1)) (hl : s.heap.IsList l items) (hli : l ≠ rv) (hn : items.size ≤ sizeLine)
    (hQ : ∀ h' tk acc c, (∀ b o, b ≠ rv → s.heap.get? b = some o → h'.get? b = some o) → h'.get? s.heap.objs.size = some { cls := .type "list", dict := none, data := .seq acc c, slots := #[] } → BackOf items acc → Q (.ref s.heap.objs.size) { s with heap := h', toks := tk }) :
    wpAny (model prog w) A (call (.type "list") [.ref rv]) Q E s := by
  refine callType_codes (Q₁ := fun obj s₁ => obj = .ref s.heap.objs.size ∧ s₁ = { s with heap := s.heap.push { cls := .type "list", data := .seq #[] } }) PySem.F.called_list (PySem.F.typeCall_list_1 _) PySem.F.entry_list_init (code_list_new _ ⟨rfl, rfl⟩) fun obj s₁ h₁ => ?_
  obtain ⟨rfl, rfl⟩ := h₁
  have hS : (s.heap.push { cls := .type "list", data := .seq #[] }).get? s.heap.objs.size = some { cls := .type "list", data := .seq #[] } := Heap.get?_push_size _ rfl
  have k1 : ∀ b o, s.heap.get? b = some o → (s.heap.push { cls := .type "list", data := .seq #[] }).get? b = some o := fun b o q => Heap.get?_push_of_some _ q
  have hiS : rv < s.heap.objs.size := by obtain ⟨_, q, _⟩ := hit; exact Heap.lt_size q
  have hlS : l < s.heap.objs.size := by obtain ⟨_, q, _⟩ := hl; exact Heap.lt_size q
  refine ⟨⟨_, hS, rfl⟩, PySem.F.args_list_init_2 _ _, ?_⟩
  show wpAny _ _ (do let old ← Builtin.List.listItems (.ref s.heap.objs.size); Builtin.List.listUpdate (.ref s.heap.objs.size) (fun _ => #[]); letGo old.toList.reverse; Builtin.List.listExtendWith (.ref s.heap.objs.size) (.ref rv) .none) _ _ _
  refine wpAny_bind ?_; unfold Builtin.List.listItems; refine wpAny_bind (wpAny_seqItems hS rfl (wpAny_pure ?_))
  show wpAny _ _ (updateSeq s.heap.objs.size (fun _ => #[]) >>= fun _ => letGo (#[] : Array Value).toList.reverse >>= fun _ => Builtin.List.listExtendWith (.ref s.heap.objs.size) (.ref rv) .none) _ _ _
  refine wpAny_bind (wpAny_updateSeq hS rfl (wpAny_bind (wpAny_letGo ?_)))
  have hS₂ := Heap.get?_update_self (Obj.mapSeq (fun _ => (#[] : Array Value))) hS rfl
  have k2 : ∀ b o, b ≠ s.heap.objs.size → s.heap.get? b = some o → ((s.heap.push { cls := .type "list", data := .seq #[] }).update s.heap.objs.size (Obj.mapSeq (fun _ => (#[] : Array Value)))).get? b = some o := fun b o hb q => (Heap.get?_update_other _ _ (Ne.symm hb)).trans (k1 b o q)
  refine rv_extend (A := A.in1) (s := { s with heap := (s.heap.push { cls := .type "list", data := .seq #[] }).update s.heap.objs.size (Obj.mapSeq (fun _ => (#[] : Array Value))) }) hh (hit.at fun o q => k2 rv o (Nat.ne_of_lt hiS) q) (hl.at fun o q => k2 l o (Nat.ne_of_lt hlS) q) hli (Nat.ne_of_lt hiS) (Nat.ne_of_lt hlS) .none _ hS₂ (fun h' tk acc c hk hS' got => ?_) hn
  exact ⟨rfl, hQ h' tk acc c (fun b o h1 q => hk b o (Nat.ne_of_lt (Heap.lt_size q)) h1 (k2 b o (Nat.ne_of_lt (Heap.lt_size q)) q)) hS' got⟩
end
/-- list(reversed(x)), x a list: a new list -/
def tLstRev (K : PySem.W.Frag) (te : TE) : TE := fun σ H Q => te σ H fun v H1 => ∃ (a : Addr) (xs : List V), v = .ref a ∧ SqL K H1 a xs ∧ ∀ q, H1 q = none → Q (.ref q) (upd H1 q (.lst xs.reverse))
section
variable {X : Cx}
theorem pe_lstRev {e : Expr} {te : TE} {p p2 pos pos2 : Pos} (hc : X.calm = true) (hg : Gl X "list") (hm : X.mg "list" = none) (hg2 : Gl X "reversed") (hm2 : X.mg "reversed" = none) (he : PE X e te)
    (hs : starEach [e] X.env = (false, eval e X.env) :: starEach [] X.env := by rfl)
    (hs2 : starEach [.Call (.Name "reversed" p2) [e] [] pos2] X.env = (false, eval (.Call (.Name "reversed" p2) [e] [] pos2) X.env) :: starEach [] X.env := by rfl) :
    PE X (.Call (.Name "list" p) [.Call (.Name "reversed" p2) [e] [] pos2] [] pos) (tLstRev X.K te) := by
  refine ⟨fun pins s σ H Q I h => ?_⟩
  refine Call_ (ld_blt I hg hm boot_list (PyProof.Rows.callWith_type1 (args_cons (Call_ (ld_blt I hg2 hm2 PyProof.Rows.boot_reversed (PyProof.Rows.callWith_type1 (args_cons (thn (he.run pins s σ H _ I h) fun u s1 ⟨v, H1, I1, r1, q1⟩ => args_nil ?_) hs) hs rfl))) hs2) hs2 rfl))
  obtain ⟨a, xs, rfl, hx, q⟩ := q1
  cases r1
  obtain ⟨its, rel, pl, hz⟩ := I1.list hx
  refine call_reversed_list pl.isList (args_nil ?_)
  have up : ∀ b o, s1.heap.get? b = some o → (s1.heap.push (revObj a ((its.toArray.size : Int) - 1))).get? b = some o := fun b o z => Heap.get?_push_of_some _ z
  have I2 : Inv X pins σ H1 { s1 with heap := s1.heap.push (revObj a ((its.toArray.size : Int) - 1)) } := I1.kept (t' := s1.toks) up
  obtain ⟨f0, f1, f2, f3, f4, f5⟩ := I1.fpOk (H' := H1) (b := s1.heap.objs.size) (Nat.le_refl _) (I1.hok.fresh (Nat.le_refl _))
  have lst := pl.isList
  obtain ⟨ol, eol, _⟩ := id lst
  have apart : a ≠ s1.heap.objs.size := Nat.ne_of_lt (Heap.lt_size eol)
  have few : its.toArray.size ≤ sizeLine := by rw [List.size_toArray, ← rel.length]; exact hz
  refine rv_call (s := { s1 with heap := s1.heap.push (revObj a ((its.toArray.size : Int) - 1)) }) (I1.ok.hd hc) ⟨_, Heap.get?_push_size _ rfl, rfl, rfl⟩ (lst.push _) apart few fun h' tk acc c hk eS got => ?_
  have sz1 : (s1.heap.push (revObj a ((its.toArray.size : Int) - 1))).objs.size = s1.heap.objs.size + 1 := Heap.size_push ..
  -- the new list is no older than the iterator
  have I3 : Inv X pins σ (upd H1 (s1.heap.push (revObj a ((its.toArray.size : Int) - 1))).objs.size (.lst xs.reverse)) { s1 with heap := h', toks := tk } := by
    have k3 : ∀ b u, s1.heap.get? b = some u → h'.get? b = some u := fun b u z => hk b u (Nat.ne_of_lt (Heap.lt_size z)) (up b u z)
    refine I1.laid (t' := tk) k3 (by rw [sz1]; exact Nat.le_succ _) ⟨by rw [List.length_reverse]; exact hz, acc.toList, c, RT.vals_rev rel got, ?_⟩
    rw [Array.toArray_toList]
    exact eS
  exact ⟨.ref _, _, I3, rfl, q _ (I1.hok.fresh (by rw [sz1]; exact Nat.le_succ _))⟩
/-! ### a part of a list by steps: some of its items -/
def tSlStep (K : PySem.W.Frag) (te : TE) (tl tu ts : TO) : TE := fun σ H Q => te σ H fun x H1 => tl σ H1 fun _ H2 => tu σ H2 fun _ H3 => ts σ H3 fun st H4 => ∃ a xs, x = .ref a ∧ SqL K H4 a xs ∧ st ≠ some 0 ∧
  ∀ p ys, (∀ y ∈ ys, y ∈ xs) → ys.length ≤ xs.length → H4 p = none → Q (.ref p) (upd H4 p (.lst ys))
theorem picks_rel {xs : List V} {us : List Value} (r : Vals xs us) : ∀ ks : List Nat, Vals (ks.filterMap (xs[·]?)) (ks.filterMap (us.toArray[·]?))
  | [] => .nil
  | k :: ks => by
    rw [List.filterMap_cons, List.filterMap_cons]
    cases c : xs[k]? with
    | none =>
      have d : us.toArray[k]? = none := by simpa using r.none_of c
      rw [d]
      exact picks_rel r ks
    | some x =>
      obtain ⟨u, e1, e2⟩ := r.get c
      have d : us.toArray[k]? = some u := by simpa using e1
      rw [d]
      exact .cons e2 (picks_rel r ks)
theorem pe_slStep {e lo hi st : Expr} {te : TE} {tl tu ts : TO} {p3 pos : Pos} (he : PE X e te) (hl : PO X (some lo) tl) (hu : PO X (some hi) tu) (hs : PO X (some st) ts) : PE X (.Subscript e (.Slice (some lo) (some hi) (some st) p3) pos) (tSlStep X.K te tl tu ts) := by
  refine ⟨fun pins s σ H Q I h => ?_⟩
  refine Subscript_ (thn (he.run pins s σ H _ I h) fun v s1 ⟨x, H1, I1, r1, q1⟩ => ?_)
  refine wpAny_Slice (thn (hl.run pins s1 σ H1 _ I1 q1) fun vl s2 ⟨l, H2, I2, pl, q2⟩ => thn (hu.run pins s2 σ H2 _ I2 q2) fun vu s3 ⟨u, H3, I3, pu, q3⟩ => thn (hs.run pins s3 σ H3 _ I3 q3) fun vs s4 ⟨o, H4, I4, ps, q4⟩ => ?_)
  obtain ⟨a, xs, rfl, hx, n0, q⟩ := q4
  cases r1
  have I5 : Inv X pins σ H4 { s4 with heap := s4.heap.push { cls := .type "slice", data := .fields #[vl, vu, vs] } } := I4.kept (t' := s4.toks) fun b ob z => Heap.get?_push_of_some _ z
  obtain ⟨its, rel, lst, hz⟩ := I5.list hx
  show wpAny (model X.prog X.w) X.A (subscriptTail e (.Slice (some lo) (some hi) (some st) p3) (.ref a) (.ref s4.heap.objs.size)) (EP X pins σ Q) X.xe { s4 with heap := s4.heap.push { cls := .type "slice", data := .fields #[vl, vu, vs] } }
  refine tail_any (ops := [.ref a, .ref s4.heap.objs.size]) lst.isList.typeIs (PySem.slot_list_getitem.lookup) ?_ (by with_unfolding_all rfl)
  refine wpAny_getItem_list_slice lst.isList (Heap.IsSliceOf.new _ vl vu vs) pl pu ps n0 ?_ (by rw [List.size_toArray, ← rel.length]; exact hz)
  have len := slicePick_size_le its.toArray l u o
  have rp := picks_rel rel (sliceRange (sliceBounds l u o its.toArray.size).1 (sliceBounds l u o its.toArray.size).2.1 (sliceBounds l u o its.toArray.size).2.2)
  generalize hk : (sliceRange (sliceBounds l u o its.toArray.size).1 (sliceBounds l u o its.toArray.size).2.1 (sliceBounds l u o its.toArray.size).2.2) = ks at rp
  have es : slicePick its.toArray l u o = (ks.filterMap (its.toArray[·]?)).toArray := by
    unfold slicePick
    rw [hk]
  have ly : (ks.filterMap (xs[·]?)).length ≤ xs.length := by
    have e1 := rp.length
    have e2 : (slicePick its.toArray l u o).size = (ks.filterMap (its.toArray[·]?)).length := by rw [es, List.size_toArray]
    have e3 := rel.length
    have e4 : its.toArray.size = its.length := by rw [List.size_toArray]
    omega
  refine ⟨.ref _, _, I5.laid (t' := s4.toks) (o := .lst (ks.filterMap (xs[·]?))) (fun b ob z => Heap.get?_push_of_some _ z) (Nat.le_refl _) ?_, rfl, q _ _ (fun y hy => ?_) ly (I5.hok.fresh (Nat.le_refl _))⟩
  · exact ⟨Nat.le_trans ly hz, _, 0, rp, by rw [es]; exact Heap.get?_push_size _ rfl⟩
  · obtain ⟨k, _, ek⟩ := List.mem_filterMap.mp hy
    exact List.mem_of_getElem? ek
end
end Cw

/-! pairs that fit: told, turned about, by other names, by other letters -/
namespace Cw
open PySem PySem.Spec PyProof.Rows L2
theorem tieL_mem {w : Web} (W : WOk w) {a b c : Nat} : tieL w.2 a b = some c ↔ (min a b, max a b, c) ∈ w.2 := by
  constructor
  · intro h
    unfold tieL at h
    obtain ⟨t, ht, rfl⟩ := Option.map_eq_some_iff.mp h
    have hm := List.mem_of_find?_eq_some ht
    have hp := at2_iff.mp (List.find?_some ht)
    have r := (W.ends t hm).1
    have e : (min a b, max a b, t.2.2) = t := by
      obtain ⟨t1, t2, t3⟩ := t
      simp only [Prod.mk.injEq, and_true]
      dsimp only at hp r
      omega
    rw [e]; exact hm
  · intro h
    have r := (W.ends _ h).1
    have q : at2 a b (min a b, max a b, c) = true := at2_iff.mpr (by dsimp only; omega)
    cases e : tieL w.2 a b with
    | none =>
      have z := (tieL_isSome (ts := w.2) (a := a) (b := b)).mpr ⟨_, h, q⟩
      rw [e] at z; cases z
    | some d =>
      unfold tieL at e
      obtain ⟨t, ht, rfl⟩ := Option.map_eq_some_iff.mp e
      have hm := List.mem_of_find?_eq_some ht
      have hp := at2_iff.mp (List.find?_some ht)
      have r2 := (W.ends t hm).1
      obtain ⟨i, hi, ei⟩ := List.getElem_of_mem hm
      obtain ⟨j, hj, ej⟩ := List.getElem_of_mem h
      have s := List.pairwise_iff_getElem.mp W.rise
      rcases Nat.lt_trichotomy i j with c1 | c1 | c1
      · have lt := s i j hi hj c1
        rw [ei, ej] at lt
        rcases lt with lt | lt <;> dsimp only at lt <;> omega
      · subst c1
        rw [ei] at ej
        rw [ej]
      · have lt := s j i hj hi c1
        rw [ei, ej] at lt
        rcases lt with lt | lt <;> dsimp only at lt <;> omega
theorem tieL_named {w w' : Web} {qs : List Nat} (W : WOk w) (W' : WOk w') (o : Ord qs w.1.length) (N : Named w qs w') {a b : Nat} (ha : a < w.1.length) (hb : b < w.1.length) : tieL w'.2 (qa qs a) (qa qs b) = tieL w.2 a b := by
  refine Option.ext fun c => ?_
  rw [tieL_mem W', tieL_mem W, N.ties.mem_iff, List.mem_map]
  constructor
  · rintro ⟨t, ht, e⟩
    have r := W.ends t ht
    unfold mapTie at e
    simp only [Prod.mk.injEq] at e
    obtain ⟨e1, e2, e3⟩ := e
    have key : (t.1 = a ∧ t.2.1 = b) ∨ (t.1 = b ∧ t.2.1 = a) := by
      by_cases c1 : qa qs t.1 = qa qs a
      · have z1 := o.inj (by omega) ha c1
        have z2 := o.inj (p := t.2.1) (r := b) (by omega) hb (by omega)
        exact .inl ⟨z1, z2⟩
      · have z1 := o.inj (p := t.1) (r := b) (by omega) hb (by omega)
        have z2 := o.inj (p := t.2.1) (r := a) (by omega) ha (by omega)
        exact .inr ⟨z1, z2⟩
    have e : (min a b, max a b, c) = t := by
      obtain ⟨t1, t2, t3⟩ := t
      simp only [Prod.mk.injEq]
      dsimp only at key r e3
      omega
    rw [e]; exact ht
  · intro h
    have r := W.ends _ h
    refine ⟨_, h, ?_⟩
    unfold mapTie
    simp only [Prod.mk.injEq, and_true]
    dsimp only at r
    rcases Nat.le_total a b with c1 | c1
    · rw [Nat.min_eq_left c1, Nat.max_eq_right c1]; exact ⟨rfl, rfl⟩
    · rw [Nat.min_eq_right c1, Nat.max_eq_left c1]
      omega
/-- two pairs fit -/
def fitB (w w' : Web) (x y : Nat × Nat) : Bool := if x.1 = y.1 ∨ x.2 = y.2 then false else decide (optV (tieL w.2 x.1 y.1) = optV (tieL w'.2 x.2 y.2))
theorem fitB_congr {w w' u u' : Web} {x y z t : Nat × Nat} (h : (x.1 = y.1 ∨ x.2 = y.2) ↔ (z.1 = t.1 ∨ z.2 = t.2)) (e : optV (tieL w.2 x.1 y.1) = optV (tieL w'.2 x.2 y.2) ↔ optV (tieL u.2 z.1 t.1) = optV (tieL u'.2 z.2 t.2)) : fitB w w' x y = fitB u u' z t := by
  unfold fitB
  by_cases c : x.1 = y.1 ∨ x.2 = y.2
  · rw [if_pos c, if_pos (h.mp c)]
  · rw [if_neg c, if_neg fun q => c (h.mpr q)]
    exact decide_eq_decide.mpr e
theorem fitB_turn (w w' : Web) (x y : Nat × Nat) : fitB w' w (x.2, x.1) (y.2, y.1) = fitB w w' x y := fitB_congr Or.comm eq_comm
theorem fitB_named {w w' u u' : Web} {qs rs : List Nat} (W : WOk w) (U : WOk u) (o : Ord qs w.1.length) (N : Named w qs u) (W' : WOk w') (U' : WOk u') (o' : Ord rs w'.1.length) (N' : Named w' rs u') {x y : Nat × Nat}
    (hx : x.1 < w.1.length ∧ x.2 < w'.1.length) (hy : y.1 < w.1.length ∧ y.2 < w'.1.length) : fitB u u' (qa qs x.1, qa rs x.2) (qa qs y.1, qa rs y.2) = fitB w w' x y := by
  refine fitB_congr ⟨fun h => h.imp (o.inj hx.1 hy.1) (o'.inj hx.2 hy.2), fun h => h.imp (fun e => by show qa qs _ = qa qs _; rw [e]) (fun e => by show qa rs _ = qa rs _; rw [e])⟩ ?_
  show optV (tieL u.2 (qa qs x.1) (qa qs y.1)) = optV (tieL u'.2 (qa rs x.2) (qa rs y.2)) ↔ _
  rw [tieL_named W U o N hx.1 hy.1, tieL_named W' U' o' N' hx.2 hy.2]
theorem fitB_self {w : Web} {a b : Nat} (h : a ≠ b) : fitB w w (a, a) (b, b) = true := by
  unfold fitB
  rw [if_neg (by intro z; rcases z with z | z <;> exact h z)]
  exact decide_eq_true rfl
/-! ### other letters -/
def shl (k c : Nat) : Nat := 97 + (c - 97 + k) % 26
theorem shl_ltr (k c : Nat) : Ltr (shl k c) := by unfold shl Ltr; omega
theorem shl_inj {k c d : Nat} (hc : Ltr c) (hd : Ltr d) (h : shl k c = shl k d) : c = d := by
  unfold shl at h
  unfold Ltr at hc hd
  omega
def lettered (w : Web) (by_ : Nat) : Web := (w.1.map (shl by_), w.2.map fun t => (t.1, t.2.1, shl (3 * by_) t.2.2))
theorem lettered_ok {w : Web} (W : WOk w) (k : Nat) : WOk (lettered w k) := by
  refine ⟨by show (w.1.map _).length ≤ 40; rw [List.length_map]; exact W.few, by show (w.2.map _).length ≤ 1600; rw [List.length_map]; exact W.most, fun c hc => ?_, ?_, fun t ht => ?_⟩
  · obtain ⟨d, _, rfl⟩ := List.mem_map.mp hc
    exact shl_ltr k d
  · show (w.2.map _).Pairwise tlt
    rw [List.pairwise_map]
    exact W.rise
  · obtain ⟨u, hu, rfl⟩ := List.mem_map.mp ht
    have r := W.ends u hu
    exact ⟨r.1, by show u.2.1 < (w.1.map _).length; rw [List.length_map]; exact r.2.1, shl_ltr _ _⟩
theorem tieL_lettered (w : Web) (k a b : Nat) : tieL (lettered w k).2 a b = (tieL w.2 a b).map (shl (3 * k)) := by
  unfold tieL lettered
  dsimp only
  rw [List.find?_map, Option.map_map, Option.map_map]
  rfl
theorem tieL_ltr {w : Web} (W : WOk w) {a b c : Nat} (h : tieL w.2 a b = some c) : Ltr c := (W.ends _ ((tieL_mem W).mp h)).2.2
theorem fitB_lettered {w w' : Web} (W : WOk w) (W' : WOk w') (k : Nat) (x y : Nat × Nat) : fitB (lettered w k) (lettered w' k) x y = fitB w w' x y := by
  refine fitB_congr Iff.rfl ?_
  rw [tieL_lettered, tieL_lettered]
  cases e1 : tieL w.2 x.1 y.1 with
  | none =>
    cases e2 : tieL w'.2 x.2 y.2 with
    | none => exact Iff.rfl
    | some d => exact ⟨fun z => (by cases z), fun z => (by cases z)⟩
  | some c =>
    cases e2 : tieL w'.2 x.2 y.2 with
    | none => exact ⟨fun z => (by cases z), fun z => (by cases z)⟩
    | some d =>
      show V.str (sg (shl (3 * k) c)) = V.str (sg (shl (3 * k) d)) ↔ V.str (sg c) = V.str (sg d)
      constructor
      · intro z
        rw [shl_inj (tieL_ltr W e1) (tieL_ltr W' e2) (sg_inj.mp (V.str.inj z))]
      · intro z
        rw [sg_inj.mp (V.str.inj z)]
/-! ### all pairs of like kinds -/
def rowL (w w' : Web) (p m : Nat) : Lead := ((List.range m).filter fun e => decide (w.1[p]? = w'.1[e]?)).map fun e => (p, e)
def preL (w w' : Web) (n : Nat) : Lead := (List.range n).flatMap fun p => rowL w w' p w'.1.length
def pairsL (w w' : Web) : Lead := preL w w' w.1.length
def plt (x y : Nat × Nat) : Prop := x.1 < y.1 ∨ (x.1 = y.1 ∧ x.2 < y.2)
theorem rowL_succ (w w' : Web) (p m : Nat) : rowL w w' p (m + 1) = rowL w w' p m ++ if w.1[p]? = w'.1[m]? then [(p, m)] else [] := by
  unfold rowL
  rw [List.range_succ, List.filter_append, List.map_append]
  congr 1
  by_cases c : w.1[p]? = w'.1[m]?
  · rw [if_pos c]; simp [c]
  · rw [if_neg c]; simp [c]
theorem preL_succ (w w' : Web) (n : Nat) : preL w w' (n + 1) = preL w w' n ++ rowL w w' n w'.1.length := by
  unfold preL
  rw [List.range_succ, List.flatMap_append]
  simp
theorem mem_rowL {w w' : Web} {p m : Nat} {x : Nat × Nat} : x ∈ rowL w w' p m ↔ x.1 = p ∧ x.2 < m ∧ w.1[p]? = w'.1[x.2]? := by
  unfold rowL
  rw [List.mem_map]
  constructor
  · rintro ⟨e, he, rfl⟩
    obtain ⟨h1, h2⟩ := List.mem_filter.mp he
    exact ⟨rfl, List.mem_range.mp h1, of_decide_eq_true h2⟩
  · rintro ⟨h1, h2, h3⟩
    exact ⟨x.2, List.mem_filter.mpr ⟨List.mem_range.mpr h2, decide_eq_true h3⟩, by rw [← h1]⟩
theorem mem_preL {w w' : Web} {n : Nat} {x : Nat × Nat} : x ∈ preL w w' n ↔ x.1 < n ∧ x.2 < w'.1.length ∧ w.1[x.1]? = w'.1[x.2]? := by
  unfold preL
  rw [List.mem_flatMap]
  constructor
  · rintro ⟨p, hp, hx⟩
    obtain ⟨h1, h2, h3⟩ := mem_rowL.mp hx
    rw [h1]
    exact ⟨List.mem_range.mp hp, h2, h3⟩
  · rintro ⟨h1, h2, h3⟩
    exact ⟨x.1, List.mem_range.mpr h1, mem_rowL.mpr ⟨rfl, h2, h3⟩⟩
theorem mem_pairsL {w w' : Web} {x : Nat × Nat} : x ∈ pairsL w w' ↔ x.1 < w.1.length ∧ x.2 < w'.1.length ∧ w.1[x.1]? = w'.1[x.2]? := mem_preL
theorem rowL_rise (w w' : Web) (p m : Nat) : (rowL w w' p m).Pairwise plt := by
  unfold rowL
  rw [List.pairwise_map]
  exact (List.Pairwise.filter _ List.pairwise_lt_range).imp fun h => .inr ⟨rfl, h⟩
theorem preL_rise (w w' : Web) : ∀ n, (preL w w' n).Pairwise plt
  | 0 => .nil
  | n + 1 => by
    rw [preL_succ]
    refine List.pairwise_append.mpr ⟨preL_rise w w' n, rowL_rise w w' n _, fun x hx y hy => .inl ?_⟩
    have h1 := (mem_preL.mp hx).1
    have h2 := (mem_rowL.mp hy).1
    omega
theorem rowL_len (w w' : Web) (p m : Nat) : (rowL w w' p m).length ≤ m := by
  unfold rowL
  rw [List.length_map]
  exact Nat.le_trans (List.length_filter_le _ _) (by rw [List.length_range]; exact Nat.le_refl _)
theorem preL_len {w w' : Web} (W' : WOk w') : ∀ n, (preL w w' n).length ≤ 40 * n
  | 0 => by simp [preL]
  | n + 1 => by
    rw [preL_succ, List.length_append]
    have h1 := preL_len W' n (w := w)
    have h2 := rowL_len w w' n w'.1.length
    have h3 := W'.few
    omega
theorem plt_ext : ∀ {l m : Lead}, l.Pairwise plt → m.Pairwise plt → (∀ x, x ∈ l ↔ x ∈ m) → l = m
  | [], [], _, _, _ => rfl
  | [], y :: m, _, _, h => absurd ((h y).mpr List.mem_cons_self) (by simp)
  | x :: l, [], _, _, h => absurd ((h x).mp List.mem_cons_self) (by simp)
  | x :: l, y :: m, hl, hm, h => by
    obtain ⟨l1, l2⟩ := List.pairwise_cons.mp hl
    obtain ⟨m1, m2⟩ := List.pairwise_cons.mp hm
    have asym : ∀ {a b : Nat × Nat}, plt a b → plt b a → False := fun {a b} p q => by unfold plt at p q; omega
    have hx : x = y := by
      rcases List.mem_cons.mp ((h x).mp List.mem_cons_self) with z | z
      · exact z
      · rcases List.mem_cons.mp ((h y).mpr List.mem_cons_self) with z' | z'
        · exact z'.symm
        · exact (asym (m1 x z) (l1 y z')).elim
    subst hx
    congr 1
    have irr : ∀ {a : Nat × Nat}, plt a a → False := fun {a} p => asym p p
    refine plt_ext l2 m2 fun z => ⟨fun hz => ?_, fun hz => ?_⟩
    · rcases List.mem_cons.mp ((h z).mp (List.mem_cons_of_mem _ hz)) with q | q
      · subst q; exact (irr (l1 _ hz)).elim
      · exact q
    · rcases List.mem_cons.mp ((h z).mpr (List.mem_cons_of_mem _ hz)) with q | q
      · subst q; exact (irr (m1 _ hz)).elim
      · exact q
/-- pairs turned about are those of the webs the other way about -/
theorem turned_mem {w w' : Web} (x : Nat × Nat) : x ∈ (pairsL w w').map (fun p => (p.2, p.1)) ↔ x ∈ pairsL w' w := by
  rw [List.mem_map, mem_pairsL]
  constructor
  · rintro ⟨p, hp, rfl⟩
    obtain ⟨h1, h2, h3⟩ := mem_pairsL.mp hp
    exact ⟨h2, h1, h3.symm⟩
  · rintro ⟨h1, h2, h3⟩
    exact ⟨(x.2, x.1), mem_pairsL.mpr ⟨h2, h1, h3.symm⟩, rfl⟩
theorem named_mem {w w' u u' : Web} {qs rs : List Nat} (o : Ord qs w.1.length) (N : Named w qs u) (o' : Ord rs w'.1.length) (N' : Named w' rs u') (x : Nat × Nat) : x ∈ (pairsL w w').map (fun p => (qa qs p.1, qa rs p.2)) ↔ x ∈ pairsL u u' := by
  rw [List.mem_map, mem_pairsL, N.len, N'.len]
  constructor
  · rintro ⟨p, hp, rfl⟩
    obtain ⟨h1, h2, h3⟩ := mem_pairsL.mp hp
    refine ⟨o.lt' h1, o'.lt' h2, ?_⟩
    show u.1[qa qs p.1]? = u'.1[qa rs p.2]?
    rw [N.kinds _ h1, N'.kinds _ h2, h3]
  · rintro ⟨h1, h2, h3⟩
    obtain ⟨a, ha, ea⟩ := o.onto h1
    obtain ⟨b, hb, eb⟩ := o'.onto h2
    refine ⟨(a, b), mem_pairsL.mpr ⟨ha, hb, ?_⟩, by show (qa qs a, qa rs b) = x; rw [ea, eb]⟩
    rw [← ea, ← eb, N.kinds _ ha, N'.kinds _ hb] at h3
    exact h3
theorem map_nodup {f : Nat × Nat → Nat × Nat} {l : Lead} (h : l.Pairwise plt) (hf : ∀ x ∈ l, ∀ y ∈ l, f x = f y → x = y) : (l.map f).Nodup := by
  show List.Pairwise _ _
  rw [List.pairwise_map]
  refine List.Pairwise.imp_of_mem (fun {x y} hx hy lt e => ?_) h
  have := hf x hx y hy e
  subst this
  unfold plt at lt
  omega
theorem pairsL_rise (w w' : Web) : (pairsL w w').Pairwise plt := preL_rise w w' _
/-- an arrangement in order of pairs none twice rises -/
theorem arranged {l m : Lead} (p : l.Perm m) (nd : m.Nodup) (s : l.Pairwise fun x y => ¬ plt y x) : l.Pairwise plt := by
  have nl : l.Nodup := p.nodup_iff.mpr nd
  refine (List.Pairwise.and s nl).imp fun {x y} ⟨h1, h2⟩ => ?_
  obtain ⟨a, b⟩ := x
  obtain ⟨c, d⟩ := y
  unfold plt at h1 ⊢
  simp only [ne_eq, Prod.mk.injEq] at h2
  dsimp only at h1 ⊢
  omega
end Cw

/-! a pair from behind: t[::-1] of a tuple of two -/
namespace Cw
open PySem PySem.Spec PySem.Calls PyProof.Rows L2
section
variable {prog : Program} {w : World} {A : Around} {E : Value → Shared → Prop} {s : Shared}
theorem apply_back2 {sl : Addr} {vl vu vs : Value} {Q : Int × Int × Nat → Shared → Prop} (hs : s.heap.IsSliceOf sl vl vu vs) (p1 : IsPart vl none) (p2 : IsPart vu none) (p3 : IsPart vs (some (-1)))
    (h : Q ((1 : Int), (-1 : Int), 2) s) : wpAny (model prog w) A (Builtin.Slice.sliceApplied (.ref sl) (pure ((2 : Nat) : Int))) Q E s := by
  obtain ⟨ob, eo, ec, ed⟩ := id hs
  cases p1
  cases p2
  cases p3 with
  | int i t =>
    (unfold Builtin.Slice.sliceApplied; unfold Builtin.Slice.sliceFields)
    refine wpAny_bind (wpAny_bind (wpAny_field eo ed (x := .none) rfl (wpAny_bind (wpAny_field eo ed (x := .none) rfl (wpAny_bind (wpAny_field eo ed (x := .int (-1) t) rfl (wpAny_pure ?_)))))))
    refine wpAny_bind (slicePart_int ?_)
    show wpAny _ _ (if ((-1 : Int) == 0) = true then _ else _) _ _ s
    rw [if_neg (by decide)]
    refine wpAny_bind (slicePart_none (wpAny_bind (slicePart_none (wpAny_bind (wpAny_pure ?_)))))
    exact wpAny_pure h
theorem item_back2 {t sl : Addr} {x y : Value} {vl vu vs : Value} {Q : Value → Shared → Prop} (tp : IsTup s.heap t #[x, y]) (hs : s.heap.IsSliceOf sl vl vu vs) (p1 : IsPart vl none) (p2 : IsPart vu none) (p3 : IsPart vs (some (-1)))
    (h : Q (.ref s.heap.objs.size) { s with heap := s.heap.push { cls := .type "tuple", data := .seq #[y, x] } }) : wpAny (model prog w) A (getItem (.ref t) (.ref sl)) Q E s := by
  obtain ⟨ob, eo, ec, ed⟩ := id hs
  have tyS : s.TypeIs (.ref sl) "slice" := ⟨ob, eo, ec⟩
  unfold getItem
  try with_reducible refine wpAny_holding ?_
  try refine wpAny_bind (wpAny_pure ?_)
  refine wpAny_bind (wpAny_sequenceKey tp.typeIs (by decide) ?_)
  refine wpAny_bind (wpAny_callSpecial?_slot (name := Str.ofString "__getitem__") tp.typeIs PyProof.Rows.slot_tuple_getitem
    (wpAny_call_entry PyProof.Rows.slot_tuple_getitem tp.typeIs entry_tuple_getitem ?_ (args_tuple_getitem _ _)))
  show wpAny _ _ (Builtin.Tuple.tupleItemsOf (.ref t) >>= _) _ _ s
  refine wpAny_bind (tupleItemsOf_ tp ?_)
  refine wpAny_bind (wpAny_typeOf tyS ?_)
  rw [if_pos (by decide)]
  refine wpAny_bind (apply_back2 hs p1 p2 p3 ?_)
  have no : ¬ (((1 : Int) == 0 && (-1 : Int) == 1 && (2 : Nat) == (#[x, y] : Array Value).size) = true) := by simp
  show wpAny _ _ (if ((1 : Int) == 0 && (-1 : Int) == 1 && (2 : Nat) == (#[x, y] : Array Value).size) = true then _ else _) _ _ s
  rw [if_neg no]
  have pick : ((List.range 2).filterMap fun (m : Nat) => (#[x, y] : Array Value)[((1 : Int) + (m : Int) * (-1)).toNat]?).toArray = #[y, x] := rfl
  rw [pick]
  have fits : sizeOk (.seq #[y, x]) := by
    show 2 ≤ sizeLine
    decide
  first
    | exact wpAny_bind (m := Builtin.Tuple.tupleExact _) (wpAny_newObj_type (wpAny_pure ⟨_, rfl, wpAny_pure h⟩) fits)
    | exact wpAny_bind (m := Builtin.Tuple.tupleExact _) (wpAny_newObj_type (wpAny_bind (wpAny_pure (wpAny_pure ⟨_, rfl, wpAny_pure h⟩))) fits)
    | exact wpAny_bind (wpAny_bind (m := Builtin.Tuple.tupleExact _) (wpAny_newObj_type (wpAny_pure (wpAny_pure ⟨_, rfl, wpAny_pure h⟩)) fits))
    | exact wpAny_bind (wpAny_bind (m := Builtin.Tuple.tupleExact _) (wpAny_newObj_type (wpAny_pure ⟨_, rfl, wpAny_pure h⟩) fits))
end
def tRevT (K : PySem.W.Frag) (te : TE) : TE := fun σ H Q => te σ H fun v H1 => ∃ a x y, v = .ref a ∧ SqT K H1 a [x, y] ∧ ∀ p, H1 p = none → Q (.ref p) (upd H1 p (.tup [y, x]))
theorem pe_revT {X : Cx} {e : Expr} {te : TE} {k : Nat} {p1 p2 p3 pos : Pos} (he : PE X e te) : PE X (.Subscript e (.Slice none none (some (.UnaryOp .USub (.Constant (.int 1) k p1) p2)) p3) pos) (tRevT X.K te) := by
  refine ⟨fun pins s σ H Q I h => ?_⟩
  refine Subscript_ (thn (he.run pins s σ H _ I h) fun v s1 ⟨x, H1, I1, r1, q1⟩ => ?_)
  obtain ⟨a, u, z, rfl, hx, q⟩ := q1
  cases r1
  have part : PO X (some (.UnaryOp .USub (.Constant (.int 1) k p1) p2)) (tPart (tUn (rU fun i => .int (-i)) (tC (.int 1)))) := po_some (pe_un un_neg pe_int)
  refine wpAny_Slice (thn (po_none.run pins s1 σ H1 (fun o G => o = none ∧ G = H1) I1 ⟨rfl, rfl⟩) fun vl s2 ⟨l, H2, I2, pl, el, e2⟩ => ?_)
  cases el
  cases e2
  refine thn (po_none.run pins s2 σ H1 (fun o G => o = none ∧ G = H1) I2 ⟨rfl, rfl⟩) fun vu s3 ⟨o3, H3, I3, pu, eu, e3⟩ => ?_
  cases eu
  cases e3
  refine thn (part.run pins s3 σ H1 (fun o G => o = some (-1) ∧ G = H1) I3 ⟨1, rfl, -1, rfl, rfl, rfl⟩) fun vs s4 ⟨o4, H4, I4, ps, eo, e4⟩ => ?_
  cases eo
  cases e4
  have I5 : Inv X pins σ H1 { s4 with heap := s4.heap.push { cls := .type "slice", data := .fields #[vl, vu, vs] } } := I4.kept (t' := s4.toks) fun b ob g => Heap.get?_push_of_some _ g
  obtain ⟨its, rel, tp, hz⟩ := I5.tuple hx
  cases rel with
  | cons ra rt =>
    cases rt with
    | cons rb rn =>
      cases rn
      show wpAny (model X.prog X.w) X.A (subscriptTail e (.Slice none none (some (.UnaryOp .USub (.Constant (.int 1) k p1) p2)) p3) (.ref a) (.ref s4.heap.objs.size)) (EP X pins σ Q) X.xe { s4 with heap := s4.heap.push { cls := .type "slice", data := .fields #[vl, vu, vs] } }
      refine tail_any (ops := [.ref a, .ref s4.heap.objs.size]) tp.typeIs (PyProof.Rows.slot_tuple_getitem.lookup) ?_ (by with_unfolding_all rfl)
      refine item_back2 tp (Heap.IsSliceOf.new _ vl vu vs) pl pu ps ?_
      refine ⟨.ref _, _, I5.laid (t' := s4.toks) (o := .tup [z, u]) (fun b ob g => Heap.get?_push_of_some _ g) (Nat.le_refl _) ?_, rfl, q _ (I5.hok.fresh (Nat.le_refl _))⟩
      exact ⟨by show 2 ≤ sizeLine; decide, _, .cons rb (.cons ra .nil), IsTup.new _ _⟩
end Cw

/-! sets of whole numbers: set(a list), {one}; a def's code told to its body -/
namespace Cw
open PySem PySem.Spec PySem.Calls PyProof.Rows L2
section
variable {P : Program} {w : World} {A : Around} {E : Value → Shared → Prop} {s : Shared}
abbrev noSet (w : World) : Obj := { cls := .type "set", dict := none, data := .set #[] 0 (.fresh 0 0 (!w.params.followText "set-order")) }
set_option maxHeartbeats 3200000 in
theorem call_set_lstI {l : Addr} {items : Array Value} (ns : List Int) {Q : Value → Shared → Prop} (hh : A.handled = none) (lst : s.heap.IsList l items) (nums : IntsAre items.toList ns) (room : ns.length + 1 < scanBound)
    (h : ∀ (h' : Heap) (tk c : Nat), SetR w h' s.heap.objs.size (fun j => decide (j ∈ ns)) c → c ≤ ns.length → (∀ b o, s.heap.get? b = some o → h'.get? b = some o) → Q (.ref s.heap.objs.size) { s with heap := h', toks := tk }) :
    wpAny (model P w) A (call (.type "set") [.ref l]) Q E s := by
  have many : items.size = ns.length := by
    have z := IntsAre.length nums
    rwa [Array.length_toList] at z
  obtain ⟨c, tl, hmro⟩ := F.called_set.mro
  have hmade := F.called_set.made
  have hsub := F.called_set.sub
  (refine wpAny_call (codeAny_of_tree ?_))
  show wpAny _ _ (callAny (.type "set") _) _ _ _
  (refine wpAny_pure ⟨Code.quiet_builtin _ (by decide +kernel), codeAny_builtin F.entry_type_call ?_⟩)
  (rw [Around.under_plain (weight_type_call_type "set" [.ref l] []) rfl])
  have h1 := F.called_set.notType
  have h2 := F.called_set.canCreate
  have hct := F.typeCall_set_1 (.ref l)
  (repeat (any_goals (first | assumption | wp_step)))
  refine codeAny_mono (code_set_led1 (.ref l) (E := E) (Q₁ := fun obj s₁ => obj = .ref s.heap.objs.size ∧ s₁ = { s with heap := s.heap.push (noSet w) }) ⟨rfl, rfl⟩) fun r s₁ hr => ?_
  match r, hr with
  | .error e, hr => exact hr
  | .ok (.next), hr => exact hr.elim
  | .ok (.brk), hr => exact hr.elim
  | .ok (.cont), hr => exact hr.elim
  | .ok (.ret obj), hr =>
    obtain ⟨rfl, rfl⟩ := hr
    have eS : (s.heap.push (noSet w)).get? s.heap.objs.size = some (noSet w) := Heap.get?_push_size _ rfl
    have tyS : Shared.TypeIs { s with heap := s.heap.push (noSet w) } (.ref s.heap.objs.size) "set" := ⟨_, eS, rfl⟩
    have hli := F.called_set.init.lookup
    have hbi := F.called_set.init.bind (.ref s.heap.objs.size)
    (repeat (any_goals (first | assumption | wp_step)))
    refine codeAny_mono (codeAny_call_builtin (R := wants (fun r s₂ => r = .none ∧ ∃ h' tk c, s₂ = { s with heap := h', toks := tk } ∧ SetR w h' s.heap.objs.size (fun j => decide (j ∈ ns)) c ∧ c ≤ ns.length ∧
        (∀ b o, s.heap.get? b = some o → h'.get? b = some o)) E) F.called_set.init.plain F.entry_set_init (check_set_init_1 tyS ?_)) fun r₂ s₂ hr₂ => ?_
    · obtain ⟨ol, eol, cl, nl, dl⟩ := lst
      obtain ⟨lcls, ldict, ldata, lslots⟩ := ol
      simp only at cl dl
      subst cl
      subst dl
      have eol' : (s.heap.push (noSet w)).get? l = some { cls := .type "list", dict := ldict, data := .seq items nl, slots := lslots } := Heap.get?_push_of_some _ eol
      have hsls := F.sub_list_set
      have hslf := F.sub_list_frozenset
      have hne : (Value.type "list" == Value.type "dict") = false := by decide
      have lst1 : (s.heap.push (noSet w)).IsList l items := ⟨_, eol', rfl, nl, rfl⟩
      (unfold Builtin.«set.__init__» noKeywords; unfold Builtin.Frozenset.updateFrom)
      generalize hPI : pyIter = PI
      wp_walk
      subst hPI
      refine wpAny_pyIter_list lst1 ?_
      refine wpAny_bind (wpAny_runValue ?_)
      have below : l < s.heap.objs.size := Heap.lt_size eol
      have hh3 : A.in1.in1.in1.handled = none := by simp [hh]
      have sz1 : (s.heap.push (noSet w)).objs.size = s.heap.objs.size + 1 := Heap.size_push ..
      have neI : l ≠ (s.heap.push (noSet w)).objs.size := by
        rw [sz1]
        exact Nat.ne_of_lt (Nat.lt_succ_of_lt below)
      have apart : s.heap.objs.size ∉ [(s.heap.push (noSet w)).objs.size, l] := by
        rw [sz1]
        intro z
        rcases List.mem_cons.mp z with z | z
        · exact absurd z (Nat.ne_of_lt (Nat.lt_succ_self _))
        · exact absurd (List.mem_singleton.mp z) (Nat.ne_of_gt below)
      have vals : ∀ (i : Nat) (v : Value), items[i]? = some v → ∃ k t, ns[i]? = some k ∧ v = .int k t := fun i v hv => by
        have hi : i < ns.length := by rw [← many]; exact (Array.getElem?_eq_some_iff.mp hv).1
        obtain ⟨t, e⟩ := PyProof.Rows.IntsAre.int_at nums i v (by rw [Array.getElem?_toList]; exact hv)
        exact ⟨ns[i], t, List.getElem?_eq_getElem hi, by rw [e, List.getD_eq_getElem?_getD, List.getElem?_eq_getElem hi]; rfl⟩
      refine set_update_ints ((Walks.list hh3 _ l neI items).toS) s.heap.objs.size apart ns many room vals (items.size - 0) 0 _ (by omega) (Nat.zero_le _) ⟨⟨_, Heap.get?_push_size _ rfl, rfl, rfl⟩, (lst1.push _)⟩ ⟨0, Nat.le_refl 0, setR_new_at (Heap.get?_push_of_some _ eS)⟩ ?_
      intro s' c' mv le' new
      obtain ⟨h', g2, d', tk', os'⟩ := s'
      have eg : g2 = s.gens := mv.gens
      have ed : d' = s.drawn := mv.drawn
      have eo : os' = s.os := mv.os
      subst eg
      subst ed
      subst eo
      show wpAny _ _ _ _ _ _
      refine wpAny_pure ?_
      show wpAny _ _ (ret Value.none) _ _ _
      rw [many] at le'
      refine wpAny_pure ⟨rfl, h', tk', c', rfl, new, le', fun b o e => ?_⟩
      have b0 : b < s.heap.objs.size := Heap.lt_size e
      refine mv.heap b o (fun z => ?_) (Heap.get?_push_of_some _ (Heap.get?_push_of_some _ e))
      rcases List.mem_cons.mp z with z | z
      · exact absurd z (Nat.ne_of_lt b0)
      · have z := List.mem_singleton.mp z
        rw [sz1] at z
        exact absurd z (Nat.ne_of_lt (Nat.lt_succ_of_lt b0))
    · match r₂, hr₂ with
      | .error e, hr₂ => exact hr₂
      | .ok (.next), hr₂ => exact hr₂.elim
      | .ok (.brk), hr₂ => exact hr₂.elim
      | .ok (.cont), hr₂ => exact hr₂.elim
      | .ok (.ret r), hr₂ =>
        obtain ⟨rfl, h', tk, c', rfl, new, le', kept⟩ := hr₂
        (repeat (any_goals (first | assumption | wp_step)))
        exact h _ _ _ new le' kept
end
section
variable {X : Cx}
/-- set(xs), xs a list of whole numbers -/
def rSetL (K : PySem.W.Frag) (w : World) : List V → Hp → VK → Prop := fun xs H Q => ∃ (a : Addr) (ns : List Int), xs = [.ref a] ∧ SqL K H a (ns.map V.int) ∧ ns.length ≤ 1000 ∧
  ∀ p c, c ≤ ns.length → H p = none → Q (.ref p) (upd H p (SetO w p (fun k => decide (k ∈ ns)) c))
theorem cr_setL (hc : X.calm = true) : CallR X (.type "set") (rSetL X.K X.w) := by
  intro pins s σ H xs us Q I r h
  obtain ⟨a, ns, rfl, hx, few, q⟩ := h
  obtain ⟨u, rfl, ru⟩ := vals1 r
  cases ru
  obtain ⟨its, rel, lst, _⟩ := I.list hx
  refine call_set_lstI ns (I.ok.hd hc) lst.isList (by simpa using intsAre_of rel) (by unfold scanBound; omega) fun h' tk c R le kept => ?_
  exact ⟨.ref _, _, I.laid (t' := tk) kept (Nat.le_refl _) (setO_new R), rfl, q _ c le (I.hok.fresh (Nat.le_refl _))⟩
end
/-! ### {one} -/
theorem codeIn_kds {K : PySem.W.Frag} {cd : Value} {q : Str} (h : PySem.W.codeIn K cd q = true) : PySem.W.kdsCode K cd = true := by
  unfold PySem.W.codeIn at h
  unfold PySem.W.kdsCode
  split at h
  · split at h
    · rename_i e
      simp only [e]
    · cases h
  · cases h
section
variable {P : Program} {w : World} {A : Around} {E : Value → Shared → Prop} {s : Shared}
theorem newSet_led {Q : Value → Shared → Prop} (h : Q (.ref s.heap.objs.size) { s with heap := s.heap.push (noSet w) }) : wpAny (model P w) A (newSet (.type "set")) Q E s := by
  unfold newSet
  refine wpAny_bind (wpAny_byText ?_)
  dsimp only
  exact wpAny_newObj_type h
theorem display_one {b : Bool} {T : Sem Value} {Q : Value → Shared → Prop}
    (h : wpAny (model P w) A T (fun v s1 => wpAny (model P w) A (setAdd s.heap.objs.size v) (fun _ s2 => Q (.ref s.heap.objs.size) s2) E s1) E { s with heap := s.heap.push (noSet w) }) :
    wpAny (model P w) A (setDisplay .oneByOne b [(false, T)]) Q E s := by
  unfold setDisplay
  dsimp only
  rw [if_neg (by decide)]
  refine wpAny_bind (newSet_led ?_)
  dsimp only
  refine wpAny_bind (wpAny_holding ?_)
  refine wpAny_bind ?_
  show wpAny _ _ (T >>= fun v => holding [v] (evalAll []) >>= fun r => pure (v :: r)) _ _ _
  refine wpAny_bind (wpAny_mono h (fun v s1 h1 => ?_) fun _ _ x => x)
  refine wpAny_bind (wpAny_holding (wpAny_pure ?_))
  refine wpAny_pure ?_
  refine wpAny_bind (wpAny_holding ?_)
  rw [List.forIn_cons]
  refine wpAny_bind (wpAny_bind (wpAny_bind (wpAny_mono h1 (fun _ s2 h2 => wpAny_pure ?_) fun _ _ x => x)))
  dsimp only
  rw [List.forIn_nil]
  refine wpAny_pure ?_
  rw [if_neg (by decide)]
  refine wpAny_pure ?_
  refine wpAny_bind ?_
  show wpAny _ _ (forIn ([] : List (Bool × Sem Value)) PUnit.unit _) _ _ s2
  rw [List.forIn_nil]
  exact wpAny_pure (wpAny_pure (wpAny_pure h2))
end
def tSet1 (w : World) (te : TE) : TE := fun σ H Q => ∀ p, H p = none → te σ (upd H p (SetO w p (fun _ => false) 0)) fun x H1 => ∃ k : Int, x = .int k ∧ H1 p = some (SetO w p (fun _ => false) 0) ∧ Q (.ref p) (upd H1 p (SetO w p (fun j => false || decide (j = k)) 1))
theorem pe_set1 {X : Cx} {e : Expr} {te : TE} {pos : Pos} {q : Str} {wd : World} (hw : X.w = wd) (hcd : PySem.W.codeIn X.K X.env.code q = true) (he : PE X e te) (hp : PySem.W.kdsPlain e = true := by rfl) : PE X (.Set [e] 0 pos) (tSet1 wd te) := by
  subst hw
  refine ⟨fun pins s σ H Q I h => ?_⟩
  rw [arm_eval_Set]
  refine wpAny_bind (wpAny_standAt ?_)
  refine wpAny_bind (PySem.W.kds_main I.kIn (codeIn_kds hcd) fun bm => ?_)
  rw [PySem.W.kds_star [e] (by simp [hp]), List.map_map, arm_evalEach_cons]
  refine (show wpAny (model X.prog X.w) X.A (setDisplay .oneByOne bm [(false, do let v ← eval e X.env; standAt pos; pure v)]) (EP X pins σ Q) X.xe s from display_one ?_)
  have R0 : SetR X.w (s.heap.push (noSet X.w)) s.heap.objs.size (fun _ => false) 0 := setR_fresh X.w
  have f0 : H s.heap.objs.size = none := I.hok.fresh (Nat.le_refl _)
  have I1 : Inv X pins σ (upd H s.heap.objs.size (SetO X.w s.heap.objs.size (fun _ => false) 0)) { s with heap := s.heap.push (noSet X.w) } := I.laid (t' := s.toks) (fun b u g => Heap.get?_push_of_some _ g) (Nat.le_refl _) (setO_new R0)
  refine wpAny_bind (thn (he.run pins _ σ _ _ I1 (h _ f0)) fun v s1 ⟨x, H1, I2, r1, k, ex, ep, q1⟩ => ?_)
  subst ex
  obtain ⟨tk, rfl⟩ := r1
  refine wpAny_bind (wpAny_standAt (wpAny_pure ?_))
  have R1 := setO_get I2 ep
  unfold setAdd
  refine wpAny_holding ?_
  refine wpAny_bind ((intKind X.prog X.w).pyHash (k := k) (intKind_is _ _ _ _) ?_)
  refine setR_add_hashed (s := { s1 with toks := s1.toks + 1 }) R1 (by decide) fun h' sb new => ?_
  have he' : ∃ u, h'.get? s.heap.objs.size = some u := let ⟨o, _, _, _, ho, _⟩ := new; ⟨o, ho⟩
  exact ⟨.ref _, _, I2.write (e := s.heap.objs.size) (t' := s1.toks + 1) (by rw [ep]; trivial) (.inl rfl) (fun b u hb hu => (sb.2 b hb).trans hu) he' (setO_new new), rfl, q1⟩
end Cw

/-! what hangs together -/
namespace Cw
open PySem PySem.Spec PyProof.Rows L2
noncomputable def dec (p : Prop) : Bool := @decide p (Classical.propDecidable p)
theorem dec_iff {p : Prop} : dec p = true ↔ p := by unfold dec; exact @decide_eq_true_iff p (Classical.propDecidable p)
theorem dec_true {p : Prop} (h : p) : dec p = true := dec_iff.mpr h
theorem dec_false {p : Prop} (h : ¬ p) : dec p = false := by
  cases e : dec p with
  | false => rfl
  | true => exact absurd (dec_iff.mp e) h
theorem dec_congr {p q : Prop} (h : p ↔ q) : dec p = dec q := by
  rw [Bool.eq_iff_iff, dec_iff, dec_iff]; exact h
theorem mem_nb {w : Web} (W : WOk w) {p q : Nat} : q ∈ nb w.2 p ↔ ∃ t ∈ w.2, at2 p q t = true := by
  unfold nb
  rw [List.mem_filterMap]
  constructor
  · rintro ⟨t, ht, h⟩
    exact ⟨t, ht, (beside_iff (W.ends t ht).1).mp h⟩
  · rintro ⟨t, ht, h⟩
    exact ⟨t, ht, (beside_iff (W.ends t ht).1).mpr h⟩
theorem nb_symm {w : Web} (W : WOk w) {p q : Nat} (h : q ∈ nb w.2 p) : p ∈ nb w.2 q := by
  obtain ⟨t, ht, e⟩ := (mem_nb W).mp h
  exact (mem_nb W).mpr ⟨t, ht, by rw [at2_swap]; exact e⟩
theorem nb_lt {w : Web} (W : WOk w) {p q : Nat} (h : q ∈ nb w.2 p) : p < w.1.length ∧ q < w.1.length := by
  obtain ⟨t, ht, e⟩ := (mem_nb W).mp h
  have r := W.ends t ht
  rcases at2_iff.mp e with ⟨a, b⟩ | ⟨a, b⟩ <;> omega
/-- from a one comes to it -/
inductive Rch (ts : List Tie) (a : Nat) : Nat → Prop
  | base : Rch ts a a
  | step {p q : Nat} : Rch ts a p → q ∈ nb ts p → Rch ts a q
theorem Rch.trans {ts : List Tie} {a b c : Nat} (h : Rch ts a b) (k : Rch ts b c) : Rch ts a c := by
  induction k with
  | base => exact h
  | step _ m ih => exact ih.step m
theorem Rch.symm {w : Web} (W : WOk w) {a b : Nat} (h : Rch w.2 a b) : Rch w.2 b a := by
  induction h with
  | base => exact .base
  | step _ m ih => exact Rch.trans (Rch.base.step (nb_symm W m)) ih
theorem Rch.lt {w : Web} (W : WOk w) {a b : Nat} (h : Rch w.2 a b) (ha : a < w.1.length) : b < w.1.length := by
  cases h with
  | base => exact ha
  | step _ m => exact (nb_lt W m).2
/-- the places that hang together with a -/
noncomputable def partL (w : Web) (a : Nat) : List Nat := (List.range w.1.length).filter fun k => dec (Rch w.2 a k)
theorem mem_partL {w : Web} (W : WOk w) {a k : Nat} (ha : a < w.1.length) : k ∈ partL w a ↔ Rch w.2 a k := by
  unfold partL
  rw [List.mem_filter, dec_iff, List.mem_range]
  exact ⟨fun h => h.2, fun h => ⟨h.lt W ha, h⟩⟩
theorem partL_rise (w : Web) (a : Nat) : (partL w a).Pairwise (· < ·) := List.Pairwise.filter _ List.pairwise_lt_range
theorem partL_len (w : Web) (a : Nat) : (partL w a).length ≤ w.1.length := Nat.le_trans (List.length_filter_le _ _) (by rw [List.length_range]; exact Nat.le_refl _)
/-- no lesser place hangs together with it -/
def Lst (w : Web) (a : Nat) : Prop := ∀ b, Rch w.2 a b → a ≤ b
noncomputable def leastsL (w : Web) (n : Nat) : List Nat := (List.range n).filter fun a => dec (Lst w a)
noncomputable def partsN (w : Web) (n : Nat) : List (List Nat) := (leastsL w n).map (partL w)
noncomputable def partsL (w : Web) : List (List Nat) := partsN w w.1.length
theorem leastsL_succ (w : Web) (n : Nat) : leastsL w (n + 1) = leastsL w n ++ if dec (Lst w n) = true then [n] else [] := by
  unfold leastsL
  rw [List.range_succ, List.filter_append]
  congr 1
  by_cases c : dec (Lst w n) = true
  · rw [if_pos c]; simp [c]
  · rw [if_neg c]; simp [c]
theorem partsN_succ (w : Web) (n : Nat) : partsN w (n + 1) = partsN w n ++ if dec (Lst w n) = true then [partL w n] else [] := by
  unfold partsN
  rw [leastsL_succ, List.map_append]
  congr 1
  split <;> rfl
theorem partsN_len (w : Web) (n : Nat) : (partsN w n).length ≤ n := by
  unfold partsN leastsL
  rw [List.length_map]
  exact Nat.le_trans (List.length_filter_le _ _) (by rw [List.length_range]; exact Nat.le_refl _)
/-- a place that none of the lesser ones comes to is least -/
theorem seen_iff {w : Web} (W : WOk w) {n : Nat} : (∃ a, a < n ∧ Rch w.2 a n) ↔ ¬ Lst w n := by
  constructor
  · rintro ⟨a, h1, h2⟩ l
    have := l a (h2.symm W)
    omega
  · intro h
    unfold Lst at h
    obtain ⟨b, hb⟩ := Classical.not_forall.mp h
    obtain ⟨h1, h2⟩ := Classical.not_imp.mp hb
    exact ⟨b, by omega, h1.symm W⟩
/-! ### the least place that one comes to, by turns -/
def Dn (ts : List Tie) : Nat → Nat → Nat → Prop
  | 0, p, q => p = q
  | k + 1, p, q => Dn ts k p q ∨ ∃ r, r ∈ nb ts p ∧ Dn ts k r q
theorem Dn.mono {ts : List Tie} {k p q : Nat} (h : Dn ts k p q) : ∀ m, Dn ts (k + m) p q
  | 0 => h
  | m + 1 => .inl (Dn.mono h m)
theorem filter_lt {α : Type} {P Q : α → Bool} : ∀ {l : List α}, (∀ x ∈ l, P x = true → Q x = true) → (∃ x ∈ l, Q x = true ∧ P x = false) → (l.filter P).length < (l.filter Q).length
  | [], _, ⟨x, h, _⟩ => absurd h (by simp)
  | y :: l, i, ⟨x, h, h1, h2⟩ => by
    have le : ∀ {l : List α}, (∀ x ∈ l, P x = true → Q x = true) → (l.filter P).length ≤ (l.filter Q).length := fun {l} i => by
      induction l with
      | nil => exact Nat.le_refl _
      | cons a r ih =>
        have ihr := ih fun x hx => i x (List.mem_cons_of_mem _ hx)
        by_cases c : P a = true
        · rw [List.filter_cons_of_pos c, List.filter_cons_of_pos (i a List.mem_cons_self c)]
          exact Nat.succ_le_succ ihr
        · rw [List.filter_cons_of_neg c]
          by_cases d : Q a = true
          · rw [List.filter_cons_of_pos d]; exact Nat.le_succ_of_le ihr
          · rw [List.filter_cons_of_neg d]; exact ihr
    have il : ∀ x ∈ l, P x = true → Q x = true := fun x hx => i x (List.mem_cons_of_mem _ hx)
    rcases List.mem_cons.mp h with z | z
    · subst z
      rw [List.filter_cons_of_neg (by rw [h2]; simp), List.filter_cons_of_pos h1]
      exact Nat.lt_succ_of_le (le il)
    · have ih := filter_lt il ⟨x, z, h1, h2⟩
      by_cases c : P y = true
      · rw [List.filter_cons_of_pos c, List.filter_cons_of_pos (i y List.mem_cons_self c)]
        exact Nat.succ_lt_succ ih
      · rw [List.filter_cons_of_neg c]
        by_cases d : Q y = true
        · rw [List.filter_cons_of_pos d]; exact Nat.lt_succ_of_lt ih
        · rw [List.filter_cons_of_neg d]; exact ih
/-- as many turns as there are places are enough -/
theorem dn_all {w : Web} (W : WOk w) {p q : Nat} (hq : q < w.1.length) (h : Rch w.2 p q) : Dn w.2 w.1.length p q := by
  have grow : ∀ k, (∀ a r, r ∈ nb w.2 a → Dn w.2 k r q → Dn w.2 k a q) ∨ k + 1 ≤ ((List.range w.1.length).filter fun a => dec (Dn w.2 k a q)).length := by
    intro k
    induction k with
    | zero =>
      right
      have : q ∈ (List.range w.1.length).filter fun a => dec (Dn w.2 0 a q) := List.mem_filter.mpr ⟨List.mem_range.mpr hq, dec_true rfl⟩
      exact List.length_pos_of_mem this
    | succ k ih =>
      rcases Classical.em (∀ a r, r ∈ nb w.2 a → Dn w.2 k r q → Dn w.2 k a q) with c | c
      · left
        have back : ∀ a, Dn w.2 (k + 1) a q → Dn w.2 k a q := fun a d => by
          rcases d with d | ⟨r, h1, h2⟩
          · exact d
          · exact c a r h1 h2
        intro a r h1 h2
        exact .inl (c a r h1 (back r h2))
      · right
        rcases ih with ih | ih
        · exact absurd ih c
        obtain ⟨a, ha⟩ := Classical.not_forall.mp c
        obtain ⟨r, hr⟩ := Classical.not_forall.mp ha
        obtain ⟨h1, hr⟩ := Classical.not_imp.mp hr
        obtain ⟨h2, h3⟩ := Classical.not_imp.mp hr
        have lt := filter_lt (l := List.range w.1.length) (P := fun a => dec (Dn w.2 k a q)) (Q := fun a => dec (Dn w.2 (k + 1) a q)) (fun x _ hx => dec_true (.inl (dec_iff.mp hx)))
          ⟨a, List.mem_range.mpr (nb_lt W h1).1, dec_true (.inr ⟨r, h1, h2⟩), dec_false h3⟩
        omega
  have closed : ∀ a r, r ∈ nb w.2 a → Dn w.2 w.1.length r q → Dn w.2 w.1.length a q := by
    rcases grow w.1.length with c | c
    · exact c
    · have := List.length_filter_le (fun a => dec (Dn w.2 w.1.length a q)) (List.range w.1.length)
      rw [List.length_range] at this
      omega
  have d0 : Dn w.2 w.1.length q q := by
    have z := Dn.mono (show Dn w.2 0 q q from rfl) w.1.length
    rw [Nat.zero_add] at z
    exact z
  have go : ∀ x, Rch w.2 p x → Dn w.2 w.1.length x q → Dn w.2 w.1.length p q := by
    intro x hx
    induction hx with
    | base => exact id
    | step _ m ih => exact fun d => ih (closed _ _ m d)
  exact go q h d0
/-- what the labels are while they sink: of its own part, and no greater than what k steps come to -/
structure Lab (w : Web) (k : Nat) (ls : List Nat) : Prop where
  len : ls.length = w.1.length
  own : ∀ (p l : Nat), ls[p]? = some l → Rch w.2 p l
  low : ∀ (p l q : Nat), ls[p]? = some l → Dn w.2 k p q → l ≤ q
/-- within a turn: i ties are done -/
structure LabT (w : Web) (k i : Nat) (old ls : List Nat) : Prop where
  len : ls.length = w.1.length
  own : ∀ (p l : Nat), ls[p]? = some l → Rch w.2 p l
  sink : ∀ (p l m : Nat), ls[p]? = some l → old[p]? = some m → l ≤ m
  done : ∀ t ∈ w.2.take i, ∀ (l m : Nat), (ls[t.1]? = some l → old[t.2.1]? = some m → l ≤ m) ∧ (ls[t.2.1]? = some l → old[t.1]? = some m → l ≤ m)
theorem Lab.start (w : Web) : Lab w 0 (List.range w.1.length) := by
  refine ⟨List.length_range, fun p l h => ?_, fun p l q h d => ?_⟩
  · obtain ⟨h1, h2⟩ := List.getElem?_eq_some_iff.mp h
    rw [List.getElem_range] at h2
    subst h2
    exact .base
  · obtain ⟨h1, h2⟩ := List.getElem?_eq_some_iff.mp h
    rw [List.getElem_range] at h2
    have : p = q := d
    omega
theorem LabT.start {w : Web} {k : Nat} {ls : List Nat} (L : Lab w k ls) : LabT w k 0 ls ls :=
  ⟨L.len, L.own, fun p l m h1 h2 => by rw [h1] at h2; cases h2; exact Nat.le_refl _, fun t ht => by simp at ht⟩
theorem LabT.tie {w : Web} (W : WOk w) {k i : Nat} {old ls : List Nat} (T : LabT w k i old ls) {t : Tie} (ht : w.2[i]? = some t) {l m : Nat} (hl : ls[t.1]? = some l) (hm : ls[t.2.1]? = some m) :
    LabT w k (i + 1) old ((ls.set t.1 (min l m)).set t.2.1 (min l m)) := by
  have r := W.ends t (List.mem_of_getElem? ht)
  have n1 : t.1 < ls.length := by rw [T.len]; omega
  have n2 : t.2.1 < ls.length := by rw [T.len]; omega
  have adj : t.2.1 ∈ nb w.2 t.1 := (mem_nb W).mpr ⟨t, List.mem_of_getElem? ht, at2_iff.mpr (.inl ⟨rfl, rfl⟩)⟩
  have at_ : ∀ p, ((ls.set t.1 (min l m)).set t.2.1 (min l m))[p]? = if p = t.1 ∨ p = t.2.1 then some (min l m) else ls[p]? := fun p => by
    by_cases c2 : t.2.1 = p
    · subst c2
      rw [List.getElem?_set_self (by rw [List.length_set]; exact n2), if_pos (.inr rfl)]
    · rw [List.getElem?_set_ne c2]
      by_cases c1 : t.1 = p
      · subst c1
        rw [List.getElem?_set_self n1, if_pos (.inl rfl)]
      · rw [List.getElem?_set_ne c1, if_neg (by intro z; rcases z with z | z; exact c1 z.symm; exact c2 z.symm)]
  have rl := T.own _ _ hl
  have rm := T.own _ _ hm
  have down : ∀ p x y, ((ls.set t.1 (min l m)).set t.2.1 (min l m))[p]? = some x → ls[p]? = some y → x ≤ y := fun p x y hx hy => by
    rw [at_] at hx
    split at hx
    · rename_i c
      have e := (Option.some.inj hx).symm
      subst e
      rcases c with c | c
      · subst c; rw [hl] at hy; cases hy; exact Nat.min_le_left _ _
      · subst c; rw [hm] at hy; cases hy; exact Nat.min_le_right _ _
    · rw [hx] at hy; cases hy; exact Nat.le_refl _
  have here : ∀ p x, ((ls.set t.1 (min l m)).set t.2.1 (min l m))[p]? = some x → ∃ y, ls[p]? = some y := fun p x hx => by
    have := (List.getElem?_eq_some_iff.mp hx).1
    rw [List.length_set, List.length_set] at this
    exact ⟨_, List.getElem?_eq_getElem this⟩
  refine ⟨by rw [List.length_set, List.length_set]; exact T.len, fun p x hx => ?_, fun p x y hx hy => ?_, fun u hu x y => ⟨fun hx hy => ?_, fun hx hy => ?_⟩⟩
  · rw [at_] at hx
    split at hx
    · rename_i c
      have e := (Option.some.inj hx).symm
      subst e
      have to1 : Rch w.2 t.1 (min l m) := by
        rcases Nat.le_total l m with z | z
        · rw [Nat.min_eq_left z]; exact rl
        · rw [Nat.min_eq_right z]; exact Rch.trans (Rch.base.step adj) rm
      rcases c with c | c
      · subst c; exact to1
      · subst c; exact Rch.trans (Rch.base.step (nb_symm W adj)) to1
    · exact T.own p x hx
  · obtain ⟨z, hz⟩ := here p x hx
    exact Nat.le_trans (down p x z hx hz) (T.sink p z y hz hy)
  · rw [take_snoc ht] at hu
    rcases List.mem_append.mp hu with hu | hu
    · obtain ⟨z, hz⟩ := here _ x hx
      exact Nat.le_trans (down _ x z hx hz) ((T.done u hu z y).1 hz hy)
    · rw [List.mem_singleton.mp hu] at hx hy
      rw [at_, if_pos (.inl rfl)] at hx
      cases hx
      exact Nat.le_trans (Nat.min_le_right _ _) (T.sink _ m y hm hy)
  · rw [take_snoc ht] at hu
    rcases List.mem_append.mp hu with hu | hu
    · obtain ⟨z, hz⟩ := here _ x hx
      exact Nat.le_trans (down _ x z hx hz) ((T.done u hu z y).2 hz hy)
    · rw [List.mem_singleton.mp hu] at hx hy
      rw [at_, if_pos (.inr rfl)] at hx
      cases hx
      exact Nat.le_trans (Nat.min_le_left _ _) (T.sink _ l y hl hy)
theorem LabT.turn {w : Web} (W : WOk w) {k : Nat} {old ls : List Nat} (L : Lab w k old) (T : LabT w k w.2.length old ls) : Lab w (k + 1) ls := by
  refine ⟨T.len, T.own, fun p l q hl d => ?_⟩
  have hp : p < old.length := by rw [L.len, ← T.len]; exact (List.getElem?_eq_some_iff.mp hl).1
  have ho := List.getElem?_eq_getElem hp
  rcases d with d | ⟨r, h1, h2⟩
  · exact Nat.le_trans (T.sink p l _ hl ho) (L.low p _ q ho d)
  · obtain ⟨t, ht, e⟩ := (mem_nb W).mp h1
    have hr : r < old.length := by rw [L.len]; exact (nb_lt W h1).2
    have hr' := List.getElem?_eq_getElem hr
    have tm : t ∈ w.2.take w.2.length := by rw [List.take_length]; exact ht
    have dn := T.done t tm l old[r]
    have le : l ≤ old[r] := by
      rcases at2_iff.mp e with ⟨a, b⟩ | ⟨a, b⟩
      · exact dn.1 (by rw [a]; exact hl) (by rw [b]; exact hr')
      · exact dn.2 (by rw [b]; exact hl) (by rw [a]; exact hr')
    exact Nat.le_trans le (L.low r _ q hr' h2)
/-- at the end: each label is the least place of its part -/
theorem Lab.end_ {w : Web} (W : WOk w) {ls : List Nat} (L : Lab w w.1.length ls) {p l : Nat} (h : ls[p]? = some l) : Rch w.2 p l ∧ Lst w l := by
  have hp : p < w.1.length := by rw [← L.len]; exact (List.getElem?_eq_some_iff.mp h).1
  have r := L.own p l h
  refine ⟨r, fun b hb => ?_⟩
  have rb := r.trans hb
  exact L.low p l b h (dn_all W (rb.lt W hp) rb)
theorem lst_uniq {w : Web} (W : WOk w) {a b : Nat} (ha : Lst w a) (hb : Lst w b) (h : Rch w.2 a b) : a = b := by
  have h1 := ha b h
  have h2 := hb a (h.symm W)
  omega
theorem Lab.is_ {w : Web} (W : WOk w) {ls : List Nat} (L : Lab w w.1.length ls) {p l a : Nat} (h : ls[p]? = some l) (ha : Lst w a) : l = a ↔ Rch w.2 a p := by
  obtain ⟨h1, h2⟩ := L.end_ W h
  constructor
  · rintro rfl
    exact h1.symm W
  · intro z
    exact (lst_uniq W ha h2 (z.trans h1)).symm
theorem labs_mem {w : Web} (W : WOk w) {ls : List Nat} (L : Lab w w.1.length ls) (x : Nat) : x ∈ ls ↔ x ∈ leastsL w w.1.length := by
  unfold leastsL
  rw [List.mem_filter, List.mem_range, dec_iff]
  constructor
  · intro h
    obtain ⟨p, hp⟩ := List.getElem?_of_mem h
    obtain ⟨h1, h2⟩ := L.end_ W hp
    have hp' : p < w.1.length := by rw [← L.len]; exact (List.getElem?_eq_some_iff.mp hp).1
    exact ⟨h1.lt W hp', h2⟩
  · rintro ⟨h1, h2⟩
    have hx : x < ls.length := by rw [L.len]; exact h1
    have g := List.getElem?_eq_getElem hx
    have e := (L.is_ W g h2).mpr .base
    rw [e] at g
    exact List.mem_of_getElem? g
theorem leasts_rise (w : Web) (n : Nat) : (leastsL w n).Pairwise (· < ·) := List.Pairwise.filter _ List.pairwise_lt_range
theorem mem_leasts {w : Web} {n x : Nat} (h : x ∈ leastsL w n) : x < n ∧ Lst w x := by
  unfold leastsL at h
  rw [List.mem_filter, List.mem_range, dec_iff] at h
  exact h
theorem labs_part {w : Web} (W : WOk w) {ls : List Nat} (L : Lab w w.1.length ls) {a : Nat} (ha : Lst w a) : ((List.range w.1.length).filter fun p => decide (ls[p]? = some a)) = partL w a := by
  unfold partL
  refine List.filter_congr fun p hp => ?_
  have hp' : p < ls.length := by rw [L.len]; exact List.mem_range.mp hp
  have g := List.getElem?_eq_getElem hp'
  rw [Bool.eq_iff_iff, dec_iff, decide_eq_true_eq, g, Option.some.injEq]
  exact L.is_ W g ha

/-! ### a def's code told to its body -/
section
variable {P : Program} {w : World} {K : PySem.W.Frag} {mg : Str → Option Value} {base : Heap}
theorem funOkC {x qual : Str} {st : Stmt} {f : Addr} {fd : FuncData} {N ps : List Str} {k : Nat} {sp : Sp} (F : Fun K x qual st f fd) (S : FnScope N ps (defScope st)) (len : ∀ vs H Q E, sp vs H Q E → vs.length = ps.length)
    (hbody : ∀ (cdv : Value), PySem.W.codeIn K cdv qual = true → ∀ (A : Around) (outer : List Env) (s : Shared) (H : Hp) (vs : List V) (Q : VK) (E : XK), Room k (A.deeper (envOfC qual (defScope st) s.heap.objs.size f cdv)) → sp vs H Q E →
      ∃ t, PSs (cxOf CX0 P w K mg base N qual (defScope st) f cdv A outer s H E).nox (defBody st) t ∧ t { nx := fun _ H' => Q .non H', rt := Q } (start N vs) H) : FnOk P w K mg base CX0 (k + 1) f fd ps sp := by
  obtain ⟨oc, od, kV, doc, pm, an, cdv, ct, osl, rfl, lk, hcd⟩ := F.ex
  refine fn_of lk hcd S len fun A outer s H vs Q E hr hsp => ?_
  obtain ⟨t, h, q⟩ := hbody cdv hcd A outer s H vs Q E hr hsp
  exact ⟨t, h.nox, q⟩
end
/-! ### a set of places -/
theorem cr_set0w {X : Cx} {wd : World} (hw : X.w = wd) : CallR X (.type "set") (rSet0 wd) := by
  subst hw
  exact cr_set0
def SetN (wd : World) (H : Hp) (S : Addr) (ms : List Nat) : Prop := ∃ Sx n, H S = some (SetO wd S Sx n) ∧ n ≤ ms.length ∧ (ms.Nodup → n = ms.length) ∧ ∀ k : Int, Sx k = true ↔ ∃ q : Nat, k = (q : Int) ∧ q ∈ ms
section
variable {wd : World} {K : PySem.W.Frag} {H H' : Hp} {S : Addr} {ms : List Nat} {q : Nat} {Q : VK}
theorem SetN.new (h : H S = some (SetO wd S (fun _ => false) 0)) : SetN wd H S [] := ⟨_, 0, h, Nat.le_refl _, fun _ => rfl, fun k => by simp⟩
theorem SetN.same (x : SetN wd H S ms) (s : Same H H') : SetN wd H' S ms := by
  obtain ⟨a, n, e, r⟩ := x
  exact ⟨a, n, s _ _ e, r⟩
theorem SetN.at_ (x : SetN wd H S ms) {b : Addr} {o : HO} (n : b ≠ S) : SetN wd (upd H b o) S ms := by
  obtain ⟨a, m, e, r⟩ := x
  exact ⟨a, m, by rw [upd_ne n.symm]; exact e, r⟩
theorem SetN.ne (x : SetN wd H S ms) {b : Addr} {ys : List V} (e : H b = some (.lst ys)) : b ≠ S := by
  obtain ⟨a, m, e', r⟩ := x
  exact ne_of e e' (by intro z; cases z)
theorem d_snotin (x : SetN wd H S ms) (k : Q (.bl (!decide (q ∈ ms))) H) : rSNotIn wd (.int (q : Nat)) (.ref S) H Q := by
  obtain ⟨Sx, n, e, l, l', m⟩ := x
  refine ⟨q, S, Sx, n, rfl, rfl, e, ?_⟩
  have : Sx (q : Nat) = decide (q ∈ ms) := by
    rw [Bool.eq_iff_iff, decide_eq_true_eq, m]
    constructor
    · rintro ⟨q', h1, h2⟩
      have : q = q' := by omega
      rw [this]; exact h2
    · intro h
      exact ⟨q, rfl, h⟩
  rw [this]
  exact k
theorem d_tsadd {to : TE} {t : TA} {σ : L2.St} (h : to σ H fun x H1 => (∃ a S n, x = V.ref a ∧ H1 a = some (SetO wd a S n)) ∧ t σ H1 fun xs H2 => rSAdd wd x xs H2 Q) : tSAdd wd to t σ H Q := h
theorem d_sadd0 (x : SetN wd H S ms) {C : Prop} (h : C) : (∃ a Sx n, V.ref S = V.ref a ∧ H a = some (SetO wd a Sx n)) ∧ C := by
  obtain ⟨a, n, e, r⟩ := x
  exact ⟨⟨S, a, n, rfl, e⟩, h⟩
theorem d_sadd (x : SetN wd H S ms) (few : ms.length ≤ 4000) (k : ∀ o ms', SetN wd (upd H S o) S ms' → (∀ y, y ∈ ms' ↔ y ∈ ms ∨ y = q) → ms'.length ≤ ms.length + 1 → (q ∉ ms → ms' = ms ++ [q]) → Q .non (upd H S o)) : rSAdd wd (.ref S) [.int (q : Nat)] H Q := by
  obtain ⟨Sx, n, e, l, l', m⟩ := x
  refine ⟨S, q, Sx, n, rfl, rfl, e, by unfold scanBound; omega, ?_⟩
  have mem : ∀ j : Int, (Sx j || decide (j = (q : Int))) = true ↔ ∃ y : Nat, j = (y : Int) ∧ (y ∈ ms ∨ y = q) := fun j => by
    rw [Bool.or_eq_true, m, decide_eq_true_eq]
    constructor
    · rintro (⟨y, h1, h2⟩ | h)
      · exact ⟨y, h1, .inl h2⟩
      · exact ⟨q, h, .inr rfl⟩
    · rintro ⟨y, h1, h2 | h2⟩
      · exact .inl ⟨y, h1, h2⟩
      · exact .inr (by rw [h1, h2])
  by_cases c : q ∈ ms
  · have c' : Sx (q : Nat) = true := (m _).mpr ⟨q, rfl, c⟩
    rw [if_pos c']
    refine k _ ms ⟨_, n, upd_same, l, l', fun j => ?_⟩ (fun y => ⟨.inl, fun h => h.elim id fun z => z ▸ c⟩) (by omega) fun z => absurd c z
    rw [mem]
    exact ⟨fun ⟨y, h1, h2⟩ => ⟨y, h1, h2.elim id fun z => z ▸ c⟩, fun ⟨y, h1, h2⟩ => ⟨y, h1, .inl h2⟩⟩
  · have c' : ¬ Sx (q : Nat) = true := fun z => by
      obtain ⟨y, h1, h2⟩ := (m _).mp z
      have : q = y := by omega
      exact c (this ▸ h2)
    rw [if_neg c']
    refine k _ (ms ++ [q]) ⟨_, n + 1, upd_same, by rw [List.length_append]; show n + 1 ≤ ms.length + 1; omega, fun nd => ?_, fun j => ?_⟩ (fun y => by rw [List.mem_append, List.mem_singleton]) (by rw [List.length_append]; exact Nat.le_refl _) fun _ => rfl
    · rw [List.length_append, l' (List.nodup_append.mp nd).1]; rfl
    · rw [mem]
      exact ⟨fun ⟨y, h1, h2⟩ => ⟨y, h1, by rw [List.mem_append, List.mem_singleton]; exact h2⟩, fun ⟨y, h1, h2⟩ => ⟨y, h1, by rw [List.mem_append, List.mem_singleton] at h2; exact h2⟩⟩
theorem nats_of {ns : List Int} {l : List Nat} (s : ns.Pairwise (· < ·)) (sl : l.Pairwise (· < ·)) (m : ∀ k, k ∈ ns ↔ ∃ q : Nat, k = (q : Int) ∧ q ∈ l) : ns = zs l := by
  have nn : ∀ k ∈ ns, 0 ≤ k := fun k hk => by
    obtain ⟨q, h, _⟩ := (m k).mp hk
    omega
  have e1 : zs (ns.map Int.toNat) = ns := by
    unfold zs
    rw [List.map_map]
    refine (List.map_congr_left fun k hk => ?_).trans (List.map_id _)
    show ((k.toNat : Nat) : Int) = k
    exact Int.toNat_of_nonneg (nn k hk)
  rw [← e1]
  congr 1
  refine sorted_ext ?_ sl fun x => ?_
  · rw [List.pairwise_map]
    refine s.imp_of_mem fun {x y} hx hy h => ?_
    have := nn x hx
    have := nn y hy
    omega
  · rw [List.mem_map]
    constructor
    · rintro ⟨k, h1, h2⟩
      obtain ⟨q, h3, h4⟩ := (m k).mp h1
      have : x = q := by omega
      rw [this]; exact h4
    · intro h
      exact ⟨(x : Int), (m _).mpr ⟨x, rfl, h⟩, by simp⟩
theorem d_ssort (x : SetN wd H S ms) {l : List Nat} (nd : ms.Nodup) (few : ms.length < 64) (sl : l.Pairwise (· < ·)) (m : ∀ y, y ∈ ms ↔ y ∈ l) (k : ∀ p, H p = none → Q (.ref p) (upd H p (.lst (l.map fun y => V.int (y : Nat))))) : rSortedSet wd [.ref S] H Q := by
  obtain ⟨Sx, n, e, l1, l2, m1⟩ := x
  refine ⟨S, Sx, n, rfl, e, by have := l2 nd; omega, fun ns p s mem len fp => ?_⟩
  have : ns = zs l := nats_of s sl fun j => by
    rw [mem, m1]
    exact ⟨fun ⟨y, h1, h2⟩ => ⟨y, h1, (m y).mp h2⟩, fun ⟨y, h1, h2⟩ => ⟨y, h1, (m y).mpr h2⟩⟩
  rw [this, ← ints_map]
  exact k p fp
end
/-! ### lists of lists of places -/
abbrev natsV (p : List Nat) : List V := p.map fun q => V.int (q : Nat)
def PartsAt (H : Hp) (rs : List Addr) (ps : List (List Nat)) : Prop := Paired (fun r p => H r = some (.lst (natsV p))) rs ps
def partsD (ps : List (List Nat)) : PyData := .list (ps.map fun p => .list ((zs p).map PyData.int))
section
variable {K : PySem.W.Frag} {H H' : Hp} {rs : List Addr} {ps : List (List Nat)}
theorem PartsAt.same (x : PartsAt H rs ps) (s : Same H H') : PartsAt H' rs ps := Paired.imp x fun _ _ e => s _ _ e
theorem PartsAt.keep {h : Addr} (x : PartsAt H rs ps) (k : Keep h H H') (n : h ∉ rs) : PartsAt H' rs ps := by
  induction x with
  | nil => exact .nil
  | cons e _ ih =>
    exact .cons (k _ _ (fun z => n (z ▸ List.mem_cons_self)) e) (ih fun z => n (List.mem_cons_of_mem _ z))
theorem PartsAt.dpa : ∀ {rs : List Addr} {ps : List (List Nat)}, PartsAt H rs ps → DpAll K H (rs.map V.ref) (ps.map fun p => PyData.list ((zs p).map PyData.int))
  | _, _, .nil => .nil
  | _, _, .cons e r => .cons (dp_nats e) (PartsAt.dpa r)
theorem PartsAt.dp {T : Addr} (x : PartsAt H rs ps) (e : H T = some (.lst (rs.map V.ref))) : Dp K H (.ref T) (partsD ps) := .lst (SqL.of e) x.dpa
theorem partsD_good (ps : List (List Nat)) : SeqAt.shaped (partsD ps) = true := by
  refine shaped_list (k := 1) (by decide) fun d hd => ?_
  obtain ⟨p, _, rfl⟩ := List.mem_map.mp hd
  have h := shaped_ints (zs p)
  refine ⟨SeqAt.canLay_of_shaped h, ?_⟩
  have : PyData.depthAll ((zs p).map PyData.int) ≤ 0 := by
    generalize zs p = l
    induction l with
    | nil => simp [PyData.depthAll]
    | cons a l ih => simp [PyData.depthAll, PyData.depth]; omega
  simp only [PyData.depth]; omega
end
theorem cr_setLw {X : Cx} {wd : World} (hw : X.w = wd) (hc : X.calm = true) : CallR X (.type "set") (rSetL X.K wd) := by
  subst hw
  exact cr_setL hc
/-! ### webs beside one another; a row -/
def shiftT (n : Nat) (t : Tie) : Tie := (t.1 + n, t.2.1 + n, t.2.2)
def joinW (u v : Web) : Web := (u.1 ++ v.1, u.2 ++ v.2.map (shiftT u.1.length))
def rowW (u : Web) : Web := (u.1, (List.range (u.1.length - 1)).map fun j => (j, j + 1, 115))
theorem ties_few {ts : List Tie} {n : Nat} (s : ts.Pairwise tlt) (e : ∀ t ∈ ts, t.1 < n ∧ t.2.1 < n) : ts.length ≤ n * n := by
  have h := nodup_len (n * n) (ts.map fun t => t.1 * n + t.2.1) ?_ ?_
  · rw [List.length_map] at h; exact h
  · unfold List.Nodup
    rw [List.pairwise_map]
    refine s.imp_of_mem fun {x y} hx hy h z => ?_
    obtain ⟨a1, a2⟩ := e x hx
    obtain ⟨b1, b2⟩ := e y hy
    unfold tlt at h
    have e1 : (x.1 * n + x.2.1) / n = x.1 := by rw [Nat.add_comm, Nat.add_mul_div_right _ _ (by omega), Nat.div_eq_of_lt a2, Nat.zero_add]
    have e2 : (y.1 * n + y.2.1) / n = y.1 := by rw [Nat.add_comm, Nat.add_mul_div_right _ _ (by omega), Nat.div_eq_of_lt b2, Nat.zero_add]
    have : x.1 = y.1 := by rw [← e1, ← e2, z]
    rw [this] at z
    omega
  · intro x hx
    obtain ⟨t, ht, rfl⟩ := List.mem_map.mp hx
    obtain ⟨a1, a2⟩ := e t ht
    calc t.1 * n + t.2.1 < t.1 * n + n := by omega
      _ = (t.1 + 1) * n := by rw [Nat.add_mul, Nat.one_mul]
      _ ≤ n * n := Nat.mul_le_mul_right _ a1
theorem few_most {n m : Nat} (h : n ≤ 40) (k : m ≤ n * n) : m ≤ 1600 := Nat.le_trans k (Nat.le_trans (Nat.mul_le_mul h h) (by decide))
theorem joinW_ok {u v : Web} (U : WOk u) (V : WOk v) (h : u.1.length + v.1.length ≤ 40) : WOk (joinW u v) := by
  have en : ∀ t ∈ (joinW u v).2, t.1 < t.2.1 ∧ t.2.1 < (joinW u v).1.length ∧ Ltr t.2.2 := fun t ht => by
    unfold joinW at ht ⊢
    dsimp only at ht ⊢
    rw [List.length_append]
    rcases List.mem_append.mp ht with ht | ht
    · obtain ⟨a, b, c⟩ := U.ends t ht
      exact ⟨a, by omega, c⟩
    · obtain ⟨s, hs, rfl⟩ := List.mem_map.mp ht
      obtain ⟨a, b, c⟩ := V.ends s hs
      unfold shiftT
      exact ⟨by dsimp only; omega, by dsimp only; omega, c⟩
  have ri : (joinW u v).2.Pairwise tlt := by
    unfold joinW
    refine List.pairwise_append.mpr ⟨U.rise, ?_, fun x hx y hy => ?_⟩
    · rw [List.pairwise_map]
      refine V.rise.imp fun {x y} h => ?_
      unfold tlt shiftT at *
      dsimp only
      omega
    · obtain ⟨s, hs, rfl⟩ := List.mem_map.mp hy
      obtain ⟨a, b, c⟩ := U.ends x hx
      unfold tlt shiftT
      left
      dsimp only
      omega
  have le : (joinW u v).1.length ≤ 40 := by unfold joinW; rw [List.length_append]; exact h
  refine ⟨le, few_most le (ties_few ri fun t ht => ?_), fun c hc => ?_, ri, en⟩
  · obtain ⟨a, b, _⟩ := en t ht
    omega
  · unfold joinW at hc
    rcases List.mem_append.mp hc with hc | hc
    · exact U.kinds c hc
    · exact V.kinds c hc
theorem rowW_ok {u : Web} (U : WOk u) : WOk (rowW u) := by
  refine ⟨U.few, ?_, U.kinds, ?_, fun t ht => ?_⟩
  · unfold rowW
    rw [List.length_map, List.length_range]
    have := U.few
    omega
  · unfold rowW
    rw [List.pairwise_map]
    refine List.pairwise_lt_range.imp fun {x y} h => ?_
    unfold tlt
    left
    exact h
  · unfold rowW at ht ⊢
    obtain ⟨j, hj, rfl⟩ := List.mem_map.mp ht
    rw [List.mem_range] at hj
    exact ⟨Nat.lt_succ_self _, by dsimp only; omega, by unfold Ltr; dsimp only; omega⟩
theorem wok_nil : WOk ([], []) := ⟨by decide, by decide, by simp, .nil, by simp⟩
theorem partsL_nil : partsL ([], []) = [] := rfl
end Cw

namespace Cw
open PySem PySem.Spec PyProof.Rows L2
/-! ### all, any of a generator expression: one clause without tests, over whatever PI serves; its item may call defs -/
/-- a def's table of code objects, which grows at the first call -/
def TbX (P : Addr) : HO := .ext fun h => ∃ ps : Array Value, h.get? P = some { cls := .none, data := .fields ps } ∧ TriplesOk ps.toList
theorem upd_id {H : Hp} {P : Addr} {o : HO} (e : H P = some o) : upd H P o = H := funext fun b => by
  by_cases hb : b = P
  · rw [hb, upd_same, e]
  · exact upd_ne hb
section
variable {X : Cx} {pins : List (Addr × Obj)} {σ : L2.St} {H : Hp} {s : Shared} {P : Addr}
theorem tb_at (I : Inv X pins σ H s) (hP : H P = some (TbX P)) : ∃ ps : Array Value, s.heap.get? P = some { cls := .none, data := .fields ps } ∧ TriplesOk ps.toList := (I.hok P _ hP).1
theorem tb_grown (I : Inv X pins σ H s) (hP : H P = some (TbX P)) {h' : Heap} {tk : Nat} {ps : Array Value} (k : ∀ b o, b ≠ P → s.heap.get? b = some o → h'.get? b = some o)
    (e : h'.get? P = some { cls := .none, data := .fields ps }) (ht : TriplesOk ps.toList) : Inv X pins σ H { s with heap := h', toks := tk } := by
  have J := I.write (x := P) (e := P) (o := TbX P) (t' := tk) (by rw [hP]; exact trivial) (.inl rfl) k ⟨_, e⟩ ⟨⟨ps, e, ht⟩, ⟨_, e⟩, fun h1 h2 ⟨qs, z, zt⟩ st => ⟨qs, st _ z, zt⟩⟩
  rw [upd_id hP] at J
  exact J
/-- the code object of a generator expression, made now or found -/
theorem gx_code {c : Addr} {gpos : Pos} {qual : Str} {scope : Scope} {E : Value → Shared → Prop} {A : Around} {Qc : Value → Shared → Prop} (TB : GxR.TabB X.base X.mg c P) (hcode : X.env.code = .ref c) (I : Inv X pins σ H s) (hP : H P = some (TbX P))
    (h : ∀ code h' tk, Inv X pins σ H { s with heap := h', toks := tk } → (∀ b o, b ≠ P → s.heap.get? b = some o → h'.get? b = some o) → s.heap.objs.size ≤ h'.objs.size → Qc code { s with heap := h', toks := tk }) :
    wpAny (model X.prog X.w) A (genexprCode X.env gpos qual scope) Qc E s := by
  obtain ⟨ps, e, ht⟩ := tb_at I hP
  have cd : PySem.W.CodeHd s.heap c P := TB.code.keeps fun b o q => I.bk b o q
  cases hf : codeAmong gpos ps.toList with
  | some cv => exact wpAny_genexprCode_hit hcode (cd.code e ht) hf (h cv s.heap s.toks I (fun _ _ _ q => q) (Nat.le_refl _))
  | none =>
    refine wpAny_genexprCodeX hcode (cd.code e ht) (cd.tab e) hf fun c' h' tk ext big less known _ tab _ => ?_
    obtain ⟨_, _, _, _, _, _, _, _, _, _, _, _, _, _, _, _, _, _, _, trip, _⟩ := known
    exact h _ h' tk (tb_grown I hP ext tab.2 trip) ext (Nat.le_trans big (Nat.le_of_lt less))
end
/-- where a generator expression's items run: its frame over the frames that stand, made at s -/
abbrev _root_.L2.Cx.gx (X : Cx) (Ag : Around) (s : Shared) (H : Hp) (cenv : Env) (fp : List Addr) : Cx := { X with A := Ag, s_0 := s, H_0 := H, env := cenv, outer := X.stack, stack := cenv :: X.stack, ex := fp, fn := fun _ => false, pn := [], xe := fun _ _ => False }
abbrev gxEnv (X : Cx) (scope : Scope) (C : Addr) (code : Value) : Env := genEnv scope (cloFrom X.env.cells scope.names []) C code builtinsNs X.env
section
variable {X : Cx} {pins : List (Addr × Obj)} {σ : L2.St} {H : Hp} {s : Shared} {scope : Scope} {own : List (Str × Nat)} {fp : List Addr} {Ag : Around} {code : Value} {h5 : Heap} {tk : Nat} {g5 : Array GenState} {a : Addr} {go : Obj}
theorem gx_cells (I : Inv X pins σ H s) {y : Str} {c : Addr} (free : ∀ y ∈ scope.names, y.2 = .free → ∃ c, X.env.cells.lookup y.1 = some c) (e : (cloFrom X.env.cells scope.names []).lookup y = some c) : X.env.cells.lookup y = some c ∧ c < s.heap.objs.size := by
  rcases cloFrom_mem (PySem.mem_of_lookup e) with z | ⟨z, rfl⟩
  · cases z
  · obtain ⟨c, hc⟩ := free _ z rfl
    obtain ⟨v, w⟩ := I.cell _ _ hc
    rw [hc]
    exact ⟨rfl, w.lt⟩
theorem gx_start (I : Inv X pins σ H s) (ok : BlkOk X.N X.env.scope scope own) (nc : ∀ y ∈ scope.names, y.2 ≠ .cell) (hN : X.N.Nodup) (hfp : ∀ b ∈ fp, FpOk X pins H b ∧ b < s.heap.objs.size) (hA : X.calm = true → Ag.handled = none) (hfr : Ag.frames = some (gxEnv X scope s.heap.objs.size code :: X.stack))
    (keep : ∀ b o, s.heap.get? b = some o → h5.get? b = some o) {m : Str → Option Value} (ns : h5.Ns s.heap.objs.size m) (ha : h5.get? a = some go) (la : s.heap.objs.size < a) (nv : ∀ v, go.data ≠ .cell v) (hg : AllBare g5) :
    Inv (X.gx Ag s H (gxEnv X scope s.heap.objs.size code) fp) [(a, go)] (wipe σ (own.map (·.2))) H { s with gens := g5, toks := tk, heap := h5 } := by
  have free : ∀ y ∈ scope.names, y.2 = .free → ∃ c, X.env.cells.lookup y.1 = some c := fun y hy e => (ok.free y hy e).elim (fun k => I.ok.has _ (.inl k)) fun k => I.ok.has _ (.inr k)
  have cm := fun {y : Str} {c : Addr} (e : (cloFrom X.env.cells scope.names []).lookup y = some c) => gx_cells I free e
  have there : ∀ {y : Str}, scope.names.lookup y = some .free → ∃ c, (cloFrom X.env.cells scope.names []).lookup y = some c ∧ X.env.cells.lookup y = some c := fun {y} hl => by
    obtain ⟨c', e'⟩ := mem_lookup (cloFrom_has (cells := X.env.cells) (acc := []) (PySem.mem_of_lookup hl))
    exact ⟨c', e', (cm e').1⟩
  have young : ∀ b o, s.heap.get? b = some o → b ≠ s.heap.objs.size := fun b o e => Nat.ne_of_lt (Heap.lt_size e)
  have okG : (X.gx Ag s H (gxEnv X scope s.heap.objs.size code) fp).Ok := {
    mod := I.ok.mod, kind := ok.kind, glob := I.ok.glob, blt := rfl, above := Nat.le_refl _
    inj := fun x y c e1 e2 => I.ok.inj x y c (cm e1).1 (cm e2).1
    has := fun x hx => by
      rcases hx with hx | hx
      · exact absurd rfl (nc _ (PySem.mem_of_lookup hx))
      · obtain ⟨c, e, _⟩ := there hx
        exact ⟨c, e⟩
    cab := fun x c z _ => nomatch z
    hd := hA, frames := hfr, stk := .inr ⟨rfl, rfl⟩
    exf := fun b hb => ⟨Nat.ne_of_lt (hfp b hb).2, fun x c e => (hfp b hb).1.2.2.2.2.1 x c (cm e).1⟩
    bs := I.bs, bsz := Nat.le_trans I.ok.bsz I.sz
    noex := fun b o e hb => by
      rcases (hfp b hb).1.2.2.2.1 with z | z
      · exact I.ok.noex b o e z
      · exact absurd (Nat.lt_of_lt_of_le (Heap.lt_size e) (Nat.le_trans I.ok.bsz z)) (Nat.lt_irrefl _)
    exfs := fun b hb z => (List.mem_cons.mp (I.stkSub b z)).elim (hfp b hb).1.2.1 (hfp b hb).1.2.2.1
    funs := I.stack, frf := I.stkFree }
  refine { ok := okG, os := rfl, bare := hg, base := Un.kept keep, loc := ⟨m, ns, fun i y v e1 e2 e3 => ?_⟩, cell := fun y c e => ?_, free := I.hok.fresh (Nat.le_refl _), freeC := fun y c e => I.freeC y c (cm e).1, pin := fun p hp => ?_, hok := I.hok.kept keep, len := by rw [wipe_length]; exact I.len }
  · obtain ⟨e2, hne⟩ := wipe_some e2
    have notOwn : ∀ k, scope.names.lookup y = some k → k = .local ∨ k = .cell → False := fun k hk hk' => by
      rcases ok.own _ (PySem.mem_of_lookup hk) hk' with z | z
      · obtain ⟨p, hp, hpy⟩ := List.mem_map.mp z
        exact hne (List.mem_map.mpr ⟨p, hp, nodup_ix hN (by rw [ok.ix p hp, show p.1 = y from hpy]) e1⟩)
      · exact z (List.mem_of_getElem? e1)
    have fr : scope.names.lookup y = some .free := by
      rcases e3 with z | z | z
      · exact (notOwn _ z (.inl rfl)).elim
      · exact (notOwn _ z (.inr rfl)).elim
      · exact z
    obtain ⟨c, h1, h2⟩ := there fr
    obtain ⟨m', _, hl⟩ := I.loc
    have cf := ok.free _ (PySem.mem_of_lookup fr) rfl
    obtain ⟨u, r, q⟩ := hl i y v e1 e2 (cf.elim (fun k => .inr (.inl k)) fun k => .inr (.inr k))
    refine ⟨u, r, .inr ⟨.inr fr, c, h1, ?_⟩⟩
    rcases q with ⟨k, _⟩ | ⟨_, c', e', z⟩
    · have k : X.env.scope.names.lookup y = some .local := k
      rcases cf with z | z <;> (rw [show X.env.scope.names.lookup y = _ from z] at k; cases k)
    · rw [h2] at e'
      cases e'
      exact z.keeps keep
  · obtain ⟨v, z⟩ := I.cell y c (cm e).1
    exact ⟨v, z.keeps keep⟩
  · obtain rfl : p = (a, go) := List.mem_singleton.mp (show p ∈ [(a, go)] from hp)
    refine ⟨ha, I.hok.fresh (Nat.le_of_lt la), Nat.ne_of_gt la, fun z => ?_, nv⟩
    obtain ⟨_, o, ho, _⟩ := I.stack.mem z
    exact absurd (Nat.lt_trans (Heap.lt_size ho) la) (Nat.lt_irrefl _)
/-- the state but for its generators, texts' numbers and draws -/
theorem inv_re {X : Cx} {s s' : Shared} (I : Inv X pins σ H s) (hh : s'.heap = s.heap) (ho : s'.os = s.os) (hg : AllBare s'.gens) : Inv X pins σ H s' := by
  obtain ⟨a1, a2, a3, a4, a5, a6, a7, a8, a9, a10, a11⟩ := I
  rw [← hh] at a4 a5 a6 a9 a10
  exact ⟨a1, ho.trans a2, hg, a4, a5, a6, a7, a8, a9, a10, a11⟩
end
/-! the generator's own run -/
/-- an item handed out: a truth; the one at which the consumer stops, and the others, behind which it asks again -/
def gxY (X : Cx) (p : Addr × Obj) (st : Bool) (QS : Hp → Prop) : Protocol := fun _ _ v s kap => ∃ (b : Bool) (σ : L2.St) (H : Hp), v = .bool b ∧ Inv X [p] σ H s ∧ (b = st → QS H) ∧
  (b = !st → ∀ s2 : Shared, s2.heap = s.heap → s2.os = s.os → AllBare s2.gens → kap (.send .none) s2)
def gxP (X : Cx) (p : Addr × Obj) (QE : Hp → Prop) : Nat → Shared → Shared → Prop := fun _ _ s => ∃ (σ : L2.St) (H : Hp), Inv X [p] σ H s ∧ QE H
abbrev gxR (X : Cx) (p : Addr × Obj) (QE : Hp → Prop) : GenEnd := fun n s0 r s => r = .ok .next ∧ gxP X p QE n s0 s
/-- one turn by the walk, the target, the item -/
def gxTurn (J : It) (g : TG) (te : TE) (vs : List Nat) (st : Bool) (σ : L2.St) (QE QS : Hp → Prop) (W : Nat → Nat → Hp → Prop) : Prop := ∀ i m H, W i m H → (J.stop i H ∧ QE H) ∨ (J.go i H ∧ ∀ x H', J.yld i H x H' →
  g x (wipe σ vs) H' fun σ2 H2 => wipe σ2 vs = wipe σ vs ∧ te σ2 H2 fun y H3 => ∃ b, y = .bl b ∧ (b = st → QS H3) ∧ (b = !st → ∃ m', m' < m ∧ W (i + 1) m' H3))
section
variable {X : Cx} {p : Addr × Obj} {st : Bool} {QE QS : Hp → Prop} {J : It} {g : TG} {te : TE} {vs : List Nat} {σ : L2.St} {W : Nat → Nat → Hp → Prop} {fp : List Addr} {it : Addr} {tn : Nat → Heap → Prop} {elt tg iter : Expr} {scope : Scope} {pos : Pos} {A0 : Around}
theorem gx_loop (hA : X.A = A0.over (.compLoop (.GeneratorExp elt [⟨tg, iter, [], 0⟩] scope pos) 0 (.ref it) .none X.env) []) (hco : X.env.scope.isCoroutine = false) (hx : ∀ e s, X.xe e s → False) (hc : X.calm = true)
    (T : Turn X.prog X.w X.K tg J fp it tn) (hex : ∀ b ∈ fp, b ∈ X.ex) (hpn : X.pn = []) (hap : ∀ b ∈ fp, p.1 ≠ b) (pg : PG X tg g) (pe : PE X elt te) (turn : gxTurn J g te vs st σ QE QS W) :
    ∀ (n i m : Nat) (H : Hp) (s s0 : Shared), m + 1 ≤ n → Inv X [p] (wipe σ vs) H s → tn i s.heap → (∀ b ∈ fp, H b = none) → W i m H →
      Seg (model X.prog X.w) A0 (gxR X p QE) (gxY X p st QS) n s0 (.compLoop (.GeneratorExp elt [⟨tg, iter, [], 0⟩] scope pos) 0 (.ref it) .none X.env)
        ((model X.prog X.w).den (.compLoop (.GeneratorExp elt [⟨tg, iter, [], 0⟩] scope pos) 0 (.ref it) .none X.env)) [] s := by
  have stat : ∀ {σ' : L2.St} {H' : Hp} {s' : Shared}, Inv X [p] σ' H' s' → (∀ b ∈ fp, H' b = none) → ∀ b ∈ fp, FpOk X [p] H' b := fun {σ' H' s'} I' hn b hb =>
    ⟨hn b hb, (I'.ok.exf b (hex b hb)).1, I'.ok.exfs b (hex b hb), .inl (hex b hb), (I'.ok.exf b (hex b hb)).2, fun q hq => by
      rw [hpn] at hq
      rw [List.mem_singleton.mp (show q ∈ [p] from hq)]
      exact hap b hb⟩
  intro n
  induction n with
  | zero => intro i m H s s0 hm; omega
  | succ n ih =>
    intro i m H s s0 hm I t hn w
    show Seg _ A0 _ _ _ s0 _ ((compTurn (.GeneratorExp elt [⟨tg, iter, [], 0⟩] scope pos) 0 (.ref it) .none X.env).onRaise (leaving X.env)) [] s
    rw [compTurn_gen, Sem.onRaise_eq_wrap]
    refine seg_bind_wrap (wpAny_standAt ?_)
    rcases turn i m H w with ⟨stop, qe⟩ | ⟨go, step⟩
    · have d := T.done X rfl rfl rfl hc i [p] s _ H (fun _ _ => False) I (stat I hn) t stop
      rw [hA] at d
      exact seg_bind_wrap (thnF d fun r s1 ⟨hr, I1⟩ => by subst hr; exact seg_end (.ok .next) ⟨rfl, _, _, I1, qe⟩)
    · have d := T.item X rfl rfl rfl hc i [p] s _ H (fun _ _ => False) I (stat I hn) t go
      rw [hA] at d
      refine seg_bind_wrap (thnF d fun r s1 ⟨u, hr, d1⟩ => ?_)
      subst hr
      refine seg_bind_wrap (thnF d1 fun _ s2 ⟨x, H2, I2, r2, y2, t2, n2⟩ => ?_)
      have I2' := I2.pinned (stat I2 n2) (T.obj _ _ t2)
      have dg := pg.run _ s2 _ H2 x u _ I2' r2 (step x H2 y2)
      rw [hA] at dg
      refine seg_bind_wrap (wpAny_mono dg (fun _ s3 ⟨σ3, H3, I3, w3, q3⟩ => ?_) fun e s' z => (hx e s' z).elim)
      simp only [List.forIn_nil]
      refine seg_bind_wrap (wpAny_pure ?_)
      simp only [if_true]
      have out : ∀ v, yieldOut X.env v = yieldValue v := fun v => by simp only [yieldOut, hco, Bool.false_eq_true, if_false]
      simp only [out]
      have de := pe.run _ s3 σ3 H3 _ I3 q3
      rw [hA] at de
      rw [Sem.bind_eq_wrap', Sem.bind_eq_wrap', Sem.wrap_wrap, Sem.wrap_wrap]
      refine seg_wrap (wpAny_mono de (fun v s4 ⟨y, H4, I4, r4, b, hy, qs, qn⟩ => ?_) fun e s' z => (hx e s' z).elim)
      subst hy
      obtain rfl : v = Value.bool b := r4
      have kept : ∀ b ∈ fp, ∀ o, s2.heap.get? b = some o → s4.heap.get? b = some o ∧ H4 b = none := fun b hb o e =>
        let z := I4.pin (b, o) (List.mem_append_right _ (List.mem_append_right _ (mem_pinsAt hb e)))
        ⟨z.1, z.2.1⟩
      refine seg_at (seg_yield rfl rfl rfl ⟨b, σ3, H4, rfl, I4.unpinned, qs, fun hb s5 e1 e2 e3 => ?_⟩)
      obtain ⟨m', lm, w'⟩ := qn hb
      have I5 := inv_re ((I4.unpinned (pins := [p])).weak (σ' := wipe σ vs) (by rw [← w3, wipe_length]) fun j v e => by rw [← w3] at e; exact (wipe_some e).1) e1 e2 e3
      refine seg_again rfl (ih (i + 1) m' H4 s5 s5 (by omega) I5 ?_ (fun b hb => ?_) w')
      · rw [e1]
        exact T.keep _ _ _ t2 fun b hb o e => (kept b hb o e).1
      · obtain ⟨o, e, _⟩ := T.obj _ _ t2 b hb
        exact (kept b hb o e).2
/-- its start: the iterator is asked for itself, then the loop -/
theorem gx_fresh {n : Nat} {s : Shared} (h : ∀ s0, Seg (model X.prog X.w) A0 (gxR X p QE) (gxY X p st QS) n s0 (.compLoop (.GeneratorExp elt [⟨tg, iter, [], 0⟩] scope pos) 0 (.ref it) .none X.env)
        ((model X.prog X.w).den (.compLoop (.GeneratorExp elt [⟨tg, iter, [], 0⟩] scope pos) 0 (.ref it) .none X.env)) [] s) (T : Turn X.prog X.w X.K tg J fp it tn) (t : tn 0 s.heap) (s0 : Shared) :
    Seg (model X.prog X.w) A0 (gxR X p QE) (gxY X p st QS) n s0 (.compStart (.GeneratorExp elt [⟨tg, iter, [], 0⟩] scope pos) 0 (.ref it) .none X.env)
      ((model X.prog X.w).den (.compStart (.GeneratorExp elt [⟨tg, iter, [], 0⟩] scope pos) 0 (.ref it) .none X.env)) [] s := by
  have go := seg_again (c := .compStart (.GeneratorExp elt [⟨tg, iter, [], 0⟩] scope pos) 0 (.ref it) .none X.env) (c' := .compLoop (.GeneratorExp elt [⟨tg, iter, [], 0⟩] scope pos) 0 (.ref it) .none X.env) rfl (h s0)
  show Seg _ A0 _ _ _ s0 _ ((compStart (.GeneratorExp elt [⟨tg, iter, [], 0⟩] scope pos) 0 (.ref it) .none X.env).onRaise (leaving X.env)) [] s
  unfold compStart
  rw [Sem.onRaise_eq_wrap]
  show Seg _ A0 _ _ _ s0 _ ((ask >>= _).wrap _ _ _ _) [] s
  refine seg_bind_wrap (wpAny_askSetting ?_)
  split
  · exact go
  · refine seg_bind_wrap (wpAny_rule ?_)
    show Seg _ A0 _ _ _ s0 _ ((standAt iter.pos >>= _).wrap _ _ _ _) [] s
    exact seg_bind_wrap (wpAny_standAt (seg_bind_wrap (T.self _ 0 s _ _ t go)))
end
/-! the consumer -/
section
variable {X : Cx} {a : Addr} {gn : Nat} {go : Obj} {st : Bool} {QE QS : Hp → Prop} {A : Around} {R : Result → Shared → Prop}
/-- the generator stands ready for at most n turns -/
def GxAt (X : Cx) (A : Around) (a : Addr) (go : Obj) (gn : Nat) (st : Bool) (QE QS : Hp → Prop) (n : Nat) (s : Shared) : Prop := ∃ (gs : GenState) (σ : L2.St) (H : Hp), s.gens[gn]? = some gs ∧ Inv X [(a, go)] σ H s ∧
  ∀ s2 : Shared, s2.heap = s.heap → s2.os = s.os → AllBare s2.gens → gs.Goes (model X.prog X.w) A (gxR X (a, go) QE) (gxY X (a, go) st QS) n (.send .none) s2
theorem allBare_set {gs : GenState} {s : Shared} (h : AllBare s.gens) (hb : gs.bare = true) : AllBare (s.setGen gn gs).gens := fun x hx => by
  obtain ⟨i, hi, e⟩ := Array.mem_iff_getElem.mp hx
  have e2 : (s.gens.setIfInBounds gn gs)[i]? = some x := Array.getElem?_eq_some_iff.mpr ⟨hi, e⟩
  rw [Array.getElem?_setIfInBounds] at e2
  split at e2
  · split at e2
    · cases e2; exact hb
    · cases e2
  · exact h x (Array.mem_of_getElem? e2)
theorem setGen_at {gs : GenState} {s : Shared} (h : gn < (s.setGen gn gs).gens.size) : (s.setGen gn gs).gens[gn]? = some gs := by
  rw [GenW.setGen_size] at h
  simp [Shared.setGen, h]
theorem gx_next {E : Value → Shared → Prop} {s : Shared} {n : Nat} {Qn : Option Value → Shared → Prop} (hh : A.handled = none) (hroom : A.depth < recursionLimit) (isg : ∀ h : Heap, h.get? a = some go → h.IsGen a gn) (G : GxAt X A.in1 a go gn st QE QS n s)
    (hend : ∀ s' σ H, Inv X [(a, go)] σ H s' → QE H → Qn none s') (hstop : ∀ s' σ H, Inv X [(a, go)] σ H s' → QS H → Qn (some (.bool st)) s') (hgo : ∀ k s', n = k + 1 → GxAt X A.in1 a go gn st QE QS k s' → Qn (some (.bool !st)) s') :
    wpAny (model X.prog X.w) A (pyNext (.ref a)) Qn E s := by
  obtain ⟨gs, σ, H, hgs, I, goes⟩ := G
  have at_ := fun {σ' : L2.St} {H' : Hp} {s' : Shared} (I' : Inv X [(a, go)] σ' H' s') => (I'.pin (a, go) (List.mem_append_right _ (List.mem_singleton.mpr rfl))).1
  have lt : gn + 1 ≤ s.gens.size := (Array.getElem?_eq_some_iff.mp hgs).1
  refine GenW.wpAny_gsz lt (wpAny_pyNext_genexpQ (P := gxP X (a, go) QE) hh I.nolimit hroom (isg _ (at_ I)) hgs (goes _ rfl rfl (allBare_set I.bare rfl)) (fun v s1 g1 hb hy => ?_) fun s1 ⟨σ1, H1, I1, q1⟩ h' k => ?_)
  · intro sz
    obtain ⟨b, σ1, H1, rfl, I1, qs, qn⟩ := hy
    have I2 : Inv X [(a, go)] σ1 H1 (s1.setGen gn g1) := inv_re I1 rfl rfl (allBare_set I1.bare hb)
    by_cases e : b = st
    · subst e
      exact hstop _ _ _ I2 (qs rfl)
    · have e2 : b = !st := by cases b <;> cases st <;> simp_all
      subst e2
      match n, qn rfl with
      | 0, qn => exact (qn s1 rfl rfl I1.bare).elim
      | n + 1, qn => exact hgo n _ rfl ⟨g1, σ1, H1, setGen_at sz, I2, qn⟩
  · intro _
    have I2 : Inv X [(a, go)] σ1 H1 (s1.setGen gn .finished) := inv_re I1 rfl rfl (allBare_set I1.bare rfl)
    exact hend _ _ _ (I2.kept (t' := s1.toks) k) q1
theorem gx_all_loop (hh : A.handled = none) (hroom : A.depth < recursionLimit) (isg : ∀ h : Heap, h.get? a = some go → h.IsGen a gn) (hend : ∀ s' σ H, Inv X [(a, go)] σ H s' → QE H → R (.ok (.ret (.bool true))) s')
    (hstop : ∀ s' σ H, Inv X [(a, go)] σ H s' → QS H → R (.ok (.ret (.bool false))) s') : ∀ (n : Nat) (s : Shared), GxAt X A.in1.in1 a go gn false QE QS n s → codeAny (model X.prog X.w) A (.builtin "all.loop" ⟨[.ref a], []⟩) R s := by
  intro n
  induction n with
  | zero =>
    intro s G
    refine codeAny_builtin F.entry_all_loop ?_
    rw [Around.under_plainId F.plain_all_loop _]
    show wpAny _ A.in1 (pyNext (.ref a) >>= _) _ _ s
    refine wpAny_bind (gx_next (A := A.in1) hh hroom isg G (fun s' σ H I q => ?_) (fun s' σ H I q => ?_) fun k s' e => absurd e (by omega))
    · exact wpAny_bind (wpAny_rule (wpAny_pure (hend _ _ _ I q)))
    · exact wpAny_bind (wpAny_holding (wpAny_truthy_bool (wpAny_bind (wpAny_letGo (wpAny_bind (wpAny_rule (wpAny_pure (hstop _ _ _ I q))))))))
  | succ n ih =>
    intro s G
    refine codeAny_builtin F.entry_all_loop ?_
    rw [Around.under_plainId F.plain_all_loop _]
    show wpAny _ A.in1 (pyNext (.ref a) >>= _) _ _ s
    refine wpAny_bind (gx_next (A := A.in1) hh hroom isg G (fun s' σ H I q => ?_) (fun s' σ H I q => ?_) fun k s' e G' => ?_)
    · exact wpAny_bind (wpAny_rule (wpAny_pure (hend _ _ _ I q)))
    · exact wpAny_bind (wpAny_holding (wpAny_truthy_bool (wpAny_bind (wpAny_letGo (wpAny_bind (wpAny_rule (wpAny_pure (hstop _ _ _ I q))))))))
    · cases e
      exact wpAny_bind (wpAny_holding (wpAny_truthy_bool (wpAny_bind (wpAny_letGo (wpAny_pure ⟨plainId_quiet F.plain_all_loop _, ih s' G'⟩)))))
theorem gx_any_loop (hh : A.handled = none) (hroom : A.depth < recursionLimit) (isg : ∀ h : Heap, h.get? a = some go → h.IsGen a gn) (hend : ∀ s' σ H, Inv X [(a, go)] σ H s' → QE H → R (.ok (.ret (.bool false))) s')
    (hstop : ∀ s' σ H, Inv X [(a, go)] σ H s' → QS H → R (.ok (.ret (.bool true))) s') : ∀ (n : Nat) (s : Shared), GxAt X A.in1.in1 a go gn true QE QS n s → codeAny (model X.prog X.w) A (.builtin "any.loop" ⟨[.ref a], []⟩) R s := by
  intro n
  induction n with
  | zero =>
    intro s G
    refine codeAny_builtin F.entry_any_loop ?_
    rw [Around.under_plainId F.plain_any_loop _]
    show wpAny _ A.in1 (pyNext (.ref a) >>= _) _ _ s
    refine wpAny_bind (gx_next (A := A.in1) hh hroom isg G (fun s' σ H I q => ?_) (fun s' σ H I q => ?_) fun k s' e => absurd e (by omega))
    · exact wpAny_bind (wpAny_rule (wpAny_pure (hend _ _ _ I q)))
    · exact wpAny_bind (wpAny_holding (wpAny_truthy_bool (wpAny_bind (wpAny_letGo (wpAny_bind (wpAny_rule (wpAny_pure (hstop _ _ _ I q))))))))
  | succ n ih =>
    intro s G
    refine codeAny_builtin F.entry_any_loop ?_
    rw [Around.under_plainId F.plain_any_loop _]
    show wpAny _ A.in1 (pyNext (.ref a) >>= _) _ _ s
    refine wpAny_bind (gx_next (A := A.in1) hh hroom isg G (fun s' σ H I q => ?_) (fun s' σ H I q => ?_) fun k s' e G' => ?_)
    · exact wpAny_bind (wpAny_rule (wpAny_pure (hend _ _ _ I q)))
    · exact wpAny_bind (wpAny_holding (wpAny_truthy_bool (wpAny_bind (wpAny_letGo (wpAny_bind (wpAny_rule (wpAny_pure (hstop _ _ _ I q))))))))
    · cases e
      exact wpAny_bind (wpAny_holding (wpAny_truthy_bool (wpAny_bind (wpAny_letGo (wpAny_pure ⟨plainId_quiet F.plain_any_loop _, ih s' G'⟩)))))
end
/-! the rule -/
abbrev gxAr (A : Around) (elt tg iter : Expr) (scope : Scope) (pos : Pos) (it : Addr) (env : Env) : Around := A.in1.in1.over (.compLoop (.GeneratorExp elt [⟨tg, iter, [], 0⟩] scope pos) 0 (.ref it) .none env) []
theorem gx_room {k : Nat} {A : Around} {elt tg iter : Expr} {scope : Scope} {pos : Pos} {it : Addr} {env : Env} (hr : Room (k + 1) A) : Room k (gxAr A elt tg iter scope pos it env) := by
  have e1 : (gxAr A elt tg iter scope pos it env).depth ≤ A.depth + 1 := Nat.le_of_eq rfl
  have e2 : (gxAr A elt tg iter scope pos it env).units ≤ A.units + 5 := Nat.le_of_eq rfl
  exact ⟨hr.hd, by have := hr.dp; omega, by have := hr.un; omega⟩
section
variable {X : Cx} {pins : List (Addr × Obj)} {σ : L2.St} {H : Hp} {s : Shared} {scope : Scope} {own : List (Str × Nat)} {elt tg iter : Expr} {gpos : Pos} {c P : Addr} {wi : TI} {g : TG} {te : TE} {k : Nat} {st : Bool} {QE QS : Hp → Prop}
/-- the generator is made at a; s4, H4: ahead of its frame -/
def GxMade (X : Cx) (pins : List (Addr × Obj)) (σ : L2.St) (elt tg iter : Expr) (scope : Scope) (gpos : Pos) (st : Bool) (QE QS : Hp → Prop) (a : Addr) (s5 : Shared) : Prop := ∃ (s4 : Shared) (H4 : Hp) (cenv : Env) (it : Addr) (fp : List Addr) (go : Obj) (gn n : Nat), Inv X pins σ H4 s4 ∧ (∀ b ∈ fp, FpOk X pins H4 b) ∧
  (∀ h : Heap, h.get? a = some go → h.IsGen a gn) ∧ GxAt (X.gx (gxAr X.A elt tg iter scope gpos it cenv) s4 H4 cenv fp) X.A.in1.in1 a go gn st QE QS n s5
theorem gx_made {Q' : Value → Shared → Prop} (hr : Room (k + 1) X.A) (hc : X.calm = true) (hN : X.N.Nodup) (TB : GxR.TabB X.base X.mg c P) (hcode : X.env.code = .ref c) (ok : BlkOk X.N X.env.scope scope own) (nc : ∀ y ∈ scope.names, y.2 ≠ .cell)
    (hdot : scope.names.lookup (".0" : Str) = some .local) (hco : scope.isCoroutine = false) (hi : PI X tg iter wi) (hg : ∀ (Ag : Around) (s : Shared) (H : Hp) (C : Addr) (code : Value) (fp : List Addr), PG (X.gx Ag s H (gxEnv X scope C code) fp) tg g)
    (he : ∀ (Ag : Around) (s : Shared) (H : Hp) (C : Addr) (code : Value) (fp : List Addr), Room k Ag → PE (X.gx Ag s H (gxEnv X scope C code) fp) elt te) (hs : ∀ v, genFold iter X.env v = pure v) (I : Inv X pins σ H s)
    (h : wi σ H fun J H1 => H1 P = some (TbX P) ∧ ∃ W, (∃ m, W 0 m H1) ∧ gxTurn J g te (own.map (·.2)) st σ QE QS W) (hQ : ∀ a s5, GxMade X pins σ elt tg iter scope gpos st QE QS a s5 → Q' (.ref a) s5) :
    wpAny (model X.prog X.w) X.A (eval (.GeneratorExp elt [⟨tg, iter, [], 0⟩] scope gpos) X.env) Q' X.xe s := by
  have free : ∀ y ∈ scope.names, y.2 = .free → ∃ c, X.env.cells.lookup y.1 = some c := fun y hy e => (ok.free y hy e).elim (fun k => I.ok.has _ (.inl k)) fun k => I.ok.has _ (.inr k)
  refine wpAny_GeneratorExp_make hco (closure_ok free) nc hdot ok.kind hr.depth (thn (hi.run pins s σ H _ I h) fun xv s1 hx => thn hx fun itv s2 h2 => ?_) hs
  obtain ⟨it, fp, tn, J, H2, rfl, I2, T, t2, f2, hP, W, ⟨m0, w0⟩, turn⟩ := h2
  refine ⟨I2.nolimit, gx_code TB hcode I2 hP fun code h3 tk I3 k3 z3 => ?_⟩
  obtain ⟨bm, ob, e1, e2, _, _, e5, e6, e7, e8⟩ := TB.bm
  refine wpAny_builtinsFor (m := X.mg) (by rw [I3.ok.glob]; exact I3.mod.glob.keeps I3.bk) e1 e2 (I3.bk _ _ e5) e6 e7 e8 ?_
  have fP : ∀ b ∈ fp, b ≠ P := fun b hb z => by
    have := (f2 b hb).1
    rw [z, hP] at this
    cases this
  have t3 : tn 0 h3 := T.keep _ _ _ t2 fun b hb o e => k3 b o (fP b hb) e
  have f3 : ∀ b ∈ fp, FpOk X pins H2 b ∧ b < h3.objs.size := fun b hb => by
    obtain ⟨o, e, _⟩ := T.obj _ _ t3 b hb
    exact ⟨f2 b hb, Heap.lt_size e⟩
  intro h4 ns sb
  have k4 : ∀ b o, h3.get? b = some o → h4.get? b = some o := fun b o e => sb.extBut b o (Nat.ne_of_lt (Heap.lt_size e)) (Heap.get?_push_of_some _ e)
  have z4 : h4.objs.size = h3.objs.size + 1 := by rw [sb.1, Heap.size_push]
  generalize hgo : ({ cls := .type "generator", data := .fields _ } : Obj) = go
  have nv : ∀ v, go.data ≠ .cell v := fun v z => by rw [← hgo] at z; cases z
  have k5 : ∀ b o, h3.get? b = some o → (h4.push go).get? b = some o := fun b o e => Heap.get?_push_of_some _ (k4 b o e)
  have t5 : tn 0 (h4.push go) := T.keep _ _ _ t3 fun b _ o e => k5 b o e
  have fr : (gxAr X.A elt tg iter scope gpos it (gxEnv X scope h3.objs.size code)).frames = some (gxEnv X scope h3.objs.size code :: X.stack) := by
    have e : (gxAr X.A elt tg iter scope gpos it (gxEnv X scope h3.objs.size code)).frames = pushEnvs (Code.envs (.compLoop (.GeneratorExp elt [⟨tg, iter, [], 0⟩] scope gpos) 0 (.ref it) .none (gxEnv X scope h3.objs.size code))) (pushEnvs (envsOf (([] : List Frame).map Frame.where_)) X.A.frames) := rfl
    rw [e, I.ok.frames]
    rfl
  have IG := fun (g5 : Array GenState) (tk5 : Nat) (hb : AllBare g5) => gx_start (Ag := gxAr X.A elt tg iter scope gpos it (gxEnv X scope h3.objs.size code)) (code := code) (h5 := h4.push go) (tk := tk5) (g5 := g5) (a := h4.objs.size) (go := go) I3 ok nc hN f3 (fun _ => hr.hd) fr k5 (ns.push _) (Heap.get?_push_size _ (by rw [← hgo]; rfl)) (by show h3.objs.size < h4.objs.size; omega) nv hb
  have I5 := IG _ (s2.toks) (AllBare.push (g := .fresh (.compStart (.GeneratorExp elt [⟨tg, iter, [], 0⟩] scope gpos) 0 (.ref it) .none (gxEnv X scope h3.objs.size code))) I3.bare rfl)
  refine hQ _ _ ⟨_, H2, gxEnv X scope h3.objs.size code, it, fp, go, s2.gens.size, m0 + 1, I3, f2, fun h e => ⟨go, _, _, e, by rw [← hgo], by rw [← hgo], by rw [← hgo]⟩, ?_⟩
  refine ⟨_, _, H2, Array.getElem?_push_size .., inv_re I5 rfl rfl I5.bare, fun s6 q1 q2 q3 => ⟨rfl, ?_⟩⟩
  have I6 := inv_re (s' := s6) I5 q1 q2 q3
  have t6 : tn 0 s6.heap := by rw [q1]; exact t5
  refine gx_fresh (X := X.gx (gxAr X.A elt tg iter scope gpos it (gxEnv X scope h3.objs.size code)) _ H2 (gxEnv X scope h3.objs.size code) fp) (fun s0 => ?_) T t6 s6
  exact gx_loop (X := X.gx (gxAr X.A elt tg iter scope gpos it (gxEnv X scope h3.objs.size code)) _ H2 (gxEnv X scope h3.objs.size code) fp) rfl hco (fun _ _ z => z) hc T (fun b hb => hb) rfl (fun b hb z => by
    have q : b < h3.objs.size := (f3 b hb).2
    have e : h4.objs.size = b := z
    have z5 : h4.objs.size = h3.objs.size + 1 := z4
    exact absurd (e ▸ q : h4.objs.size < h3.objs.size) (by rw [z5]; exact Nat.not_lt.mpr (Nat.le_succ _))) (hg _ _ _ _ _ _) (he _ _ _ _ _ _ (gx_room hr)) turn (m0 + 1) 0 m0 H2 s6 s0 (Nat.le_refl _) I6 t6 (fun b hb => (f2 b hb).1) w0
/-- behind it: the def's own state again -/
theorem gx_back {A2 : Around} {s4 : Shared} {H4 : Hp} {cenv : Env} {fp : List Addr} {p : Addr × Obj} {σ2 : L2.St} {H2 : Hp} {s' : Shared} (I : Inv X pins σ H4 s4) (hf : ∀ b ∈ fp, FpOk X pins H4 b) (I2 : Inv (X.gx A2 s4 H4 cenv fp) [p] σ2 H2 s') : Inv X pins σ H2 s' :=
  I.call' (ch := fp) I2.os I2.base I2.hok I2.bare fun b hb => let ⟨_, f1, _, f3, f4, f5⟩ := hf b hb; ⟨f3, f1, f4, f5⟩
/-- all(item for target in iter) where st is false, any(..) where it is true; it ends at the first st -/
def tAA (P : Addr) (st : Bool) (wi : TI) (g : TG) (te : TE) (vs : List Nat) : TE := fun σ H Q => wi σ H fun J H1 => H1 P = some (TbX P) ∧ ∃ W, (∃ m, W 0 m H1) ∧ gxTurn J g te vs st σ (fun H => Q (.bl (!st)) H) (fun H => Q (.bl st) H) W
theorem pe_all {p pos : Pos} (hr : Room (k + 1) X.A) (hc : X.calm = true) (hN : X.N.Nodup) (hgl : Gl X "all") (hm : X.mg "all" = none) (hb : bootBuiltins "all" = some (.builtin "all")) (TB : GxR.TabB X.base X.mg c P) (hcode : X.env.code = .ref c) (ok : BlkOk X.N X.env.scope scope own) (nc : ∀ y ∈ scope.names, y.2 ≠ .cell)
    (hdot : scope.names.lookup (".0" : Str) = some .local) (hco : scope.isCoroutine = false) (hi : PI X tg iter wi) (hg : ∀ (Ag : Around) (s : Shared) (H : Hp) (C : Addr) (code : Value) (fp : List Addr), PG (X.gx Ag s H (gxEnv X scope C code) fp) tg g)
    (he : ∀ (Ag : Around) (s : Shared) (H : Hp) (C : Addr) (code : Value) (fp : List Addr), Room k Ag → PE (X.gx Ag s H (gxEnv X scope C code) fp) elt te) (hs : ∀ v, genFold iter X.env v = pure v := by intro _; rfl)
    (hst : starEach [.GeneratorExp elt [⟨tg, iter, [], 0⟩] scope gpos] X.env = (false, eval (.GeneratorExp elt [⟨tg, iter, [], 0⟩] scope gpos) X.env) :: starEach [] X.env := by rfl) :
    PE X (.Call (.Name "all" p) [.GeneratorExp elt [⟨tg, iter, [], 0⟩] scope gpos] [] pos) (tAA P false wi g te (own.map (·.2))) := ⟨fun pins s σ H Q I h => by
  refine wpAny_Call_Name_kw (ld_blt I hgl hm hb (PyProof.Rows.callWith_builtin1 ?_ hst (by rfl)))
  rw [hst]
  refine Calls.spliced_cons (gx_made hr hc hN TB hcode ok nc hdot hco hi hg he hs I h fun a s5 made => Calls.spliced_nil ?_)
  obtain ⟨s4, H4, cenv, it, fp, go, gn, n, I4, f4, isg, G⟩ := made
  have isg5 : s5.heap.IsGen a gn := isg _ (let ⟨_, _, _, _, J, _⟩ := G; (J.pin (a, go) (List.mem_append_right _ (List.mem_singleton.mpr rfl))).1)
  refine call_function_tree F.kind_all F.plain_all F.entry_all (F.args_all1 _) ?_
  unfold Builtin.«all»
  refine wpAny_bind (m := oneArg "all" _) (wpAny_pure (wpAny_bind (wpAny_pyIter_gen isg5 (wpAny_pure ⟨plainId_quiet F.plain_all_loop _, ?_⟩))))
  exact gx_all_loop (X := X.gx (gxAr X.A elt tg iter scope gpos it cenv) s4 H4 cenv fp) hr.hd hr.depth isg (fun s' σ' H' J q => ⟨.bl true, H', gx_back I4 f4 J, rfl, q⟩) (fun s' σ' H' J q => ⟨.bl false, H', gx_back I4 f4 J, rfl, q⟩) n s5 G⟩
theorem pe_any {p pos : Pos} (hr : Room (k + 1) X.A) (hc : X.calm = true) (hN : X.N.Nodup) (hgl : Gl X "any") (hm : X.mg "any" = none) (hb : bootBuiltins "any" = some (.builtin "any")) (TB : GxR.TabB X.base X.mg c P) (hcode : X.env.code = .ref c) (ok : BlkOk X.N X.env.scope scope own) (nc : ∀ y ∈ scope.names, y.2 ≠ .cell)
    (hdot : scope.names.lookup (".0" : Str) = some .local) (hco : scope.isCoroutine = false) (hi : PI X tg iter wi) (hg : ∀ (Ag : Around) (s : Shared) (H : Hp) (C : Addr) (code : Value) (fp : List Addr), PG (X.gx Ag s H (gxEnv X scope C code) fp) tg g)
    (he : ∀ (Ag : Around) (s : Shared) (H : Hp) (C : Addr) (code : Value) (fp : List Addr), Room k Ag → PE (X.gx Ag s H (gxEnv X scope C code) fp) elt te) (hs : ∀ v, genFold iter X.env v = pure v := by intro _; rfl)
    (hst : starEach [.GeneratorExp elt [⟨tg, iter, [], 0⟩] scope gpos] X.env = (false, eval (.GeneratorExp elt [⟨tg, iter, [], 0⟩] scope gpos) X.env) :: starEach [] X.env := by rfl) :
    PE X (.Call (.Name "any" p) [.GeneratorExp elt [⟨tg, iter, [], 0⟩] scope gpos] [] pos) (tAA P true wi g te (own.map (·.2))) := ⟨fun pins s σ H Q I h => by
  refine wpAny_Call_Name_kw (ld_blt I hgl hm hb (PyProof.Rows.callWith_builtin1 ?_ hst (by rfl)))
  rw [hst]
  refine Calls.spliced_cons (gx_made hr hc hN TB hcode ok nc hdot hco hi hg he hs I h fun a s5 made => Calls.spliced_nil ?_)
  obtain ⟨s4, H4, cenv, it, fp, go, gn, n, I4, f4, isg, G⟩ := made
  have isg5 : s5.heap.IsGen a gn := isg _ (let ⟨_, _, _, _, J, _⟩ := G; (J.pin (a, go) (List.mem_append_right _ (List.mem_singleton.mpr rfl))).1)
  refine call_function_tree F.kind_any F.plain_any F.entry_any (F.args_any1 _) ?_
  unfold Builtin.«any»
  refine wpAny_bind (m := oneArg "any" _) (wpAny_pure (wpAny_bind (wpAny_pyIter_gen isg5 (wpAny_pure ⟨plainId_quiet F.plain_any_loop _, ?_⟩))))
  exact gx_any_loop (X := X.gx (gxAr X.A elt tg iter scope gpos it cenv) s4 H4 cenv fp) hr.hd hr.depth isg (fun s' σ' H' J q => ⟨.bl false, H', gx_back I4 f4 J, rfl, q⟩) (fun s' σ' H' J q => ⟨.bl true, H', gx_back I4 f4 J, rfl, q⟩) n s5 G⟩
end
/-- a def whose code object is at c -/
theorem funOkT {P : Program} {w : World} {K : PySem.W.Frag} {mg : Str → Option Value} {base : Heap} {c : Addr} {x qual : Str} {st : Stmt} {f : Addr} {fd : FuncData} {N ps : List Str} {k : Nat} {sp : Sp} (hc : fd.code = .ref c) (F : Fun K x qual st f fd) (S : FnScope N ps (defScope st)) (len : ∀ vs H Q E, sp vs H Q E → vs.length = ps.length)
    (hbody : ∀ (A : Around) (outer : List Env) (s : Shared) (H : Hp) (vs : List V) (Q : VK) (E : XK), Room k (A.deeper (envOfC qual (defScope st) s.heap.objs.size f (.ref c))) → sp vs H Q E →
      ∃ t, PSs (cxOf CX0 P w K mg base N qual (defScope st) f (.ref c) A outer s H E).nox (defBody st) t ∧ t { nx := fun _ H' => Q .non H', rt := Q } (start N vs) H) : FnOk P w K mg base CX0 (k + 1) f fd ps sp := by
  obtain ⟨oc, od, kV, doc, pm, an, cdv, ct, osl, rfl, lk, hcd⟩ := F.ex
  obtain rfl : cdv = .ref c := hc
  exact fn_of lk hcd S len fun A outer s H vs Q E hr hsp => let ⟨t, h, q⟩ := hbody A outer s H vs Q E hr hsp; ⟨t, h.nox, q⟩
/-- readings -/
theorem d_aa {P : Addr} {st : Bool} {wi : TI} {g : TG} {te : TE} {vs : List Nat} {σ : L2.St} {H : Hp} {Q : VK} (h : wi σ H fun J H1 => H1 P = some (TbX P) ∧ ∃ W, (∃ m, W 0 m H1) ∧ gxTurn J g te vs st σ (fun H => Q (.bl (!st)) H) (fun H => Q (.bl st) H) W) : tAA P st wi g te vs σ H Q := h
theorem aa_it {J : It} {n : Nat} {G : Hp → Prop} {Y : Nat → Hp → V → Hp → Prop} (w : Walk J n G Y) {g : TG} {te : TE} {vs : List Nat} {st : Bool} {σ : L2.St} {H1 : Hp} {QE QS : Hp → Prop} (Pv : Nat → Hp → Prop) (h0 : Pv 0 H1) (hG : ∀ i H, i ≤ n → Pv i H → G H)
    (hs : ∀ i x H H', i < n → Pv i H → Y i H x H' → g x (wipe σ vs) H' fun σ2 H2 => wipe σ2 vs = wipe σ vs ∧ te σ2 H2 fun y H3 => ∃ b, y = .bl b ∧ (b = st → QS H3) ∧ (b = !st → Pv (i + 1) H3)) (hd : ∀ H, Pv n H → QE H) :
    ∃ W, (∃ m, W 0 m H1) ∧ gxTurn J g te vs st σ QE QS W := by
  refine ⟨fun i m H => m = n - i ∧ i ≤ n ∧ Pv i H, ⟨n, by simp, Nat.zero_le _, h0⟩, ?_⟩
  rintro i m H ⟨rfl, hi, p⟩
  have gg := hG i H hi p
  rcases Nat.lt_or_eq_of_le hi with lt | rfl
  · have imp : ∀ {x : V} {H' : Hp} {y : V} {H3 : Hp}, (∃ b, y = V.bl b ∧ (b = st → QS H3) ∧ (b = !st → Pv (i + 1) H3)) → ∃ b, y = V.bl b ∧ (b = st → QS H3) ∧ (b = !st → ∃ m', m' < n - i ∧ m' = n - (i + 1) ∧ i + 1 ≤ n ∧ Pv (i + 1) H3) := fun ⟨b, e, q1, q2⟩ => ⟨b, e, q1, fun z => ⟨n - (i + 1), by omega, rfl, lt, q2 z⟩⟩
    refine .inr ⟨w.goes i H lt gg, fun x H' y => ?_⟩
    have z := hs i x H H' lt p (w.yields i H x H' lt gg y)
    have e : (fun (y : V) (H3 : Hp) => ∃ b, y = V.bl b ∧ (b = st → QS H3) ∧ (b = !st → ∃ m', m' < n - i ∧ m' = n - (i + 1) ∧ i + 1 ≤ n ∧ Pv (i + 1) H3)) = fun y H3 => ∃ b, y = V.bl b ∧ (b = st → QS H3) ∧ (b = !st → Pv (i + 1) H3) := by
      funext y H3
      refine propext ⟨fun ⟨b, e, q1, q2⟩ => ⟨b, e, q1, fun z => ?_⟩, fun q => imp (x := x) (H' := H') q⟩
      obtain ⟨_, _, _, _, q⟩ := q2 z
      exact q
    show g x (wipe σ vs) H' fun σ2 H2 => wipe σ2 vs = wipe σ vs ∧ te σ2 H2 (fun (y : V) (H3 : Hp) => ∃ b, y = V.bl b ∧ (b = st → QS H3) ∧ (b = !st → ∃ m', m' < n - i ∧ m' = n - (i + 1) ∧ i + 1 ≤ n ∧ Pv (i + 1) H3))
    rw [e]
    exact z
  · exact .inl ⟨w.stops H gg, hd H p⟩
end Cw

namespace Cw
open PySem PySem.Spec PyProof.Rows L2
/-! ### the end of a law whose defs hold generator expressions: their tables are tracked, and may grow -/
/-- what is tracked at the law's entry: the tables, and the script where it is not written -/
def entry (T : List Addr) (K : PySem.W.Frag) (a : Addr) (o : Obj) (xs : List V) : Hp := fun b => if b ∈ T then some (TbX b) else if b = a ∧ (K.lookup a).isNone = true then some (.frz o (.lst xs)) else none
section
variable {T : List Addr} {K : PySem.W.Frag} {a b : Addr} {o : Obj} {xs : List V} {u : HO}
theorem entry_tab (h : b ∈ T) : entry T K a o xs b = some (TbX b) := if_pos h
theorem entry_cases (h : entry T K a o xs b = some u) : (b ∈ T ∧ u = TbX b) ∨ (b ∉ T ∧ b = a ∧ K.lookup a = none ∧ u = .frz o (.lst xs)) := by
  unfold entry at h
  split at h
  · rename_i hb; exact .inl ⟨hb, (Option.some.inj h).symm⟩
  · rename_i hb
    split at h
    · rename_i ha; exact .inr ⟨hb, ha.1, Option.isNone_iff_eq_none.mp ha.2, (Option.some.inj h).symm⟩
    · cases h
theorem entry_none (hT : b ∉ T) (ha : b ≠ a ∨ ∃ z, K.lookup a = some z) : entry T K a o xs b = none := by
  cases e : entry T K a o xs b with
  | none => rfl
  | some u =>
    rcases entry_cases e with ⟨h, _⟩ | ⟨_, h, h2, _⟩
    · exact absurd h hT
    · rcases ha with z | ⟨z, e2⟩
      · exact absurd h z
      · rw [h2] at e2; cases e2
end
/-- a promise of a def where it is called from one place -/
structure FnAt (P : Program) (w : World) (K : PySem.W.Frag) (mg : Str → Option Value) (base : Heap) (A : Around) (f : Addr) (fd : FuncData) (ps : List Str) (sp : Sp) : Prop where
  run : ∀ (outer : List Env) (s : Shared) (H : Hp) (args : Args) (us : List Value) (vs : List V) (Q : VK) (E : XK), Env0 P w K mg base A outer s H → BindsTo s fd args (ps.zip us) → Vals vs us → sp vs H Q E → codeAny (model P w) A (.call (.ref f) args) (CR CX0 outer P w H s Q E) s
theorem FnAt.of {P : Program} {w : World} {K : PySem.W.Frag} {mg : Str → Option Value} {base : Heap} {A : Around} {k : Nat} {f : Addr} {fd : FuncData} {ps : List Str} {sp : Sp} (F : FnOk P w K mg base CX0 k f fd ps sp) (hr : Room k A) : FnAt P w K mg base A f fd ps sp :=
  ⟨fun outer s H args us vs Q E => F.run A outer s H args us vs Q E hr⟩
/-- by its body, where what stands around is known (its guards, say) -/
theorem fun_at {P : Program} {w : World} {K : PySem.W.Frag} {mg : Str → Option Value} {base : Heap} {A : Around} {x qual : Str} {st : Stmt} {f : Addr} {fd : FuncData} {N ps : List Str} {k : Nat} {sp : Sp} (F : Fun K x qual st f fd) (S : FnScope N ps (defScope st)) (ha : Room (k + 1) A)
    (len : ∀ vs H Q E, sp vs H Q E → vs.length = ps.length)
    (body : ∀ (cdv : Value) (outer : List Env) (s : Shared) (H : Hp) (vs : List V) (Q : VK) (E : XK), Room k (A.deeper (envOfC qual (defScope st) s.heap.objs.size f cdv)) → sp vs H Q E →
      ∃ t, PSs (cxOf CX0 P w K mg base N qual (defScope st) f cdv A outer s H E).nox (defBody st) t ∧ t { nx := fun _ H' => Q .non H', rt := Q } (start N vs) H) : FnAt P w K mg base A f fd ps sp := by
  obtain ⟨oc, od, kV, doc, pm, an, cdv, ct, osl, rfl, at_, code⟩ := F.ex
  refine ⟨fun outer s H args us vs Q E e0 bnd rv want => ?_⟩
  have nvs := len _ _ _ _ want
  have stays : ∀ b o, base.get? b = some o → s.heap.get? b = some o := fun b o e => (e0.bs b o e).1
  have inK : K.In s.heap := e0.mod.kin.keeps stays
  have kinds : ∀ y ∈ ps.zip us, (defScope st).names.lookup y.1 = some .local ∨ ((defScope st).names.lookup y.1 = some .cell ∧ ((cellsFrom (s.heap.objs.size + 1) (defScope st).names []).lookup y.1).isSome = true) := fun y hy =>
    (S.par y.1 (List.of_mem_zip (show (y.1, y.2) ∈ ps.zip us from hy)).1).imp_right fun q => ⟨q, PySem.W.cellsFrom_some _ _ _ (.inl q)⟩
  refine codeAny_call_function ha.depth (inK _ _ at_) rfl S.co S.gen rfl (PySem.W.codeRec_of inK code) (bnd _ _ _ _ (wpAny_newFunctionEnv_cells S.kind kinds fun env he s1 made => ?_))
  cases he
  obtain ⟨t, ht, hq⟩ := body cdv outer s H vs Q E (ha.deeper _) want
  refine ⟨(e0.mod.nolimit.keeps stays).keeps made.toInCall.keep, codeAny_func (wpAny_mono (ht.nox.run [] s1 (start N vs) H _ (inv_start S ha.hd e0 nvs rv made) hq) (fun fl s' hs => ?_) fun _ _ hs => hs)⟩
  match fl, hs with
  | .ret u, ⟨v, _, H', J, r, q⟩ => exact ⟨v, H', J.os, J.bare, J.base, J.hok, r, q⟩
  | .next, ⟨_, H', J, q⟩ => exact ⟨.non, H', J.os, J.bare, J.base, J.hok, rfl, q⟩
  | .brk, ⟨_, _, _, q⟩ => exact q.elim
  | .cont, ⟨_, _, _, q⟩ => exact q.elim
abbrev tab0 : Obj := { cls := .none, data := .fields #[] }
theorem law_tabs {P : Program} {w : World} {K : PySem.W.Frag} {mg mb : Str → Option Value} {fa a : Addr} {cs : List (Addr × Addr)} {fd : FuncData} {x : Str} {sp : Sp} {s : Shared} {vs : List Value} {ns : List Int}
    (KX : K.In s.heap) (hns : s.heap.Ns mainGlobals mg) (hb : s.heap.Ns builtinsNs mb) (hbb : ∀ x : Str, x ≠ "__name__" → mb x = bootBuiltins x) (hlim : s.heap.NoLimit) (hg : s.gens = #[])
    (hT : ∀ p ∈ cs, s.heap.get? p.2 = some tab0) (nT : ∀ p ∈ cs, K.lookup p.2 = none) (C : ∀ p ∈ cs, PySem.W.CodeHd s.heap p.1 p.2)
    (hbm : ∃ (bm : Addr) (ob : Obj), mg "__builtins__" = some (.ref bm) ∧ bm ≠ builtinsNs ∧ s.heap.get? bm = some ob ∧ ob.cls = .type "module" ∧ ob.dict = some builtinsNs ∧ ob.data = .plain)
    (ha : s.heap.get? a = some { cls := .type "list", data := .seq vs.toArray }) (hi : IntsAre vs ns) (hl : ns.length ≤ sizeLine)
    (F : ∀ base : Heap, K.In base → base.Ns mainGlobals mg → (∀ p ∈ cs, GxR.TabB base mg p.1 p.2) → FnAt P w K mg base callerA fa fd [x] sp) (hbind : ∀ (s : Shared) (u : Value), BindsTo s fd ⟨[u], []⟩ [(x, u)])
    (hsp : ∀ H : Hp, (∀ p ∈ cs, H p.2 = some (TbX p.2)) → SqL K H a (ns.map V.int) → sp [.ref a] H (fun v H' => v = .bl true ∧ ∀ p ∈ cs, H' p.2 = some (TbX p.2)) fun _ _ _ => False)
    :
    codeAny (model P w) callerA (.call (.ref fa) ⟨[.ref a], []⟩) (fun r s' => r = .ok (.ret (.bool true)) ∧ OldK s.heap s'.heap ∧ s'.os = s.os ∧ AllBare s'.gens) s := by
  have inT : ∀ {b}, b ∈ cs.map (·.2) → ∃ p ∈ cs, p.2 = b := fun h => by simpa using h
  have atT : ∀ {b}, b ∈ cs.map (·.2) → s.heap.get? b = some tab0 := fun h => let ⟨p, hp, e⟩ := inT h; e ▸ hT p hp
  have rv : Vals (ns.map V.int) vs := vals_ints hi
  have lv : (ns.map V.int).length = vs.length := rv.length
  generalize hH : entry (cs.map (·.2)) K a { cls := .type "list", data := .seq vs.toArray } (ns.map V.int) = H
  have tabH : ∀ p ∈ cs, H p.2 = some (TbX p.2) := fun p hp => by rw [← hH]; exact entry_tab (List.mem_map.mpr ⟨p, hp, rfl⟩)
  -- what is neither a table nor a list is not tracked
  have off : ∀ {b : Addr} {o : Obj}, s.heap.get? b = some o → o.data ≠ .fields #[] → (∀ zs n, o.data ≠ .seq zs n) → H b = none := fun {b o} e d1 d2 => by
    rw [← hH]
    refine entry_none (fun z => ?_) (.inl fun z => ?_)
    · rw [atT z] at e; cases e; exact d1 rfl
    · rw [z, ha] at e; cases e; exact d2 _ _ rfl
  have okH : HOk P w H s.heap := fun b u e => by
    rw [← hH] at e
    rcases entry_cases e with ⟨h, rfl⟩ | ⟨_, rfl, _, rfl⟩
    · exact ⟨⟨#[], atT h, trivial⟩, ⟨_, atT h⟩, fun h1 h2 ⟨ps, z, zt⟩ st => ⟨ps, st _ z, zt⟩⟩
    · exact ⟨ha, by rw [List.length_map]; exact hl, vs, _, rv, ha⟩
  have hidden : ∀ {b : Addr} {m : Str → Option Value}, s.heap.Ns b m → (hidT s.heap H).Ns b m := fun ⟨o, es, ep, e, d, r⟩ => ⟨o, es, ep, hidT_get e (off e (by rw [d]; exact fun z => nomatch z) (by rw [d]; exact fun _ _ z => nomatch z)), d, r⟩
  have KB : K.In (hidT s.heap H) := fun b o e => hidT_get (KX b o e) (by
    rw [← hH]
    refine entry_none (fun z => ?_) ?_
    · obtain ⟨p, hp, rfl⟩ := inT z
      rw [nT p hp] at e; cases e
    · by_cases z : b = a
      · exact .inr ⟨o, z ▸ e⟩
      · exact .inl z)
  have TB : ∀ p ∈ cs, GxR.TabB (hidT s.heap H) mg p.1 p.2 := fun p hp => by
    refine ⟨?_, ?_, fun z => ?_⟩
    · obtain ⟨o, us, fl, tf, fs, tg, iF, tx, tt, e1, r1, r2, r3, r⟩ := C p hp
      exact ⟨o, us, fl, tf, fs, tg, iF, tx, tt, hidT_get e1 (off e1 (fun z => by rw [r2] at z; cases z; simp at r3) (by rw [r2]; exact fun _ _ z => nomatch z)), r1, r2, r3, r⟩
    · obtain ⟨bm, ob, b1, b2, b3, b4, b5, b6⟩ := hbm
      refine ⟨bm, ob, b1, b2, fun q => ?_, fun q => ?_, hidT_get b3 (off b3 (by rw [b6]; exact fun z => nomatch z) (by rw [b6]; exact fun _ _ z => nomatch z)), b4, b5, b6⟩
      · obtain ⟨o, es, ep, e, d, _⟩ := hns
        rw [← q, b3] at e; cases e; rw [b6] at d; cases d
      · rw [q, hT p hp] at b3; cases b3; cases b6
    · obtain ⟨o, es, ep, e, d, _⟩ := hns
      rw [z, hT p hp] at e; cases e; cases d
  have SQ : SqL K H a (ns.map V.int) := by
    cases e : K.lookup a with
    | some o =>
      have e' := KX a o e
      rw [ha] at e'; cases e'
      exact .inr ⟨_, vs.toArray, _, e, rfl, rfl, rfl, by rw [List.size_toArray, ← lv, List.length_map]; exact hl, by simpa using rv⟩
    | none =>
      refine .inl (.inr ⟨{ cls := .type "list", data := .seq vs.toArray }, ?_⟩)
      rw [← hH]
      unfold entry
      rw [if_neg (fun z => by have := atT z; rw [ha] at this; cases this), if_pos ⟨rfl, by rw [e]; rfl⟩]
  have E0 : Env0 P w K mg (hidT s.heap H) callerA [] s H := ⟨rfl, ⟨KB, hidden hns, ⟨mb, hidden hb, hbb⟩, let ⟨mc, h1, h2⟩ := hlim; ⟨mc, hidden h1, h2⟩⟩, fun b o e => of_hidT e, Nat.le_of_eq (hidT_size _ _), trivial, fun b z => (nomatch z), okH, .of_eq hg⟩
  refine codeAny_mono ((F _ KB (hidden hns) TB).run [] s H ⟨[.ref a], []⟩ [.ref a] [.ref a] _ _ E0 (hbind s (.ref a)) (.cons rfl .nil) (hsp H tabH SQ)) fun r s' h => ?_
  match r, h with
  | .error e, h => exact h.elim
  | .ok .next, h => exact h.elim
  | .ok .brk, h => exact h.elim
  | .ok .cont, h => exact h.elim
  | .ok (.ret u), ⟨v, H', os, bare, un, ok', rel, ev, tabs⟩ =>
    subst ev
    obtain rfl : u = Value.bool true := rel
    have grown : ∀ p ∈ cs, ∃ more : Array Value, s'.heap.get? p.2 = some { cls := .none, data := .fields more } := fun p hp => let ⟨ps, e, _⟩ := (ok' _ _ (tabs p hp)).1; ⟨ps, e⟩
    have stays : ∀ b o, b ∉ cs.map (·.2) → s.heap.get? b = some o → s'.heap.get? b = some o := fun b o nb e => by
      cases q : H b with
      | none => exact un.keep b o e q (fun z => nomatch z) (fun z => nomatch z)
      | some u =>
        have q2 := q
        rw [← hH] at q2
        rcases entry_cases q2 with ⟨z, _⟩ | ⟨_, _, _, rfl⟩
        · exact absurd z nb
        · have e1 := (okH b _ q).1
          rw [e] at e1
          rw [e1]
          exact (ok' b _ (un.frzs b _ _ q)).1
    refine ⟨rfl, ⟨fun b o e => ?_, fun b o e => ?_⟩, os, bare⟩ <;> by_cases hb : b ∈ cs.map (·.2)
    · obtain ⟨p, hp, rfl⟩ := inT hb
      obtain ⟨more, hm⟩ := grown p hp
      rw [hT p hp] at e
      cases e
      exact .inr (.inl ⟨((C p hp).tab (hT p hp)).isCodeTable, rfl, #[], more, rfl, by rw [Array.empty_append]; exact hm⟩)
    · exact .inl (stays b o hb e)
    · obtain ⟨p, hp, rfl⟩ := inT hb
      obtain ⟨more, hm⟩ := grown p hp
      exact ⟨_, hm⟩
    · exact ⟨o, stays b o hb e⟩
/-- a def of the top with its empty table -/
def TabFact (mg : Str → Option Value) (h : Heap) (x : Str) : Prop := ∃ (a : Addr) (o : Obj) (fd : FuncData) (c P : Addr), mg x = some (.ref a) ∧ h.get? a = some o ∧ o.data = .func fd ∧ fd.code = .ref c ∧ h.IsCode c P #[] ∧ h.TableAt c P #[]
theorem tab_of {K : PySem.W.Frag} {mg : Str → Option Value} {h : Heap} {x : Str} {f c P : Addr} {oc tc : Value} {od td : Option Addr} {fd : FuncData} {osl ts : Array (Option Value)} {tv : Array Value} (X : K.In h) (hf : mg x = some (.ref f)) (l : K.lookup f = some ⟨oc, od, .func fd, osl⟩)
    (hc : fd.code = .ref c) (t : K.lookup c = some ⟨tc, td, .fields tv, ts⟩) (u : tv[11]? = some (.ref P)) (F : TabFact mg h x) : h.get? P = some tab0 ∧ PySem.W.CodeHd h c P := by
  obtain ⟨a, o, fd', c', P', h1, h2, h3, h4, h5, h6⟩ := F
  rw [hf] at h1
  cases h1
  rw [X _ _ l] at h2
  cases h2
  cases h3
  rw [hc] at h4
  cases h4
  have cd := PySem.W.CodeHd.of h5 h6
  obtain ⟨⟨o2, vs2, e1, _, e3, e4⟩, hP⟩ := h6
  rw [X _ _ t] at e1
  cases e1
  cases e3
  rw [u] at e4
  cases e4
  exact ⟨hP, cd⟩
/-- the law's promise, its tables tracked -/
def spLawT (K : PySem.W.Frag) (cs : List (Addr × Addr)) : Sp := fun vs H Q _ => ∃ (a : Addr) (ns : List Int), vs = [.ref a] ∧ SqL K H a (ns.map V.int) ∧ ns.length ≤ 63 ∧ (∀ p ∈ cs, H p.2 = some (TbX p.2)) ∧ ∀ H', (∀ p ∈ cs, H' p.2 = some (TbX p.2)) → Q (.bl true) H'
def LawX (l : PySem.W.OpenLaw) (w : World) (K : PySem.W.Frag) (mg : Str → Option Value) (fa : Addr) (h : Heap) : Prop := ∃ (fd : FuncData) (cs : List (Addr × Addr)), (∀ (s : Shared) (u : Value), BindsTo s fd ⟨[u], []⟩ [("script", u)]) ∧ (∀ p ∈ cs, h.get? p.2 = some tab0) ∧ (∀ p ∈ cs, K.lookup p.2 = none) ∧ (∀ p ∈ cs, PySem.W.CodeHd h p.1 p.2) ∧
  ∀ base : Heap, K.In base → base.Ns mainGlobals mg → (∀ p ∈ cs, GxR.TabB base mg p.1 p.2) → FnAt l.prog w K mg base callerA fa fd ["script"] (spLawT K cs)
theorem walk_ofX {l : PySem.W.OpenLaw} {q : Program} {loose : List Str} {XP : (Str → Option Value) → Heap → Prop} {YP : World → Heap → Prop} {d : DefRec} {K : Params → PySem.W.Frag} (names : List Str)
    (hn : l.most = some 63) (hdf : d.params.defaults = []) (hrec : (names.all fun x => (recsOf q).any fun e => e.name == x) = true) (hY : ∀ (w : World) (h : Heap), YP w h → (K w.params).In h)
    (F : ∀ (w : World) (mg : Str → Option Value) (fa : Addr) (h : Heap), (K w.params).In h → h.Ns mainGlobals mg → mg d.name = some (.ref fa) → (∀ x ∈ names, TabFact mg h x) → LawX l w (K w.params) mg fa h) :
    PySem.W.WalkO q loose XP YP l.row.toRowW d [] (fun f vs => PySem.call f vs) := by
  refine Att.attach_callB hn hdf fun w s₀ s₁ mg mb fa o pm cd doc a vs ns G Y ho hd hcd hmg hobj hints hlen hbits hg => ?_
  have KX := hY w _ Y
  have facts : ∀ x ∈ names, TabFact mg s₁.heap x := fun x hx => by
    obtain ⟨e, he, ee⟩ := List.any_eq_true.mp (List.all_eq_true.mp hrec x hx)
    obtain ⟨a1, o1, fd1, c1, P1, r⟩ := G.T.tab e he
    have : e.name = x := beq_iff_eq.mp ee
    rw [this] at r
    exact ⟨a1, o1, fd1, c1, P1, r⟩
  obtain ⟨fd, cs, hb, hT, nT, C, hF⟩ := F w mg fa _ KX G.T.g hmg facts
  exact law_tabs KX G.T.g G.T.b G.T.builtins G.T.nolimit hg hT nT C G.T.bmain hobj hints (Nat.le_trans hlen (by decide)) hF hb (fun H hH hS => ⟨a, ns, rfl, hS, hlen, hH, fun H' h' => ⟨rfl, h'⟩⟩)
end Cw

namespace Cw
open PySem PySem.Spec PyProof.Rows L2
/-! ### repr of what is told, where no other repr runs -/
theorem inv_kept {X : Cx} {pins : List (Addr × Obj)} {σ : L2.St} {H : Hp} {s : Shared} {h' : Heap} {t' : Nat} (I : Inv X pins σ H s) (k : ∀ b o, s.heap.get? b = some o → h'.get? b = some o) : Inv X pins σ H { s with heap := h', toks := t' } :=
  I.un ⟨fun b o e _ _ _ => k b o e, fun b o e _ _ _ => ⟨o.slots, k b o e⟩, fun _ _ _ n _ => n, fun b o e _ => ⟨o, k b o e⟩, fun _ _ e => e, fun _ _ _ e => e, fun b ps e => ⟨#[], by simpa using e⟩⟩
    fun b u e => (I.hok b u e).stay (fun c v _ q => k c v q) (fun _ q => q) fun _ _ q => q
def rRepr (K : PySem.W.Frag) : List V → Hp → VK → Prop := fun vs H Q => ∃ a d, vs = [.ref a] ∧ Dp K H (.ref a) d ∧ d.showable = true ∧ d.hasDict = false ∧ d.depth ≤ 64 ∧ d.shown.length ≤ sizeLine ∧ Q (.str d.shown) H
theorem cr_repr {X : Cx} (hg : X.A.guards = some []) (hu : X.A.units + 66 < cLine) : CallR X (.builtin "repr") (rRepr X.K) := by
  intro pins s σ H xs us Q I r h
  obtain ⟨a, d, rfl, hd, h1, h2, h3, h4, q⟩ := h
  obtain ⟨u, rfl, ru⟩ := vals1 r
  obtain ⟨as, rr⟩ := Dp.reads I d (.ref a) u hd ru
  obtain rfl : u = Value.ref a := ru
  exact repr_of_reads' rr h1 (fun e => by rw [h2] at e; cases e) hg (by omega) (fun _ _ e => e) (fun h' w tk k => ⟨.str d.shown, H, inv_kept I k, ⟨w, rfl⟩, q⟩) h4
/-! ### how long the text of told pairs is -/
theorem textFrom_le {m : Nat} : ∀ (ts : List Str) (k : Nat) (acc : Str), (∀ t ∈ ts, t.length ≤ m) → (textFrom k acc ts).length ≤ acc.length + ts.length * (m + 2)
  | [], k, acc, _ => by show acc.length ≤ _; omega
  | t :: r, k, acc, h => by
    have h1 := textFrom_le r (k + 1) (acc ++ (if k > 0 then ", " else "" : String) ++ t) fun x hx => h x (List.mem_cons_of_mem _ hx)
    have h2 := h t List.mem_cons_self
    have e : (acc ++ (if k > 0 then ", " else "" : String) ++ t).length ≤ acc.length + 2 + m := by
      rw [strLen_append, strLen_append]
      split
      · show acc.length + 2 + t.length ≤ _; omega
      · show acc.length + 0 + t.length ≤ _; omega
    have e2 : (textFrom k acc (t :: r)) = textFrom (k + 1) (acc ++ (if k > 0 then ", " else "" : String) ++ t) r := rfl
    rw [e2, List.length_cons, Nat.succ_mul]
    omega
theorem num_len : ∀ n : Nat, n < 41 → (PyData.shown (.int ((n : Nat) : Int))).length ≤ 2 := by decide +kernel
theorem pair_len (p : Nat × Nat) (h1 : p.1 < 41) (h2 : p.2 < 41) : (pairD p).shown.length ≤ 8 := by
  have a := num_len _ h1
  have b := num_len _ h2
  have e : (pairD p).shown = ("(" : Str) ++ ((PyData.shown (.int (p.1 : Nat))) ++ (", " : Str) ++ (PyData.shown (.int (p.2 : Nat)))) ++ (")" : Str) := rfl
  rw [e, strLen_append, strLen_append, strLen_append, strLen_append]
  show 1 + (_ + 2 + _) + 1 ≤ 8
  omega
theorem shownAll_map (ds : List PyData) : PyData.shownAll ds = ds.map PyData.shown := by
  induction ds with
  | nil => rfl
  | cons d r ih => rw [PyData.shownAll, ih]; rfl
theorem pairs_len {ld : Lead} (h : ∀ p ∈ ld, p.1 < 41 ∧ p.2 < 41) (l : ld.length ≤ 2000) : (pairsD ld).shown.length ≤ sizeLine := by
  have e : (pairsD ld).shown = textFrom 0 "[" ((ld.map pairD).map PyData.shown) ++ "]" := by
    rw [← shownAll_map]; rfl
  have z := textFrom_le (m := 8) ((ld.map pairD).map PyData.shown) 0 "[" fun t ht => by
    obtain ⟨d, hd, rfl⟩ := List.mem_map.mp ht
    obtain ⟨p, hp, rfl⟩ := List.mem_map.mp hd
    exact pair_len p (h p hp).1 (h p hp).2
  rw [List.length_map, List.length_map] at z
  rw [e, strLen_append]
  have : ("[" : Str).length = 1 := rfl
  have : ("]" : Str).length = 1 := rfl
  unfold sizeLine
  omega
theorem pairs_showable (ld : Lead) (h : ∀ p ∈ ld, p.1 < 41 ∧ p.2 < 41) : (pairsD ld).showable = true := by
  have : ∀ n < 41, PyData.showable (.int ((n : Nat) : Int)) = true := by decide +kernel
  show PyData.showableAll (ld.map pairD) = true
  induction ld with
  | nil => rfl
  | cons p r ih =>
    have hp := h p List.mem_cons_self
    show (PyData.showableAll [.int (p.1 : Nat), .int (p.2 : Nat)] && PyData.showableAll (r.map pairD)) = true
    rw [ih fun x hx => h x (List.mem_cons_of_mem _ hx)]
    show ((PyData.showable (.int (p.1 : Nat))) && ((PyData.showable (.int (p.2 : Nat))) && true) && true) = true
    rw [this _ hp.1, this _ hp.2]
    rfl
theorem d_reprP {K : PySem.W.Frag} {H : Hp} {Q : VK} {L : Addr} {pvs : List V} {ld : Lead} (e : H L = some (.lst pvs)) (x : Pairs K H pvs ld) (h : ∀ p ∈ ld, p.1 < 41 ∧ p.2 < 41) (l : ld.length ≤ 2000) (q : Q (.str (pairsD ld).shown) H) : rRepr K [.ref L] H Q := by
  have s := pairsD_good ld
  refine ⟨L, _, rfl, x.dp e, pairs_showable ld h, PyData.hasDict_of_canLay _ (SeqAt.canLay_of_shaped s), ?_, pairs_len h l, q⟩
  unfold SeqAt.shaped at s
  simp only [Bool.and_eq_true, decide_eq_true_eq] at s
  first | exact s.2 | exact s.1
end Cw

namespace Cw
open PySem PySem.Spec PyProof.Rows L2
local macro_rules | `(tactic| walk_at "rd1") => `(tactic| first
  | (with_reducible refine d_seq ?_) | (with_reducible refine d_asg ?_) | (with_reducible refine d_cons ?_) | (with_reducible refine d_nil ?_)
  | ((with_reducible refine' d_var ?e ?_); (case e => exact rfl))
  | (with_reducible refine d_c ?_) | (with_reducible refine d_op ?_) | (with_reducible refine d_un ?_) | (with_reducible refine d_cb ?_)
  | (with_reducible refine d_rI0 ?_) | (with_reducible refine d_rU ?_) | (with_reducible refine d_eqI ?_) | (with_reducible refine d_neI ?_)
  | ((with_reducible refine d_rI ?hc ?_); (case hc => first | assumption | decide | exact ⟨by decide, by decide⟩ | exact ⟨by omega, by omega⟩ | exact .inl ⟨by omega, by omega⟩ | exact .inr ⟨by omega, by omega⟩))
  | ((with_reducible refine' d_ixLm ?h ?e ?_); (case h => first | assumption | exact upd_same); (case e => rfl)) | ((with_reducible refine' d_ixTm ?h ?e ?_); (case h => first | assumption | exact upd_same); (case e => rfl))
  | (with_reducible refine d_test ?_) | (with_reducible refine d_tB ?_) | (with_reducible refine d_bl ?_) | (with_reducible refine d_not ?_) | (with_reducible refine d_notV ?_) | (with_reducible refine d_and ?_) | (with_reducible refine d_or ?_)
  | (with_reducible refine d_if ?_) | (with_reducible refine d_andV ?_) | (with_reducible refine d_ifS ?_) | (with_reducible refine iteT ?_) | (with_reducible refine iteF ?_) | (with_reducible refine iteNT ?_) | (with_reducible refine iteNF ?_)
  | (with_reducible refine d_ret ?_) | (with_reducible refine d_retN ?_) | (with_reducible refine d_drop ?_) | (with_reducible refine d_next ?_) | (with_reducible refine d_brk ?_) | (with_reducible refine d_ct ?_)
  | (with_reducible refine d_gname ?_) | (with_reducible refine d_gcons ?_) | (with_reducible refine d_gnil ?_) | (with_reducible refine d_gsub ?_)
  | (with_reducible refine d_call ?_) | (with_reducible refine d_tup ?_) | (with_reducible refine d_lst ?_)
  | (with_reducible refine d_sl ?_) | (with_reducible refine d_nop ?_) | (with_reducible refine d_part ?_) | (with_reducible refine d_in ?_)
  | (with_reducible refine d_bm ?_) | (with_reducible refine d_bm0 ?_) | (with_reducible refine d_m1 ?_) | (with_reducible refine d_exs ?_)
  | ((with_reducible refine' d_setL ?h ?e ?_); (case h => first | assumption | exact upd_same); (case e => rfl))
  | ((with_reducible refine' d_gtupm ?h ?e ?_); (case h => first | assumption | exact upd_same); (case e => rfl))
  | ((with_reducible refine' d_aug ?e ?_); (case e => exact rfl))
  | (with_reducible refine d_for ?_) | (with_reducible refine d_lc ?_) | (with_reducible refine d_dc ?_) | (with_reducible refine d_iR1 ?_) | (with_reducible refine d_iR2 ?_) | (with_reducible refine d_iL ?_) | (with_reducible refine d_iT ?_) | (with_reducible refine d_iS ?_) | (with_reducible refine d_iSe ?_) | (with_reducible refine d_yes ?_) | (with_reducible refine d_lsten ?_) | (with_reducible refine d_iEnS ?_) | (with_reducible refine d_iEnSe ?_) | (with_reducible refine d_iEn ?_) | (with_reducible refine d_dget1 ?_) | (with_reducible refine d_dget2 ?_) | (with_reducible refine d_iCmb ?_) | (with_reducible refine d_dget ?_) | (with_reducible refine d_dput ?_) | (with_reducible refine d_daug ?_) | (with_reducible refine d_par ?_) | (with_reducible refine d_par2 ?_) | (with_reducible refine d_din ?_) | (with_reducible refine d_dnewT ?_) | (with_reducible refine d_dnewK ?_) | ((with_reducible refine d_wipe ?e ?_); (case e => rfl)) | (with_reducible refine d_lrg ?_) | (with_reducible refine d_rg1 ?_)
  | ((with_reducible refine d_iR1e ?a ?b ?_); (case a => omega); (case b => omega)) | ((with_reducible refine d_iR2e ?a ?_); (case a => omega))
  | (with_reducible refine d_isN ?_))
local macro_rules | `(tactic| walk_at "rd") => `(tactic| (repeat walk_at "rd1"))

def topS (i : Nat) : Stmt := PySem.Challenge.pw_commonweb_k15_pairs_told.main.body.getD i (.Pass ⟨0, 0, 0, 0⟩)
abbrev s_pairs : Stmt := topS 1
abbrev s_mixed : Stmt := topS 3
abbrev s_purse : Stmt := topS 4
abbrev s_next : Stmt := topS 5
abbrev s_web : Stmt := topS 6
abbrev s_order : Stmt := topS 7
abbrev s_turned : Stmt := topS 8
abbrev s_near : Stmt := topS 9
abbrev s_two : Stmt := topS 10
abbrev s_great : Stmt := topS 11
abbrev s_great_two : Stmt := topS 12
abbrev s_due : Stmt := topS 13
abbrev s_law : Stmt := topS 14
theorem sc_pairs : FnScope ["one", "other", "told", "place", "kind", "end", "kind_of_end"] ["one", "other"] (defScope s_pairs) := ⟨rfl, rfl, rfl, by decide +kernel, rfl, by decide +kernel, by decide +kernel⟩
theorem sc_mixed : FnScope ["cell", "k", "number"] ["cell", "k"] (defScope s_mixed) := ⟨rfl, rfl, rfl, by decide +kernel, rfl, by decide +kernel, by decide +kernel⟩
theorem sc_purse : FnScope ["script", "at", "step", "many", "cells", "rests", "purse", "k", "place", "cell"] ["script", "at", "step", "many"] (defScope s_purse) := ⟨rfl, rfl, rfl, by decide +kernel, rfl, by decide +kernel, by decide +kernel⟩
theorem sc_next : FnScope ["purse"] ["purse"] (defScope s_next) := ⟨rfl, rfl, rfl, by decide +kernel, rfl, by decide +kernel, by decide +kernel⟩
theorem sc_web : FnScope ["purse", "least", "most", "many", "letters", "first", "wide", "kinds", "tied", "sorts", "share", "ties", "place", "other", "drawn", "k"] ["purse", "least", "most"] (defScope s_web) := ⟨rfl, rfl, rfl, by decide +kernel, rfl, by decide +kernel, by decide +kernel⟩
theorem sc_order : FnScope ["purse", "many", "left", "k"] ["purse", "many"] (defScope s_order) := ⟨rfl, rfl, rfl, by decide +kernel, rfl, by decide +kernel, by decide +kernel⟩
theorem sc_turned : FnScope ["web", "order", "kinds", "ties", "place", "other", "kind"] ["web", "order"] (defScope s_turned) := ⟨rfl, rfl, rfl, by decide +kernel, rfl, by decide +kernel, by decide +kernel⟩
theorem sc_near : FnScope ["purse", "web", "kinds", "ties", "way", "at"] ["purse", "web"] (defScope s_near) := ⟨rfl, rfl, rfl, by decide +kernel, rfl, by decide +kernel, by decide +kernel⟩
theorem sc_two : FnScope ["purse", "most", "one", "other", "kind"] ["purse", "most"] (defScope s_two) := ⟨rfl, rfl, rfl, by decide +kernel, rfl, by decide +kernel, by decide +kernel⟩
theorem sc_great : FnScope ["purse", "letters", "many", "wide", "sorts", "kinds", "found", "k", "place", "to", "one"] ["purse"] (defScope s_great) := ⟨rfl, rfl, rfl, by decide +kernel, rfl, by decide +kernel, by decide +kernel⟩
theorem sc_great_two : FnScope ["purse", "one", "way"] ["purse"] (defScope s_great_two) := ⟨rfl, rfl, rfl, by decide +kernel, rfl, by decide +kernel, by decide +kernel⟩
theorem sc_due : FnScope ["one", "other", "found", "place", "to"] ["one", "other"] (defScope s_due) := ⟨rfl, rfl, rfl, by decide +kernel, rfl, by decide +kernel, by decide +kernel⟩
theorem sc_law : FnScope ["script", "held", "k", "purse", "one", "other", "due", "found", "again"] ["script"] (defScope s_law) := ⟨rfl, rfl, rfl, by decide +kernel, rfl, by decide +kernel, by decide +kernel⟩
/-- what the top leaves -/
structure Tx (K : PySem.W.Frag) (mg : Str → Option Value) where
  pairs : Df K mg "pairs" s_pairs ["one", "other"]
  mixed : Df K mg "_law_mixed" s_mixed ["cell", "k"]
  purse : Df K mg "_law_purse" s_purse ["script", "at", "step", "many"]
  next : Df K mg "_law_next" s_next ["purse"]
  web : Df K mg "_law_web" s_web ["purse", "least", "most"]
  order : Df K mg "_law_order" s_order ["purse", "many"]
  turned : Df K mg "_law_turned" s_turned ["web", "order"]
  near : Df K mg "_law_near" s_near ["purse", "web"]
  two : Df K mg "_law_two" s_two ["purse", "most"]
  great : Df K mg "_law_great" s_great ["purse"]
  great_two : Df K mg "_law_great_two" s_great_two ["purse"]
  due : Df K mg "_law_due" s_due ["one", "other"]
  law : Df K mg "law" s_law ["script"]
  m_abs : mg "abs" = none
  m_enumerate : mg "enumerate" = none
  m_int : mg "int" = none
  m_isinstance : mg "isinstance" = none
  m_len : mg "len" = none
  m_list : mg "list" = none
  m_max : mg "max" = none
  m_min : mg "min" = none
  m_range : mg "range" = none
  m_repr : mg "repr" = none
  m_reversed : mg "reversed" = none
  m_sorted : mg "sorted" = none
  m_tuple : mg "tuple" = none
section
variable {P : Program} {w : World} {K : PySem.W.Frag} {mg : Str → Option Value} {base : Heap}
/-- the law's purse: whole numbers -/
def Purse (H : Hp) (h : Addr) : Prop := ∃ ns : List Int, H h = some (.lst (ns.map V.int)) ∧ ns.length ≤ 2000
theorem Purse.same {H H' : Hp} {h : Addr} (x : Purse H h) (s : Same H H') : Purse H' h := by
  obtain ⟨ns, e, r⟩ := x
  exact ⟨ns, s _ _ e, r⟩
theorem Purse.ne {H : Hp} {h p : Addr} (x : Purse H h) (n : H p = none) : p ≠ h := by
  obtain ⟨ns, e, r⟩ := x
  exact (ne_of_none e n).symm
theorem Purse.put {H : Hp} {h p : Addr} {o : HO} (x : Purse H h) (n : p ≠ h) : Purse (upd H p o) h := by
  obtain ⟨ns, e, r⟩ := x
  exact ⟨ns, by rw [upd_ne n.symm]; exact e, r⟩
theorem d_slStep {te : TE} {tl tu ts : TO} {σ : L2.St} {H : Hp} {Q : VK} (h : te σ H fun x H1 => tl σ H1 fun _ H2 => tu σ H2 fun _ H3 => ts σ H3 fun st H4 => ∃ a xs, x = .ref a ∧ SqL K H4 a xs ∧ st ≠ some 0 ∧
  ∀ p ys, (∀ y ∈ ys, y ∈ xs) → ys.length ≤ xs.length → H4 p = none → Q (.ref p) (upd H4 p (.lst ys))) : tSlStep K te tl tu ts σ H Q := h
theorem d_lstRev {te : TE} {σ : L2.St} {H : Hp} {Q : VK} (h : te σ H fun v H1 => ∃ (a : Addr) (xs : List V), v = .ref a ∧ SqL K H1 a xs ∧ ∀ q, H1 q = none → Q (.ref q) (upd H1 q (.lst xs.reverse))) : tLstRev K te σ H Q := h
theorem ints_sub {ns : List Int} : ∀ ys : List V, (∀ y ∈ ys, y ∈ ns.map V.int) → ∃ ms : List Int, ys = ms.map V.int
  | [], _ => ⟨[], rfl⟩
  | y :: ys, h => by
    obtain ⟨c, _, e⟩ := List.mem_map.mp (h y List.mem_cons_self)
    obtain ⟨ms, e2⟩ := ints_sub ys fun z hz => h z (List.mem_cons_of_mem _ hz)
    exact ⟨c :: ms, by rw [e2, ← e]; rfl⟩
theorem ints_at {ns : List Int} {i : Nat} (h : i < ns.length) : ∃ c : Int, (ns.map V.int)[i]? = some (.int c) := ⟨ns[i], by rw [List.getElem?_map, List.getElem?_eq_getElem h]; rfl⟩
def spMixed : Sp := fun vs H Q _ => ∃ c k : Int, vs = [.int c, .int k] ∧ 0 ≤ k ∧ k ≤ 100000 ∧ ∀ g : Int, Q (.int g) H
theorem ok_mixed (T : Tx K mg) : FnOk P w K mg base CX0 1 T.mixed.f T.mixed.fd ["cell", "k"] spMixed := by
  refine T.mixed.F.ok sc_mixed (fun vs H Q E h => ?_) (fun cdv A outer s H vs Q E hr h => ?_)
  · obtain ⟨c, k, rfl, _⟩ := h; rfl
  · obtain ⟨c, k, rfl, k0, k1, q⟩ := h
    refine ⟨_, (pss_cons (ps_set (i := 2) sc_mixed.nd rfl (.inl rfl) (pe_op op_mod (pe_op op_add (pe_op op_mod (pv 0) pe_int) (pe_op op_mul pe_int (pe_op op_add (pv 1) pe_int))) pe_int))
      (pss_cons (ps_set (i := 2) sc_mixed.nd rfl (.inl rfl) (pe_op op_mod (pe_op op_add (pe_op op_add (pe_op op_mul (pv 2) (pv 2)) (pe_op op_mul pe_int (pv 2))) (pv 1)) pe_int))
      (pss_cons (ps_set (i := 2) sc_mixed.nd rfl (.inl rfl) (pe_op op_mod (pe_op op_mul (pv 2) (pv 2)) pe_int))
      (pss_one (ps_ret (pe_op op_fdiv (pe_op op_mod (pe_op op_mul (pv 2) pe_int) pe_int) pe_int)))))), ?_⟩
    walk_at "rd"
    exact q _
def spPurse (K : PySem.W.Frag) : Sp := fun vs H Q _ => ∃ (a : Addr) (ns : List Int) (at_ st n : Int), vs = [.ref a, .int at_, .int st, .int n] ∧ SqL K H a (ns.map V.int) ∧ ns.length ≤ 63 ∧ 0 < st ∧ 0 ≤ n ∧ n ≤ 2000 ∧
  ∀ H' p, Same H H' → H p = none → Purse H' p → Q (.ref p) H'
theorem ok_purse (T : Tx K mg) : FnOk P w K mg base CX0 2 T.purse.f T.purse.fd ["script", "at", "step", "many"] (spPurse K) := by
  refine T.purse.F.ok sc_purse (fun vs H Q E h => ?_) (fun cdv A outer s H vs Q E hr h => ?_)
  · obtain ⟨_, _, _, _, _, rfl, _⟩ := h; rfl
  · obtain ⟨a, ns, at_, st, n, rfl, hS, hl, st0, n0, n1, q⟩ := h
    refine ⟨_, (pss_cons (ps_set (i := 4) sc_purse.nd rfl (.inl rfl) (pe_slStep (pv 0) (po_some (pv 1)) (po_some pe_int) (po_some (pv 2))))
      (Evl.pss_cut (ps_if (pt_cmpR (op_eqD (hr.units)) (pv 4) (pe_lst pa_nil) (nomark _))
        (pss_one (ps_set (i := 4) sc_purse.nd rfl (.inl rfl) (pe_lst (pa_cons (pv 1) pa_nil))))
        pss_nil)
      (pss_cons (ps_setLc (i := 5) (own := [("cell", 9)]) (g := gName 9) (tt := tYes) rfl sc_purse.nd rfl rfl (sw_true rfl rfl rfl (by decide +kernel)) (pi_list (pv 4)) (blkOk_by (N := ["script", "at", "step", "many", "cells", "rests", "purse", "k", "place", "cell"]) (sc := defScope s_purse) (by decide +kernel)) (fun _ _ _ _ _ => (pg_name (i := 9) sc_purse.nd rfl (.inl rfl))) (fun _ _ _ _ _ => pts_nil) (fun _ _ _ _ _ => (pe_op op_mul (pe_callB call_abs (by rfl) T.m_abs (by decide +kernel) (pa_cons (pv 9) pa_nil)) (pe_callTy call_int1 (by rfl) T.m_int (by decide +kernel) (pa_cons (pe_cmpR op_ge (pe_callB call_abs (by rfl) T.m_abs (by decide +kernel) (pa_cons (pv 9) pa_nil)) (pe_op op_pow pe_int pe_int) (nomark _)) pa_nil)))))
      (pss_cons (ps_set (i := 6) sc_purse.nd rfl (.inl rfl) (pe_lst pa_nil))
      (pss_cons (ps_for PassesOwn.never rfl (pi_range1 (by rfl) T.m_range (pa_cons (pv 3) pa_nil)) (pg_name (i := 7) sc_purse.nd rfl (.inl rfl))
        (pss_cons (ps_set (i := 8) sc_purse.nd rfl (.inl rfl) (pe_op op_mod (pv 7) (pe_callB call_len_seq (by rfl) T.m_len (by decide +kernel) (pa_cons (pv 4) pa_nil))))
        (pss_one (ps_if (pt_cmpR op_gt (pe_ix ix_list (pv 5) (pv 8) (fun _ _ => rfl)) pe_int (nomark _))
          (pss_cons (ps_expr (pe_bm PySem.F.plainAttrs_list PySem.F.slot_list_append PySem.F.type_list_append mt_append (pv 6) (pa_cons (pe_op op_mod (pe_ix ix_list (pv 5) (pv 8) (fun _ _ => rfl)) pe_int) pa_nil)))
          (pss_one (ps_asg (pe_op op_fdiv (pe_ix ix_list (pv 5) (pv 8) (fun _ _ => rfl)) pe_int) (pg_sub (pv 5) (pv 8) set_list))))
          (pss_one (ps_expr (pe_bm PySem.F.plainAttrs_list PySem.F.slot_list_append PySem.F.type_list_append mt_append (pv 6) (pa_cons (pe_call (ok_mixed T) (hr.mono (by decide)) (by rfl) T.mixed.g T.mixed.F.kp T.mixed.b .nil pass0 (pa_cons (pe_ix ix_list (pv 4) (pv 8) (fun _ _ => rfl)) (pa_cons (pe_op op_fdiv (pv 7) (pe_callB call_len_seq (by rfl) T.m_len (by decide +kernel) (pa_cons (pv 4) pa_nil))) pa_nil))) pa_nil))))))))
      (pss_one (ps_ret (pe_lstRev rfl (by rfl) T.m_list (by rfl) T.m_reversed (pv 6))))))))), ?_⟩
    walk_at "rd"
    refine d_slStep ?_
    walk_at "rd"
    refine ⟨a, _, rfl, hS, by intro z; have := Option.some.inj z; omega, fun p ys my ly fp => ?_⟩
    obtain ⟨cs, rfl⟩ := ints_sub ys my
    rw [List.length_map, List.length_map] at ly
    have s1 := same_new (o := .lst (cs.map V.int)) fp
    walk_at "rd"
    refine d_cut (fun σ H2 => ∃ (p : Addr) (cs : List Int) (y5 y6 y7 y8 y9 : Option V), σ = [some (.ref a), some (.int at_), some (.int st), some (.int n), some (.ref p), y5, y6, y7, y8, y9] ∧ Same H H2 ∧ H2 p = some (.lst (cs.map V.int)) ∧ 0 < cs.length ∧ cs.length ≤ 64) ?_ (fun σ H2 hP => ?_)
    · walk_at "rd"
      refine ⟨sz (by decide), fun p2 f2 => ?_⟩
      have s2 := same_new (o := .lst []) f2
      refine ⟨_, _, .lst (SqL.of (s2 _ _ upd_same)) (dpa_ints cs), .lst (SqL.of upd_same) .nil, shaped_ints cs, by decide, ?_⟩
      have eb : PyData.eqv (.list (cs.map PyData.int)) (.list []) = decide (cs.length = 0) := by
        cases cs with
        | nil => rfl
        | cons c r => simp [PyData.eqv, PyData.eqvAll]
      rw [eb]
      walk_at "rd"
      refine ite2 (fun c => ?_) (fun c => ?_)
      · walk_at "rd"
        refine ⟨sz (by show 1 ≤ 100000; decide), fun p3 f3 => ?_⟩
        walk_at "rd"
        exact ⟨p3, [at_], _, _, _, _, _, rfl, Same.trans s1 (Same.trans s2 (same_new f3)), upd_same, (by show 0 < 1; omega), (by show 1 ≤ 64; omega)⟩
      · walk_at "rd"
        have c' : cs.length ≠ 0 := fun z => c (decide_eq_true z)
        exact ⟨p, cs, _, _, _, _, _, rfl, Same.trans s1 s2, s2 _ _ upd_same, by omega, by omega⟩
    · obtain ⟨p, cs, y5, y6, y7, y8, y9, rfl, s2, ep, c0, c1⟩ := hP
      walk_at "rd"
      refine d_iLe (SqL.of ep) ?_
      intro D fD
      refine lc_list (K := K) (a := p) (xs := cs.map V.int) (fun i H3 => ∃ rs : List Int, rs.length = i ∧ H3 D = some (.lst (rs.map V.int)) ∧ Same H2 H3) ⟨[], rfl, upd_same, same_new fD⟩ (fun i H3 _ hP => by obtain ⟨_, _, _, s3⟩ := hP; exact SqL.of (s3 _ _ ep)) (fun i x H3 hx hP => ?_) (fun H3 hP => ?_)
      · obtain ⟨rs, lr, eD, s3⟩ := hP
        rw [List.getElem?_map] at hx
        obtain ⟨z, hz, rfl⟩ := Option.map_eq_some_iff.mp hx
        have hi := (List.getElem?_eq_some_iff.mp hz).1
        walk_at "rd"
        refine ⟨_, rfl, ?_⟩
        walk_at "rd"
        refine ⟨_, rfl, ?_⟩
        generalize (if z < 0 then -z else z) = m
        walk_at "rd"
        refine .inr ⟨_, rfl, ?_⟩
        refine ⟨_, _, rfl, rfl, .inr ?_, ?_⟩
        · split <;> decide
        refine ⟨_, eD, szl (by rw [List.length_map]; omega), ?_⟩
        exact ⟨rs ++ [_], by rw [List.length_append, lr]; rfl, by rw [upd_same, List.map_append]; rfl, same_upd s3 fD⟩
      obtain ⟨rs, lr, eD, s3⟩ := hP
      rw [List.length_map] at lr
      walk_at "rd"
      refine ⟨sz (by decide), fun pp fpp => ?_⟩
      walk_at "rd"
      have s4 := same_new (o := .lst []) fpp
      have s34 := Same.trans s3 s4
      have eD4 := s4 _ _ eD
      have epp := upd_same (H := H3) (a := pp) (o := .lst [])
      have npp : H2 pp = none := Same.free s3 fpp
      generalize upd H3 pp (.lst []) = H4 at s34 eD4 epp ⊢
      have nDp : D ≠ pp := ne_of_none eD fpp
      refine for_range (fun i σ H5 => ∃ (y7 y8 y9 : Option V) (rs ps : List Int), σ = [some (.ref a), some (.int at_), some (.int st), some (.int n), some (.ref p), some (.ref D), some (.ref pp), y7, y8, y9] ∧ Same H2 H5 ∧ rs.length = cs.length ∧ H5 D = some (.lst (rs.map V.int)) ∧ ps.length = i ∧ H5 pp = some (.lst (ps.map V.int)))
        ⟨_, _, _, rs, [], rfl, s34, lr, eD4, rfl, epp⟩ (fun i σ H5 hi hP => ?_) (fun σ H5 hP => ?_)
      · obtain ⟨z7, z8, z9, rs, ps, rfl, s5, lr, eD5, lp, epp5⟩ := hP
        have ep5 := s5 _ _ ep
        walk_at "rd"
        refine d_lenL (SqL.of ep5) ?_
        rw [List.length_map]
        refine ⟨_, _, rfl, rfl, by omega, ?_⟩
        have m0 := Int.emod_nonneg (0 + (i : Int)) (show (cs.length : Int) ≠ 0 by omega)
        have m1 := Int.emod_lt_of_pos (0 + (i : Int)) (show 0 < (cs.length : Int) by omega)
        dsimp only
        generalize (0 + (i : Int)) % (cs.length : Int) = m at m0 m1 ⊢
        obtain ⟨j, rfl⟩ := Int.eq_ofNat_of_zero_le m0
        have hj : j < rs.length := by omega
        obtain ⟨c, ec⟩ := ints_at hj
        walk_at "rd"
        refine d_ixLm eD5 (atI_nat ec) ?_
        walk_at "rd"
        refine ite2 (fun b => ?_) (fun b => ?_)
        · walk_at "rd"
          refine d_app epp5 ?_
          walk_at "rd"
          refine d_ixLm eD5 (atI_nat ec) ?_
          walk_at "rd"
          refine d_append epp5 (szl (by rw [List.length_map]; omega)) ?_
          walk_at "rd"
          have eD6 : (upd H5 pp (.lst (ps.map V.int ++ [V.int (c % 1000003)]))) D = some (.lst (rs.map V.int)) := by rw [upd_ne nDp]; exact eD5
          refine d_ixLm eD6 (atI_nat ec) ?_
          walk_at "rd"
          refine d_setL eD6 (j := j) (by unfold ixN; rw [List.length_map, if_pos (by omega), if_pos (by omega)]; simp) ?_
          refine ⟨_, _, _, rs.set j (c / 1000003), ps ++ [c % 1000003], rfl, ?_, by rw [List.length_set]; exact lr, ?_, by rw [List.length_append, lp]; rfl, ?_⟩
          · exact same_upd (same_upd s5 npp) fD
          · rw [upd_same, List.map_set]
          · rw [upd_ne nDp.symm, upd_same, List.map_append]; rfl
        · walk_at "rd"
          refine d_app epp5 ?_
          walk_at "rd"
          obtain ⟨c2, ec2⟩ := ints_at (show j < cs.length by omega)
          refine d_ixLm ep5 (atI_nat ec2) ?_
          walk_at "rd"
          refine d_lenL (SqL.of ep5) ?_
          rw [List.length_map]
          refine ⟨_, _, rfl, rfl, ⟨by omega, by omega⟩, ?_⟩
          walk_at "rd"
          refine ⟨_, _, rfl, Int.ediv_nonneg (by omega) (by omega), ?_, fun g => ?_⟩
          · exact Int.le_trans (Int.ediv_le_self _ (by omega)) (by omega)
          walk_at "rd"
          refine d_append epp5 (szl (by rw [List.length_map]; omega)) ?_
          refine ⟨_, _, _, rs, ps ++ [g], rfl, same_upd s5 npp, lr, by rw [upd_ne nDp]; exact eD5, by rw [List.length_append, lp]; rfl, ?_⟩
          rw [upd_same, List.map_append]; rfl
      · obtain ⟨z7, z8, z9, rs, ps, rfl, s5, lr, eD5, lp, epp5⟩ := hP
        walk_at "rd"
        refine d_lstRev ?_
        walk_at "rd"
        refine ⟨pp, _, rfl, SqL.of epp5, fun q1 fq => ?_⟩
        refine q _ _ (Same.trans s2 (Same.trans s5 (same_new fq))) (Same.free (Same.trans s2 s5) fq) ⟨ps.reverse, ?_, ?_⟩
        · rw [upd_same, List.map_reverse]
        · rw [List.length_reverse]; omega
def spNext : Sp := fun vs H Q _ => ∃ h : Addr, vs = [.ref h] ∧ Purse H h ∧ ∀ H' (g : Int), Keep h H H' → Purse H' h → Q (.int g) H'
theorem ok_next (T : Tx K mg) : FnOk P w K mg base CX0 1 T.next.f T.next.fd ["purse"] spNext := by
  refine T.next.F.ok sc_next (fun vs H Q E h => ?_) (fun cdv A outer s H vs Q E hr h => ?_)
  · obtain ⟨_, rfl, _⟩ := h; rfl
  · obtain ⟨h, rfl, ⟨ns, e, l⟩, q⟩ := h
    refine ⟨_, (pss_cons (ps_if (pt_cmpR (op_eqD (hr.units)) (pv 0) (pe_lst pa_nil) (nomark _))
        (pss_one (ps_ret pe_int))
        pss_nil)
      (pss_one (ps_ret (pe_bm0 PySem.F.plainAttrs_list PySem.F.slot_list_pop PySem.F.type_list_pop mt_pop (pv 0))))), ?_⟩
    walk_at "rd"
    refine ⟨sz (by decide), fun p1 f1 => ?_⟩
    have s1 := same_new (o := .lst []) f1
    have e1 := s1 _ _ e
    refine ⟨_, _, .lst (SqL.of e1) (dpa_ints ns), .lst (SqL.of upd_same) .nil, shaped_ints ns, by decide, ?_⟩
    have eb : PyData.eqv (.list (ns.map PyData.int)) (.list []) = decide (ns.length = 0) := by
      cases ns with
      | nil => rfl
      | cons c r => simp [PyData.eqv, PyData.eqvAll]
    rw [eb]
    walk_at "rd"
    refine ite2 (fun c => ?_) (fun c => ?_)
    · walk_at "rd"
      exact q _ _ (Same.keep s1) ⟨ns, e1, l⟩
    · walk_at "rd"
      have c' : ns.length ≠ 0 := fun z => c (decide_eq_true z)
      refine ⟨.inl ⟨rfl, _, SqL.of e1⟩, ?_⟩
      obtain ⟨g, eg⟩ := ints_at (show ns.length - 1 < ns.length by omega)
      refine ⟨h, _, _, rfl, rfl, e1, by rw [List.length_map]; exact eg, ?_⟩
      refine q _ g (Keep.self (Same.keep s1)) ⟨ns.dropLast, ?_, ?_⟩
      · rw [upd_same, List.map_dropLast]
      · rw [List.length_dropLast]; omega
def Lts (z : Str) : Prop := (z.cps.toList.all fun c => decide (97 ≤ c) && decide (c ≤ 122)) = true ∧ 0 < z.length ∧ z.length ≤ 26
abbrev abc : Str := Str.ofString "abcdefghijklmnopqrstuvwxyz"
theorem abc_lts : Lts abc := by unfold Lts; decide +kernel
theorem Lts.at' {z : Str} (l : Lts z) {g : Int} (h0 : 0 ≤ g) (h1 : g < z.length) : ∃ c, atI z.cps.toList g = some c ∧ Ltr c := by
  obtain ⟨n, rfl⟩ := Int.eq_ofNat_of_zero_le h0
  have hn : n < z.cps.toList.length := by
    have e : z.cps.toList.length = z.length := rfl
    omega
  refine ⟨z.cps.toList[n], atI_nat (List.getElem?_eq_getElem hn), ?_⟩
  have a := List.all_eq_true.mp l.1 _ (List.getElem_mem hn)
  simp only [Bool.and_eq_true, decide_eq_true_eq] at a
  exact a
theorem abc_len : abc.length = 26 := by decide +kernel
theorem abc_at {g : Int} (h0 : 0 ≤ g) (h1 : g < 26) : ∃ c, atI abc.cps.toList g = some c ∧ Ltr c := abc_lts.at' h0 (by rw [abc_len]; exact h1)
/-- one of some whole numbers, all from 0 on and below a bound -/
theorem one_of {ns : List Int} {B : Int} (hb : ∀ x ∈ ns, 0 ≤ x ∧ x ≤ B) {n : Int} (hn : n = ns.length) {g : Int} (g0 : 0 ≤ g) (g1 : g < n) : ∃ x : Int, atI (ns.map V.int) g = some (.int x) ∧ x ∈ ns ∧ 0 ≤ x ∧ x ≤ B := by
  obtain ⟨j, rfl⟩ := Int.eq_ofNat_of_zero_le g0
  have hj : j < ns.length := by omega
  exact ⟨ns[j], atI_nat (by rw [List.getElem?_map, List.getElem?_eq_getElem hj]; rfl), List.getElem_mem hj, hb _ (List.getElem_mem hj)⟩
theorem mod_lo (x : Int) {n : Int} (h : 0 < n) : 0 ≤ x % n := Int.emod_nonneg _ (by omega)
theorem mod_hi (x : Int) {n : Int} (h : 0 < n) : x % n < n := Int.emod_lt_of_pos _ h
def spWeb (K : PySem.W.Frag) : Sp := fun vs H Q _ => ∃ (h : Addr) (lo hi : Int), vs = [.ref h, .int lo, .int hi] ∧ 0 ≤ lo ∧ lo ≤ hi ∧ hi ≤ 40 ∧ Purse H h ∧ ∀ H' v w, Keep h H H' → Purse H' h → WebAt K H' v w → WOk w → Q v H'
theorem ok_web (T : Tx K mg) : FnOk P w K mg base CX0 2 T.web.f T.web.fd ["purse", "least", "most"] (spWeb K) := by
  refine T.web.F.ok sc_web (fun vs H Q E h => ?_) (fun cdv A outer s H vs Q E hr h => ?_)
  · obtain ⟨a, b, c, rfl, _⟩ := h; rfl
  · obtain ⟨h, lo, hi, rfl, l0, l1, l2, hh, q⟩ := h
    refine ⟨_, (pss_cons (ps_set (i := 3) sc_web.nd rfl (.inl rfl) (pe_op op_add (pv 1) (pe_op op_mod (pe_call (ok_next T) (hr.mono (by decide)) (by rfl) T.next.g T.next.F.kp T.next.b .nil pass0 (pa_cons (pv 0) pa_nil)) (pe_op op_add (pe_op op_sub (pv 2) (pv 1)) pe_int))))
      (pss_cons (ps_set (i := 4) sc_web.nd rfl (.inr rfl) pe_str)
      (pss_cons (ps_set (i := 5) sc_web.nd rfl (.inr rfl) (pe_op op_mod (pe_call (ok_next T) (hr.mono (by decide)) (by rfl) T.next.g T.next.F.kp T.next.b .nil pass0 (pa_cons (pv 0) pa_nil)) pe_int))
      (pss_cons (ps_set (i := 6) sc_web.nd rfl (.inr rfl) (pe_ix ix_list (pe_lst (pa_cons pe_int (pa_cons pe_int (pa_cons pe_int (pa_cons pe_int (pa_cons pe_int (pa_cons pe_int pa_nil))))))) (pe_op op_mod (pe_call (ok_next T) (hr.mono (by decide)) (by rfl) T.next.g T.next.F.kp T.next.b .nil pass0 (pa_cons (pv 0) pa_nil)) pe_int) (fun _ _ => rfl)))
      (pss_cons (ps_set (i := 7) sc_web.nd rfl (.inl rfl) (pe_join pe_str (pe_lc (own := [("k", 15)]) (g := gName 15) (tt := tYes) rfl sc_web.nd (pi_range1 (by rfl) T.m_range (pa_cons (pv 3) pa_nil)) (blkOk_by (N := ["purse", "least", "most", "many", "letters", "first", "wide", "kinds", "tied", "sorts", "share", "ties", "place", "other", "drawn", "k"]) (sc := defScope s_web) (by decide +kernel)) (fun _ _ _ _ _ => (pg_name (i := 15) sc_web.nd rfl (.inl rfl))) (fun _ _ _ _ _ => pts_nil) (fun _ _ _ _ _ => (pe_ix ix_str (pv 4) (pe_op op_mod (pe_op op_add (pv 5) (pe_op op_mod (pe_call (ok_next T) (hr.mono (by decide)) (by rfl) T.next.g T.next.F.kp T.next.b .nil pass0 (pa_cons (pv 0) pa_nil)) (pv 6))) pe_int) (fun _ _ => rfl))))))
      (pss_cons (ps_set (i := 8) sc_web.nd rfl (.inl rfl) (pe_op op_mod (pe_call (ok_next T) (hr.mono (by decide)) (by rfl) T.next.g T.next.F.kp T.next.b .nil pass0 (pa_cons (pv 0) pa_nil)) pe_int))
      (pss_cons (ps_set (i := 9) sc_web.nd rfl (.inl rfl) (pe_ix ix_list (pe_lst (pa_cons pe_int (pa_cons pe_int (pa_cons pe_int (pa_cons pe_int (pa_cons pe_int (pa_cons pe_int pa_nil))))))) (pe_op op_mod (pe_call (ok_next T) (hr.mono (by decide)) (by rfl) T.next.g T.next.F.kp T.next.b .nil pass0 (pa_cons (pv 0) pa_nil)) pe_int) (fun _ _ => rfl)))
      (pss_cons (ps_set (i := 10) sc_web.nd rfl (.inl rfl) (pe_ix ix_list (pe_lst (pa_cons pe_int (pa_cons pe_int (pa_cons pe_int (pa_cons pe_int (pa_cons pe_int (pa_cons pe_int pa_nil))))))) (pe_op op_mod (pe_call (ok_next T) (hr.mono (by decide)) (by rfl) T.next.g T.next.F.kp T.next.b .nil pass0 (pa_cons (pv 0) pa_nil)) pe_int) (fun _ _ => rfl)))
      (pss_cons (ps_set (i := 11) sc_web.nd rfl (.inl rfl) (pe_lst pa_nil))
      (pss_cons (ps_for PassesOwn.never rfl (pi_range1 (by rfl) T.m_range (pa_cons (pv 3) pa_nil)) (pg_name (i := 12) sc_web.nd rfl (.inl rfl))
        (pss_one (ps_for PassesOwn.never rfl (pi_range2 (by rfl) T.m_range (pa_cons (pe_op op_add (pv 12) pe_int) (pa_cons (pv 3) pa_nil))) (pg_name (i := 13) sc_web.nd rfl (.inl rfl))
          (pss_cons (ps_set (i := 14) sc_web.nd rfl (.inl rfl) (pe_call (ok_next T) (hr.mono (by decide)) (by rfl) T.next.g T.next.F.kp T.next.b .nil pass0 (pa_cons (pv 0) pa_nil)))
          (pss_one (ps_if (pt_cmpR op_lt (pe_op op_mod (pv 14) pe_int) (pv 10) (nomark _))
            (pss_one (ps_expr (pe_bm PySem.F.plainAttrs_list PySem.F.slot_list_append PySem.F.type_list_append mt_append (pv 11) (pa_cons (pe_tup (pa_cons (pv 12) (pa_cons (pv 13) (pa_cons (pe_ix ix_str (pv 4) (pe_op op_mod (pe_op op_add (pv 8) (pe_op op_mod (pe_op op_fdiv (pv 14) pe_int) (pv 9))) pe_int) (fun _ _ => rfl)) pa_nil)))) pa_nil))))
            pss_nil))))))
      (pss_one (ps_ret (pe_tup (pa_cons (pv 7) (pa_cons (pe_callTy call_tuple_of (by rfl) T.m_tuple (by decide +kernel) (pa_cons (pv 11) pa_nil)) pa_nil))))))))))))))), ?_⟩
    walk_at "rd"
    refine ⟨h, rfl, hh, fun H1 g1 k1 hh1 => ?_⟩
    walk_at "rd"
    have a1 := mod_lo g1 (show 0 < hi - lo + 1 by omega)
    have b1 := mod_hi g1 (show 0 < hi - lo + 1 by omega)
    refine ⟨_, _, rfl, rfl, by omega, ?_⟩
    walk_at "rd"
    dsimp only
    generalize hn : lo + g1 % (hi - lo + 1) = n
    have n0 : 0 ≤ n := by omega
    have n40 : n ≤ 40 := by omega
    refine ⟨h, rfl, hh1, fun H2 g2 k2 hh2 => ?_⟩
    walk_at "rd"
    have a2 := mod_lo g2 (show 0 < (23 : Int) by decide)
    dsimp only
    generalize g2 % 23 = fst_ at a2
    refine ⟨sz (by decide), fun p3 f3 => ?_⟩
    walk_at "rd"
    refine ⟨h, rfl, hh2.put (hh2.ne f3), fun H3 g3 k3 hh3 => ?_⟩
    have e3 := k3 p3 _ (hh2.ne f3) upd_same
    walk_at "rd"
    obtain ⟨wd, ew, mw, w0, w1⟩ := one_of (ns := [1, 1, 2, 3, 5, 26]) (B := 26) (by decide) (n := 6) rfl (mod_lo g3 (by decide)) (mod_hi g3 (by decide))
    have w0 : 0 < wd := by
      simp only [List.mem_cons, List.not_mem_nil, or_false] at mw
      omega
    refine d_ixLm e3 ew ?_
    have kA : Keep h H H3 := Keep.trans k1 (Keep.trans k2 (Keep.trans (Same.keep (same_new f3)) k3))
    walk_at "rd"
    intro D fD
    have nD := hh3.ne fD
    refine lc_range (fun i H' => ∃ cs : List Nat, cs.length = i ∧ (∀ c ∈ cs, Ltr c) ∧ H' D = some (.lst (cs.map fun c => V.str (sg c))) ∧ Keep h H3 H' ∧ Purse H' h) ⟨[], rfl, by simp, upd_same, Same.keep (same_new fD), hh3.put nD⟩ (fun i H' hi8 hP => ?_) (fun H' hP => ?_)
    · obtain ⟨cs, hlen, hl, eD, kk, hh'⟩ := hP
      walk_at "rd"
      refine ⟨h, rfl, hh', fun H4 g k4 hh4 => ?_⟩
      walk_at "rd"
      have gm := mod_lo g w0
      obtain ⟨c, ec, lc⟩ := abc_at (mod_lo (fst_ + g % wd) (show 0 < (26 : Int) by decide)) (mod_hi (fst_ + g % wd) (by decide))
      refine ⟨abc, _, c, rfl, rfl, sz (by decide +kernel), ec, ?_⟩
      refine ⟨_, k4 D _ nD eD, szl (by rw [List.length_map]; omega), cs ++ [c], by rw [List.length_append, hlen]; rfl, ?_, by rw [upd_same, List.map_append]; rfl, Keep.new (Keep.trans kk k4) fD, hh4.put nD⟩
      intro x hx
      rcases List.mem_append.mp hx with hx | hx
      · exact hl x hx
      · rw [List.mem_singleton.mp hx]; exact lc
    obtain ⟨cs, hlen, hl, eD, kk, hh'⟩ := hP
    refine ⟨_, D, cs.map sg, rfl, rfl, .inl (SqL.of (by rw [List.map_map]; exact eD)), ?_, ?_⟩
    · rw [sum_const _ 1 _ (by intro x hx; obtain ⟨c, _, rfl⟩ := List.mem_map.mp hx; rfl), List.length_map]
      have e0 : (Str.ofString "").length = 0 := by decide +kernel
      rw [e0]; omega
    rw [join_signs]
    walk_at "rd"
    refine ⟨h, rfl, hh', fun H4 g4 k4 hh4 => ?_⟩
    walk_at "rd"
    have a4 := mod_lo g4 (show 0 < (23 : Int) by decide)
    dsimp only
    generalize g4 % 23 = td at a4
    refine ⟨sz (by decide), fun p5 f5 => ?_⟩
    walk_at "rd"
    refine ⟨h, rfl, hh4.put (hh4.ne f5), fun H5 g5 k5 hh5 => ?_⟩
    have e5 := k5 p5 _ (hh4.ne f5) upd_same
    walk_at "rd"
    obtain ⟨so, es, ms, s0, s1⟩ := one_of (ns := [1, 1, 2, 3, 5, 26]) (B := 26) (by decide) (n := 6) rfl (mod_lo g5 (by decide)) (mod_hi g5 (by decide))
    have s0 : 0 < so := by
      simp only [List.mem_cons, List.not_mem_nil, or_false] at ms
      omega
    refine d_ixLm e5 es ?_
    walk_at "rd"
    refine ⟨sz (by decide), fun p6 f6 => ?_⟩
    walk_at "rd"
    refine ⟨h, rfl, hh5.put (hh5.ne f6), fun H6 g6 k6 hh6 => ?_⟩
    have e6 := k6 p6 _ (hh5.ne f6) upd_same
    walk_at "rd"
    obtain ⟨sh, esh, _, _, _⟩ := one_of (ns := [0, 1, 2, 2, 3, 5]) (B := 26) (by decide) (n := 6) rfl (mod_lo g6 (by decide)) (mod_hi g6 (by decide))
    refine d_ixLm e6 esh ?_
    walk_at "rd"
    have kB : Keep h H H6 := Keep.trans kA (Keep.trans kk (Keep.trans k4 (Keep.trans (Same.keep (same_new f5)) (Keep.trans k5 (Keep.trans (Same.keep (same_new f6)) k6)))))
    refine ⟨sz (by decide), fun l fl => ?_⟩
    walk_at "rd"
    have nl := hh6.ne fl
    refine for_range (fun i σ H7 => ∃ y12 y13 y14 y15 ts tvs, σ = [some (.ref h), some (.int lo), some (.int hi), some (.int n), some (.str abc), some (.int fst_), some (.int wd), some (.str ⟨cs.toArray⟩), some (.int td), some (.int so), some (.int sh), some (.ref l), y12, y13, y14, y15] ∧ H7 l = some (.lst tvs) ∧ Paired (TieAt K H7) tvs ts ∧ ts.Pairwise tlt ∧
      (∀ t ∈ ts, t.1 < i ∧ t.1 < t.2.1 ∧ t.2.1 < n.toNat ∧ Ltr t.2.2) ∧ ts.length ≤ 40 * i ∧ Keep h H6 H7 ∧ Purse H7 h) ⟨_, _, _, _, [], [], rfl, upd_same, .nil, .nil, by simp, by simp, Same.keep (same_new fl), hh6.put nl⟩ (fun i σ H7 hi7 hP => ?_) (fun σ H7 hP => ?_)
    · obtain ⟨y12, y13, y14, y15, ts, tvs, rfl, eL, pT, sT, bT, lT, k7, hh7⟩ := hP
      walk_at "rd"
      refine for_range (fun j σ H8 => ∃ y13 y14 y15 ts tvs, σ = [some (.ref h), some (.int lo), some (.int hi), some (.int n), some (.str abc), some (.int fst_), some (.int wd), some (.str ⟨cs.toArray⟩), some (.int td), some (.int so), some (.int sh), some (.ref l), some (.int (0 + (i : Nat))), y13, y14, y15] ∧ H8 l = some (.lst tvs) ∧ Paired (TieAt K H8) tvs ts ∧ ts.Pairwise tlt ∧
        (∀ t ∈ ts, (t.1 < i ∨ (t.1 = i ∧ t.2.1 < i + 1 + j)) ∧ t.1 < t.2.1 ∧ t.2.1 < n.toNat ∧ Ltr t.2.2) ∧ ts.length ≤ 40 * i + j ∧ Keep h H6 H8 ∧ Purse H8 h) ⟨_, _, _, ts, tvs, rfl, eL, pT, sT, fun t ht => ⟨.inl (bT t ht).1, (bT t ht).2⟩, lT, k7, hh7⟩ (fun j σ H8 hj hP => ?_) (fun σ H8 hP => ?_)
      · obtain ⟨z13, z14, z15, us, uvs, rfl, eL8, pU, sU, bU, lU, k8, hh8⟩ := hP
        walk_at "rd"
        refine ⟨h, rfl, hh8, fun H9 g9 k9 hh9 => ?_⟩
        have eL9 := k9 l _ nl eL8
        obtain ⟨n8, e8, _⟩ := id hh8
        have pU9 : Paired (TieAt K H9) uvs us := Paired.imp pU fun _ _ z => z.keep k9 e8
        walk_at "rd"
        refine ite2 (fun e => ?_) (fun e => ?_)
        · walk_at "rd"
          refine d_app eL9 ?_
          walk_at "rd"
          obtain ⟨c, ec, lc⟩ := abc_at (mod_lo (td + g9 / 5 % so) (show 0 < (26 : Int) by decide)) (mod_hi (td + g9 / 5 % so) (by decide))
          refine ⟨abc, _, c, rfl, rfl, sz (by decide +kernel), ec, ?_⟩
          walk_at "rd"
          refine ⟨sz (by show 3 ≤ 100000; decide), fun p fp => ?_⟩
          walk_at "rd"
          have npl : l ≠ p := ne_of_none eL9 fp
          have eLa : (upd H9 p (.tup [V.int (0 + (i : Nat)), V.int (0 + (i : Nat) + 1 + (j : Nat)), V.str (sg c)])) l = some (.lst uvs) := by rw [upd_ne npl]; exact eL9
          have luv : uvs.length = us.length := Paired.length pU
          refine d_append eLa (szl (by omega)) ?_
          refine ⟨_, _, _, us ++ [(i, i + 1 + j, c)], uvs ++ [.ref p], rfl, upd_same, ?_, ?_, ?_, ?_, ?_, ?_⟩
          · have lst9 : ∃ ys, (upd H9 p (.tup [V.int (0 + (i : Nat)), V.int (0 + (i : Nat) + 1 + (j : Nat)), V.str (sg c)])) l = some (.lst ys) := ⟨_, eLa⟩
            refine Paired.snoc (Paired.imp pU9 fun _ _ z => (z.put (.inl fp)).put (.inr lst9)) ⟨p, rfl, ?_⟩
            refine sqt_upd (.inr lst9) (SqT.of ?_)
            rw [upd_same]
            simp only [Int.zero_add]
            rfl
          · refine List.pairwise_append.mpr ⟨sU, List.pairwise_singleton _ _, fun a ha b hb => ?_⟩
            rw [List.mem_singleton.mp hb]
            rcases (bU a ha).1 with z | ⟨z1, z2⟩
            · exact .inl z
            · exact .inr ⟨z1, z2⟩
          · intro t ht
            rcases List.mem_append.mp ht with ht | ht
            · obtain ⟨z1, z2⟩ := bU t ht
              refine ⟨?_, z2⟩
              rcases z1 with z | ⟨z3, z4⟩
              · exact .inl z
              · exact .inr ⟨z3, by omega⟩
            · rw [List.mem_singleton.mp ht]
              exact ⟨.inr ⟨rfl, by show i + 1 + j < i + 1 + (j + 1); omega⟩, by show i < i + 1 + j; omega, by show i + 1 + j < n.toNat; omega, lc⟩
          · rw [List.length_append]
            show us.length + 1 ≤ 40 * i + (j + 1)
            omega
          · exact Keep.new (Keep.new (Keep.trans k8 k9) (Keep.free (Keep.trans k8 k9) (hh9.ne fp) fp)) fl
          · exact (hh9.put (hh9.ne fp)).put nl
        · walk_at "rd"
          exact ⟨_, _, _, us, uvs, rfl, eL9, pU9, sU, fun t ht => ⟨(bU t ht).1.imp id fun z => ⟨z.1, by omega⟩, (bU t ht).2⟩, by omega, Keep.trans k8 k9, hh9⟩
      · obtain ⟨z13, z14, z15, us, uvs, rfl, eL8, pU, sU, bU, lU, k8, hh8⟩ := hP
        refine ⟨_, _, _, _, us, uvs, rfl, eL8, pU, sU, fun t ht => ⟨?_, (bU t ht).2⟩, by omega, k8, hh8⟩
        rcases (bU t ht).1 with z | ⟨z, _⟩ <;> omega
    · obtain ⟨y12, y13, y14, y15, ts, tvs, rfl, eL, pT, sT, bT, lT, k7, hh7⟩ := hP
      walk_at "rd"
      refine ⟨l, tvs, rfl, .inl ⟨SqL.of eL, fun t ft => ?_⟩⟩
      walk_at "rd"
      refine ⟨sz (by show 2 ≤ 100000; decide), fun a fa => ?_⟩
      refine q _ _ (cs, ts) ?_ ?_ ?_ ⟨by show cs.length ≤ 40; omega, by show ts.length ≤ 1600; omega, hl, sT, fun t ht => ⟨(bT t ht).2.1, by show t.2.1 < cs.length; rw [hlen]; exact (bT t ht).2.2.1, (bT t ht).2.2.2⟩⟩
      · exact Keep.same (Keep.same (Keep.trans kB k7) (same_new ft)) (same_new fa)
      · exact (hh7.put (hh7.ne ft)).put ((hh7.put (hh7.ne ft)).ne fa)
      · exact ⟨a, t, tvs, rfl, SqT.of upd_same, sqt_upd (.inl fa) (SqT.of upd_same), Paired.imp pT fun _ _ z => (z.put (.inl ft)).put (.inl fa)⟩
/-- the places in a drawn order -/
def spOrder : Sp := fun vs H Q _ => ∃ (h : Addr) (n : Int), vs = [.ref h, .int n] ∧ 0 ≤ n ∧ n ≤ 1000 ∧ Purse H h ∧ ∀ H' (p : Addr) (qs : List Nat), Keep h H H' → Purse H' h → H p = none → H' p = some (.lst (qs.map fun q => V.int (q : Nat))) → qs.Perm (List.range n.toNat) → Q (.ref p) H'
theorem ok_order (T : Tx K mg) : FnOk P w K mg base CX0 2 T.order.f T.order.fd ["purse", "many"] spOrder := by
  refine T.order.F.ok sc_order (fun vs H Q E h => ?_) (fun cdv A outer s H vs Q E hr h => ?_)
  · obtain ⟨h, n, rfl, _⟩ := h; rfl
  · obtain ⟨h, n, rfl, n0, n1, hh, q⟩ := h
    refine ⟨_, (pss_cons (ps_set (i := 2) sc_order.nd rfl (.inr rfl) (pe_listRg rfl (by rfl) T.m_list (prg_1 (by rfl) T.m_range (pv 1))))
      (pss_one (ps_ret (pe_lc (own := [("k", 3)]) (g := gName 3) (tt := tYes) (te := tBM K "list" rPopAt (tVar 2) (tCons (tOp (rI (fun _ j => 0 < j) fun i j => .int (i % j)) (tCall spNext [] E0 (tCons (tVar 0) tNil)) (tCB (Evl.rLenS K) (tCons (tVar 2) tNil))) tNil)) rfl sc_order.nd (pi_range1 (by rfl) T.m_range (pa_cons (pv 1) pa_nil)) (blkOk_by (N := ["purse", "many", "left", "k"]) (sc := defScope s_order) (by decide +kernel)) (fun _ _ _ _ _ => (pg_name (i := 3) sc_order.nd rfl (.inl rfl))) (fun _ _ _ _ _ => pts_nil) (fun _ _ _ _ _ => (pe_bm PySem.F.plainAttrs_list PySem.F.slot_list_pop PySem.F.type_list_pop mt_popAt (pv 2) (pa_cons (pe_op op_mod (pe_call (ok_next T) (hr.mono (by decide)) (by rfl) T.next.g T.next.F.kp T.next.b .nil pass0 (pa_cons (pv 0) pa_nil)) (pe_callB call_len_seq (by rfl) T.m_len (by decide +kernel) (pa_cons (pv 2) pa_nil))) pa_nil))))))), ?_⟩
    walk_at "rd"
    refine ⟨RgOk.of_le (by omega) (by omega) (by omega) (by omega), fun L fL => ?_⟩
    walk_at "rd"
    have nL := hh.ne fL
    have hh1 := hh.put (o := .lst (rgV 0 n)) nL
    have eL := upd_same (H := H) (a := L) (o := .lst (rgV 0 n))
    rw [rgV_nats] at eL hh1
    have s1 := same_new (o := .lst ((List.range n.toNat).map fun q => V.int (q : Nat))) fL
    intro D fD
    have nD := (show Purse _ h from by rw [rgV_nats]; exact hh1).ne fD
    have nLD : L ≠ D := ne_of_none (upd_same (H := H) (a := L) (o := .lst (rgV 0 n))) fD
    rw [rgV_nats] at fD ⊢
    refine lc_range (fun i H' => ∃ gs ls : List Nat, gs.length = i ∧ (gs ++ ls).Perm (List.range n.toNat) ∧ H' D = some (.lst (gs.map fun q => V.int (q : Nat))) ∧ H' L = some (.lst (ls.map fun q => V.int (q : Nat))) ∧ Keep h H H' ∧ Purse H' h)
      ⟨[], List.range n.toNat, rfl, List.Perm.refl _, upd_same, at_upd eL fD, Keep.new (Same.keep s1) (Same.free s1 fD), hh1.put nD⟩ (fun i H' hi hP => ?_) (fun H' hP => ?_)
    · obtain ⟨gs, ls, lg, pm, eD, eL', kk, hh'⟩ := hP
      have lsum := pm.length_eq
      rw [List.length_append, List.length_range] at lsum
      have hi' : i < n.toNat := by omega
      walk_at "rd"
      refine ⟨.inl ⟨rfl, _, SqL.of eL'⟩, ?_⟩
      walk_at "rd"
      refine ⟨h, rfl, hh', fun H2 g k2 hh2 => ?_⟩
      walk_at "rd"
      have eL2 := k2 L _ nL eL'
      refine d_lenL (SqL.of eL2) ?_
      rw [List.length_map]
      refine ⟨_, _, rfl, rfl, by omega, ?_⟩
      walk_at "rd"
      have g0 := mod_lo g (show 0 < (ls.length : Int) by omega)
      have g1 := mod_hi g (show 0 < (ls.length : Int) by omega)
      dsimp only
      generalize g % (ls.length : Int) = g' at g0 g1 ⊢
      obtain ⟨m, rfl⟩ := Int.eq_ofNat_of_zero_le g0
      have hm : m < ls.length := by omega
      refine ⟨L, _, (m : Nat), m, .int (ls[m] : Nat), rfl, rfl, eL2, by omega, by omega, by rw [List.length_map]; exact seqIndex_of (by omega) (by omega), by rw [List.getElem?_map, List.getElem?_eq_getElem hm]; rfl, ?_⟩
      have eD2 := k2 D _ nD eD
      refine ⟨_, by rw [upd_ne nLD.symm]; exact eD2, szl (by rw [List.length_map]; omega), gs ++ [ls[m]], ls.eraseIdx m, by rw [List.length_append, lg]; rfl, ?_, by rw [upd_same, List.map_append]; rfl, ?_, ?_, ?_⟩
      · rw [List.append_assoc]
        exact (List.Perm.append_left gs (erase_perm ls m hm)).trans pm
      · rw [upd_ne nLD, upd_same]
        congr 2
        exact erase_map _ _ _
      · exact Keep.new (Keep.new (Keep.trans kk k2) fL) (Same.free s1 fD)
      · exact (hh2.put nL).put nD
    · obtain ⟨gs, ls, lg, pm, eD, eL', kk, hh'⟩ := hP
      have lsum := pm.length_eq
      rw [List.length_append, List.length_range] at lsum
      have e0 : ls = [] := List.eq_nil_of_length_eq_zero (by omega)
      subst e0
      rw [List.append_nil] at pm
      exact q H' D gs kk hh' (Same.free s1 fD) eD pm
theorem min_int (a b : Nat) : (if (b : Int) < (a : Int) then (b : Int) else (a : Int)) = ((min a b : Nat) : Int) := by split <;> omega
theorem max_int (a b : Nat) : (if (b : Int) > (a : Int) then (b : Int) else (a : Int)) = ((max a b : Nat) : Int) := by split <;> omega
/-- a web by other names: the place of each name is sought -/
def spTurned (K : PySem.W.Frag) : Sp := fun vs H Q _ => ∃ v w, ∃ (o : Addr) (qs : List Nat), vs = [v, .ref o] ∧ WebAt K H v w ∧ WOk w ∧ H o = some (.lst (qs.map fun q => V.int (q : Nat))) ∧ Ord qs w.1.length ∧
  ∀ H' (a t : Addr) tvs w', Same H H' → SqT K H' a [.str ⟨w'.1.toArray⟩, .ref t] → SqT K H' t tvs → Paired (TieAt K H') tvs w'.2 → WOk w' → Named w qs w' → Q (.ref a) H'
theorem ok_turned (T : Tx K mg) : FnOk P w K mg base CX0 1 T.turned.f T.turned.fd ["web", "order"] (spTurned K) := by
  refine T.turned.F.ok sc_turned (fun vs H Q E h => ?_) (fun cdv A outer s H vs Q E hr h => ?_)
  · obtain ⟨_, _, _, _, rfl, _⟩ := h; rfl
  · obtain ⟨v, w, o, qs, rfl, ⟨a, b, tvs, rfl, q1, q2, pT⟩, W, eO, oo, q⟩ := h
    have lt : tvs.length = w.2.length := Paired.length pT
    have l16 := W.most
    have l40 := W.few
    have hl : (⟨w.1.toArray⟩ : Str).length = w.1.length := by show w.1.toArray.size = _; simp
    have lq := oo.len
    refine ⟨_, (pss_cons (ps_set (i := 2) sc_turned.nd rfl (.inl rfl) (pe_join pe_str (pe_lc (own := [("place", 4)]) (g := gName 4) (tt := tYes) (te := tOp rIxS (tOp (rIxT K) (tVar 0) (tC (.int 0))) (tBM K "list" (rIndex K) (tVar 1) (tCons (tVar 4) tNil))) rfl sc_turned.nd (pi_range1 (by rfl) T.m_range (pa_cons (pe_callB call_len_str (by rfl) T.m_len (by decide +kernel) (pa_cons (pe_ix ix_tup (pv 0) pe_int (fun _ _ => rfl)) pa_nil)) pa_nil)) (blkOk_by (N := ["web", "order", "kinds", "ties", "place", "other", "kind"]) (sc := defScope s_turned) (by decide +kernel)) (fun _ _ _ _ _ => (pg_name (i := 4) sc_turned.nd rfl (.inl rfl))) (fun _ _ _ _ _ => pts_nil) (fun _ _ _ _ _ => (pe_ix ix_str (pe_ix ix_tup (pv 0) pe_int (fun _ _ => rfl)) (pe_bm PySem.F.plainAttrs_list PySem.F.slot_list_index PySem.F.type_list_index mt_index (pv 1) (pa_cons (pv 4) pa_nil)) (fun _ _ => rfl))))))
      (pss_cons (ps_set (i := 3) sc_turned.nd rfl (.inl rfl) (pe_lst pa_nil))
      (pss_cons (ps_for PassesOwn.never rfl (pi_tup (pe_ix ix_tup (pv 0) pe_int (fun _ _ => rfl))) (pg_tup rfl (pgs_cons (pg_name (i := 4) sc_turned.nd rfl (.inl rfl)) (pgs_cons (pg_name (i := 5) sc_turned.nd rfl (.inl rfl)) (pgs_cons (pg_name (i := 6) sc_turned.nd rfl (.inl rfl)) pgs_nil))))
        (pss_one (ps_expr (pe_bm PySem.F.plainAttrs_list PySem.F.slot_list_append PySem.F.type_list_append mt_append (pv 3) (pa_cons (pe_tup (pa_cons (pe_callB (call_min2 rfl) (by rfl) T.m_min (by decide +kernel) (pa_cons (pe_ix ix_list (pv 1) (pv 4) (fun _ _ => rfl)) (pa_cons (pe_ix ix_list (pv 1) (pv 5) (fun _ _ => rfl)) pa_nil))) (pa_cons (pe_callB (call_max2 rfl) (by rfl) T.m_max (by decide +kernel) (pa_cons (pe_ix ix_list (pv 1) (pv 4) (fun _ _ => rfl)) (pa_cons (pe_ix ix_list (pv 1) (pv 5) (fun _ _ => rfl)) pa_nil))) (pa_cons (pv 6) pa_nil)))) pa_nil)))))
      (pss_one (ps_ret (pe_tup (pa_cons (pv 2) (pa_cons (pe_callTy call_tuple_of (by rfl) T.m_tuple (by decide +kernel) (pa_cons (pe_callB cr_sorted3 (by rfl) T.m_sorted (by decide +kernel) (pa_cons (pv 3) pa_nil)) pa_nil)) pa_nil)))))))), ?_⟩
    walk_at "rd"
    refine d_ixT q1 rfl ?_
    refine d_lenS (z := ⟨w.1.toArray⟩) (sz (by omega)) ?_
    rw [hl]
    walk_at "rd"
    intro D fD
    refine lc_range (fun i H' => ∃ cs : List Nat, cs.length = i ∧ (∀ p, p < w.1.length → qa qs p < i → cs[qa qs p]? = w.1[p]?) ∧ H' D = some (.lst (cs.map fun c => V.str (sg c))) ∧ Same H H') ⟨[], rfl, fun p _ h => absurd h (Nat.not_lt_zero _), upd_same, same_new fD⟩ (fun i H' hi hP => ?_) (fun H' hP => ?_)
    · obtain ⟨cs, hlen, hc, eD, sm⟩ := hP
      have hi' : i < w.1.length := hi
      obtain ⟨j, hj, ej⟩ := oo.onto hi'
      walk_at "rd"
      refine d_ixT (Same.sqt sm q1) rfl ?_
      walk_at "rd"
      have eO' := sm _ _ eO
      refine ⟨.inl ⟨rfl, _, SqL.of eO'⟩, ?_⟩
      walk_at "rd"
      have hq : ∀ m, m < w.1.length → (qs.map fun q => V.int (q : Nat))[m]? = some (.int (qa qs m : Nat)) := fun m hm => by
        rw [List.getElem?_map, qa_at (by omega)]; rfl
      refine ⟨o, _, _, j, _, rfl, rfl, SqL.of eO', rfl, ?_, hq j hj, ?_, fun m z' hm hz => ?_, ?_⟩
      · rw [List.all_map]
        exact List.all_eq_true.mpr fun _ _ => rfl
      · show ((qa qs j : Int) == 0 + (i : Int)) = true
        rw [ej, Int.zero_add]
        exact beq_self_eq_true _
      · rw [hq m (by omega)] at hz
        cases hz
        show ((qa qs m : Int) == 0 + (i : Int)) = false
        refine beq_eq_false_iff_ne.mpr fun z => ?_
        have : qa qs m = qa qs j := by rw [ej]; omega
        have := oo.inj (by omega) hj this
        omega
      have gj := List.getElem?_eq_getElem hj
      refine ⟨⟨w.1.toArray⟩, _, w.1[j], rfl, rfl, sz (by omega), atI_nat (by show w.1.toArray.toList[j]? = _; simp [gj]), ?_⟩
      refine ⟨_, eD, szl (by rw [List.length_map]; omega), cs ++ [w.1[j]], by rw [List.length_append, hlen]; rfl, fun p hp hlt => ?_, by rw [upd_same, List.map_append]; rfl, same_upd sm fD⟩
      rcases Nat.lt_or_ge (qa qs p) i with c | c
      · rw [List.getElem?_append_left (by omega)]
        exact hc p hp c
      · have e1 : qa qs p = i := by omega
        have e2 : p = j := oo.inj hp hj (by rw [e1, ej])
        subst e2
        rw [e1, List.getElem?_append_right (by omega), hlen, Nat.sub_self, gj]; rfl
    obtain ⟨cs, hlen, hc, eD, sm⟩ := hP
    have lcs : cs.length = w.1.length := hlen
    have hcs : ∀ p, p < w.1.length → cs[qa qs p]? = w.1[p]? := fun p hp => hc p hp (oo.lt' hp)
    refine ⟨_, D, cs.map sg, rfl, rfl, .inl (SqL.of (by rw [List.map_map]; exact eD)), ?_, ?_⟩
    · rw [sum_const _ 1 _ (by intro x hx; obtain ⟨c, _, rfl⟩ := List.mem_map.mp hx; rfl), List.length_map]
      have e0 : (Str.ofString "").length = 0 := by decide +kernel
      rw [e0]; omega
    rw [join_signs]
    walk_at "rd"
    refine ⟨sz (by decide), fun L fL => ?_⟩
    walk_at "rd"
    have s4 := same_upd (o := .lst []) sm (Same.free sm fL)
    refine d_ixT (Same.sqt s4 q1) rfl ?_
    refine d_iTe (Same.sqt s4 q2) ?_
    refine for_it (walk_tup (xs := tvs)) (fun i σ H5 => ∃ y4 y5 y6, ∃ es : List (Addr × Tie), σ = [some (.ref a), some (.ref o), some (.str ⟨cs.toArray⟩), some (.ref L), y4, y5, y6] ∧ Same H H5 ∧ H5 L = some (.lst (es.map fun e => V.ref e.1)) ∧ es.map (·.2) = (w.2.take i).map (mapTie qs) ∧ ∀ e ∈ es, H5 e.1 = some (.tup (triV ((e.2.1 : Int), (e.2.2.1 : Int), e.2.2.2))))
      ⟨_, _, _, [], rfl, s4, upd_same, rfl, by simp⟩ (fun i σ H5 hi hP => ?_) (fun i x σ H5' H5 hi hP hy => ?_) (fun σ H5 hP => ?_)
    · obtain ⟨_, _, _, _, _, s5, _⟩ := hP
      exact Same.sqt s5 q2
    · obtain ⟨z4, z5, z6, es, rfl, s5, eL5, ees, hes⟩ := hP
      obtain ⟨rfl, hx⟩ := hy
      obtain ⟨t, ht, a', rfl, qt⟩ := Paired.at pT hx
      have rt := W.ends t (List.mem_of_getElem? ht)
      refine d_gtup (Same.sqt s5 qt) rfl ?_
      walk_at "rd"
      refine d_app eL5 ?_
      walk_at "rd"
      have eO5 := s5 _ _ eO
      have g1 : atI (qs.map fun q => V.int (q : Nat)) (t.1 : Nat) = some (.int (qa qs t.1 : Nat)) := atI_nat (by rw [List.getElem?_map, qa_at (by omega)]; rfl)
      have g2 : atI (qs.map fun q => V.int (q : Nat)) (t.2.1 : Nat) = some (.int (qa qs t.2.1 : Nat)) := atI_nat (by rw [List.getElem?_map, qa_at (by omega)]; rfl)
      refine d_ixLm eO5 g1 ?_
      walk_at "rd"
      refine d_ixLm eO5 g2 ?_
      refine ⟨_, _, rfl, ?_⟩
      rw [min_int]
      walk_at "rd"
      refine d_ixLm eO5 g1 ?_
      walk_at "rd"
      refine d_ixLm eO5 g2 ?_
      refine ⟨_, _, rfl, ?_⟩
      rw [max_int]
      walk_at "rd"
      refine ⟨sz (by show 3 ≤ 100000; decide), fun p fp => ?_⟩
      have les : es.length ≤ 1600 := by
        have z := congrArg List.length ees
        rw [List.length_map, List.length_map] at z
        have := List.length_take_le i w.2
        omega
      walk_at "rd"
      refine d_append (at_upd eL5 fp) (szl (by rw [List.length_map]; omega)) ?_
      have npL : p ≠ L := fun z => by rw [z, eL5] at fp; cases fp
      refine ⟨_, _, _, es ++ [(p, mapTie qs t)], rfl, ?_, ?_, ?_, ?_⟩
      · exact same_upd (same_upd s5 (Same.free s5 fp)) (Same.free sm fL)
      · rw [upd_same, List.map_append]; rfl
      · rw [take_snoc ht, List.map_append, List.map_append, ees]; rfl
      · intro e he
        rcases List.mem_append.mp he with he | he
        · have h1 := hes e he
          have h2 : e.1 ≠ L := fun z => by rw [z, eL5] at h1; cases h1
          rw [upd_ne h2]
          exact at_upd h1 fp
        · rw [List.mem_singleton.mp he]
          show (upd _ L _) p = _
          rw [upd_ne npL, upd_same]; rfl
    · obtain ⟨z4, z5, z6, es, rfl, s5, eL5, ees, hes⟩ := hP
      rw [lt, List.take_length] at ees
      walk_at "rd"
      let es3 : List (Addr × Tri) := es.map fun e => (e.1, ((e.2.1 : Int), (e.2.2.1 : Int), e.2.2.2))
      refine ⟨L, es3, rfl, SqL.of (by rw [eL5]; show _ = some (HO.lst ((es.map _).map _)); rw [List.map_map]; rfl), fun e he => ?_, fun es' S pm srt fS => ?_⟩
      · obtain ⟨e0, he0, rfl⟩ := List.mem_map.mp he
        exact hes e0 he0
      walk_at "rd"
      refine ⟨S, _, rfl, .inl ⟨SqL.of upd_same, fun R fR => ?_⟩⟩
      walk_at "rd"
      refine ⟨sz (by show 2 ≤ 100000; decide), fun W' fW => ?_⟩
      let ts' : List Tie := es'.map fun e => (e.2.1.toNat, e.2.2.1.toNat, e.2.2.2)
      have back : ∀ e ∈ es', ∃ e0 ∈ es, e = (e0.1, ((e0.2.1 : Int), (e0.2.2.1 : Int), e0.2.2.2)) := fun e he => by
        obtain ⟨e0, he0, e1⟩ := List.mem_map.mp (pm.mem_iff.mp he)
        exact ⟨e0, he0, e1.symm⟩
      have pts : ts'.Perm (w.2.map (mapTie qs)) := by
        have z := pm.map fun e => ((e.2.1.toNat, e.2.2.1.toNat, e.2.2.2) : Tie)
        rw [← ees]
        have e2 : (es.map (fun e => (e.1, ((e.2.1 : Int), (e.2.2.1 : Int), e.2.2.2)))).map (fun e => ((e.2.1.toNat, e.2.2.1.toNat, e.2.2.2) : Tie)) = es.map (·.2) := by
          rw [List.map_map]; rfl
        rw [← e2]
        exact z
      have N : Named w qs (cs, ts') := ⟨lcs, hcs, pts⟩
      have srt' : ts'.Pairwise (fun x y => lexT ((y.1 : Int), (y.2.1 : Int), y.2.2) ((x.1 : Int), (x.2.1 : Int), x.2.2) = false) := by
        rw [List.pairwise_map] at srt
        show (es'.map _).Pairwise _
        rw [List.pairwise_map]
        refine srt.imp_of_mem fun {x y} hx hy hxy => ?_
        obtain ⟨e0, _, rfl⟩ := back x hx
        obtain ⟨e1, _, rfl⟩ := back y hy
        exact hxy
      have sf : Same H5 (upd (upd (upd H5 S (.lst (es'.map fun e => V.ref e.1))) R (.tup (es'.map fun e => V.ref e.1))) W' (.tup [V.str ⟨cs.toArray⟩, V.ref R])) := Same.trans (same_new fS) (Same.trans (same_new fR) (same_new fW))
      refine q _ W' R _ (cs, ts') (Same.trans s5 sf) (SqT.of upd_same) (SqT.of (at_upd upd_same fW)) ?_ (named_ok W oo N srt') N
      have go : ∀ l : List (Addr × Tri), (∀ e ∈ l, ∃ e0 ∈ es, e = (e0.1, ((e0.2.1 : Int), (e0.2.2.1 : Int), e0.2.2.2))) → Paired (TieAt K (upd (upd (upd H5 S (.lst (es'.map fun e => V.ref e.1))) R (.tup (es'.map fun e => V.ref e.1))) W' (.tup [V.str ⟨cs.toArray⟩, V.ref R]))) (l.map fun e => V.ref e.1) (l.map fun e => ((e.2.1.toNat, e.2.2.1.toNat, e.2.2.2) : Tie)) := by
        intro l
        induction l with
        | nil => intro _; exact .nil
        | cons x l ih =>
          intro hl
          obtain ⟨e0, he0, rfl⟩ := hl x List.mem_cons_self
          exact .cons ⟨e0.1, rfl, SqT.of (sf _ _ (hes e0 he0))⟩ (ih fun e he => hl e (List.mem_cons_of_mem _ he))
      exact go es' back
theorem d_catA {xs ys : List V} {a b : Addr} {H : Hp} {Q : VK} (ha : SqT K H a xs) (hb : SqT K H b ys) (hl : xs.length + ys.length ≤ sizeLine) (q : ∀ H' p, Same H H' → SqT K H' p (xs ++ ys) → Q (.ref p) H') : rCatA K (.ref a) (.ref b) H Q := by
  refine ⟨a, b, xs, ys, rfl, rfl, ha, hb, hl, fun e => ?_, fun _ e => ?_, fun _ _ p fp => ?_⟩
  · subst e
    exact q H b (Same.refl _) hb
  · subst e
    refine q H a (Same.refl _) ?_
    rw [List.append_nil]
    exact ha
  · exact q _ p (same_new fp) (SqT.of upd_same)
theorem cut_drop (xs : List V) (n : Nat) (h : n ≤ xs.length) : cutV xs (some (n : Nat)) none = xs.drop n := by
  unfold cutV
  have e : HT.sIx xs.length 0 (some ((n : Nat) : Int)) = min n xs.length := HT.sIx_nat xs.length 0 n
  rw [HT.sIx_none, e, Nat.min_eq_left h]
  exact List.take_of_length_le (by rw [List.length_drop]; omega)
theorem d_takeT {xs : List V} {a : Addr} {H : Hp} {Q : VK} {n : Nat} (ha : SqT K H a xs) (hn : n < xs.length) (q : ∀ p, H p = none → Q (.ref p) (upd H p (.tup (xs.take n)))) : rSlT K (.ref a) none (some ((n : Nat) : Int)) H Q := by
  refine ⟨a, xs, rfl, ha, fun z => ?_, fun p fp => ?_⟩
  · have e := HT.sIx_nat xs.length xs.length n
    rw [e] at z
    have := z.2
    omega
  · rw [cut_take xs n (by omega)]
    exact q p fp
theorem d_dropT {xs : List V} {a : Addr} {H : Hp} {Q : VK} {n : Nat} (ha : SqT K H a xs) (h0 : 0 < n) (hn : n ≤ xs.length) (q : ∀ p, H p = none → Q (.ref p) (upd H p (.tup (xs.drop n)))) : rSlT K (.ref a) (some ((n : Nat) : Int)) none H Q := by
  refine ⟨a, xs, rfl, ha, fun z => ?_, fun p fp => ?_⟩
  · have e := HT.sIx_nat xs.length 0 n
    rw [e] at z
    have := z.1
    omega
  · rw [cut_drop xs n hn]
    exact q p fp
theorem paired_take {α β : Type} {F : α → β → Prop} : ∀ {xs : List α} {ys : List β} (n : Nat), Paired F xs ys → Paired F (xs.take n) (ys.take n)
  | _, _, 0, _ => .nil
  | _, _, _ + 1, .nil => .nil
  | _, _, n + 1, .cons r t => .cons r (paired_take n t)
theorem paired_drop {α β : Type} {F : α → β → Prop} : ∀ {xs : List α} {ys : List β} (n : Nat), Paired F xs ys → Paired F (xs.drop n) (ys.drop n)
  | _, _, 0, r => r
  | _, _, _ + 1, .nil => .nil
  | _, _, n + 1, .cons _ t => paired_drop n t
theorem paired_app {α β : Type} {F : α → β → Prop} : ∀ {xs xs' : List α} {ys ys' : List β}, Paired F xs ys → Paired F xs' ys' → Paired F (xs ++ xs') (ys ++ ys')
  | _, _, _, _, .nil, s => s
  | _, _, _, _, .cons r t, s => .cons r (paired_app t s)
theorem WOk.sub {cs : List Nat} {ts us : List Tie} (W : WOk (cs, ts)) (s : us.Sublist ts) : WOk (cs, us) :=
  ⟨W.few, Nat.le_trans s.length_le W.most, W.kinds, W.rise.sublist s, fun t ht => W.ends t (s.subset ht)⟩
theorem tlt_ends {ts : List Tie} : ts.Pairwise tlt ↔ (ts.map ends).Pairwise (fun a b => a.1 < b.1 ∨ (a.1 = b.1 ∧ a.2 < b.2)) := by
  rw [List.pairwise_map]
  exact Iff.rfl
theorem WOk.kind {cs : List Nat} {ts : List Tie} (W : WOk (cs, ts)) {n : Nat} {t : Tie} (ht : ts[n]? = some t) {c : Nat} (hc : Ltr c) : WOk (cs, ts.take n ++ [(t.1, t.2.1, c)] ++ ts.drop (n + 1)) := by
  have hn := (List.getElem?_eq_some_iff.mp ht).1
  have e : ts = ts.take n ++ [t] ++ ts.drop (n + 1) := by
    obtain ⟨_, rfl⟩ := List.getElem?_eq_some_iff.mp ht
    rw [List.append_assoc]
    show ts = ts.take n ++ (ts[n] :: ts.drop (n + 1))
    rw [← List.drop_eq_getElem_cons hn, List.take_append_drop]
  have ee : (ts.take n ++ [(t.1, t.2.1, c)] ++ ts.drop (n + 1)).map Cw.ends = ts.map Cw.ends := by
    have z := congrArg (List.map Cw.ends) e
    rw [z]
    simp [Cw.ends]
  have el := congrArg List.length ee
  rw [List.length_map, List.length_map] at el
  refine ⟨W.few, by show List.length _ ≤ 1600; rw [el]; exact W.most, W.kinds, by rw [tlt_ends, ee, ← tlt_ends]; exact W.rise, fun u hu => ?_⟩
  rcases List.mem_append.mp hu with hu | hu
  · rcases List.mem_append.mp hu with hu | hu
    · exact W.ends u (List.mem_of_mem_take hu)
    · rw [List.mem_singleton.mp hu]
      have r := W.ends t (List.mem_of_getElem? ht)
      exact ⟨r.1, r.2.1, hc⟩
  · exact W.ends u (List.mem_of_mem_drop hu)
theorem WOk.letters {cs ds : List Nat} {ts : List Tie} (W : WOk (cs, ts)) (l : ds.length = cs.length) (h : ∀ c ∈ ds, Ltr c) : WOk (ds, ts) :=
  ⟨by show ds.length ≤ 40; rw [l]; exact W.few, W.most, h, W.rise, fun t ht => by have r := W.ends t ht; exact ⟨r.1, by show t.2.1 < ds.length; rw [l]; exact r.2.1, r.2.2⟩⟩
theorem shaped_tup {ds : List PyData} {k : Nat} (hk : k ≤ 63) (h : ∀ d ∈ ds, d.canLay0 = true ∧ d.depth ≤ k) : SeqAt.shaped (.tuple ds) = true := by
  obtain ⟨h1, h2⟩ := lay_all h
  have : PyData.depth (.tuple ds) ≤ 64 := by simp only [PyData.depth]; omega
  simp [SeqAt.shaped, PyData.canLay0, h1, this]
theorem dpa_ties {K : PySem.W.Frag} {H : Hp} : ∀ {xs : List V} {ts : List Tie}, Paired (TieAt K H) xs ts → DpAll K H xs (ts.map tieD)
  | _, _, .nil => .nil
  | _, _, .cons h t => by
    obtain ⟨a, rfl, q⟩ := h
    exact .cons (.tup q (.cons (.int _) (.cons (.int _) (.cons (.str _) .nil)))) (dpa_ties t)
/-- ties != () -/
theorem d_neT0 {H : Hp} {QB : VK} {a p : Addr} {tvs : List V} {ts : List Tie} (ha : SqT K H a tvs) (pT : Paired (TieAt K H) tvs ts) (hl : ∀ t ∈ ts, Ltr t.2.2) (ep : H p = some (.tup [])) (q : QB (.bl (!decide (ts.length = 0))) H) : rNeD K (.ref a) (.ref p) H QB := by
  refine ⟨.tuple (ts.map tieD), .tuple [], .tup ha (dpa_ties pT), .tup (SqT.of ep) .nil, shaped_tup (k := 1) (by decide) fun d hd => ?_, by decide, ?_⟩
  · obtain ⟨t, ht, rfl⟩ := List.mem_map.mp hd
    exact tieD_lay (hl t ht)
  · have e : PyData.eqv (.tuple (ts.map tieD)) (.tuple []) = decide (ts.length = 0) := by
      cases ts with
      | nil => rfl
      | cons c r => simp [PyData.eqv, PyData.eqvAll]
    rw [e]
    exact q
theorem str_app (xs ys : List Nat) : (⟨xs.toArray⟩ ++ ⟨ys.toArray⟩ : Str) = ⟨(xs ++ ys).toArray⟩ := str_ext (by show (xs.toArray ++ ys.toArray).toList = _; simp)
theorem str_take (xs : List Nat) (n : Nat) (h : n ≤ xs.length) : cutS ⟨xs.toArray⟩ none (some (n : Nat)) = ⟨(xs.take n).toArray⟩ := by
  have hl : (⟨xs.toArray⟩ : Str).length = xs.length := by show xs.toArray.size = _; simp
  unfold cutS
  have e : HT.sIx xs.length xs.length (some ((n : Nat) : Int)) = min n xs.length := HT.sIx_nat xs.length xs.length n
  rw [hl, HT.sIx_none, e, List.drop_zero, Nat.sub_zero, Nat.min_eq_left h]
theorem str_drop (xs : List Nat) (n : Nat) (h : n ≤ xs.length) : cutS ⟨xs.toArray⟩ (some (n : Nat)) none = ⟨(xs.drop n).toArray⟩ := by
  have hl : (⟨xs.toArray⟩ : Str).length = xs.length := by show xs.toArray.size = _; simp
  unfold cutS
  have e : HT.sIx xs.length 0 (some ((n : Nat) : Int)) = min n xs.length := HT.sIx_nat xs.length 0 n
  rw [hl, HT.sIx_none, e, Nat.min_eq_left h]
  congr 2
  exact List.take_of_length_le (by rw [List.length_drop]; exact Nat.le_refl _)
theorem str_len (xs : List Nat) : (⟨xs.toArray⟩ : Str).length = xs.length := by show xs.toArray.size = _; simp
/-- what a web near to another one has been made to, so far -/
def NearI (K : PySem.W.Frag) (h : Addr) (H H' : Hp) (cs : List Nat) (t : Addr) : Prop := ∃ tvs ts, SqT K H' t tvs ∧ Paired (TieAt K H') tvs ts ∧ WOk (cs, ts) ∧ Keep h H H' ∧ Purse H' h
def spNear (K : PySem.W.Frag) : Sp := fun vs H Q _ => ∃ (h : Addr) (v : V) (w : Web), vs = [.ref h, v] ∧ Purse H h ∧ WebAt K H v w ∧ WOk w ∧ ∀ H' v' w', Keep h H H' → Purse H' h → WebAt K H' v' w' → WOk w' → Q v' H'
theorem ok_near (T : Tx K mg) : FnOk P w K mg base CX0 3 T.near.f T.near.fd ["purse", "web"] (spNear K) := by
  refine T.near.F.ok sc_near (fun vs H Q E h => ?_) (fun cdv A outer s H vs Q E hr h => ?_)
  · obtain ⟨_, _, _, rfl, _⟩ := h; rfl
  · obtain ⟨h, v, w, rfl, hh, hw, W, q⟩ := h
    have l16 := W.most
    have l40 := W.few
    obtain ⟨a, b, tvs, rfl, q1, q2, pT⟩ := id hw
    refine ⟨_, (pss_cons (ps_asg (pe_call (ok_turned T) (hr.mono (by decide)) (by rfl) T.turned.g T.turned.F.kp T.turned.b .nil pass0 (pa_cons (pv 1) (pa_cons (pe_call (ok_order T) (hr.mono (by decide)) (by rfl) T.order.g T.order.F.kp T.order.b .nil pass0 (pa_cons (pv 0) (pa_cons (pe_callB call_len_str (by rfl) T.m_len (by decide +kernel) (pa_cons (pe_ix ix_tup (pv 1) pe_int (fun _ _ => rfl)) pa_nil)) pa_nil))) pa_nil))) (pg_tup rfl (pgs_cons (pg_name (i := 2) sc_near.nd rfl (.inl rfl)) (pgs_cons (pg_name (i := 3) sc_near.nd rfl (.inl rfl)) pgs_nil))))
      (pss_cons (ps_set (i := 4) sc_near.nd rfl (.inl rfl) (pe_op op_mod (pe_call (ok_next T) (hr.mono (by decide)) (by rfl) T.next.g T.next.F.kp T.next.b .nil pass0 (pa_cons (pv 0) pa_nil)) pe_int))
      (Evl.pss_cut (ps_if (PW.pt (pw_and (pt_cmpR op_eq (pv 4) pe_int (nomark _)) (pw_and1 (pt_cmpR (op_neD (hr.units)) (pv 3) (pe_tup pa_nil) (nomark _)))))
        (pss_cons (ps_set (i := 5) sc_near.nd rfl (.inl rfl) (pe_op op_mod (pe_call (ok_next T) (hr.mono (by decide)) (by rfl) T.next.g T.next.F.kp T.next.b .nil pass0 (pa_cons (pv 0) pa_nil)) (pe_callB call_len_seq (by rfl) T.m_len (by decide +kernel) (pa_cons (pv 3) pa_nil))))
        (pss_one (ps_set (i := 3) sc_near.nd rfl (.inl rfl) (pe_op op_catA (pe_slice sl_tup (pv 3) po_none (po_some (pv 5))) (pe_slice sl_tup (pv 3) (po_some (pe_op op_add (pv 5) pe_int)) po_none)))))
        pss_nil)
      (Evl.pss_cut (ps_if (PW.pt (pw_and (pt_cmpR op_eq (pv 4) pe_int (nomark _)) (pw_and1 (pt_cmpR (op_neD (hr.units)) (pv 3) (pe_tup pa_nil) (nomark _)))))
        (pss_cons (ps_set (i := 5) sc_near.nd rfl (.inl rfl) (pe_op op_mod (pe_call (ok_next T) (hr.mono (by decide)) (by rfl) T.next.g T.next.F.kp T.next.b .nil pass0 (pa_cons (pv 0) pa_nil)) (pe_callB call_len_seq (by rfl) T.m_len (by decide +kernel) (pa_cons (pv 3) pa_nil))))
        (pss_one (ps_set (i := 3) sc_near.nd rfl (.inl rfl) (pe_op op_catA (pe_op op_catA (pe_slice sl_tup (pv 3) po_none (po_some (pv 5))) (pe_tup (pa_cons (pe_op op_catA (pe_slice sl_tup (pe_ix ix_tup (pv 3) (pv 5) (fun _ _ => rfl)) po_none (po_some pe_int)) (pe_tup (pa_cons pe_str pa_nil))) pa_nil))) (pe_slice sl_tup (pv 3) (po_some (pe_op op_add (pv 5) pe_int)) po_none)))))
        pss_nil)
      (Evl.pss_cut (ps_if (PW.pt (pw_and (pt_cmpR op_eq (pv 4) pe_int (nomark _)) (pw_and1 (pt_cmpR op_ne (pv 2) pe_str (nomark _)))))
        (pss_cons (ps_set (i := 5) sc_near.nd rfl (.inl rfl) (pe_op op_mod (pe_call (ok_next T) (hr.mono (by decide)) (by rfl) T.next.g T.next.F.kp T.next.b .nil pass0 (pa_cons (pv 0) pa_nil)) (pe_callB call_len_str (by rfl) T.m_len (by decide +kernel) (pa_cons (pv 2) pa_nil))))
        (pss_one (ps_set (i := 2) sc_near.nd rfl (.inl rfl) (pe_op op_add_str (pe_op op_add_str (pe_slice sl_str (pv 2) po_none (po_some (pv 5))) (pe_ix ix_str (pv 2) pe_int (fun _ _ => rfl))) (pe_slice sl_str (pv 2) (po_some (pe_op op_add (pv 5) pe_int)) po_none)))))
        pss_nil)
      (pss_one (ps_ret (pe_tup (pa_cons (pv 2) (pa_cons (pv 3) pa_nil)))))))))), ?_⟩
    walk_at "rd"
    refine d_ixT q1 rfl ?_
    refine d_lenS (z := ⟨w.1.toArray⟩) (sz (by rw [str_len]; omega)) ?_
    rw [str_len]
    walk_at "rd"
    refine ⟨h, _, rfl, by omega, by omega, hh, fun H1 o qs k1 hh1 fo eo pm => ?_⟩
    walk_at "rd"
    obtain ⟨n0, e0, _⟩ := id hh
    refine ⟨_, w, o, qs, rfl, hw.keep k1 e0, W, eo, Ord.of pm, fun H2 a' t' tvs' w' s2 r1 r2 r3 W' _ => ?_⟩
    refine d_gtup r1 rfl ?_
    walk_at "rd"
    refine ⟨h, rfl, hh1.same s2, fun H3 g3 k3 hh3 => ?_⟩
    walk_at "rd"
    dsimp only
    generalize g3 % 5 = way
    obtain ⟨n2, e2, _⟩ := id (hh1.same s2)
    have I3 : NearI K h H H3 w'.1 t' := ⟨tvs', w'.2, k3.sqt e2 r2, Paired.imp r3 fun _ _ z => z.keep k3 e2, W', Keep.trans k1 (Keep.trans (Same.keep s2) k3), hh3⟩
    refine d_cut (fun σ H' => ∃ (t : Addr) (y5 : Option V), σ = [some (.ref h), some (.ref a), some (.str ⟨w'.1.toArray⟩), some (.ref t), some (.int way), y5] ∧ NearI K h H H' w'.1 t) ?_ (fun σ H' hP => ?_)
    · walk_at "rd"
      refine ite2 (fun c => ?_) (fun c => ?_)
      · walk_at "rd"
        obtain ⟨tv, ts, x1, x2, x3, x4, x5⟩ := I3
        refine ⟨sz (by decide), fun p1 f1 => ?_⟩
        have s4 := same_new (o := .tup []) f1
        refine d_neT0 (Same.sqt s4 x1) (Paired.imp x2 fun _ _ z => z.same s4) (fun t ht => (x3.ends t ht).2.2) upd_same ?_
        walk_at "rd"
        refine ite2 (fun c => ?_) (fun c => ?_)
        · have c0 : 0 < ts.length := by
            rcases Nat.eq_zero_or_pos ts.length with z | z
            · rw [z] at c; cases c
            · exact z
          have lt : tv.length = ts.length := Paired.length x2
          walk_at "rd"
          refine ⟨h, rfl, x5.same s4, fun H5 g5 k5 hh5 => ?_⟩
          walk_at "rd"
          obtain ⟨_, e5, _⟩ := id (x5.same s4)
          have y1 := k5.sqt e5 (Same.sqt s4 x1)
          have y2 := Paired.imp x2 fun _ _ z => (z.same s4).keep k5 e5
          refine d_lenT y1 ?_
          rw [lt]
          refine ⟨_, _, rfl, rfl, by omega, ?_⟩
          have m0 := mod_lo g5 (show 0 < (ts.length : Int) by omega)
          have m1 := mod_hi g5 (show 0 < (ts.length : Int) by omega)
          dsimp only
          generalize g5 % (ts.length : Int) = m at m0 m1 ⊢
          obtain ⟨j, rfl⟩ := Int.eq_ofNat_of_zero_le m0
          have hj : j < ts.length := by omega
          walk_at "rd"
          refine d_takeT y1 (by omega) fun p6 f6 => ?_
          have s6 := same_new (o := .tup (tv.take j)) f6
          walk_at "rd"
          refine d_dropT (n := j + 1) (Same.sqt s6 y1) (by omega) (by omega) fun p7 f7 => ?_
          have s7 := same_new (o := .tup (tv.drop (j + 1))) f7
          refine d_catA (SqT.of (s7 _ _ upd_same)) (SqT.of upd_same) (by rw [List.length_take, List.length_drop]; exact sz (by have l6 : ts.length ≤ 1600 := x3.most; omega)) fun H8 p8 s8 q8 => ?_
          walk_at "rd"
          have sA := Same.trans s6 (Same.trans s7 s8)
          have sub : (ts.take j ++ ts.drop (j + 1)).Sublist ts := by
            have z := List.Sublist.append (List.Sublist.refl (ts.take j)) (List.drop_sublist_drop_left ts (show j ≤ j + 1 by omega))
            rw [List.take_append_drop] at z
            exact z
          exact ⟨p8, _, rfl, _, ts.take j ++ ts.drop (j + 1), q8, paired_app (paired_take j (Paired.imp y2 fun _ _ z => z.same sA)) (paired_drop (j + 1) (Paired.imp y2 fun _ _ z => z.same sA)), x3.sub sub, Keep.trans x4 (Keep.trans (Same.keep s4) (Keep.same k5 sA)), hh5.same sA⟩
        · walk_at "rd"
          exact ⟨t', _, rfl, tv, ts, Same.sqt s4 x1, Paired.imp x2 fun _ _ z => z.same s4, x3, Keep.same x4 s4, x5.same s4⟩
      · walk_at "rd"
        exact ⟨t', _, rfl, I3⟩
    · obtain ⟨t, y5, rfl, I4⟩ := hP
      clear I3
      refine d_cut (fun σ H' => ∃ (t : Addr) (y5 : Option V), σ = [some (.ref h), some (.ref a), some (.str ⟨w'.1.toArray⟩), some (.ref t), some (.int way), y5] ∧ NearI K h H H' w'.1 t) ?_ (fun σ H' hP => ?_)
      · walk_at "rd"
        refine ite2 (fun c => ?_) (fun c => ?_)
        · walk_at "rd"
          obtain ⟨tv, ts, x1, x2, x3, x4, x5⟩ := I4
          refine ⟨sz (by decide), fun p1 f1 => ?_⟩
          have s4 := same_new (o := .tup []) f1
          refine d_neT0 (Same.sqt s4 x1) (Paired.imp x2 fun _ _ z => z.same s4) (fun t ht => (x3.ends t ht).2.2) upd_same ?_
          walk_at "rd"
          refine ite2 (fun c => ?_) (fun c => ?_)
          · have c0 : 0 < ts.length := by
              rcases Nat.eq_zero_or_pos ts.length with z | z
              · rw [z] at c; cases c
              · exact z
            have lt : tv.length = ts.length := Paired.length x2
            walk_at "rd"
            refine ⟨h, rfl, x5.same s4, fun H5 g5 k5 hh5 => ?_⟩
            walk_at "rd"
            obtain ⟨_, e5, _⟩ := id (x5.same s4)
            have y1 := k5.sqt e5 (Same.sqt s4 x1)
            have y2 := Paired.imp x2 fun _ _ z => (z.same s4).keep k5 e5
            refine d_lenT y1 ?_
            rw [lt]
            refine ⟨_, _, rfl, rfl, by omega, ?_⟩
            have m0 := mod_lo g5 (show 0 < (ts.length : Int) by omega)
            have m1 := mod_hi g5 (show 0 < (ts.length : Int) by omega)
            dsimp only
            generalize g5 % (ts.length : Int) = m at m0 m1 ⊢
            obtain ⟨j, rfl⟩ := Int.eq_ofNat_of_zero_le m0
            have hj : j < ts.length := by omega
            walk_at "rd"
            refine d_takeT y1 (by omega) fun p6 f6 => ?_
            have s6 := same_new (o := .tup (tv.take j)) f6
            have gv : tv[j]? = some (tv[j]'(by omega)) := List.getElem?_eq_getElem (by omega)
            obtain ⟨u, hu, au, eu, qu⟩ := Paired.at y2 gv
            rw [eu] at gv
            walk_at "rd"
            refine d_ixT (Same.sqt s6 y1) (atI_nat gv) ?_
            walk_at "rd"
            refine ⟨au, _, rfl, Same.sqt s6 qu, (show ¬ (HT.sIx 3 0 none = 0 ∧ HT.sIx 3 3 (some 2) = 3) by decide), fun p7 f7 => ?_⟩
            rw [show cutV [V.int (u.1 : Nat), V.int (u.2.1 : Nat), V.str (sg u.2.2)] none (some 2) = [V.int (u.1 : Nat), V.int (u.2.1 : Nat)] from rfl]
            have s7 := same_new (o := .tup [V.int (u.1 : Nat), V.int (u.2.1 : Nat)]) f7
            walk_at "rd"
            refine ⟨sz (by show 1 ≤ 100000; decide), fun p8 f8 => ?_⟩
            have s8 := same_new (o := .tup [V.str (Str.ofString "q")]) f8
            refine d_catA (SqT.of (s8 _ _ upd_same)) (SqT.of upd_same) (sz (by show 2 + 1 ≤ 100000; decide)) fun H9 p9 s9 q9 => ?_
            walk_at "rd"
            refine ⟨sz (by show 1 ≤ 100000; decide), fun pa fa => ?_⟩
            have sa := same_new (o := .tup [V.ref p9]) fa
            have s6a := Same.trans s7 (Same.trans s8 (Same.trans s9 sa))
            refine d_catA (SqT.of (s6a _ _ upd_same)) (SqT.of upd_same) (by rw [List.length_take]; exact sz (by have l6 : ts.length ≤ 1600 := x3.most; show min j tv.length + 1 ≤ 100000; omega)) fun Hb pb sb qb => ?_
            walk_at "rd"
            have sB := Same.trans s6 (Same.trans s6a sb)
            refine d_dropT (n := j + 1) (Same.sqt sB y1) (by omega) (by omega) fun pc fc => ?_
            have sc := same_new (o := .tup (tv.drop (j + 1))) fc
            refine d_catA (Same.sqt sc qb) (SqT.of upd_same) (by rw [List.length_append, List.length_take, List.length_drop]; exact sz (by have l6 : ts.length ≤ 1600 := x3.most; show min j tv.length + 1 + (tv.length - (j + 1)) ≤ 100000; omega)) fun Hd pd sd qd => ?_
            walk_at "rd"
            have sA := Same.trans sB (Same.trans sc sd)
            have mid : TieAt K Hd (.ref p9) (u.1, u.2.1, 113) := ⟨p9, rfl, Same.sqt (Same.trans sa (Same.trans sb (Same.trans sc sd))) q9⟩
            refine ⟨pd, _, rfl, _, ts.take j ++ [(u.1, u.2.1, 113)] ++ ts.drop (j + 1), qd, paired_app (paired_app (paired_take j (Paired.imp y2 fun _ _ z => z.same sA)) (.cons mid .nil)) (paired_drop (j + 1) (Paired.imp y2 fun _ _ z => z.same sA)), x3.kind hu ⟨by decide, by decide⟩, Keep.trans x4 (Keep.trans (Same.keep s4) (Keep.same k5 sA)), hh5.same sA⟩
          · walk_at "rd"
            exact ⟨t, _, rfl, tv, ts, Same.sqt s4 x1, Paired.imp x2 fun _ _ z => z.same s4, x3, Keep.same x4 s4, x5.same s4⟩
        · walk_at "rd"
          exact ⟨t, _, rfl, I4⟩
      · obtain ⟨t, y5, rfl, I5⟩ := hP
        clear I4
        refine d_cut (fun σ H' => ∃ (cs : List Nat) (y5 : Option V), σ = [some (.ref h), some (.ref a), some (.str ⟨cs.toArray⟩), some (.ref t), some (.int way), y5] ∧ NearI K h H H' cs t) ?_ (fun σ H' hP => ?_)
        · walk_at "rd"
          refine ite2 (fun c => ?_) (fun c => ?_)
          · walk_at "rd"
            refine ⟨rfl, ?_⟩
            walk_at "rd"
            refine ite2 (fun c => ?_) (fun c => ?_)
            · have c0 : 0 < w'.1.length := by
                rcases Nat.eq_zero_or_pos w'.1.length with z | z
                · rw [List.eq_nil_of_length_eq_zero z] at c
                  exact absurd c (by decide +kernel)
                · exact z
              walk_at "rd"
              obtain ⟨tv, ts, x1, x2, x3, x4, x5⟩ := I5
              have f40 : w'.1.length ≤ 40 := x3.few
              refine ⟨h, rfl, x5, fun H5 g5 k5 hh5 => ?_⟩
              walk_at "rd"
              refine ⟨sz (by rw [str_len]; omega), ?_⟩
              rw [str_len]
              refine ⟨_, _, rfl, rfl, by omega, ?_⟩
              have m0 := mod_lo g5 (show 0 < (w'.1.length : Int) by omega)
              have m1 := mod_hi g5 (show 0 < (w'.1.length : Int) by omega)
              dsimp only
              generalize g5 % (w'.1.length : Int) = m at m0 m1 ⊢
              obtain ⟨j, rfl⟩ := Int.eq_ofNat_of_zero_le m0
              have hj : j < w'.1.length := by omega
              walk_at "rd"
              refine ⟨_, rfl, sz (by rw [str_len]; omega), ?_⟩
              rw [str_take _ _ (by omega)]
              walk_at "rd"
              have g0 := List.getElem?_eq_getElem c0
              refine ⟨⟨w'.1.toArray⟩, _, w'.1[0], rfl, rfl, sz (by rw [str_len]; omega), by show atI w'.1.toArray.toList ((0 : Nat) : Int) = _; exact atI_nat (by simp [g0]), ?_⟩
              refine ⟨_, _, rfl, rfl, ?_, ?_⟩
              · rw [str_len, List.length_take]
                show _ + 1 ≤ _
                exact sz (by omega)
              rw [show (⟨#[w'.1[0]]⟩ : Str) = ⟨[w'.1[0]].toArray⟩ from rfl, str_app]
              walk_at "rd"
              refine ⟨_, rfl, sz (by rw [str_len]; omega), ?_⟩
              rw [show ((j : Nat) : Int) + 1 = ((j + 1 : Nat) : Int) from rfl, str_drop _ _ (by omega)]
              refine ⟨_, _, rfl, rfl, ?_, ?_⟩
              · rw [str_len, str_len, List.length_append, List.length_take, List.length_drop]
                show _ + 1 + _ ≤ _
                exact sz (by omega)
              rw [str_app]
              walk_at "rd"
              obtain ⟨_, e5, _⟩ := id x5
              refine ⟨_, _, rfl, tv, ts, k5.sqt e5 x1, Paired.imp x2 fun _ _ z => z.keep k5 e5, x3.letters ?_ (fun c hc => ?_), Keep.trans x4 k5, hh5⟩
              · rw [List.length_append, List.length_append, List.length_take, List.length_drop]
                show _ + 1 + _ = _
                omega
              · rcases List.mem_append.mp hc with hc | hc
                · rcases List.mem_append.mp hc with hc | hc
                  · exact x3.kinds c (List.mem_of_mem_take hc)
                  · rw [List.mem_singleton.mp hc]
                    exact x3.kinds _ (List.getElem_mem _)
                · exact x3.kinds c (List.mem_of_mem_drop hc)
            · walk_at "rd"
              exact ⟨_, _, rfl, I5⟩
          · walk_at "rd"
            exact ⟨_, _, rfl, I5⟩
        · obtain ⟨cs, y5, rfl, tv, ts, x1, x2, x3, x4, x5⟩ := hP
          walk_at "rd"
          refine ⟨sz (by show 2 ≤ 100000; decide), fun p1 f1 => ?_⟩
          exact q _ _ (cs, ts) (Keep.new x4 (Keep.free x4 (x5.ne f1) f1)) (x5.put (x5.ne f1)) ⟨p1, t, tv, rfl, SqT.of upd_same, sqt_upd (.inl f1) x1, Paired.imp x2 fun _ _ z => z.put (.inl f1)⟩ x3
def spTwo (K : PySem.W.Frag) : Sp := fun vs H Q _ => ∃ (h : Addr) (n : Int), vs = [.ref h, .int n] ∧ 0 ≤ n ∧ n ≤ 40 ∧ Purse H h ∧ ∀ H' p v w v' w', Keep h H H' → Purse H' h → SqT K H' p [v, v'] → WebAt K H' v w → WOk w → WebAt K H' v' w' → WOk w' → Q (.ref p) H'
theorem ok_two (T : Tx K mg) : FnOk P w K mg base CX0 4 T.two.f T.two.fd ["purse", "most"] (spTwo K) := by
  refine T.two.F.ok sc_two (fun vs H Q E h => ?_) (fun cdv A outer s H vs Q E hr h => ?_)
  · obtain ⟨_, _, rfl, _⟩ := h; rfl
  · obtain ⟨h, n, rfl, n0, n1, hh, q⟩ := h
    refine ⟨_, (pss_cons (ps_set (i := 2) sc_two.nd rfl (.inr rfl) (pe_call (ok_web T) (hr.mono (by decide)) (by rfl) T.web.g T.web.F.kp T.web.b .nil pass0 (pa_cons (pv 0) (pa_cons pe_int (pa_cons (pv 1) pa_nil)))))
      (pss_cons (ps_if (pt_cmpR op_eq (pe_op op_mod (pe_call (ok_next T) (hr.mono (by decide)) (by rfl) T.next.g T.next.F.kp T.next.b .nil pass0 (pa_cons (pv 0) pa_nil)) pe_int) pe_int (nomark _))
        (pss_one (ps_ret (pe_tup (pa_cons (pv 2) (pa_cons (pe_call (ok_near T) (hr.mono (by decide)) (by rfl) T.near.g T.near.F.kp T.near.b .nil pass0 (pa_cons (pv 0) (pa_cons (pv 2) pa_nil))) pa_nil)))))
        pss_nil)
      (pss_cons (ps_set (i := 3) sc_two.nd rfl (.inl rfl) (pe_call (ok_web T) (hr.mono (by decide)) (by rfl) T.web.g T.web.F.kp T.web.b .nil pass0 (pa_cons (pv 0) (pa_cons pe_int (pa_cons (pv 1) pa_nil)))))
      (pss_cons (ps_if (pt_cmpR op_eq (pe_op op_mod (pe_call (ok_next T) (hr.mono (by decide)) (by rfl) T.next.g T.next.F.kp T.next.b .nil pass0 (pa_cons (pv 0) pa_nil)) pe_int) pe_int (nomark _))
        (pss_one (ps_set (i := 3) sc_two.nd rfl (.inl rfl) (pe_tup (pa_cons (pe_join pe_str (pe_lc (own := [("kind", 4)]) (g := gName 4) (tt := tYes) (te := tOp rIxS (tOp _ (tOp (rIxT K) (tVar 2) (tC (.int 0))) _) (tOp _ (tCall spNext [] E0 (tCons (tVar 0) tNil)) (tOp _ (tCB _ (tCons (tOp (rIxT K) (tVar 2) (tC (.int 0))) tNil)) _))) rfl sc_two.nd (pi_str (pe_ix ix_tup (pv 3) pe_int (fun _ _ => rfl))) (blkOk_by (N := ["purse", "most", "one", "other", "kind"]) (sc := defScope s_two) (by decide +kernel)) (fun _ _ _ _ _ => (pg_name (i := 4) sc_two.nd rfl (.inl rfl))) (fun _ _ _ _ _ => pts_nil) (fun _ _ _ _ _ => (pe_ix ix_str (pe_op op_add_str (pe_ix ix_tup (pv 2) pe_int (fun _ _ => rfl)) pe_str) (pe_op op_mod (pe_call (ok_next T) (hr.mono (by decide)) (by rfl) T.next.g T.next.F.kp T.next.b .nil pass0 (pa_cons (pv 0) pa_nil)) (pe_op op_add (pe_callB call_len_str (by rfl) T.m_len (by decide +kernel) (pa_cons (pe_ix ix_tup (pv 2) pe_int (fun _ _ => rfl)) pa_nil)) pe_int)) (fun _ _ => rfl))))) (pa_cons (pe_ix ix_tup (pv 3) pe_int (fun _ _ => rfl)) pa_nil)))))
        pss_nil)
      (pss_one (ps_ret (pe_tup (pa_cons (pv 2) (pa_cons (pv 3) pa_nil))))))))), ?_⟩
    walk_at "rd"
    refine ⟨h, 0, n, rfl, by decide, n0, n1, hh, fun H1 v1 w1 k1 hh1 hw1 W1 => ?_⟩
    obtain ⟨_, e0, _⟩ := id hh
    obtain ⟨_, e1, _⟩ := id hh1
    walk_at "rd"
    refine ⟨h, rfl, hh1, fun H2 g2 k2 hh2 => ?_⟩
    obtain ⟨_, e2, _⟩ := id hh2
    have hw2 := hw1.keep k2 e1
    walk_at "rd"
    refine ite2 (fun c => ?_) (fun c => ?_)
    · walk_at "rd"
      refine ⟨h, v1, w1, rfl, hh2, hw2, W1, fun H3 v3 w3 k3 hh3 hw3 W3 => ?_⟩
      walk_at "rd"
      refine ⟨sz (by show 2 ≤ 100000; decide), fun p fp => ?_⟩
      exact q _ p v1 w1 v3 w3 (Keep.same (Keep.trans k1 (Keep.trans k2 k3)) (same_new fp)) (hh3.put (hh3.ne fp)) (SqT.of upd_same) ((hw2.keep k3 e2).put (.inl fp)) W1 (hw3.put (.inl fp)) W3
    · walk_at "rd"
      refine ⟨h, 0, n, rfl, by decide, n0, n1, hh2, fun H3 v3 w3 k3 hh3 hw3 W3 => ?_⟩
      obtain ⟨_, e3, _⟩ := id hh3
      walk_at "rd"
      refine ⟨h, rfl, hh3, fun H4 g4 k4 hh4 => ?_⟩
      have hw4 := (hw2.keep k3 e2).keep k4 e3
      have hv4 := hw3.keep k4 e3
      have k04 := Keep.trans k1 (Keep.trans k2 (Keep.trans k3 k4))
      walk_at "rd"
      refine ite2 (fun c => ?_) (fun c => ?_)
      · obtain ⟨a, b, tvs, rfl, q1, q2, pT⟩ := id hw4
        obtain ⟨a3, b3, uvs, rfl, r1, r2, pU⟩ := id hv4
        have l1 := W1.few
        have l3 := W3.few
        obtain ⟨_, e4, _⟩ := id hh4
        walk_at "rd"
        refine d_ixT r1 rfl ?_
        walk_at "rd"
        intro D fD
        have nD := hh4.ne fD
        have sz3 : (⟨w3.1.toArray⟩ : Str).cps.size = w3.1.length := by show w3.1.toArray.size = _; simp
        refine lc_it (walk_str (z := ⟨w3.1.toArray⟩)) (fun i H' => ∃ cs : List Nat, cs.length = i ∧ (∀ c ∈ cs, Ltr c) ∧ H' D = some (.lst (cs.map fun c => V.str (sg c))) ∧ Keep h H4 H' ∧ Purse H' h) ⟨[], rfl, by simp, upd_same, Same.keep (same_new fD), hh4.put nD⟩ (fun _ _ _ _ => trivial) (fun i x H5 H' hi hP hy => ?_) (fun H' hP => ?_)
        · obtain ⟨cs, hlen, hl, eD, kk, hh'⟩ := hP
          obtain ⟨rfl, c0, _, rfl⟩ := hy
          rw [sz3] at hi
          walk_at "rd"
          refine d_ixT (kk.sqt e4 q1) rfl ?_
          walk_at "rd"
          refine ⟨_, _, rfl, rfl, by rw [str_len]; exact sz (by show _ + 1 ≤ _; omega), ?_⟩
          rw [show (Str.ofString "a" : Str) = ⟨[97].toArray⟩ from rfl, str_app]
          walk_at "rd"
          refine ⟨h, rfl, hh', fun H6 g6 k6 hh6 => ?_⟩
          obtain ⟨_, e', _⟩ := id hh'
          walk_at "rd"
          refine d_ixT (k6.sqt e' (kk.sqt e4 q1)) rfl ?_
          refine d_lenS (z := ⟨w1.1.toArray⟩) (sz (by rw [str_len]; omega)) ?_
          rw [str_len]
          walk_at "rd"
          refine ⟨_, _, rfl, rfl, by omega, ?_⟩
          have m0 := mod_lo g6 (show 0 < (w1.1.length : Int) + 1 by omega)
          have m1 := mod_hi g6 (show 0 < (w1.1.length : Int) + 1 by omega)
          dsimp only
          generalize g6 % ((w1.1.length : Int) + 1) = m at m0 m1 ⊢
          obtain ⟨j, rfl⟩ := Int.eq_ofNat_of_zero_le m0
          have hj : j < (w1.1 ++ [97]).length := by rw [List.length_append]; show j < _ + 1; omega
          have gj := List.getElem?_eq_getElem hj
          refine ⟨_, _, (w1.1 ++ [97])[j], rfl, rfl, sz (by rw [str_len, List.length_append]; show _ + 1 ≤ _; omega), atI_nat (by show (w1.1 ++ [97]).toArray.toList[j]? = _; rw [List.toList_toArray]; exact gj), ?_⟩
          refine ⟨_, k6 D _ nD eD, szl (by rw [List.length_map]; omega), cs ++ [_], by rw [List.length_append, hlen]; rfl, ?_, by rw [upd_same, List.map_append]; rfl, Keep.new (Keep.trans kk k6) fD, hh6.put nD⟩
          intro x hx
          rcases List.mem_append.mp hx with hx | hx
          · exact hl x hx
          · rw [List.mem_singleton.mp hx]
            have lm : ∀ c ∈ w1.1 ++ [97], Ltr c := fun c hc => by
              rcases List.mem_append.mp hc with hc | hc
              · exact W1.kinds c hc
              · rw [List.mem_singleton.mp hc]; exact ⟨by decide, by decide⟩
            exact lm _ (List.getElem_mem hj)
        obtain ⟨cs, hlen, hl, eD, kk, hh'⟩ := hP
        rw [sz3] at hlen
        refine ⟨_, D, cs.map sg, rfl, rfl, .inl (SqL.of (by rw [List.map_map]; exact eD)), ?_, ?_⟩
        · rw [sum_const _ 1 _ (by intro x hx; obtain ⟨c, _, rfl⟩ := List.mem_map.mp hx; rfl), List.length_map]
          have e0 : (Str.ofString "").length = 0 := by decide +kernel
          rw [e0]; omega
        rw [join_signs]
        walk_at "rd"
        refine d_ixT (kk.sqt e4 r1) rfl ?_
        walk_at "rd"
        refine ⟨sz (by show 2 ≤ 100000; decide), fun p5 f5 => ?_⟩
        walk_at "rd"
        refine ⟨sz (by show 2 ≤ 100000; decide), fun p6 f6 => ?_⟩
        have s5 := same_new (o := .tup [V.str ⟨cs.toArray⟩, V.ref b3]) f5
        have s6 := same_new (o := .tup [V.ref a, V.ref p5]) f6
        have sA := Same.trans s5 s6
        refine q _ p6 _ w1 (.ref p5) (cs, w3.2) (Keep.same (Keep.trans k04 kk) sA) (hh'.same sA) (SqT.of upd_same) ((hw4.keep kk e4).same sA) W1 ⟨p5, b3, uvs, rfl, SqT.of (s6 _ _ upd_same), Same.sqt sA (kk.sqt e4 r2), Paired.imp pU fun _ _ z => (z.keep kk e4).same sA⟩ (W3.letters hlen hl)
      · walk_at "rd"
        refine ⟨sz (by show 2 ≤ 100000; decide), fun p fp => ?_⟩
        exact q _ p v1 w1 v3 w3 (Keep.same k04 (same_new fp)) (hh4.put (hh4.ne fp)) (SqT.of upd_same) (hw4.put (.inl fp)) W1 (hv4.put (.inl fp)) W3
/-- tie by tie, by their ends in order -/
theorem find_take {ts : List Tie} {f : Tie → Bool} {i : Nat} {t : Tie} (h : ts[i]? = some t) (n : (ts.take i).find? f = none) (ht : f t = true) : ts.find? f = some t := by
  have e : ts = ts.take i ++ t :: ts.drop (i + 1) := by
    obtain ⟨hi, rfl⟩ := List.getElem?_eq_some_iff.mp h
    exact (List.take_append_drop i ts).symm.trans (by rw [List.drop_eq_getElem_cons hi])
  rw [e, List.find?_append, n, Option.none_or, List.find?_cons_of_pos ht]
theorem sh2 (x y : Int) : SeqAt.shaped (.tuple [.int x, .int y]) = true := by simp [SeqAt.shaped, PyData.canLay0, PyData.canLayAll0, PyData.depth, PyData.depthAll]
/-- ties by their ends, while they are drawn -/
def GI (h d : Addr) (H3 : Hp) (N : Nat) (kvs : List (List Key × V)) (H' : Hp) : Prop := H' d = some (.dT kvs) ∧ Keep h H3 H' ∧ Purse H' h ∧ DictOk N kvs
theorem GI.new {h d p : Addr} {H3 H' : Hp} {N : Nat} {kvs : List (List Key × V)} {o : HO} (x : GI h d H3 N kvs H') (f : H' p = none) : GI h d H3 N kvs (upd H' p o) := by
  obtain ⟨e, k, hh, dk⟩ := x
  exact ⟨at_upd e f, Keep.new k (Keep.free k (hh.ne f) f), hh.put (hh.ne f), dk⟩
theorem GI.draw {h d : Addr} {H3 H' H'' : Hp} {N : Nat} {kvs : List (List Key × V)} (x : GI h d H3 N kvs H') (k' : Keep h H' H'') (hh' : Purse H'' h) : GI h d H3 N kvs H'' := by
  obtain ⟨e, k, ⟨_, eh, _⟩, dk⟩ := x
  exact ⟨k' d _ (ne_of e eh (by intro z; cases z)) e, Keep.trans k k', hh', dk⟩
theorem GI.set {h d : Addr} {H3 H' : Hp} {N : Nat} {kvs : List (List Key × V)} (x : GI h d H3 N kvs H') (f : H3 d = none) {kvs' : List (List Key × V)} (dk' : DictOk N kvs') : GI h d H3 N kvs' (upd H' d (.dT kvs')) := by
  obtain ⟨e, k, hh, dk⟩ := x
  obtain ⟨_, eh, _⟩ := id hh
  exact ⟨upd_same, Keep.new k f, hh.put (ne_of e eh (by intro z; cases z)), dk'⟩
def spGreat (K : PySem.W.Frag) : Sp := fun vs H Q _ => ∃ h : Addr, vs = [.ref h] ∧ Purse H h ∧ ∀ H' v w, Keep h H H' → Purse H' h → WebAt K H' v w → WOk w → Q v H'
theorem ok_great (T : Tx K mg) : FnOk P w K mg base CX0 2 T.great.f T.great.fd ["purse"] (spGreat K) := by
  refine T.great.F.ok sc_great (fun vs H Q E h => ?_) (fun cdv A outer s H vs Q E hr h => ?_)
  · obtain ⟨_, rfl, _⟩ := h; rfl
  · obtain ⟨h, rfl, hh, q⟩ := h
    refine ⟨_, (pss_cons (ps_set (i := 1) sc_great.nd rfl (.inr rfl) pe_str)
      (pss_cons (ps_set (i := 2) sc_great.nd rfl (.inl rfl) (pe_op op_add pe_int (pe_op op_mod (pe_call (ok_next T) (hr.mono (by decide)) (by rfl) T.next.g T.next.F.kp T.next.b .nil pass0 (pa_cons (pv 0) pa_nil)) pe_int)))
      (pss_cons (ps_set (i := 3) sc_great.nd rfl (.inr rfl) (pe_ix ix_list (pe_lst (pa_cons pe_int (pa_cons pe_int (pa_cons pe_int pa_nil)))) (pe_op op_mod (pe_call (ok_next T) (hr.mono (by decide)) (by rfl) T.next.g T.next.F.kp T.next.b .nil pass0 (pa_cons (pv 0) pa_nil)) pe_int) (fun _ _ => rfl)))
      (pss_cons (ps_set (i := 4) sc_great.nd rfl (.inl rfl) (pe_ix ix_list (pe_lst (pa_cons pe_int (pa_cons pe_int (pa_cons pe_int pa_nil)))) (pe_op op_mod (pe_call (ok_next T) (hr.mono (by decide)) (by rfl) T.next.g T.next.F.kp T.next.b .nil pass0 (pa_cons (pv 0) pa_nil)) pe_int) (fun _ _ => rfl)))
      (pss_cons (ps_set (i := 5) sc_great.nd rfl (.inl rfl) (pe_join pe_str (pe_lc (own := [("place", 8)]) (g := gName 8) (tt := tYes) rfl sc_great.nd (pi_range1 (by rfl) T.m_range (pa_cons (pv 2) pa_nil)) (blkOk_by (N := ["purse", "letters", "many", "wide", "sorts", "kinds", "found", "k", "place", "to", "one"]) (sc := defScope s_great) (by decide +kernel)) (fun _ _ _ _ _ => (pg_name (i := 8) sc_great.nd rfl (.inl rfl))) (fun _ _ _ _ _ => pts_nil) (fun _ _ _ _ _ => (pe_ix ix_str (pv 1) (pe_op op_mod (pe_call (ok_next T) (hr.mono (by decide)) (by rfl) T.next.g T.next.F.kp T.next.b .nil pass0 (pa_cons (pv 0) pa_nil)) (pv 3)) (fun _ _ => rfl))))))
      (pss_cons (ps_set (i := 6) sc_great.nd rfl (.inr rfl) pe_dnewT)
      (pss_cons (ps_for PassesOwn.never rfl (pi_range1 (by rfl) T.m_range (pa_cons (pe_ix ix_list (pe_lst (pa_cons pe_int (pa_cons pe_int (pa_cons pe_int (pa_cons pe_int pa_nil))))) (pe_op op_mod (pe_call (ok_next T) (hr.mono (by decide)) (by rfl) T.next.g T.next.F.kp T.next.b .nil pass0 (pa_cons (pv 0) pa_nil)) pe_int) (fun _ _ => rfl)) pa_nil)) (pg_name (i := 7) sc_great.nd rfl (.inl rfl))
        (pss_cons (ps_set (i := 8) sc_great.nd rfl (.inl rfl) (pe_op op_mod (pe_call (ok_next T) (hr.mono (by decide)) (by rfl) T.next.g T.next.F.kp T.next.b .nil pass0 (pa_cons (pv 0) pa_nil)) (pe_op op_sub (pv 2) pe_int)))
        (pss_cons (ps_set (i := 9) sc_great.nd rfl (.inl rfl) (pe_op op_add (pe_op op_add (pv 8) pe_int) (pe_op op_mod (pe_call (ok_next T) (hr.mono (by decide)) (by rfl) T.next.g T.next.F.kp T.next.b .nil pass0 (pa_cons (pv 0) pa_nil)) (pe_op op_sub (pe_op op_sub (pv 2) pe_int) (pv 8)))))
        (pss_one (ps_dput (hu_of hr) (pv 6) (pe_tup (pa_cons (pv 8) (pa_cons (pv 9) pa_nil))) (pe_ix ix_str (pv 1) (pe_op op_mod (pe_call (ok_next T) (hr.mono (by decide)) (by rfl) T.next.g T.next.F.kp T.next.b .nil pass0 (pa_cons (pv 0) pa_nil)) (pv 4)) (fun _ _ => rfl)) rfl)))))
      (pss_one (ps_ret (pe_tup (pa_cons (pv 5) (pa_cons (pe_callTy call_tuple_of (by rfl) T.m_tuple (by decide +kernel) (pa_cons (pe_lc (own := [("one", 10)]) (g := gName 10) (tt := tYes) (te := tOp (rCatA K) (tVar 10) (tTup (tCons (tDGet (tVar 6) (tVar 10)) tNil))) rfl sc_great.nd (pi_list (pe_callB (cr_sortedD rfl) (by rfl) T.m_sorted (by decide +kernel) (pa_cons (pv 6) pa_nil))) (blkOk_by (N := ["purse", "letters", "many", "wide", "sorts", "kinds", "found", "k", "place", "to", "one"]) (sc := defScope s_great) (by decide +kernel)) (fun _ _ _ _ _ => (pg_name (i := 10) sc_great.nd rfl (.inl rfl))) (fun _ _ _ _ _ => pts_nil) (fun _ _ _ _ _ => (pe_op op_catA (pv 10) (pe_tup (pa_cons (pe_dget (hu_of hr) (pv 6) (pv 10) (fun _ _ => rfl)) pa_nil))))) pa_nil)) pa_nil)))))))))))), ?_⟩
    walk_at "rd"
    refine ⟨h, rfl, hh, fun H1 g1 k1 hh1 => ?_⟩
    walk_at "rd"
    have a1 := mod_lo g1 (show 0 < (34 : Int) by decide)
    have b1 := mod_hi g1 (show 0 < (34 : Int) by decide)
    dsimp only
    generalize hn : 7 + g1 % 34 = n
    obtain ⟨N, rfl⟩ := Int.eq_ofNat_of_zero_le (show 0 ≤ n by omega)
    have N7 : 7 ≤ N := by omega
    have N40 : N ≤ 40 := by omega
    clear hn a1 b1
    refine ⟨sz (by decide), fun p2 f2 => ?_⟩
    walk_at "rd"
    refine ⟨h, rfl, hh1.put (hh1.ne f2), fun H2 g2 k2 hh2 => ?_⟩
    have e2 := k2 p2 _ (hh1.ne f2) upd_same
    walk_at "rd"
    obtain ⟨wd, ew, mw, w0, w1⟩ := one_of (ns := [1, 3, 26]) (B := 26) (by decide) (n := 3) rfl (mod_lo g2 (by decide)) (mod_hi g2 (by decide))
    have w0 : 0 < wd := by
      simp only [List.mem_cons, List.not_mem_nil, or_false] at mw
      omega
    refine d_ixLm e2 ew ?_
    walk_at "rd"
    refine ⟨sz (by decide), fun p3 f3 => ?_⟩
    walk_at "rd"
    refine ⟨h, rfl, hh2.put (hh2.ne f3), fun H3 g3 k3 hh3 => ?_⟩
    have e3 := k3 p3 _ (hh2.ne f3) upd_same
    walk_at "rd"
    obtain ⟨so, es, ms, s0, s1⟩ := one_of (ns := [1, 3, 26]) (B := 26) (by decide) (n := 3) rfl (mod_lo g3 (by decide)) (mod_hi g3 (by decide))
    have s0 : 0 < so := by
      simp only [List.mem_cons, List.not_mem_nil, or_false] at ms
      omega
    refine d_ixLm e3 es ?_
    have kA : Keep h H H3 := Keep.trans k1 (Keep.trans (Same.keep (same_new f2)) (Keep.trans k2 (Keep.trans (Same.keep (same_new f3)) k3)))
    walk_at "rd"
    intro C fC
    have nC := hh3.ne fC
    refine lc_range (fun i H' => ∃ cs : List Nat, cs.length = i ∧ (∀ c ∈ cs, Ltr c) ∧ H' C = some (.lst (cs.map fun c => V.str (sg c))) ∧ Keep h H3 H' ∧ Purse H' h) ⟨[], rfl, by simp, upd_same, Same.keep (same_new fC), hh3.put nC⟩ (fun i H' hi8 hP => ?_) (fun H' hP => ?_)
    · obtain ⟨cs, hlen, hl, eC, kk, hh'⟩ := hP
      walk_at "rd"
      refine ⟨h, rfl, hh', fun H4 g k4 hh4 => ?_⟩
      walk_at "rd"
      have m0 := mod_lo g w0
      have m1 := mod_hi g w0
      obtain ⟨c, ec, lc⟩ := abc_at m0 (by omega)
      refine ⟨abc, _, c, rfl, rfl, sz (by decide +kernel), ec, ?_⟩
      refine ⟨_, k4 C _ nC eC, szl (by rw [List.length_map]; omega), cs ++ [c], by rw [List.length_append, hlen]; rfl, ?_, by rw [upd_same, List.map_append]; rfl, Keep.new (Keep.trans kk k4) fC, hh4.put nC⟩
      intro x hx
      rcases List.mem_append.mp hx with hx | hx
      · exact hl x hx
      · rw [List.mem_singleton.mp hx]; exact lc
    obtain ⟨cs, hlen, hl, eC, kk, hh'⟩ := hP
    refine ⟨_, C, cs.map sg, rfl, rfl, .inl (SqL.of (by rw [List.map_map]; exact eC)), ?_, ?_⟩
    · rw [sum_const _ 1 _ (by intro x hx; obtain ⟨c, _, rfl⟩ := List.mem_map.mp hx; rfl), List.length_map]
      have e0 : (Str.ofString "").length = 0 := by decide +kernel
      rw [e0]; omega
    rw [join_signs]
    walk_at "rd"
    intro D fD
    walk_at "rd"
    have nD := hh'.ne fD
    have G0 : GI h D H' N [] (upd H' D (.dT [])) := ⟨upd_same, Same.keep (same_new fD), hh'.put nD, DictOk.nil _⟩
    generalize upd H' D (.dT []) = H4 at G0 ⊢
    refine ⟨sz (by decide), fun p5 f5 => ?_⟩
    walk_at "rd"
    have G1 := G0.new (o := .lst [V.int 0, V.int 12, V.int 60, V.int 200]) f5
    refine ⟨h, rfl, G1.2.2.1, fun H5 g5 k5 hh5 => ?_⟩
    have e5 := k5 p5 _ (G0.2.2.1.ne f5) upd_same
    walk_at "rd"
    obtain ⟨mn, em, _, m0, m1⟩ := one_of (ns := [0, 12, 60, 200]) (B := 200) (by decide) (n := 4) rfl (mod_lo g5 (by decide)) (mod_hi g5 (by decide))
    refine d_ixLm e5 em ?_
    have G2 := G1.draw k5 hh5
    clear G0 G1
    walk_at "rd"
    refine for_range (fun i σ H6 => ∃ y7 y8 y9 y10 kvs, σ = [some (.ref h), some (.str abc), some (.int (N : Nat)), some (.int wd), some (.int so), some (.str ⟨cs.toArray⟩), some (.ref D), y7, y8, y9, y10] ∧ GI h D H' N kvs H6) ⟨_, _, _, _, _, rfl, G2⟩ (fun i σ H6 hi6 hP => ?_) (fun σ H6 hP => ?_)
    · obtain ⟨y7, y8, y9, y10, kvs, rfl, G⟩ := hP
      walk_at "rd"
      refine ⟨h, rfl, G.2.2.1, fun H7 g7 k7 hh7 => ?_⟩
      have G := G.draw k7 hh7
      walk_at "rd"
      refine ⟨_, _, rfl, rfl, by omega, ?_⟩
      have a0 := mod_lo g7 (show 0 < (N : Int) - 1 by omega)
      have a1 := mod_hi g7 (show 0 < (N : Int) - 1 by omega)
      dsimp only
      generalize g7 % ((N : Int) - 1) = pl at a0 a1 ⊢
      obtain ⟨pl, rfl⟩ := Int.eq_ofNat_of_zero_le a0
      walk_at "rd"
      refine ⟨h, rfl, G.2.2.1, fun H8 g8 k8 hh8 => ?_⟩
      have G := G.draw k8 hh8
      walk_at "rd"
      refine ⟨_, _, rfl, rfl, by omega, ?_⟩
      have b0 := mod_lo g8 (show 0 < (N : Int) - 1 - pl by omega)
      have b1 := mod_hi g8 (show 0 < (N : Int) - 1 - pl by omega)
      walk_at "rd"
      dsimp only
      generalize g8 % ((N : Int) - 1 - pl) = to at b0 b1 ⊢
      obtain ⟨tt, ett⟩ := Int.eq_ofNat_of_zero_le (show 0 ≤ (pl : Int) + 1 + to by omega)
      rw [ett]
      refine ⟨h, rfl, G.2.2.1, fun H9 g9 k9 hh9 => ?_⟩
      have G := G.draw k9 hh9
      walk_at "rd"
      have c0 := mod_lo g9 s0
      have c1 := mod_hi g9 s0
      obtain ⟨c, ec, lc⟩ := abc_at c0 (by omega)
      refine ⟨abc, _, c, rfl, rfl, sz (by decide +kernel), ec, ?_⟩
      walk_at "rd"
      refine ⟨sz (by show 2 ≤ 100000; decide), fun p fp => ?_⟩
      have ln := G.2.2.2.len N40
      refine ⟨D, _, rfl, DPut.t (k := kE pl tt) (at_upd G.1 fp) upd_same (szl (by omega)), ?_⟩
      exact ⟨_, _, _, _, _, rfl, (G.new fp).set fD (G.2.2.2.put (by omega) (by omega) lc)⟩
    · obtain ⟨y7, y8, y9, y10, kvs, rfl, G⟩ := hP
      walk_at "rd"
      refine ⟨D, kvs, rfl, G.1, G.2.2.2.pairs, fun es p pm he srt fp => ?_⟩
      have s7 := same_new (o := .lst (es.map fun e => V.ref e.1)) fp
      have ep := upd_same (H := H6) (a := p) (o := .lst (es.map fun e => V.ref e.1))
      generalize upd H6 p (.lst (es.map fun e => V.ref e.1)) = H7 at s7 ep ⊢
      walk_at "rd"
      refine d_iLe (SqL.of ep) ?_
      intro F fF
      have ln := G.2.2.2.len N40
      have les : es.length = kvs.length := by have := pm.length_eq; rwa [List.length_map, List.length_map] at this
      refine lc_list (K := K) (a := p) (xs := es.map fun e => V.ref e.1) (fun i H'' => ∃ gs : List (Addr × Tie), gs.length = i ∧ H'' F = some (.lst (gs.map fun g => V.ref g.1)) ∧ (∀ g ∈ gs, SqT K H'' g.1 (triV ((g.2.1 : Int), (g.2.2.1 : Int), g.2.2.2))) ∧
        (gs.map fun g => ((g.2.1 : Int), (g.2.2.1 : Int))) = (es.take i).map (·.2) ∧ (∀ g ∈ gs, g.2.1 < g.2.2.1 ∧ g.2.2.1 < N ∧ Ltr g.2.2.2) ∧ Same H7 H'')
        ⟨[], rfl, upd_same, by simp, rfl, by simp, same_new fF⟩ (fun i H'' _ hP => ?_) (fun i x H'' hx hP => ?_) (fun H'' hP => ?_)
      · obtain ⟨_, _, _, _, _, _, x⟩ := hP
        exact SqL.of (x _ _ ep)
      · obtain ⟨gs, lg, eF, tg, eg, bg, s8⟩ := hP
        rw [List.getElem?_map] at hx
        obtain ⟨e, he0, rfl⟩ := Option.map_eq_some_iff.mp hx
        have li := (List.getElem?_eq_some_iff.mp he0).1
        have km : kE e.2.1 e.2.2 ∈ kvs.map (·.1) := pm.mem_iff.mp (List.mem_map.mpr ⟨e, List.mem_of_getElem? he0, rfl⟩)
        obtain ⟨c, d, t, ek, ev, h1, h2, h3⟩ := valV_mem' G.2.2.2 km
        obtain ⟨z1, z2⟩ := kE_inj ek
        have s68 := Same.trans s7 s8
        have et := s68 _ _ (he e (List.mem_of_getElem? he0))
        walk_at "rd"
        refine ⟨D, _, rfl, (by rw [← ev]; exact DGet.t (s68 _ _ G.1) et), ?_⟩
        walk_at "rd"
        refine ⟨sz (by show 1 ≤ 100000; decide), fun p9 f9 => ?_⟩
        have s9 := same_new (o := .tup [V.str (sg t)]) f9
        refine d_catA (SqT.of (s9 _ _ et)) (SqT.of upd_same) (sz (by show 2 + 1 ≤ 100000; decide)) fun Ha pa sa qa_ => ?_
        have s8a := Same.trans s9 sa
        have lstF : ∃ ys, Ha F = some (.lst ys) := ⟨_, s8a _ _ eF⟩
        rw [z1, z2] at qa_
        refine ⟨_, s8a _ _ eF, szl (by rw [List.length_map]; omega), gs ++ [(pa, c, d, t)], by rw [List.length_append, lg]; rfl, by rw [upd_same, List.map_append]; rfl, fun x hx => ?_, ?_, fun x hx => ?_, same_upd (Same.trans s8 s8a) fF⟩
        · refine sqt_upd (.inr lstF) ?_
          rcases List.mem_append.mp hx with hx | hx
          · exact Same.sqt s8a (tg x hx)
          · rw [List.mem_singleton.mp hx]; exact qa_
        · rw [take_snoc he0, List.map_append, List.map_append, eg]
          show _ ++ [((c : Int), (d : Int))] = _ ++ [e.2]
          rw [← z1, ← z2]
        · rcases List.mem_append.mp hx with hx | hx
          · exact bg x hx
          · rw [List.mem_singleton.mp hx]; exact ⟨h1, h2, h3⟩
      obtain ⟨gs, lg, eF, tg, eg, bg, s8⟩ := hP
      rw [List.length_map] at lg eg
      rw [List.take_length] at eg
      walk_at "rd"
      refine ⟨F, _, rfl, .inl ⟨SqL.of eF, fun R fR => ?_⟩⟩
      walk_at "rd"
      refine ⟨sz (by show 2 ≤ 100000; decide), fun A' fA => ?_⟩
      have sf : Same H'' (upd (upd H'' R (.tup (gs.map fun g => V.ref g.1))) A' (.tup [V.str ⟨cs.toArray⟩, V.ref R])) := Same.trans (same_new fR) (same_new fA)
      have sA := Same.trans s7 (Same.trans s8 sf)
      have go : ∀ l : List (Addr × Tie), (∀ e ∈ l, e ∈ gs) → Paired (TieAt K (upd (upd H'' R (.tup (gs.map fun g => V.ref g.1))) A' (.tup [V.str ⟨cs.toArray⟩, V.ref R]))) (l.map fun e => V.ref e.1) (l.map (·.2)) := by
        intro l
        induction l with
        | nil => intro _; exact .nil
        | cons x l ih =>
          intro hl
          exact .cons ⟨x.1, rfl, Same.sqt sf (tg x (hl x List.mem_cons_self))⟩ (ih fun e he => hl e (List.mem_cons_of_mem _ he))
      have nd : (es.map fun e => kE e.2.1 e.2.2).Nodup := pm.nodup_iff.mpr G.2.2.2.1
      have lcs : cs.length = N := by omega
      refine q _ _ (cs, gs.map (·.2)) (Keep.same (Keep.trans kA (Keep.trans kk G.2.1)) sA) (G.2.2.1.same sA) ⟨A', R, _, rfl, SqT.of upd_same, SqT.of (at_upd upd_same fA), go gs fun _ h => h⟩
        ⟨by show cs.length ≤ 40; omega, by show (gs.map (·.2)).length ≤ 1600; rw [List.length_map]; omega, hl, rise_keys (es := es) (by rw [List.map_map]; exact eg) nd srt, fun t ht => ?_⟩
      obtain ⟨g, hg, rfl⟩ := List.mem_map.mp ht
      have z := bg g hg
      exact ⟨z.1, by show g.2.2.1 < cs.length; rw [lcs]; exact z.2.1, z.2.2⟩
def spGreatTwo (K : PySem.W.Frag) : Sp := fun vs H Q _ => ∃ h : Addr, vs = [.ref h] ∧ Purse H h ∧ ∀ H' p v w v' w', Keep h H H' → Purse H' h → SqT K H' p [v, v'] → WebAt K H' v w → WOk w → WebAt K H' v' w' → WOk w' → Q (.ref p) H'
theorem ok_great_two (T : Tx K mg) : FnOk P w K mg base CX0 4 T.great_two.f T.great_two.fd ["purse"] (spGreatTwo K) := by
  refine T.great_two.F.ok sc_great_two (fun vs H Q E h => ?_) (fun cdv A outer s H vs Q E hr h => ?_)
  · obtain ⟨_, rfl, _⟩ := h; rfl
  · obtain ⟨h, rfl, hh, q⟩ := h
    refine ⟨_, (pss_cons (ps_set (i := 1) sc_great_two.nd rfl (.inl rfl) (pe_call (ok_great T) (hr.mono (by decide)) (by rfl) T.great.g T.great.F.kp T.great.b .nil pass0 (pa_cons (pv 0) pa_nil)))
      (pss_cons (ps_set (i := 2) sc_great_two.nd rfl (.inl rfl) (pe_op op_mod (pe_call (ok_next T) (hr.mono (by decide)) (by rfl) T.next.g T.next.F.kp T.next.b .nil pass0 (pa_cons (pv 0) pa_nil)) pe_int))
      (pss_cons (ps_if (pt_cmpR op_eq (pv 2) pe_int (nomark _))
        (pss_one (ps_ret (pe_tup (pa_cons (pv 1) (pa_cons (pe_call (ok_great T) (hr.mono (by decide)) (by rfl) T.great.g T.great.F.kp T.great.b .nil pass0 (pa_cons (pv 0) pa_nil)) pa_nil)))))
        pss_nil)
      (pss_cons (ps_if (pt_cmpR op_eq (pv 2) pe_int (nomark _))
        (pss_one (ps_ret (pe_tup (pa_cons (pv 1) (pa_cons (pe_call (ok_web T) (hr.mono (by decide)) (by rfl) T.web.g T.web.F.kp T.web.b .nil pass0 (pa_cons (pv 0) (pa_cons pe_int (pa_cons pe_int pa_nil)))) pa_nil)))))
        pss_nil)
      (pss_one (ps_ret (pe_tup (pa_cons (pv 1) (pa_cons (pe_call (ok_near T) (hr.mono (by decide)) (by rfl) T.near.g T.near.F.kp T.near.b .nil pass0 (pa_cons (pv 0) (pa_cons (pv 1) pa_nil))) pa_nil))))))))), ?_⟩
    walk_at "rd"
    refine ⟨h, rfl, hh, fun H1 v1 w1 k1 hh1 hw1 W1 => ?_⟩
    obtain ⟨_, e1, _⟩ := id hh1
    walk_at "rd"
    refine ⟨h, rfl, hh1, fun H2 g2 k2 hh2 => ?_⟩
    obtain ⟨_, e2, _⟩ := id hh2
    have hw2 := hw1.keep k2 e1
    have k02 := Keep.trans k1 k2
    have fin : ∀ H3 v3 w3, Keep h H2 H3 → Purse H3 h → WebAt K H3 v3 w3 → WOk w3 → ∀ p, H3 p = none → Q (.ref p) (upd H3 p (.tup [v1, v3])) := fun H3 v3 w3 k3 hh3 hw3 W3 p fp =>
      q _ p v1 w1 v3 w3 (Keep.same (Keep.trans k02 k3) (same_new fp)) (hh3.put (hh3.ne fp)) (SqT.of upd_same) ((hw2.keep k3 e2).put (.inl fp)) W1 (hw3.put (.inl fp)) W3
    walk_at "rd"
    refine ite2 (fun c => ?_) (fun c => ?_)
    · walk_at "rd"
      refine ⟨h, rfl, hh2, fun H3 v3 w3 k3 hh3 hw3 W3 => ?_⟩
      walk_at "rd"
      exact ⟨sz (by show 2 ≤ 100000; decide), fin H3 v3 w3 k3 hh3 hw3 W3⟩
    · walk_at "rd"
      refine ite2 (fun c => ?_) (fun c => ?_)
      · walk_at "rd"
        refine ⟨h, 1, 6, rfl, by decide, by decide, by decide, hh2, fun H3 v3 w3 k3 hh3 hw3 W3 => ?_⟩
        walk_at "rd"
        exact ⟨sz (by show 2 ≤ 100000; decide), fin H3 v3 w3 k3 hh3 hw3 W3⟩
      · walk_at "rd"
        refine ⟨h, v1, w1, rfl, hh2, hw2, W1, fun H3 v3 w3 k3 hh3 hw3 W3 => ?_⟩
        walk_at "rd"
        exact ⟨sz (by show 2 ≤ 100000; decide), fin H3 v3 w3 k3 hh3 hw3 W3⟩
def spPairs (K : PySem.W.Frag) : Sp := fun vs H Q _ => ∃ v w v' w', vs = [v, v'] ∧ WebAt K H v w ∧ WOk w ∧ WebAt K H v' w' ∧ WOk w' ∧ ∀ H' L pvs, Same H H' → H L = none → H' L = some (.lst pvs) → Pairs K H' pvs (pairsL w w') → Q (.ref L) H'
theorem ok_pairs (T : Tx K mg) : FnOk P w K mg base CX0 1 T.pairs.f T.pairs.fd ["one", "other"] (spPairs K) := by
  refine T.pairs.F.ok sc_pairs (fun vs H Q E h => ?_) (fun cdv A outer s H vs Q E hr h => ?_)
  · obtain ⟨_, _, _, _, rfl, _⟩ := h; rfl
  · obtain ⟨v, w, v', w', rfl, ⟨a, b, tvs, rfl, q1, q2, pT⟩, W, ⟨a', b', uvs, rfl, r1, r2, pU⟩, W', q⟩ := h
    have l40 := W.few
    have m40 := W'.few
    have zs1 : (⟨w.1.toArray⟩ : Str).cps.size = w.1.length := by show w.1.toArray.size = _; simp
    have zs2 : (⟨w'.1.toArray⟩ : Str).cps.size = w'.1.length := by show w'.1.toArray.size = _; simp
    refine ⟨_, (pss_cons (ps_set (i := 2) sc_pairs.nd rfl (.inl rfl) (pe_lst pa_nil))
      (pss_cons (ps_for PassesOwn.never rfl (pi_enumS (by rfl) T.m_enumerate (pa_cons (pe_ix ix_tup (pv 0) pe_int (fun _ _ => rfl)) pa_nil)) (pg_tup rfl (pgs_cons (pg_name (i := 3) sc_pairs.nd rfl (.inl rfl)) (pgs_cons (pg_name (i := 4) sc_pairs.nd rfl (.inl rfl)) pgs_nil)))
        (pss_one (ps_for PassesOwn.never rfl (pi_enumS (by rfl) T.m_enumerate (pa_cons (pe_ix ix_tup (pv 1) pe_int (fun _ _ => rfl)) pa_nil)) (pg_tup rfl (pgs_cons (pg_name (i := 5) sc_pairs.nd rfl (.inl rfl)) (pgs_cons (pg_name (i := 6) sc_pairs.nd rfl (.inl rfl)) pgs_nil)))
          (pss_one (ps_if (pt_cmpR op_eq (pv 4) (pv 6) (nomark _))
            (pss_one (ps_expr (pe_bm PySem.F.plainAttrs_list PySem.F.slot_list_append PySem.F.type_list_append mt_append (pv 2) (pa_cons (pe_tup (pa_cons (pv 3) (pa_cons (pv 5) pa_nil))) pa_nil))))
            pss_nil)))))
      (pss_one (ps_ret (pv 2))))), ?_⟩
    walk_at "rd"
    refine ⟨sz (by decide), fun L fL => ?_⟩
    have s1 := same_new (o := .lst []) fL
    walk_at "rd"
    refine d_ixT (Same.sqt s1 q1) rfl ?_
    walk_at "rd"
    refine for_it (walk_enumS (z := ⟨w.1.toArray⟩)) (fun i σ H3 => ∃ y3 y4 y5 y6 pvs, σ = [some (.ref a), some (.ref a'), some (.ref L), y3, y4, y5, y6] ∧ H3 L = some (.lst pvs) ∧ Pairs K H3 pvs (preL w w' i) ∧ Same H H3)
      ⟨_, _, _, _, [], rfl, upd_same, .nil, s1⟩ (fun _ _ _ _ _ => trivial) (fun i x σ H3 H3' hi hP hy => ?_) (fun σ H3 hP => ?_)
    · obtain ⟨y3, y4, y5, y6, pvs, rfl, eL, pP, s3⟩ := hP
      obtain ⟨T', x', y', rfl, fT, rfl, ex, ey⟩ := hy
      have hi' : i < w.1.length := by rw [← zs1]; exact hi
      have ex' : x' = V.int (i : Nat) := (Option.some.inj ex).symm
      subst ex'
      have ey' : y' = V.str (sg w.1[i]) := by
        have z : (w.1.toArray[i]?).map (fun c => V.str (⟨#[c]⟩ : Str)) = some y' := ey
        rw [List.getElem?_toArray, List.getElem?_eq_getElem hi'] at z
        exact (Option.some.inj z).symm
      subst ey'
      refine d_gtupm upd_same rfl ?_
      have s4 := Same.trans s3 (same_new (o := .tup [V.int (i : Nat), V.str (sg w.1[i])]) fT)
      have eL4 := at_upd (u := .tup [V.int (i : Nat), V.str (sg w.1[i])]) eL fT
      have pP4 : Pairs K (upd H3 T' (.tup [V.int (i : Nat), V.str (sg w.1[i])])) pvs (preL w w' i) := pP.put (.inl fT)
      generalize upd H3 T' (.tup [V.int (i : Nat), V.str (sg w.1[i])]) = H4 at s4 eL4 pP4 ⊢
      walk_at "rd"
      refine d_ixT (Same.sqt s4 r1) rfl ?_
      walk_at "rd"
      refine for_it (walk_enumS (z := ⟨w'.1.toArray⟩)) (fun j σ H5 => ∃ y5 y6 pvs, σ = [some (.ref a), some (.ref a'), some (.ref L), some (.int (i : Nat)), some (.str (sg w.1[i])), y5, y6] ∧ H5 L = some (.lst pvs) ∧ Pairs K H5 pvs (preL w w' i ++ rowL w w' i j) ∧ Same H H5)
        ⟨_, _, pvs, rfl, eL4, by rw [show rowL w w' i 0 = [] from rfl, List.append_nil]; exact pP4, s4⟩ (fun _ _ _ _ _ => trivial) (fun j x σ H5 H5' hj hP hy => ?_) (fun σ H5 hP => ?_)
      · obtain ⟨y5, y6, pvs, rfl, eL5, pP5, s5⟩ := hP
        obtain ⟨T2, x2, y2, rfl, fT2, rfl, ex2, ey2⟩ := hy
        have hj' : j < w'.1.length := by rw [← zs2]; exact hj
        have ex2' : x2 = V.int (j : Nat) := (Option.some.inj ex2).symm
        subst ex2'
        have ey2' : y2 = V.str (sg w'.1[j]) := by
          have z : (w'.1.toArray[j]?).map (fun c => V.str (⟨#[c]⟩ : Str)) = some y2 := ey2
          rw [List.getElem?_toArray, List.getElem?_eq_getElem hj'] at z
          exact (Option.some.inj z).symm
        subst ey2'
        refine d_gtupm upd_same rfl ?_
        have s6 := Same.trans s5 (same_new (o := .tup [V.int (j : Nat), V.str (sg w'.1[j])]) fT2)
        have eL6 := at_upd (u := .tup [V.int (j : Nat), V.str (sg w'.1[j])]) eL5 fT2
        have pP6 : Pairs K (upd H5 T2 (.tup [V.int (j : Nat), V.str (sg w'.1[j])])) pvs (preL w w' i ++ rowL w w' i j) := pP5.put (.inl fT2)
        generalize upd H5 T2 (.tup [V.int (j : Nat), V.str (sg w'.1[j])]) = H6 at s6 eL6 pP6 ⊢
        walk_at "rd"
        refine ⟨rfl, ?_⟩
        have lk : w.1[i]? = w'.1[j]? ↔ w.1[i] = w'.1[j] := by
          rw [List.getElem?_eq_getElem hi', List.getElem?_eq_getElem hj', Option.some.injEq]
        have lp := pP6.len
        have lr := rowL_len w w' i j
        have lq := preL_len W' i (w := w)
        walk_at "rd"
        refine ite2 (fun c => ?_) (fun c => ?_)
        · have c' : w.1[i]? = w'.1[j]? := lk.mpr (sg_inj.mp (V.str.inj (of_decide_eq_true c)))
          walk_at "rd"
          refine d_app eL6 ?_
          walk_at "rd"
          refine ⟨sz (by show 2 ≤ 100000; decide), fun p fp => ?_⟩
          walk_at "rd"
          rw [List.length_append] at lp
          refine d_append (at_upd eL6 fp) (szl (by omega)) ?_
          refine ⟨_, _, _, rfl, upd_same, ?_, same_upd (same_upd s6 (Same.free s6 fp)) fL⟩
          rw [rowL_succ, if_pos c', ← List.append_assoc]
          exact pP6.more eL6 fp
        · have c' : ¬ w.1[i]? = w'.1[j]? := fun z => c (decide_eq_true (by rw [lk.mp z]))
          walk_at "rd"
          refine ⟨_, _, _, rfl, eL6, ?_, s6⟩
          rw [rowL_succ, if_neg c', List.append_nil]
          exact pP6
      · obtain ⟨y5, y6, pvs, rfl, eL5, pP5, s5⟩ := hP
        rw [zs2] at pP5
        exact ⟨_, _, _, _, pvs, rfl, eL5, by rw [preL_succ]; exact pP5, s5⟩
    · obtain ⟨y3, y4, y5, y6, pvs, rfl, eL, pP, s3⟩ := hP
      rw [zs1] at pP
      walk_at "rd"
      exact q H3 L pvs s3 fL eL pP
/-- a place's kind -/
theorem d_kindAt {H : Hp} {QB : VK} {w : Web} {n : Nat} (W : WOk w) (hn : n < w.1.length) (q : QB (.str (sg w.1[n])) H) : rIxS (.str ⟨w.1.toArray⟩) (.int (n : Nat)) H QB := by
  have g := List.getElem?_eq_getElem hn
  have l := W.few
  exact ⟨_, _, w.1[n], rfl, rfl, sz (by rw [str_len]; omega), atI_nat (by show w.1.toArray.toList[n]? = _; simp [g]), q⟩
/-- all pairs of like kinds, place by place -/
theorem ok_due (T : Tx K mg) : FnOk P w K mg base CX0 1 T.due.f T.due.fd ["one", "other"] (spPairs K) := by
  refine T.due.F.ok sc_due (fun vs H Q E h => ?_) (fun cdv A outer s H vs Q E hr h => ?_)
  · obtain ⟨_, _, _, _, rfl, _⟩ := h; rfl
  · obtain ⟨v, w, v', w', rfl, ⟨a, b, tvs, rfl, q1, q2, pT⟩, W, ⟨a', b', uvs, rfl, r1, r2, pU⟩, W', q⟩ := h
    have l40 := W.few
    have m40 := W'.few
    refine ⟨_, (pss_cons (ps_set (i := 2) sc_due.nd rfl (.inl rfl) (pe_lst pa_nil))
      (pss_cons (ps_for PassesOwn.never rfl (pi_range1 (by rfl) T.m_range (pa_cons (pe_callB call_len_str (by rfl) T.m_len (by decide +kernel) (pa_cons (pe_ix ix_tup (pv 0) pe_int (fun _ _ => rfl)) pa_nil)) pa_nil)) (pg_name (i := 3) sc_due.nd rfl (.inl rfl))
        (pss_one (ps_for PassesOwn.never rfl (pi_range1 (by rfl) T.m_range (pa_cons (pe_callB call_len_str (by rfl) T.m_len (by decide +kernel) (pa_cons (pe_ix ix_tup (pv 1) pe_int (fun _ _ => rfl)) pa_nil)) pa_nil)) (pg_name (i := 4) sc_due.nd rfl (.inl rfl))
          (pss_one (ps_if (pt_cmpR op_eq (pe_ix ix_str (pe_ix ix_tup (pv 0) pe_int (fun _ _ => rfl)) (pv 3) (fun _ _ => rfl)) (pe_ix ix_str (pe_ix ix_tup (pv 1) pe_int (fun _ _ => rfl)) (pv 4) (fun _ _ => rfl)) (nomark _))
            (pss_one (ps_expr (pe_bm PySem.F.plainAttrs_list PySem.F.slot_list_append PySem.F.type_list_append mt_append (pv 2) (pa_cons (pe_tup (pa_cons (pv 3) (pa_cons (pv 4) pa_nil))) pa_nil))))
            pss_nil)))))
      (pss_one (ps_ret (pv 2))))), ?_⟩
    walk_at "rd"
    refine ⟨sz (by decide), fun L fL => ?_⟩
    have s1 := same_new (o := .lst []) fL
    walk_at "rd"
    refine d_ixT (Same.sqt s1 q1) rfl ?_
    refine d_lenS (z := ⟨w.1.toArray⟩) (sz (by rw [str_len]; omega)) ?_
    rw [str_len]
    walk_at "rd"
    refine for_range (fun i σ H3 => ∃ y3 y4 pvs, σ = [some (.ref a), some (.ref a'), some (.ref L), y3, y4] ∧ H3 L = some (.lst pvs) ∧ Pairs K H3 pvs (preL w w' i) ∧ Same H H3)
      ⟨_, _, [], rfl, upd_same, .nil, s1⟩ (fun i σ H3 hi hP => ?_) (fun σ H3 hP => ?_)
    · obtain ⟨y3, y4, pvs, rfl, eL, pP, s3⟩ := hP
      have hi' : i < w.1.length := by omega
      rw [show (0 : Int) + (i : Nat) = ((i : Nat) : Int) from Int.zero_add _]
      walk_at "rd"
      refine d_ixT (Same.sqt s3 r1) rfl ?_
      refine d_lenS (z := ⟨w'.1.toArray⟩) (sz (by rw [str_len]; omega)) ?_
      rw [str_len]
      walk_at "rd"
      refine for_range (fun j σ H5 => ∃ y4 pvs, σ = [some (.ref a), some (.ref a'), some (.ref L), some (.int (i : Nat)), y4] ∧ H5 L = some (.lst pvs) ∧ Pairs K H5 pvs (preL w w' i ++ rowL w w' i j) ∧ Same H H5)
        ⟨_, pvs, rfl, eL, by rw [show rowL w w' i 0 = [] from rfl, List.append_nil]; exact pP, s3⟩ (fun j σ H5 hj hP => ?_) (fun σ H5 hP => ?_)
      · obtain ⟨y4, pvs, rfl, eL5, pP5, s5⟩ := hP
        have hj' : j < w'.1.length := by omega
        rw [show (0 : Int) + (j : Nat) = ((j : Nat) : Int) from Int.zero_add _]
        walk_at "rd"
        refine d_ixT (Same.sqt s5 q1) rfl ?_
        walk_at "rd"
        refine d_kindAt W hi' ?_
        walk_at "rd"
        refine d_ixT (Same.sqt s5 r1) rfl ?_
        walk_at "rd"
        refine d_kindAt W' hj' ?_
        refine ⟨rfl, ?_⟩
        have lk : w.1[i]? = w'.1[j]? ↔ w.1[i] = w'.1[j] := by
          rw [List.getElem?_eq_getElem hi', List.getElem?_eq_getElem hj', Option.some.injEq]
        have lp := pP5.len
        have lr := rowL_len w w' i j
        have lq := preL_len W' i (w := w)
        walk_at "rd"
        refine ite2 (fun c => ?_) (fun c => ?_)
        · have c' : w.1[i]? = w'.1[j]? := lk.mpr (sg_inj.mp (V.str.inj (of_decide_eq_true c)))
          walk_at "rd"
          refine d_app eL5 ?_
          walk_at "rd"
          refine ⟨sz (by show 2 ≤ 100000; decide), fun p fp => ?_⟩
          walk_at "rd"
          rw [List.length_append] at lp
          refine d_append (at_upd eL5 fp) (szl (by omega)) ?_
          refine ⟨_, _, rfl, upd_same, ?_, same_upd (same_upd s5 (Same.free s5 fp)) fL⟩
          rw [rowL_succ, if_pos c', ← List.append_assoc]
          exact pP5.more eL5 fp
        · have c' : ¬ w.1[i]? = w'.1[j]? := fun z => c (decide_eq_true (by rw [lk.mp z]))
          walk_at "rd"
          refine ⟨_, _, rfl, eL5, ?_, s5⟩
          rw [rowL_succ, if_neg c', List.append_nil]
          exact pP5
      · obtain ⟨y4, pvs, rfl, eL5, pP5, s5⟩ := hP
        rw [show ((w'.1.length : Nat) : Int).toNat = w'.1.length by omega] at pP5
        exact ⟨_, _, pvs, rfl, eL5, by rw [preL_succ]; exact pP5, s5⟩
    · obtain ⟨y3, y4, pvs, rfl, eL, pP, s3⟩ := hP
      rw [show ((w.1.length : Nat) : Int).toNat = w.1.length by omega] at pP
      walk_at "rd"
      exact q H3 L pvs s3 fL eL pP
theorem gu66 {A : Around} {k : Nat} (hr : Room k A) : A.units + 66 < cLine := by have := hr.un; omega
theorem web_of2 {H : Hp} {a c : Addr} {x : Str} {ks : List Nat} (hx : x = ⟨ks.toArray⟩) (q1 : SqT K H a [.str x, .ref c]) (q2 : SqT K H c []) : WebAt K H (.ref a) (ks, []) := ⟨a, c, [], rfl, hx ▸ q1, q2, .nil⟩
theorem wok_ab : WOk ([97, 98], []) := ⟨by decide, by decide, by intro c hc; simp at hc; unfold Ltr; omega, .nil, by simp⟩
/-- told lists, held two by two -/
def HP (K : PySem.W.Frag) (H : Hp) (hd : Addr) (v : V) (ld : Lead) : Prop := ∃ r L D pv qv, v = .ref r ∧ SqT K H r [.ref L, .ref D] ∧ L ≠ hd ∧ D ≠ hd ∧ H L = some (.lst pv) ∧ Pairs K H pv ld ∧ H D = some (.lst qv) ∧ Pairs K H qv ld
theorem HP.same {H H' : Hp} {hd : Addr} {v : V} {ld : Lead} (x : HP K H hd v ld) (s : Same H H') : HP K H' hd v ld := by
  obtain ⟨r, L, D, pv, qv, e, q, n1, n2, e1, p1, e2, p2⟩ := x
  exact ⟨r, L, D, pv, qv, e, Same.sqt s q, n1, n2, s _ _ e1, p1.same s, s _ _ e2, p2.same s⟩
theorem HP.put {H : Hp} {hd : Addr} {v : V} {ld : Lead} {hs ys : List V} (x : HP K H hd v ld) (e : H hd = some (.lst hs)) : HP K (upd H hd (.lst ys)) hd v ld := by
  obtain ⟨r, L, D, pv, qv, e0, q, n1, n2, e1, p1, e2, p2⟩ := x
  exact ⟨r, L, D, pv, qv, e0, sqt_upd (.inr ⟨_, e⟩) q, n1, n2, by rw [upd_ne n1]; exact e1, p1.put (.inr ⟨_, e⟩), by rw [upd_ne n2]; exact e2, p2.put (.inr ⟨_, e⟩)⟩
theorem near41 {w w' : Web} (W : WOk w) (W' : WOk w') : (∀ p ∈ pairsL w w', p.1 < 41 ∧ p.2 < 41) ∧ (pairsL w w').length ≤ 2000 := by
  have a := W.few
  have b := W'.few
  refine ⟨fun p hp => ?_, Nat.le_trans (preL_len W' _) (by omega)⟩
  have := mem_pairsL.mp hp
  omega
theorem ok_law (T : Tx K mg) : FnAt P w K mg base callerA T.law.f T.law.fd ["script"] (spLawT K []) := by
  have hg : callerA.guards = some [] := rfl
  refine fun_at (k := 5) T.law.F sc_law ⟨rfl, by decide, by decide⟩ (fun vs H Q E h => ?_) (fun cdv outer s H vs Q E hr h => ?_)
  · obtain ⟨_, _, rfl, _⟩ := h; rfl
  · obtain ⟨a, ns, rfl, hS, hl, _, q⟩ := h
    refine ⟨_, (pss_cons (ps_set (i := 1) sc_law.nd rfl (.inl rfl) (pe_lst pa_nil))
      (pss_cons (ps_for PassesOwn.never rfl (pi_range1 (by rfl) T.m_range (pa_cons pe_int pa_nil)) (pg_name (i := 2) sc_law.nd rfl (.inl rfl))
        (pss_cons (ps_set (i := 3) sc_law.nd rfl (.inl rfl) (pe_call (ok_purse T) (hr.mono (by decide)) (by rfl) T.purse.g T.purse.F.kp T.purse.b .nil pass0 (pa_cons (pv 0) (pa_cons (pv 2) (pa_cons pe_int (pa_cons pe_int pa_nil))))))
        (pss_cons (ps_asg (pe_call (ok_two T) (hr.mono (by decide)) (by rfl) T.two.g T.two.F.kp T.two.b .nil pass0 (pa_cons (pv 3) (pa_cons pe_int pa_nil))) (pg_tup rfl (pgs_cons (pg_name (i := 4) sc_law.nd rfl (.inl rfl)) (pgs_cons (pg_name (i := 5) sc_law.nd rfl (.inl rfl)) pgs_nil))))
        (Evl.pss_cut (ps_if (pt_cmpR op_eq (pe_op op_mod (pe_call (ok_next T) (hr.mono (by decide)) (by rfl) T.next.g T.next.F.kp T.next.b .nil pass0 (pa_cons (pv 3) pa_nil)) pe_int) pe_int (nomark _))
          (pss_one (ps_asg (pe_call (ok_great_two T) (hr.mono (by decide)) (by rfl) T.great_two.g T.great_two.F.kp T.great_two.b .nil pass0 (pa_cons (pv 3) pa_nil)) (pg_tup rfl (pgs_cons (pg_name (i := 4) sc_law.nd rfl (.inl rfl)) (pgs_cons (pg_name (i := 5) sc_law.nd rfl (.inl rfl)) pgs_nil)))))
          pss_nil)
        (pss_cons (ps_set (i := 6) sc_law.nd rfl (.inl rfl) (pe_call (ok_due T) (hr.mono (by decide)) (by rfl) T.due.g T.due.F.kp T.due.b .nil pass0 (pa_cons (pv 4) (pa_cons (pv 5) pa_nil))))
        (pss_cons (ps_set (i := 7) sc_law.nd rfl (.inl rfl) (pe_call (ok_pairs T) (hr.mono (by decide)) (by rfl) T.pairs.g T.pairs.F.kp T.pairs.b .nil pass0 (pa_cons (pv 4) (pa_cons (pv 5) pa_nil))))
        (pss_cons (ps_if (PW.pt (pw_or (pt_not (pt_val (pe_callB call_isi (by rfl) T.m_isinstance (by decide +kernel) (pa_cons (pv 7) (pa_cons (pe_bltn (by rfl) T.m_list (by decide +kernel) (v := .ty "list") rfl) pa_nil))))) (pw_or1 (pt_cmpR op_ne (pe_callB (cr_repr hg (gu66 hr)) (by rfl) T.m_repr (by decide +kernel) (pa_cons (pv 7) pa_nil)) (pe_callB (cr_repr hg (gu66 hr)) (by rfl) T.m_repr (by decide +kernel) (pa_cons (pv 6) pa_nil)) (nomark _)))))
          (pss_one (ps_ret pe_bl))
          pss_nil)
        (pss_cons (ps_expr (pe_bm PySem.F.plainAttrs_list PySem.F.slot_list_append PySem.F.type_list_append mt_append (pv 1) (pa_cons (pe_tup (pa_cons (pv 7) (pa_cons (pe_callTy call_list_of (by rfl) T.m_list (by decide +kernel) (pa_cons (pv 6) pa_nil)) pa_nil))) pa_nil)))
        (pss_cons (ps_set (i := 8) sc_law.nd rfl (.inl rfl) (pe_call (ok_pairs T) (hr.mono (by decide)) (by rfl) T.pairs.g T.pairs.F.kp T.pairs.b .nil pass0 (pa_cons (pv 4) (pa_cons (pv 5) pa_nil))))
        (pss_cons (ps_expr (pe_bm PySem.F.plainAttrs_list PySem.F.slot_list_append PySem.F.type_list_append mt_append (pv 8) (pa_cons (pe_tup (pa_cons pe_int (pa_cons pe_int pa_nil))) pa_nil)))
        (pss_one (ps_if (pt_cmpR op_ne (pe_callB (cr_repr hg (gu66 hr)) (by rfl) T.m_repr (by decide +kernel) (pa_cons (pe_call (ok_pairs T) (hr.mono (by decide)) (by rfl) T.pairs.g T.pairs.F.kp T.pairs.b .nil pass0 (pa_cons (pv 4) (pa_cons (pv 5) pa_nil))) pa_nil)) (pe_callB (cr_repr hg (gu66 hr)) (by rfl) T.m_repr (by decide +kernel) (pa_cons (pv 6) pa_nil)) (nomark _))
          (pss_one (ps_ret pe_bl))
          pss_nil))))))))))))
      (pss_one (ps_ret (pe_and (pe_cmpR (op_eqD (hr.units)) (pe_lc (own := [("one", 4)]) (g := gName 4) (tt := tTest (tOp (rNeD K) (tOp (rIxT K) (tVar 4) (tC (.int 0))) (tOp (rIxT K) (tVar 4) (tC (.int 1))))) rfl sc_law.nd (pi_list (pv 1)) (blkOk_by (N := ["script", "held", "k", "purse", "one", "other", "due", "found", "again"]) (sc := defScope s_law) (by decide +kernel)) (fun _ _ _ _ _ => (pg_name (i := 4) sc_law.nd rfl (.inl rfl))) (fun _ _ _ _ _ => pts_one (pt_cmpR (op_neD (hr.units)) (pe_ix ix_tup (pv 4) pe_int (fun _ _ => rfl)) (pe_ix ix_tup (pv 4) pe_int (fun _ _ => rfl)) (nomark _))) (fun _ _ _ _ _ => (pv 4))) (pe_lst pa_nil) (nomark _)) (pe_one (pe_cmpR (op_eqD (hr.units)) (pe_call (ok_pairs T) (hr.mono (by decide)) (by rfl) T.pairs.g T.pairs.F.kp T.pairs.b .nil pass0 (pa_cons (pe_tup (pa_cons pe_str (pa_cons (pe_tup pa_nil) pa_nil))) (pa_cons (pe_tup (pa_cons pe_str (pa_cons (pe_tup pa_nil) pa_nil))) pa_nil))) (pe_lst pa_nil) (nomark _)))))))), ?_⟩
    walk_at "rd"
    refine ⟨sz (by decide), fun hd fh => ?_⟩
    have s0 := same_new (o := .lst []) fh
    walk_at "rd"
    refine for_range (fun i σ H0 => ∃ y2 y3 y4 y5 y6 y7 y8 hs lds, σ = [some (.ref a), some (.ref hd), y2, y3, y4, y5, y6, y7, y8] ∧ Keep hd H H0 ∧ H0 hd = some (.lst hs) ∧ hs.length ≤ i ∧ Paired (HP K H0 hd) hs lds) ⟨_, _, _, _, _, _, _, [], [], rfl, Keep.new (o := .lst []) (Same.keep (Same.refl _)) fh, upd_same, by simp, .nil⟩ (fun i σ H0 hi hP => ?_) (fun σ H0 hP => ?_)
    · obtain ⟨y2, y3, y4, y5, y6, y7, y8, hs, lds, rfl, k0, eh, lh, pH⟩ := hP
      walk_at "rd"
      refine ⟨a, ns, _, 3, 1500, rfl, Keep.seqN k0 fh hS, hl, by decide, by decide, by decide, fun H1 p s1 fp hh => ?_⟩
      walk_at "rd"
      refine ⟨p, 6, rfl, by decide, by decide, hh, fun H2 p2 v w v' w' k2 hh2 qp hw W hw' W' => ?_⟩
      refine d_gtup qp rfl ?_
      walk_at "rd"
      refine d_cut (fun σ H' => ∃ v w v' w' y6 y7 y8, σ = [some (.ref a), some (.ref hd), some (.int (0 + (i : Nat))), some (.ref p), some v, some v', y6, y7, y8] ∧ Keep p H1 H' ∧ WebAt K H' v w ∧ WOk w ∧ WebAt K H' v' w' ∧ WOk w') ?_ (fun σ H' hM => ?_)
      · walk_at "rd"
        refine ⟨p, rfl, hh2, fun H3 g3 k3 hh3 => ?_⟩
        obtain ⟨_, e2, _⟩ := id hh2
        walk_at "rd"
        refine ite2 (fun c => ?_) (fun c => ?_)
        · walk_at "rd"
          refine ⟨p, rfl, hh3, fun H4 p4 v4 w4 v4' w4' k4 hh4 qp4 hw4 W4 hw4' W4' => ?_⟩
          refine d_gtup qp4 rfl ?_
          walk_at "rd"
          exact ⟨_, _, _, _, _, _, _, rfl, Keep.trans k2 (Keep.trans k3 k4), hw4, W4, hw4', W4'⟩
        · walk_at "rd"
          exact ⟨_, _, _, _, _, _, _, rfl, Keep.trans k2 k3, hw.keep k3 e2, W, hw'.keep k3 e2, W'⟩
      · obtain ⟨v, w, v', w', y6, y7, y8, rfl, k3, hw, W, hw', W'⟩ := hM
        have s3 : Same H0 H' := Keep.out s1 k3 fp
        clear k3 qp hh2 k2 hh s1
        obtain ⟨nr, nl⟩ := near41 W W'
        walk_at "rd"
        refine ⟨_, _, _, _, rfl, hw, W, hw', W', fun H4 D dv s4 fD eD pD => ?_⟩
        walk_at "rd"
        refine ⟨_, _, _, _, rfl, hw.same s4, W, hw'.same s4, W', fun H5 L lv s5 fL eL pL => ?_⟩
        walk_at "rd"
        refine ⟨V.ref L, V.ty "list", .type "list", .type "list", true, rfl, by first | rfl | constructor, .base (.lst eL), by first | rfl | decide, ?_⟩
        walk_at "rd"
        refine d_reprP eL pL nr nl ?_
        walk_at "rd"
        refine d_reprP (s5 _ _ eD) (pD.same s5) nr nl ?_
        walk_at "rd"
        refine ⟨rfl, ?_⟩
        walk_at "rd"
        refine iteNS rfl ?_
        walk_at "rd"
        have eh5 : H5 hd = some (.lst hs) := s5 _ _ (s4 _ _ (s3 _ _ eh))
        have nL : L ≠ hd := (ne_of_none (s4 _ _ (s3 _ _ eh)) fL).symm
        refine d_app eh5 ?_
        walk_at "rd"
        refine ⟨D, dv, rfl, .inl (SqL.of (s5 _ _ eD)), fun M fM => ?_⟩
        have s6 := same_new (o := .lst dv) fM
        have eM := upd_same (H := H5) (a := M) (o := .lst dv)
        have nM : M ≠ hd := (ne_of_none eh5 fM).symm
        generalize upd H5 M (.lst dv) = H6 at s6 eM ⊢
        walk_at "rd"
        refine ⟨sz (by show 2 ≤ 100000; decide), fun r fr => ?_⟩
        have s7 := same_new (o := .tup [V.ref L, V.ref M]) fr
        have er := upd_same (H := H6) (a := r) (o := .tup [V.ref L, V.ref M])
        generalize upd H6 r (.tup [V.ref L, V.ref M]) = H7 at s7 er ⊢
        have s07 : Same H0 H7 := Same.trans s3 (Same.trans s4 (Same.trans s5 (Same.trans s6 s7)))
        have s57 : Same H5 H7 := Same.trans s6 s7
        have eh7 : H7 hd = some (.lst hs) := s57 _ _ eh5
        walk_at "rd"
        refine d_append eh7 (szl (by omega)) ?_
        have hp : HP K H7 hd (.ref r) (pairsL w w') := ⟨r, L, M, lv, dv, rfl, SqT.of er, nL, nM, s57 _ _ eL, pL.same s57, s7 _ _ eM, pD.same (Same.trans s5 s57)⟩
        have pH7 := Paired.snoc (Paired.imp pH fun _ _ z => z.same s07) hp
        have pH8 := Paired.imp pH7 fun _ _ z => z.put (ys := hs ++ [V.ref r]) eh7
        have k08 : Keep hd H (upd H7 hd (.lst (hs ++ [V.ref r]))) := Keep.self (Keep.same k0 s07)
        have eh8 := upd_same (H := H7) (a := hd) (o := .lst (hs ++ [V.ref r]))
        have hw8 : WebAt K (upd H7 hd (.lst (hs ++ [V.ref r]))) v w := (hw.same (Same.trans s4 (Same.trans s5 s57))).put (.inr ⟨_, eh7⟩)
        have hw8' : WebAt K (upd H7 hd (.lst (hs ++ [V.ref r]))) v' w' := (hw'.same (Same.trans s4 (Same.trans s5 s57))).put (.inr ⟨_, eh7⟩)
        have nD : D ≠ hd := (ne_of_none (s3 _ _ eh) fD).symm
        have eD8 : (upd H7 hd (.lst (hs ++ [V.ref r]))) D = some (.lst dv) := by rw [upd_ne nD]; exact Same.trans s5 s57 _ _ eD
        have pD8 : Pairs K (upd H7 hd (.lst (hs ++ [V.ref r]))) dv (pairsL w w') := (pD.same (Same.trans s5 s57)).put (.inr ⟨_, eh7⟩)
        generalize upd H7 hd (.lst (hs ++ [V.ref r])) = H8 at k08 eh8 hw8 hw8' eD8 pD8 pH8 ⊢
        walk_at "rd"
        refine ⟨_, _, _, _, rfl, hw8, W, hw8', W', fun H9 B bv s9 fB eB pB => ?_⟩
        walk_at "rd"
        refine d_app eB ?_
        walk_at "rd"
        refine ⟨sz (by show 2 ≤ 100000; decide), fun z fz => ?_⟩
        walk_at "rd"
        have lbv := pB.len
        refine d_append (at_upd eB fz) (szl (by omega)) ?_
        have s10 : Same H8 (upd (upd H9 z (.tup [V.int 0, V.int 0])) B (.lst (bv ++ [V.ref z]))) := same_upd (same_upd s9 (Same.free s9 fz)) fB
        generalize upd (upd H9 z (.tup [V.int 0, V.int 0])) B (.lst (bv ++ [V.ref z])) = H10 at s10 ⊢
        walk_at "rd"
        refine ⟨_, _, _, _, rfl, hw8.same s10, W, hw8'.same s10, W', fun H11 C cv s11 fC eC pC => ?_⟩
        walk_at "rd"
        refine d_reprP eC pC nr nl ?_
        walk_at "rd"
        have sA := Same.trans s10 s11
        refine d_reprP (sA _ _ eD8) (pD8.same sA) nr nl ?_
        refine ⟨rfl, ?_⟩
        walk_at "rd"
        refine iteNS rfl ?_
        walk_at "rd"
        exact ⟨_, _, _, _, _, _, _, _, _, rfl, Keep.same k08 sA, sA _ _ eh8, by rw [List.length_append]; show hs.length + 1 ≤ i + 1; omega, Paired.imp pH8 fun _ _ z => z.same sA⟩
    · obtain ⟨y2, y3, y4, y5, y6, y7, y8, hs, lds, rfl, k0, eh, lh, pH⟩ := hP
      walk_at "rd"
      refine d_iLe (SqL.of eh) ?_
      intro D fD
      refine lc_list (K := K) (a := hd) (xs := hs) (fun k H3 => H3 D = some (.lst []) ∧ Same H0 H3) ⟨upd_same, same_new fD⟩ (fun k H3 _ hP => SqL.of (hP.2 _ _ eh)) (fun k x H3 hx hP => ?_) (fun H3 hP => ?_)
      · obtain ⟨e3, s3⟩ := hP
        obtain ⟨ld, _, hp⟩ := Paired.at pH hx
        obtain ⟨r, L, M, pv, qv, rfl, qr, _, _, eL, pL, eM, pM⟩ := hp.same s3
        walk_at "rd"
        refine d_ixT qr rfl ?_
        walk_at "rd"
        refine d_ixT qr rfl ?_
        refine ⟨_, _, pL.dp eL, pM.dp eM, pairsD_good _, pairsD_good _, ?_⟩
        rw [good_eqv (pairsD_good ld)]
        walk_at "rd"
        exact ⟨e3, s3⟩
      · obtain ⟨e3, s3⟩ := hP
        walk_at "rd"
        refine ⟨sz (by decide), fun p4 f4 => ?_⟩
        have s4 := same_new (o := .lst []) f4
        refine ⟨.list [], .list [], .lst (SqL.of (s4 _ _ e3)) .nil, .lst (SqL.of upd_same) .nil, by decide, by decide, ?_⟩
        rw [show PyData.eqv (.list []) (.list []) = true by decide]
        walk_at "rd"
        generalize upd H3 p4 (.lst []) = H4 at s4 ⊢
        refine ⟨sz (by decide), fun E1 f1 => ?_⟩
        walk_at "rd"
        refine ⟨sz (by show 2 ≤ 100000; decide), fun E2 f2 => ?_⟩
        have w1 : WebAt K (upd (upd H4 E1 (.tup [])) E2 (.tup [V.str (Str.ofString ""), V.ref E1])) (.ref E2) ([], []) := web_of2 rfl (SqT.of upd_same) (SqT.of (at_upd upd_same f2))
        generalize upd (upd H4 E1 (.tup [])) E2 (.tup [V.str (Str.ofString ""), V.ref E1]) = H5 at w1 ⊢
        walk_at "rd"
        refine ⟨sz (by decide), fun E3 f3 => ?_⟩
        walk_at "rd"
        refine ⟨sz (by show 2 ≤ 100000; decide), fun E4 f4 => ?_⟩
        have w2 : WebAt K (upd (upd H5 E3 (.tup [])) E4 (.tup [V.str (Str.ofString "ab"), V.ref E3])) (.ref E4) ([97, 98], []) := web_of2 rfl (SqT.of upd_same) (SqT.of (at_upd upd_same f4))
        have w1 := w1.same (Same.trans (same_new (o := .tup []) f3) (same_new (o := .tup [V.str (Str.ofString "ab"), V.ref E3]) f4))
        generalize upd (upd H5 E3 (.tup [])) E4 (.tup [V.str (Str.ofString "ab"), V.ref E3]) = H6 at w1 w2 ⊢
        walk_at "rd"
        refine ⟨_, ([], []), _, ([97, 98], []), rfl, w1, wok_nil, w2, wok_ab, fun H7 L pvs s7 fL eL pL => ?_⟩
        walk_at "rd"
        refine ⟨sz (by decide), fun p5 f5 => ?_⟩
        have s8 := same_new (o := .lst []) f5
        refine ⟨_, .list [], (pL.same s8).dp (s8 _ _ eL), .lst (SqL.of upd_same) .nil, by decide, by decide, ?_⟩
        rw [show PyData.eqv (pairsD (pairsL ([], []) ([97, 98], []))) (.list []) = true by decide]
        exact q _ fun _ z => nomatch z

end
theorem all_mk {l : PySem.W.OpenLaw} {w : World} {K : PySem.W.Frag} {h : Heap} {mg : Str → Option Value} {fa f_1 f_3 f_4 f_5 f_6 f_7 f_8 f_9 f_10 f_11 f_12 f_13 f_14 : Addr} (X : K.In h) (G : h.Ns mainGlobals mg) (hfa : mg "law" = some (.ref fa))
    {od1 an1 od3 an3 od4 an4 od5 an5 od6 an6 od7 an7 od8 an8 od9 an9 od10 an10 od11 an11 od12 an12 od13 an13 od14 an14 : Option Addr} {sl1 sl3 sl4 sl5 sl6 sl7 sl8 sl9 sl10 sl11 sl12 sl13 sl14 : Array (Option Value)} {oc1 kV1 dc1 pm1 cd1 ct1 oc3 kV3 dc3 pm3 cd3 ct3 oc4 kV4 dc4 pm4 cd4 ct4 oc5 kV5 dc5 pm5 cd5 ct5 oc6 kV6 dc6 pm6 cd6 ct6 oc7 kV7 dc7 pm7 cd7 ct7 oc8 kV8 dc8 pm8 cd8 ct8 oc9 kV9 dc9 pm9 cd9 ct9 oc10 kV10 dc10 pm10 cd10 ct10 oc11 kV11 dc11 pm11 cd11 ct11 oc12 kV12 dc12 pm12 cd12 ct12 oc13 kV13 dc13 pm13 cd13 ct13 oc14 kV14 dc14 pm14 cd14 ct14 : Value}
    (a1 : PySem.W.nsIn K mainGlobals "pairs" = some (some (.ref f_1))) (l1 : K.lookup f_1 = some ⟨oc1, od1, .func (PySem.W.fnOf "pairs" "pairs" (defArgs s_pairs) (defBody s_pairs) (defScope s_pairs) .none kV1 dc1 pm1 an1 cd1 ct1), sl1⟩) (c1 : PySem.W.codeIn K cd1 "pairs" = true) (k1 : PySem.W.keepIn K (.ref f_1) = true)
    (a3 : PySem.W.nsIn K mainGlobals "_law_mixed" = some (some (.ref f_3))) (l3 : K.lookup f_3 = some ⟨oc3, od3, .func (PySem.W.fnOf "_law_mixed" "_law_mixed" (defArgs s_mixed) (defBody s_mixed) (defScope s_mixed) .none kV3 dc3 pm3 an3 cd3 ct3), sl3⟩) (c3 : PySem.W.codeIn K cd3 "_law_mixed" = true) (k3 : PySem.W.keepIn K (.ref f_3) = true)
    (a4 : PySem.W.nsIn K mainGlobals "_law_purse" = some (some (.ref f_4))) (l4 : K.lookup f_4 = some ⟨oc4, od4, .func (PySem.W.fnOf "_law_purse" "_law_purse" (defArgs s_purse) (defBody s_purse) (defScope s_purse) .none kV4 dc4 pm4 an4 cd4 ct4), sl4⟩) (c4 : PySem.W.codeIn K cd4 "_law_purse" = true) (k4 : PySem.W.keepIn K (.ref f_4) = true)
    (a5 : PySem.W.nsIn K mainGlobals "_law_next" = some (some (.ref f_5))) (l5 : K.lookup f_5 = some ⟨oc5, od5, .func (PySem.W.fnOf "_law_next" "_law_next" (defArgs s_next) (defBody s_next) (defScope s_next) .none kV5 dc5 pm5 an5 cd5 ct5), sl5⟩) (c5 : PySem.W.codeIn K cd5 "_law_next" = true) (k5 : PySem.W.keepIn K (.ref f_5) = true)
    (a6 : PySem.W.nsIn K mainGlobals "_law_web" = some (some (.ref f_6))) (l6 : K.lookup f_6 = some ⟨oc6, od6, .func (PySem.W.fnOf "_law_web" "_law_web" (defArgs s_web) (defBody s_web) (defScope s_web) .none kV6 dc6 pm6 an6 cd6 ct6), sl6⟩) (c6 : PySem.W.codeIn K cd6 "_law_web" = true) (k6 : PySem.W.keepIn K (.ref f_6) = true)
    (a7 : PySem.W.nsIn K mainGlobals "_law_order" = some (some (.ref f_7))) (l7 : K.lookup f_7 = some ⟨oc7, od7, .func (PySem.W.fnOf "_law_order" "_law_order" (defArgs s_order) (defBody s_order) (defScope s_order) .none kV7 dc7 pm7 an7 cd7 ct7), sl7⟩) (c7 : PySem.W.codeIn K cd7 "_law_order" = true) (k7 : PySem.W.keepIn K (.ref f_7) = true)
    (a8 : PySem.W.nsIn K mainGlobals "_law_turned" = some (some (.ref f_8))) (l8 : K.lookup f_8 = some ⟨oc8, od8, .func (PySem.W.fnOf "_law_turned" "_law_turned" (defArgs s_turned) (defBody s_turned) (defScope s_turned) .none kV8 dc8 pm8 an8 cd8 ct8), sl8⟩) (c8 : PySem.W.codeIn K cd8 "_law_turned" = true) (k8 : PySem.W.keepIn K (.ref f_8) = true)
    (a9 : PySem.W.nsIn K mainGlobals "_law_near" = some (some (.ref f_9))) (l9 : K.lookup f_9 = some ⟨oc9, od9, .func (PySem.W.fnOf "_law_near" "_law_near" (defArgs s_near) (defBody s_near) (defScope s_near) .none kV9 dc9 pm9 an9 cd9 ct9), sl9⟩) (c9 : PySem.W.codeIn K cd9 "_law_near" = true) (k9 : PySem.W.keepIn K (.ref f_9) = true)
    (a10 : PySem.W.nsIn K mainGlobals "_law_two" = some (some (.ref f_10))) (l10 : K.lookup f_10 = some ⟨oc10, od10, .func (PySem.W.fnOf "_law_two" "_law_two" (defArgs s_two) (defBody s_two) (defScope s_two) .none kV10 dc10 pm10 an10 cd10 ct10), sl10⟩) (c10 : PySem.W.codeIn K cd10 "_law_two" = true) (k10 : PySem.W.keepIn K (.ref f_10) = true)
    (a11 : PySem.W.nsIn K mainGlobals "_law_great" = some (some (.ref f_11))) (l11 : K.lookup f_11 = some ⟨oc11, od11, .func (PySem.W.fnOf "_law_great" "_law_great" (defArgs s_great) (defBody s_great) (defScope s_great) .none kV11 dc11 pm11 an11 cd11 ct11), sl11⟩) (c11 : PySem.W.codeIn K cd11 "_law_great" = true) (k11 : PySem.W.keepIn K (.ref f_11) = true)
    (a12 : PySem.W.nsIn K mainGlobals "_law_great_two" = some (some (.ref f_12))) (l12 : K.lookup f_12 = some ⟨oc12, od12, .func (PySem.W.fnOf "_law_great_two" "_law_great_two" (defArgs s_great_two) (defBody s_great_two) (defScope s_great_two) .none kV12 dc12 pm12 an12 cd12 ct12), sl12⟩) (c12 : PySem.W.codeIn K cd12 "_law_great_two" = true) (k12 : PySem.W.keepIn K (.ref f_12) = true)
    (a13 : PySem.W.nsIn K mainGlobals "_law_due" = some (some (.ref f_13))) (l13 : K.lookup f_13 = some ⟨oc13, od13, .func (PySem.W.fnOf "_law_due" "_law_due" (defArgs s_due) (defBody s_due) (defScope s_due) .none kV13 dc13 pm13 an13 cd13 ct13), sl13⟩) (c13 : PySem.W.codeIn K cd13 "_law_due" = true) (k13 : PySem.W.keepIn K (.ref f_13) = true)
    (a14 : PySem.W.nsIn K mainGlobals "law" = some (some (.ref f_14))) (l14 : K.lookup f_14 = some ⟨oc14, od14, .func (PySem.W.fnOf "law" "law" (defArgs s_law) (defBody s_law) (defScope s_law) .none kV14 dc14 pm14 an14 cd14 ct14), sl14⟩) (c14 : PySem.W.codeIn K cd14 "law" = true) (k14 : PySem.W.keepIn K (.ref f_14) = true)
    (z0 : PySem.W.nsIn K mainGlobals "abs" = some none)
    (z1 : PySem.W.nsIn K mainGlobals "enumerate" = some none)
    (z2 : PySem.W.nsIn K mainGlobals "int" = some none)
    (z3 : PySem.W.nsIn K mainGlobals "isinstance" = some none)
    (z4 : PySem.W.nsIn K mainGlobals "len" = some none)
    (z5 : PySem.W.nsIn K mainGlobals "list" = some none)
    (z6 : PySem.W.nsIn K mainGlobals "max" = some none)
    (z7 : PySem.W.nsIn K mainGlobals "min" = some none)
    (z8 : PySem.W.nsIn K mainGlobals "range" = some none)
    (z9 : PySem.W.nsIn K mainGlobals "repr" = some none)
    (z10 : PySem.W.nsIn K mainGlobals "reversed" = some none)
    (z11 : PySem.W.nsIn K mainGlobals "sorted" = some none)
    (z12 : PySem.W.nsIn K mainGlobals "tuple" = some none) :
    LawX l w K mg fa h := by
  have e := hfa.symm.trans (PySem.W.mg_of X G a14)
  cases e
  have F1 := fun_mk (st := s_pairs) l1 c1 k1
  have b1 := F1.binds (ps := ["one", "other"]) fun _ _ _ _ _ _ us hl => match us, hl with | [_, _], _ => rfl
  have F3 := fun_mk (st := s_mixed) l3 c3 k3
  have b3 := F3.binds (ps := ["cell", "k"]) fun _ _ _ _ _ _ us hl => match us, hl with | [_, _], _ => rfl
  have F4 := fun_mk (st := s_purse) l4 c4 k4
  have b4 := F4.binds (ps := ["script", "at", "step", "many"]) fun _ _ _ _ _ _ us hl => match us, hl with | [_, _, _, _], _ => rfl
  have F5 := fun_mk (st := s_next) l5 c5 k5
  have b5 := F5.binds (ps := ["purse"]) fun _ _ _ _ _ _ us hl => match us, hl with | [_], _ => rfl
  have F6 := fun_mk (st := s_web) l6 c6 k6
  have b6 := F6.binds (ps := ["purse", "least", "most"]) fun _ _ _ _ _ _ us hl => match us, hl with | [_, _, _], _ => rfl
  have F7 := fun_mk (st := s_order) l7 c7 k7
  have b7 := F7.binds (ps := ["purse", "many"]) fun _ _ _ _ _ _ us hl => match us, hl with | [_, _], _ => rfl
  have F8 := fun_mk (st := s_turned) l8 c8 k8
  have b8 := F8.binds (ps := ["web", "order"]) fun _ _ _ _ _ _ us hl => match us, hl with | [_, _], _ => rfl
  have F9 := fun_mk (st := s_near) l9 c9 k9
  have b9 := F9.binds (ps := ["purse", "web"]) fun _ _ _ _ _ _ us hl => match us, hl with | [_, _], _ => rfl
  have F10 := fun_mk (st := s_two) l10 c10 k10
  have b10 := F10.binds (ps := ["purse", "most"]) fun _ _ _ _ _ _ us hl => match us, hl with | [_, _], _ => rfl
  have F11 := fun_mk (st := s_great) l11 c11 k11
  have b11 := F11.binds (ps := ["purse"]) fun _ _ _ _ _ _ us hl => match us, hl with | [_], _ => rfl
  have F12 := fun_mk (st := s_great_two) l12 c12 k12
  have b12 := F12.binds (ps := ["purse"]) fun _ _ _ _ _ _ us hl => match us, hl with | [_], _ => rfl
  have F13 := fun_mk (st := s_due) l13 c13 k13
  have b13 := F13.binds (ps := ["one", "other"]) fun _ _ _ _ _ _ us hl => match us, hl with | [_, _], _ => rfl
  have F14 := fun_mk (st := s_law) l14 c14 k14
  have b14 := F14.binds (ps := ["script"]) fun _ _ _ _ _ _ us hl => match us, hl with | [_], _ => rfl
  let T : Tx K mg := ⟨⟨_, _, F1, b1, PySem.W.mg_of X G a1⟩, ⟨_, _, F3, b3, PySem.W.mg_of X G a3⟩, ⟨_, _, F4, b4, PySem.W.mg_of X G a4⟩, ⟨_, _, F5, b5, PySem.W.mg_of X G a5⟩, ⟨_, _, F6, b6, PySem.W.mg_of X G a6⟩, ⟨_, _, F7, b7, PySem.W.mg_of X G a7⟩, ⟨_, _, F8, b8, PySem.W.mg_of X G a8⟩, ⟨_, _, F9, b9, PySem.W.mg_of X G a9⟩, ⟨_, _, F10, b10, PySem.W.mg_of X G a10⟩, ⟨_, _, F11, b11, PySem.W.mg_of X G a11⟩, ⟨_, _, F12, b12, PySem.W.mg_of X G a12⟩, ⟨_, _, F13, b13, PySem.W.mg_of X G a13⟩, ⟨_, _, F14, b14, PySem.W.mg_of X G a14⟩, PySem.W.mg_none_of X G z0, PySem.W.mg_none_of X G z1, PySem.W.mg_none_of X G z2, PySem.W.mg_none_of X G z3, PySem.W.mg_none_of X G z4, PySem.W.mg_none_of X G z5, PySem.W.mg_none_of X G z6, PySem.W.mg_none_of X G z7, PySem.W.mg_none_of X G z8, PySem.W.mg_none_of X G z9, PySem.W.mg_none_of X G z10, PySem.W.mg_none_of X G z11, PySem.W.mg_none_of X G z12⟩
  exact ⟨T.law.fd, [], fun s v => .of_eq rfl, (fun _ z => nomatch z), (fun _ z => nomatch z), (fun _ z => nomatch z), fun base _ _ _ => ok_law T⟩
end Cw
open PySem PySem.W PyProof.Rows
set_option maxHeartbeats 0 in
theorem PySem.Challenge.cw_commonweb_k15_pairs_told_holds : PySem.Challenge.rw_commonweb_k15_pairs_told.Holds := by
  w_on; o_law; k_head; (case hw => w_witness2)
  k_fill
  refine Cw.walk_ofX (l := PySem.Challenge.rw_commonweb_k15_pairs_told) [] rfl rfl (by decide +kernel) (fun w h Y => PySem.W.kIn_of Y) ?F
  case F =>
    intro w mg fa h KX G hmg facts
    refine' Cw.all_mk KX G hmg ?a1 ?l1 ?c1 ?k1 ?a3 ?l3 ?c3 ?k3 ?a4 ?l4 ?c4 ?k4 ?a5 ?l5 ?c5 ?k5 ?a6 ?l6 ?c6 ?k6 ?a7 ?l7 ?c7 ?k7 ?a8 ?l8 ?c8 ?k8 ?a9 ?l9 ?c9 ?k9 ?a10 ?l10 ?c10 ?k10 ?a11 ?l11 ?c11 ?k11 ?a12 ?l12 ?c12 ?k12 ?a13 ?l13 ?c13 ?k13 ?a14 ?l14 ?c14 ?k14 ?z0 ?z1 ?z2 ?z3 ?z4 ?z5 ?z6 ?z7 ?z8 ?z9 ?z10 ?z11 ?z12
    (case a1 => k_is); (case l1 => k_is); (case c1 => k_is); (case k1 => k_is); (case a3 => k_is); (case l3 => k_is); (case c3 => k_is); (case k3 => k_is); (case a4 => k_is); (case l4 => k_is); (case c4 => k_is); (case k4 => k_is); (case a5 => k_is); (case l5 => k_is); (case c5 => k_is); (case k5 => k_is); (case a6 => k_is); (case l6 => k_is); (case c6 => k_is); (case k6 => k_is); (case a7 => k_is); (case l7 => k_is); (case c7 => k_is); (case k7 => k_is); (case a8 => k_is); (case l8 => k_is); (case c8 => k_is); (case k8 => k_is); (case a9 => k_is); (case l9 => k_is); (case c9 => k_is); (case k9 => k_is); (case a10 => k_is); (case l10 => k_is); (case c10 => k_is); (case k10 => k_is); (case a11 => k_is); (case l11 => k_is); (case c11 => k_is); (case k11 => k_is); (case a12 => k_is); (case l12 => k_is); (case c12 => k_is); (case k12 => k_is); (case a13 => k_is); (case l13 => k_is); (case c13 => k_is); (case k13 => k_is); (case a14 => k_is); (case l14 => k_is); (case c14 => k_is); (case k14 => k_is); (case z0 => k_is); (case z1 => k_is); (case z2 => k_is); (case z3 => k_is); (case z4 => k_is); (case z5 => k_is); (case z6 => k_is); (case z7 => k_is); (case z8 => k_is); (case z9 => k_is); (case z10 => k_is); (case z11 => k_is); (case z12 => k_is)
