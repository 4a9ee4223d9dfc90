import PyProof.Rows.All
import Wide.All
import OpenK.AllK
import Wide.FinOn
import PySem.Challenge.RW_commonweb_k62_middles
import HandS.ForMost
import HandS.Conv
import KE.KItemsList
import KE.KDictZip
import HandS.Deep
import HandS.Evl
import HandS.IsInst
import HandS.Zip
import HandS.Walk
import KE.KEqSeq
import KE.KEqDeep
import HandS.SortRule
import HandS.DictTup
import KE.KDictSum
import PyProof.Draws
import HandS.SetFor
import PyProof.P3Eq
import HandS.NoneIn
import HandS.Strs
import KE.KSetDisp
import HandS.TupAny
import HandS.Style
import HandS.DictComp
import HandS.SortInts
import HandS.Wide
import HandS.WordsDict
set_option Elab.async false
set_option linter.all false
set_option maxRecDepth 100000
set_option maxHeartbeats 4000000
/-! list(enumerate(xs)) -/
namespace Cw
open PySem PySem.Spec PySem.Calls PyProof.Rows L2

theorem en_nolen : typeLookup (.type "enumerate") "__len__" = pure none := am_miss_of_fast (by decide +kernel)
theorem en_nohint : typeLookup (.type "enumerate") "__length_hint__" = pure none := am_miss_of_fast (by decide +kernel)

/-- how the iterator stands ahead of turn i -/
def EnSt (h : Heap) (e it l S : Addr) (items : Array Value) (i : Nat) : Prop :=
  h.IsListIter it l i ∧ h.IsList l items ∧ ((∃ old, IsEnum h e it i old) ∨ ∃ old T f oT, IsEnumHeld h e it i old T f ∧ h.get? T = some oT ∧ T ≠ e ∧ T ≠ it ∧ T ≠ S)

theorem EnSt.keep {h h' : Heap} {e it l S : Addr} {items : Array Value} {i : Nat} (x : EnSt h e it l S items i) (hk : ∀ b o, b ≠ S → h.get? b = some o → h'.get? b = some o) (h1 : e ≠ S) (h2 : it ≠ S) (h3 : l ≠ S) : EnSt h' e it l S items i := by
  obtain ⟨a, b, c⟩ := x
  refine ⟨a.at fun o q => hk it o h2 q, b.at fun o q => hk l o h3 q, ?_⟩
  rcases c with ⟨old, c⟩ | ⟨old, T, f, oT, c, hT, r1, r2, r3⟩
  · exact .inl ⟨old, hk _ _ h1 c⟩
  · exact .inr ⟨old, T, f, oT, hk _ _ h1 c, hk _ _ r3 hT, r1, r2, r3⟩

section
variable {prog : Program} {w : World} {A : Around} {E : Value → Shared → Prop} {s : Shared} {e it l S : Addr} {items : Array Value}

theorem en_item {i : Nat} {x : Value} {Q : Option Value → Shared → Prop} (st : EnSt s.heap e it l S items i) (hei : e ≠ it) (hle : l ≠ e) (hli : l ≠ it) (hS : S < s.heap.objs.size) (hx : items[i]? = some x)
    (hQ : ∀ h' t, EnSt h' e it l S items (i + 1) → h'.get? s.heap.objs.size = some { cls := .type "tuple", data := .seq #[.int i t, x] } → h'.objs.size = s.heap.objs.size + 1 →
      (∀ b o, b ≠ e → b ≠ it → s.heap.get? b = some o → h'.get? b = some o) → ∀ tk, Q (some (.ref s.heap.objs.size)) { s with heap := h', toks := tk }) : wpAny (model prog w) A (pyNext (.ref e)) Q E s := by
  obtain ⟨a, b, c⟩ := st
  have ec : ((i + 1 : Nat) : Int) = (i : Int) + 1 := by omega
  have nit : s.heap.objs.size ≠ it := let ⟨_, q, _⟩ := a; Nat.ne_of_gt (Heap.lt_size q)
  rcases c with ⟨old, c⟩ | ⟨old, T, f, oT, c, hT, r1, r2, r3⟩
  · refine wpAny_pyNext_enum_item c a b hx hei fun h' ho hit' hT hsz hk => hQ h' _ ⟨hit', b.at fun o q => hk l o hle hli q, .inr ⟨_, s.heap.objs.size, false, _, (by rw [ec]; exact ho), hT, Nat.ne_of_gt (Heap.lt_size c), nit, Nat.ne_of_gt hS⟩⟩ hT hsz hk _
  · refine wpAny_pyNext_enum_item_held c hT r1 r2 a b hx hei fun h' ho hit' hT' hsz hk => hQ h' _ ⟨hit', b.at fun o q => hk l o hle hli q, .inr ⟨old, T, true, oT, (by rw [ec]; exact ho), hk _ _ r1 r2 hT, r1, r2, r3⟩⟩ hT' hsz hk _

theorem en_done {i : Nat} {Q : Option Value → Shared → Prop} (hh : A.handled = none) (st : EnSt s.heap e it l S items i) (hx : items[i]? = none)
    (hQ : ∀ h', Heap.ExtBut it s.heap h' → Q none { s with heap := h' }) : wpAny (model prog w) A (pyNext (.ref e)) Q E s := by
  obtain ⟨a, b, c⟩ := st
  rcases c with ⟨old, c⟩ | ⟨old, T, f, oT, c, hT, r1, r2, r3⟩
  · exact wpAny_pyNext_enum_end hh c a b hx hQ
  · exact wpAny_pyNext_enum_end_held hh c a b hx hQ

/-- the tuples made so far -/
structure EnG (items : Array Value) (lo : Addr) (h : Heap) (as : List Addr) : Prop where
  rise : as.Pairwise (· < ·)
  above : ∀ a ∈ as, lo < a
  pairs : ∀ (j : Nat) (a : Addr), as[j]? = some a → ∃ t x, items[j]? = some x ∧ h.get? a = some { cls := .type "tuple", data := .seq #[.int j t, x] }
theorem EnG.there {lo : Addr} {h : Heap} {as : List Addr} (g : EnG items lo h as) {a : Addr} (ha : a ∈ as) : a < h.objs.size := by
  obtain ⟨j, hj⟩ := List.mem_iff_getElem?.mp ha
  obtain ⟨_, _, _, z⟩ := g.pairs j a hj
  exact Heap.lt_size z

theorem en_loop {R : Result → Shared → Prop} (hh : A.handled = none) (hei : e ≠ it) (hle : l ≠ e) (hli : l ≠ it) (heS : e < S) (hiS : it < S) (hlS : l < S) (hn : items.size ≤ sizeLine) (res : Value) {h₁ : Heap}
    (hR : ∀ h' tk acc c as, (∀ b o, b ≠ S → b ≠ e → b ≠ it → h₁.get? b = some o → h'.get? b = some o) → h'.get? S = some { cls := .type "list", dict := none, data := .seq acc c, slots := #[] } → as.length = items.size → EnG items S h' as →
      acc.toList = as.map Value.ref → R (.ok (.ret res)) { s with heap := h', toks := tk }) :
    ∀ (k i : Nat) (h : Heap) (tk c : Nat) (acc : Array Value) (as : List Addr), items.size - i = k → i ≤ items.size → EnSt h e it l S items i → (∀ b o, b ≠ S → b ≠ e → b ≠ it → h₁.get? b = some o → h.get? b = some o) →
      h.get? S = some { cls := .type "list", dict := none, data := .seq acc c, slots := #[] } → acc.toList = as.map Value.ref → as.length = i → EnG items S h as →
      codeAny (model prog w) A (.builtin "list.extend.loop" ⟨[.ref S, .ref e, res], []⟩) R { s with heap := h, toks := tk } := by
  have neS : e ≠ S := Nat.ne_of_lt heS
  have niS : it ≠ S := Nat.ne_of_lt hiS
  have nlS : l ≠ S := Nat.ne_of_lt hlS
  intro k
  induction k with
  | zero =>
    intro i h tk c acc as hk hi hst hkeep hS hacc hal hG
    refine codeAny_builtin (prog := prog) (w := w) PySem.F.entry_extend_loop ?_
    rw [Around.under_plainId (A := A) PySem.F.plain_extend_loop _]
    show wpAny _ A.in1 (pyNext (.ref e) >>= _) _ _ _
    refine wpAny_bind (en_done (s := { s with heap := h, toks := tk }) (A := A.in1) hh hst (Array.getElem?_eq_none (by omega)) fun h' he => ?_)
    refine wpAny_pure (hR h' tk acc c as (fun b o h1 h2 h3 q => he b o h3 (hkeep b o h1 h2 h3 q)) (he S _ niS.symm hS) (by omega) ⟨hG.rise, hG.above, fun j a hj => ?_⟩ hacc)
    obtain ⟨t, x, z1, z2⟩ := hG.pairs j a hj
    exact ⟨t, x, z1, he a _ (Nat.ne_of_gt (Nat.lt_trans hiS (hG.above a (List.mem_of_getElem? hj)))) z2⟩
  | succ k ih =>
    intro i h tk c acc as hk hi hst hkeep hS hacc hal hG
    have hlt : i < items.size := by omega
    have hx : items[i]? = some items[i] := Array.getElem?_eq_getElem hlt
    have hsz : acc.size = i := by rw [← Array.length_toList, hacc, List.length_map, hal]
    refine codeAny_builtin (prog := prog) (w := w) PySem.F.entry_extend_loop ?_
    rw [Around.under_plainId (A := A) PySem.F.plain_extend_loop _]
    show wpAny _ A.in1 (pyNext (.ref e) >>= _) _ _ _
    refine wpAny_bind (en_item (s := { s with heap := h, toks := tk }) (S := S) hst hei hle hli (Heap.lt_size hS) hx fun h' t hst' ht hz hkp tk' => ?_)
    dsimp only at ht hz hkp ⊢
    have hS' := hkp S _ neS.symm niS.symm hS
    have up : ∀ b o, b ≠ S → h'.get? b = some o → (h'.update S (Obj.mapSeq (·.push (Value.ref h.objs.size)))).get? b = some o := fun b o hb q => (Heap.get?_update_other _ _ (Ne.symm hb)).trans q
    have hSl : S < h.objs.size := Heap.lt_size hS
    show wpAny _ A.in1 (updateSeq S (·.push (Value.ref h.objs.size)) >>= _) _ _ _
    refine wpAny_bind (wpAny_updateSeq hS' rfl (wpAny_pure ⟨plainId_quiet PySem.F.plain_extend_loop _, ih (i + 1) _ tk' _ (acc.push (Value.ref h.objs.size)) (as ++ [h.objs.size]) (by omega) hlt (hst'.keep up neS niS nlS)
      (fun b o h1 h2 h3 q => up b o h1 (hkp b o h2 h3 (hkeep b o h1 h2 h3 q))) (Heap.get?_update_self _ hS' rfl) (by rw [Array.toList_push, hacc, List.map_append]; rfl) (by rw [List.length_append, hal]; rfl) ⟨?_, ?_, ?_⟩⟩) (by rw [hsz]; omega) (by show (acc.push (Value.ref h.objs.size)).size ≤ sizeLine + 1; rw [Array.size_push, hsz]; omega))
    · refine List.pairwise_append.mpr ⟨hG.rise, List.pairwise_singleton _ _, fun a ha b hb => ?_⟩
      rw [List.mem_singleton.mp hb]; exact hG.there ha
    · intro a ha
      rcases List.mem_append.mp ha with ha | ha
      · exact hG.above a ha
      · rw [List.mem_singleton.mp ha]; exact hSl
    · intro j b hj
      rcases Nat.lt_trichotomy j as.length with h1 | h1 | h1
      · rw [List.getElem?_append_left h1] at hj
        obtain ⟨t', x', z1, z2⟩ := hG.pairs j b hj
        have hb := hG.above b (List.mem_of_getElem? hj)
        exact ⟨t', x', z1, up b _ (Nat.ne_of_gt hb) (hkp b _ (Nat.ne_of_gt (Nat.lt_trans heS hb)) (Nat.ne_of_gt (Nat.lt_trans hiS hb)) z2)⟩
      · subst h1
        have hb : h.objs.size = b := by simpa using hj
        subst hb
        exact ⟨t, _, by rw [hal]; exact hx, by rw [hal]; exact up _ _ (Nat.ne_of_gt hSl) ht⟩
      · have hnone : (as ++ [h.objs.size])[j]? = none := List.getElem?_eq_none (by rw [List.length_append, List.length_singleton]; omega)
        rw [hnone] at hj; cases hj

theorem en_hint (hT : s.TypeIs (.ref e) "enumerate") {Q : Bool → Shared → Prop} (h : Q true s) : wpAny (model prog w) A (Builtin.List.listLengthHint (.ref e)) Q E s := by
  unfold Builtin.List.listLengthHint
  refine wpAny_bind (wpAny_specialOf hT en_nolen ?_)
  show wpAny _ _ (specialOf (Value.ref e) (Str.ofString "__length_hint__") >>= _) _ _ _
  refine wpAny_bind (wpAny_specialOf hT en_nohint ?_)
  exact wpAny_pure h

theorem en_extend {R : Result → Shared → Prop} (hh : A.handled = none) (he : IsEnum s.heap e it 0 .none) (hit : s.heap.IsListIter it l 0) (hl : s.heap.IsList l items) (hei : e ≠ it) (hle : l ≠ e) (hli : l ≠ it) (heS : e < S) (hiS : it < S) (hlS : l < S) (res : Value) (c₀ : Nat) (hS : s.heap.get? S = some { cls := .type "list", data := .seq #[] c₀ })
    (hR : ∀ h' tk acc c as, (∀ b o, b ≠ S → b ≠ e → b ≠ it → s.heap.get? b = some o → h'.get? b = some o) → h'.get? S = some { cls := .type "list", dict := none, data := .seq acc c, slots := #[] } → as.length = items.size → EnG items S h' as →
      acc.toList = as.map Value.ref → R (.ok (.ret res)) { s with heap := h', toks := tk }) (hn : items.size ≤ sizeLine) :
    wpAny (model prog w) A.in1 (Builtin.List.listExtendWith (.ref S) (.ref e) res)
      (fun fin s' => match fin with | .done f => R (.ok f) s' | .again c' => c'.quiet = true ∧ codeAny (model prog w) A c' R s') (fun e s' => R (.error e) s') s := by
  have hSr : S ≠ e := Nat.ne_of_gt heS
  have hTy : s.TypeIs (.ref e) "enumerate" := ⟨_, he, rfl⟩
  have key : ∀ (h : Heap) (c₁ tk : Nat), (∀ b o, b ≠ S → s.heap.get? b = some o → h.get? b = some o) → h.get? S = some { cls := .type "list", data := .seq #[] c₁ } → codeAny (model prog w) A (.builtin "list.extend.loop" ⟨[.ref S, .ref e, res], []⟩) R { s with heap := h, toks := tk } := by
    intro h c₁ tk hk hS₁
    refine en_loop (s := s) (h₁ := s.heap) hh hei hle hli heS hiS hlS hn res hR items.size 0 h tk c₁ #[] [] (Nat.sub_zero _) (Nat.zero_le _) ⟨hit.at fun o q => hk it o (Nat.ne_of_lt hiS) q, hl.at fun o q => hk l o (Nat.ne_of_lt hlS) q, .inl ⟨_, hk _ _ (Nat.ne_of_lt heS) he⟩⟩
      (fun b o h1 _ _ q => hk b o h1 q) hS₁ rfl rfl ⟨List.Pairwise.nil, (fun _ ha => nomatch ha), (fun j a hj => by simp at hj)⟩
  unfold Builtin.List.listExtendWith
  refine wpAny_bind (wpAny_typeOf (T := "enumerate") hTy ?_)
  have h1 : Builtin.List.listSameRef (.ref S) (.ref e) = false := by simp [Builtin.List.listSameRef, hSr]
  have h2 : (Value.type "enumerate" == Value.type "list") = false := by decide
  have h3 : (Value.type "enumerate" == Value.type "tuple") = false := by decide
  simp only [h1, h2, h3, Bool.or_false, Bool.false_eq_true, if_false]
  refine wpAny_bind (wpAny_pyIter_enum he ?_)
  refine wpAny_bind (wpAny_holding (en_hint hTy ?_))
  refine wpAny_ite_split (fun _ => ?_) (fun _ => wpAny_pure ⟨plainId_quiet PySem.F.plain_extend_loop _, key _ c₀ _ (fun b o _ q => q) hS⟩)
  refine wpAny_bind (wpAny_rule (wpAny_bind ?_))
  · show wpAny _ _ (updateSeq S (·.push .none) >>= fun _ => updateSeq S (·.pop)) _ _ _
    refine wpAny_bind (wpAny_updateSeq hS rfl ?_)
    have hS₂ := Heap.get?_update_self (Obj.mapSeq (·.push Value.none)) hS rfl
    refine wpAny_updateSeq (hz := by seq_fits) hS₂ rfl ?_
    have hS₃ := Heap.get?_update_self (Obj.mapSeq (·.pop)) hS₂ rfl
    refine wpAny_pure ⟨plainId_quiet PySem.F.plain_extend_loop _, key _ _ _ (fun b o hb q => ?_) hS₃⟩
    exact (Heap.get?_update_other _ _ (Ne.symm hb)).trans ((Heap.get?_update_other _ _ (Ne.symm hb)).trans q)

theorem EnG.low {lo lo' : Addr} {h : Heap} {as : List Addr} (g : EnG items lo h as) (hl : lo' ≤ lo) : EnG items lo' h as := ⟨g.rise, fun a ha => Nat.lt_of_le_of_lt hl (g.above a ha), g.pairs⟩

/-- list(e), e an enumerate that nobody has asked yet -/
theorem en_call {Q : Value → Shared → Prop} (hh : A.handled = none) (he : IsEnum s.heap e it 0 .none) (hit : s.heap.IsListIter it l 0) (hl : s.heap.IsList l items) (hei : e ≠ it) (hle : l ≠ e) (hli : l ≠ it) (hn : items.size ≤ sizeLine)
    (hQ : ∀ h' tk acc c as, (∀ b o, b ≠ e → b ≠ it → s.heap.get? b = some o → h'.get? b = some o) → h'.get? s.heap.objs.size = some { cls := .type "list", dict := none, data := .seq acc c, slots := #[] } → as.length = items.size → EnG items s.heap.objs.size h' as →
      acc.toList = as.map Value.ref → Q (.ref s.heap.objs.size) { s with heap := h', toks := tk }) : wpAny (model prog w) A (call (.type "list") [.ref e]) Q E s := by
  refine callType_codes (Q₁ := fun obj s₁ => obj = .ref s.heap.objs.size ∧ s₁ = { s with heap := s.heap.push { cls := .type "list", data := .seq #[] } }) PySem.F.called_list (PySem.F.typeCall_list_1 _) PySem.F.entry_list_init (code_list_new _ ⟨rfl, rfl⟩) fun obj s₁ h₁ => ?_
  obtain ⟨rfl, rfl⟩ := h₁
  have hS : (s.heap.push { cls := .type "list", data := .seq #[] }).get? s.heap.objs.size = some { cls := .type "list", data := .seq #[] } := Heap.get?_push_size _ rfl
  have k1 : ∀ b o, s.heap.get? b = some o → (s.heap.push { cls := .type "list", data := .seq #[] }).get? b = some o := fun b o q => Heap.get?_push_of_some _ q
  have heS : e < s.heap.objs.size := Heap.lt_size he
  have hiS : it < s.heap.objs.size := by obtain ⟨_, q, _⟩ := hit; exact Heap.lt_size q
  have hlS : l < s.heap.objs.size := by obtain ⟨_, q, _⟩ := hl; exact Heap.lt_size q
  refine ⟨⟨_, hS, rfl⟩, PySem.F.args_list_init_2 _ _, ?_⟩
  show wpAny _ _ (do let old ← Builtin.List.listItems (.ref s.heap.objs.size); Builtin.List.listUpdate (.ref s.heap.objs.size) (fun _ => #[]); letGo old.toList.reverse; Builtin.List.listExtendWith (.ref s.heap.objs.size) (.ref e) .none) _ _ _
  refine wpAny_bind ?_; unfold Builtin.List.listItems; refine wpAny_bind (wpAny_seqItems hS rfl (wpAny_pure ?_))
  show wpAny _ _ (updateSeq s.heap.objs.size (fun _ => #[]) >>= fun _ => letGo (#[] : Array Value).toList.reverse >>= fun _ => Builtin.List.listExtendWith (.ref s.heap.objs.size) (.ref e) .none) _ _ _
  refine wpAny_bind (wpAny_updateSeq hS rfl (wpAny_bind (wpAny_letGo ?_)))
  have hS₂ := Heap.get?_update_self (Obj.mapSeq (fun _ => (#[] : Array Value))) hS rfl
  have k2 : ∀ b o, b ≠ s.heap.objs.size → s.heap.get? b = some o → ((s.heap.push { cls := .type "list", data := .seq #[] }).update s.heap.objs.size (Obj.mapSeq (fun _ => (#[] : Array Value)))).get? b = some o := fun b o hb q => (Heap.get?_update_other _ _ (Ne.symm hb)).trans (k1 b o q)
  refine en_extend (A := A.in1) (s := { s with heap := (s.heap.push { cls := .type "list", data := .seq #[] }).update s.heap.objs.size (Obj.mapSeq (fun _ => (#[] : Array Value))) }) hh (k2 _ _ (Nat.ne_of_lt heS) he) (hit.at fun o q => k2 it o (Nat.ne_of_lt hiS) q) (hl.at fun o q => k2 l o (Nat.ne_of_lt hlS) q) hei hle hli heS hiS hlS .none _ hS₂ (fun h' tk acc c as hk hS' hl' hG hacc => ?_) hn
  exact ⟨rfl, hQ h' tk acc c as (fun b o h1 h2 q => hk b o (Nat.ne_of_lt (Heap.lt_size q)) h1 h2 (k2 b o (Nat.ne_of_lt (Heap.lt_size q)) q)) hS' hl' hG hacc⟩
end

/-- the tuples tracked at their addresses -/
def putE : Hp → List Addr → List V → Nat → Hp
  | H, a :: as, x :: xs, j => putE (upd H a (.tup [.int j, x])) as xs (j + 1)
  | H, _, _, _ => H
theorem putE_off {b : Addr} : ∀ (as : List Addr) (xs : List V) (j : Nat) (H : Hp), b ∉ as → putE H as xs j b = H b
  | [], _, _, _, _ => rfl
  | _ :: _, [], _, _, _ => rfl
  | a :: as, x :: xs, j, H, h => by
    show putE (upd H a (.tup [.int j, x])) as xs (j + 1) b = H b
    rw [putE_off as xs _ _ (fun z => h (List.mem_cons_of_mem _ z)), upd_ne (fun z => h (by rw [z]; exact List.mem_cons_self))]
theorem putE_at : ∀ (as : List Addr) (xs : List V) (j : Nat) (H : Hp), as.Nodup → ∀ i t x, as[i]? = some t → xs[i]? = some x → putE H as xs j t = some (.tup [.int ((j + i : Nat) : Int), x])
  | [], _, _, _, _, _, _, _, h, _ => by simp at h
  | _ :: _, [], _, _, _, _, _, _, _, h => by simp at h
  | a :: as, y :: xs, j, H, hn, 0, t, x, h1, h2 => by
    have e1 : a = t := Option.some.inj h1
    have e2 : y = x := Option.some.inj h2
    subst e1; subst e2
    show putE (upd H a (.tup [.int j, y])) as xs (j + 1) a = _
    rw [putE_off as xs _ _ (List.nodup_cons.mp hn).1, upd_same]; rfl
  | a :: as, y :: xs, j, H, hn, i + 1, t, x, h1, h2 => by
    have ih := putE_at as xs (j + 1) (upd H a (.tup [.int j, y])) (List.nodup_cons.mp hn).2 i t x h1 h2
    show putE (upd H a (.tup [.int j, y])) as xs (j + 1) t = _
    rw [ih, show j + 1 + i = j + (i + 1) by omega]
theorem refs_vals : ∀ as : List Addr, Vals (as.map V.ref) (as.map Value.ref)
  | [] => .nil
  | _ :: as => .cons rfl (refs_vals as)
def rLstEn (K : PySem.W.Frag) : List V → Hp → VK → Prop := fun vs H Q => ∃ (a : Addr) (xs : List V), vs = [.ref a] ∧ SqL K H a xs ∧
  ∀ (H' : Hp) (p : Addr) (ts : List Addr), Same H H' → H p = none → (∀ t ∈ ts, H t = none) → p ∉ ts → H' p = some (.lst (ts.map V.ref)) → ts.length = xs.length → (∀ j t x, ts[j]? = some t → xs[j]? = some x → H' t = some (.tup [.int (j : Nat), x])) → Q (.ref p) H'
def tLstEn (K : PySem.W.Frag) (ta : TA) : TE := fun σ H Q => ta σ H fun vs H1 => rLstEn K vs H1 Q
section
variable {X : Cx} {e : Expr} {ta : TA} {p1 p2 pos pos2 : Pos}
theorem enum_laid {pins : List (Addr × Obj)} {σ : L2.St} {H : Hp} {s : Shared} {h' : Heap} {tk S : Nat} {xs : List V} {its : List Value} {acc : Array Value} {c : Nat} {as : List Addr} (I : Inv X pins σ H s) (hz : xs.length ≤ sizeLine) (rv : Vals xs its)
    (hk : ∀ b o, s.heap.get? b = some o → h'.get? b = some o) (hS0 : s.heap.objs.size ≤ S) (hS : h'.get? S = some { cls := .type "list", dict := none, data := .seq acc c, slots := #[] }) (hl : as.length = its.toArray.size) (hG : EnG its.toArray S h' as) (hacc : acc.toList = as.map Value.ref) :
    ∃ H' : Hp, Same H H' ∧ H S = none ∧ (∀ t ∈ as, H t = none) ∧ S ∉ as ∧ H' S = some (.lst (as.map V.ref)) ∧ (∀ j t x, as[j]? = some t → xs[j]? = some x → H' t = some (.tup [.int (j : Nat), x])) ∧ Inv X pins σ H' { s with heap := h', toks := tk } := by
  have lk : xs.length = its.length := Vals.length rv
  have hl' : as.length = xs.length := by rw [hl, List.size_toArray, lk]
  have hSn : S ∉ as := fun z => Nat.lt_irrefl _ (hG.above _ z)
  have nd : as.Nodup := List.Pairwise.imp (fun {a b} (h : a < b) => Nat.ne_of_lt h) hG.rise
  have new : ∀ t ∈ as, H t = none := fun t ht => I.hok.fresh (Nat.le_trans hS0 (Nat.le_of_lt (hG.above t ht)))
  have newS : H S = none := I.hok.fresh hS0
  have off : ∀ b, b ∉ as → b ≠ S → putE (upd H S (.lst (as.map V.ref))) as xs 0 b = H b := fun b h1 h2 => by rw [putE_off as xs _ _ h1, upd_ne h2]
  have low : ∀ b o, s.heap.get? b = some o → b ∉ as ∧ b ≠ S := fun b o q => ⟨fun z => absurd (Heap.lt_size q) (Nat.not_lt.mpr (Nat.le_trans hS0 (Nat.le_of_lt (hG.above b z)))), Nat.ne_of_lt (Nat.lt_of_lt_of_le (Heap.lt_size q) hS0)⟩
  have kp : Same H (putE (upd H S (.lst (as.map V.ref))) as xs 0) := fun b u q => by
    rw [off b (fun z => by rw [new b z] at q; cases q) (fun z => by rw [z, newS] at q; cases q)]
    exact q
  have eS : putE (upd H S (.lst (as.map V.ref))) as xs 0 S = some (.lst (as.map V.ref)) := by rw [putE_off as xs _ _ hSn, upd_same]
  have atP : ∀ j t x, as[j]? = some t → xs[j]? = some x → putE (upd H S (.lst (as.map V.ref))) as xs 0 t = some (.tup [.int (j : Nat), x]) := fun j t x h1 h2 => by
    rw [putE_at as xs 0 _ nd j t x h1 h2, Nat.zero_add]
  refine ⟨_, kp, newS, new, hSn, eS, atP, ?_⟩
  refine I.call' (ch := []) rfl ⟨fun b o q _ _ _ => hk b o q, fun b o q _ _ _ => ⟨o.slots, hk b o q⟩, fun b o q n _ => (off b (low b o q).1 (low b o q).2).trans n, fun b o q _ => ⟨o, hk b o q⟩, fun b xs q => kp b _ q, fun b o u q => kp b _ q, fun b ps q => ⟨#[], by rw [kp b _ q]; simp⟩⟩ (fun b u q => ?_) I.bare fun b z => by simp at z
  by_cases hb : b ∈ as
  · obtain ⟨j, e1⟩ := List.mem_iff_getElem?.mp hb
    have hj : j < xs.length := by
      have := (List.getElem?_eq_some_iff.mp e1).1
      omega
    have e2 : xs[j]? = some xs[j] := List.getElem?_eq_getElem hj
    rw [atP j b _ e1 e2] at q
    cases q
    obtain ⟨t, x, f1, f2⟩ := hG.pairs j b e1
    obtain ⟨u, g1, g2⟩ := rv.get e2
    have f1' : its[j]? = some x := by simpa using f1
    rw [g1] at f1'
    cases f1'
    exact ⟨by show 2 ≤ sizeLine; decide, [.int j t, x], .cons ⟨t, rfl⟩ (.cons g2 .nil), ⟨_, f2, rfl, _, rfl⟩⟩
  · by_cases hb2 : b = S
    · rw [hb2] at q ⊢
      rw [eS] at q
      cases q
      refine ⟨by rw [List.length_map]; omega, acc.toList, c, by rw [hacc]; exact refs_vals as, ?_⟩
      rw [Array.toArray_toList]; exact hS
    · rw [off b hb hb2] at q
      exact (I.hok b u q).stay (fun d v _ y => hk d v y) (fun d y => kp d _ y) fun d xs y => kp d _ y
/-- list(enumerate(e)) -/
theorem pe_listEnum (hc : X.calm = true) (hg : Gl X "list") (hm : X.mg "list" = none) (hg2 : Gl X "enumerate") (hm2 : X.mg "enumerate" = none) (ha : PA X [e] ta)
    (hs : starEach [.Call (.Name "enumerate" p2) [e] [] pos2] X.env = [(false, eval (.Call (.Name "enumerate" p2) [e] [] pos2) X.env)] := by rfl) (hs2 : starEach [e] X.env = [(false, eval e X.env)] := by rfl) :
    PE X (.Call (.Name "list" p1) [.Call (.Name "enumerate" p2) [e] [] pos2] [] pos) (tLstEn X.K ta) := by
  refine ⟨fun pins s σ H Q I hq => ?_⟩
  refine Call_ (ld_blt I hg hm boot_list (PyProof.Rows.callWith_type1 ?_ hs rfl))
  rw [hs]
  show wpAny _ _ (spliced ((false, eval (.Call (.Name "enumerate" p2) [e] [] pos2) X.env) :: backTo pos [])) _ _ s
  refine Calls.spliced_cons (Call_ (ld_blt I hg2 hm2 boot_enumerate (PyProof.Rows.callWith_type1 (thn (ha.run pos2 pins s σ H _ I hq) fun us s1 ⟨vs, H1, I1, r1, q1⟩ => ?_) hs2 rfl)))
  obtain ⟨a, xs, ex, hq, q⟩ := q1
  subst ex
  cases r1 with
  | cons r rr =>
    cases rr; cases r
    obtain ⟨its, rv, p', hz⟩ := I1.list hq
    have hl0 : a < s1.heap.objs.size := by obtain ⟨_, z, _⟩ := p'.isList; exact Heap.lt_size z
    refine call_enumerate_list p'.isList fun h' he hit hsz hk => ?_
    have I2 : Inv X pins σ H1 { s1 with heap := h' } := I1.kept (t' := s1.toks) hk
    refine Calls.spliced_nil ?_
    refine en_call (s := { s1 with heap := h' }) (I1.ok.hd hc) he hit (p'.isList.at fun o z => hk a o z) (Nat.succ_ne_self _) (Nat.ne_of_lt (Nat.lt_succ_of_lt hl0)) (Nat.ne_of_lt hl0) (by rw [List.size_toArray, ← rv.length]; exact hz) fun h'' tk acc c as hk2 hS hl hG hacc => ?_
    have hk3 : ∀ b o, s1.heap.get? b = some o → h''.get? b = some o := fun b o z => hk2 b o (Nat.ne_of_lt (Nat.lt_succ_of_lt (Heap.lt_size z))) (Nat.ne_of_lt (Heap.lt_size z)) (hk b o z)
    obtain ⟨H', k1, k2, k3, k4, k5, k6, J⟩ := enum_laid (tk := tk) I1 hz rv hk3 (by show s1.heap.objs.size ≤ h'.objs.size; omega) hS hl hG hacc
    exact ⟨.ref _, H', J, rfl, q H' _ as k1 k2 k3 k4 k5 (by rw [hl, List.size_toArray, rv.length]) k6⟩
end
end Cw

namespace Cw
open PySem PySem.Spec PyProof.Rows L2

/-! ### a def of the text, called by its name -/
structure Df (K : PySem.W.Frag) (mg : Str → Option Value) (x : Str) (st : Stmt) (ps : List Str) where
  f : Addr
  fd : FuncData
  F : Fun K x x st f fd
  b : Binds K fd ps []
  g : mg x = some (.ref f)

theorem units1 {k : Nat} {A : Around} (r : Room k A) : A.units + 65 < cLine := by have := r.un; omega
theorem blkOk_in {N : List Str} {sc scO scope : Scope} {own : List (Str × Nat)} {cl : List (Str × Addr)} {C : Addr} {env : Env} (he : env.scope = sc) (h : blkC N (relS scO sc) scope own = true) : BlkOk N (compEnvC scO cl C env).scope scope own := by
  subst he
  exact blkOk_by h
/-! ### heaps -/
/-- all but h is as it was -/
def Keep (h : Addr) (H H' : Hp) : Prop := ∀ b o, b ≠ h → H b = some o → H' b = some o
theorem Keep.refl (h : Addr) (H : Hp) : Keep h H H := fun _ _ _ e => e
theorem Keep.trans {h : Addr} {H H1 H2 : Hp} (a : Keep h H H1) (b : Keep h H1 H2) : Keep h H H2 := fun c o n e => b c o n (a c o n e)
theorem Keep.same {h : Addr} {H H1 H2 : Hp} (a : Keep h H H1) (b : Same H1 H2) : Keep h H H2 := fun c o n e => b c o (a c o n e)
theorem Same.keep {h : Addr} {H H1 : Hp} (a : Same H H1) : Keep h H H1 := fun c o _ e => a c o e
theorem Keep.put {h : Addr} {H : Hp} {o : HO} : Keep h H (upd H h o) := fun c u n e => by rw [upd_ne n]; exact e
/-- what was new ahead of it is not told -/
theorem Keep.out {h : Addr} {H0 H H1 : Hp} (s : Same H0 H) (k : Keep h H H1) (n : H0 h = none) : Same H0 H1 := fun c o e => k c o (ne_of_none e n) (s c o e)
theorem same_new {H : Hp} {p : Addr} {o : HO} (h : H p = none) : Same H (upd H p o) := fun b x e => by rw [upd_ne (ne_of_none e h)]; exact e
theorem same_upd {H H' : Hp} {p : Addr} {o : HO} (s : Same H H') (h : H p = none) : Same H (upd H' p o) := fun b x e => by rw [upd_ne (ne_of_none e h)]; exact s b x e
theorem Same.sqt {K : PySem.W.Frag} {H H' : Hp} {a : Addr} {xs : List V} (e : Same H H') (h : SqT K H a xs) : SqT K H' a xs := by
  rcases h with (h | ⟨o, h⟩) | h
  · exact .inl (.inl (e _ _ h))
  · exact .inl (.inr ⟨o, e _ _ h⟩)
  · exact .inr h
theorem at_upd {H : Hp} {a b : Addr} {o u : HO} (h : H a = some o) (n : H b = none) : upd H b u a = some o := by rw [upd_ne (ne_of_none h n)]; exact h

theorem Keep.new {h p : Addr} {H H' : Hp} {o : HO} (k : Keep h H H') (n : H p = none) : Keep h H (upd H' p o) := fun b u nb e => by rw [upd_ne (ne_of_none e n)]; exact k b u nb e
theorem Keep.free {h p : Addr} {H H' : Hp} (k : Keep h H H') (ne : p ≠ h) (n : H' p = none) : H p = none := by
  cases q : H p with
  | none => rfl
  | some o => rw [k p o ne q] at n; cases n
theorem Keep.self {h : Addr} {H H' : Hp} {o : HO} (k : Keep h H H') : Keep h H (upd H' h o) := fun b u nb e => by rw [upd_ne nb]; exact k b u nb e
theorem Keep.seqN {K : PySem.W.Frag} {H H' : Hp} {a h : Addr} {xs : List V} (k : Keep h H H') (n : H h = none) (q : SqL K H a xs) : SqL K H' a xs := by
  rcases q with (q | ⟨o, q⟩) | q
  · exact .inl (.inl (k _ _ (ne_of_none q n) q))
  · exact .inl (.inr ⟨o, k _ _ (ne_of_none q n) q⟩)
  · exact .inr q
/-- a tuple stands behind a store at a new place, at a list -/
theorem sqt_upd {K : PySem.W.Frag} {H : Hp} {a b : Addr} {xs : List V} {o : HO} (n : H b = none ∨ ∃ ys, H b = some (.lst ys)) (q : SqT K H a xs) : SqT K (upd H b o) a xs := by
  have ne : ∀ u, H a = some u → (∀ ys, u ≠ .lst ys) → a ≠ b := fun u e hu z => by
    subst z
    rcases n with n | ⟨ys, n⟩
    · rw [n] at e; cases e
    · rw [n] at e; exact hu ys (Option.some.inj e).symm
  rcases q with (q | ⟨o', q⟩) | q
  · exact .inl (.inl (by rw [upd_ne (ne _ q (by intro ys z; cases z))]; exact q))
  · exact .inl (.inr ⟨o', by rw [upd_ne (ne _ q (by intro ys z; cases z))]; exact q⟩)
  · exact .inr q
/-- x in (a, b, ..), data at any depth -/
def rInT (K : PySem.W.Frag) (neg : Bool) : R2 := fun x y H Q => ∃ d ds, Dp K H x d ∧ Dp K H y (.tuple ds) ∧ SeqAt.shaped d = true ∧ SeqAt.shaped (.tuple ds) = true ∧ Q (.bl (if neg then !(ds.any fun z => PyData.eqv z d) else ds.any fun z => PyData.eqv z d)) H
theorem op_inT {X : Cx} (hu : X.A.units + 65 < cLine) : OpR X (compareOp .In) (rInT X.K false) := by
  intro pins s σ H x y v u Q I rx ry h
  obtain ⟨d, ds, hd, he, sd, se, q⟩ := h
  obtain ⟨as, r1⟩ := Dp.reads I d x v hd rx
  obtain ⟨bs, r2⟩ := Dp.reads I (.tuple ds) y u he ry
  exact SeqAt.in_tuple_reads r2 r1 (SeqAt.canLay_of_shaped se) (SeqAt.canLay_of_shaped sd) (room_in_shaped sd hu) ⟨.bl _, H, I, rfl, q⟩
/-! ### readings, step by step -/
section
variable {K : PySem.W.Frag} {σ : L2.St} {H : Hp} {Q : VK} {QA : List V → Hp → Prop} {QT : Bool → Hp → Prop} {D : Ends} {ta tb tc te : TE} {tr t1 : TA} {tt tu : TT} {t u : TS} {r r' : R2} {v x y : V} {i j : Int} {n : Nat} {p : Addr} {xs : List V}
theorem d_var {i : Nat} (e : σ[i]? = some (some v)) (h : Q v H) : tVar i σ H Q := ⟨v, e, h⟩
theorem d_c (h : Q v H) : tC v σ H Q := h
theorem d_op (h : ta σ H fun x H1 => tb σ H1 fun y H2 => r x y H2 Q) : tOp r ta tb σ H Q := h
theorem d_un {r : V → Hp → VK → Prop} (h : ta σ H fun x H1 => r x H1 Q) : tUn r ta σ H Q := h
theorem d_cons (h : ta σ H fun x H1 => tr σ H1 fun xs H2 => QA (x :: xs) H2) : tCons ta tr σ H QA := h
theorem d_nil (h : QA [] H) : tNil σ H QA := h
theorem d_cb {r : List V → Hp → VK → Prop} (h : tr σ H fun vs H1 => r vs H1 Q) : tCB r tr σ H Q := h
theorem d_call {sp : Sp} {dvs : List V} {E : XK} (h : tr σ H fun vs H1 => sp (vs ++ dvs) H1 Q E) : tCall sp dvs E tr σ H Q := h
theorem d_tup (h : tr σ H fun xs H1 => xs.length ≤ sizeLine ∧ ∀ p, H1 p = none → Q (.ref p) (upd H1 p (.tup xs))) : tTup tr σ H Q := h
theorem d_lst (h : tr σ H fun xs H1 => xs.length ≤ sizeLine ∧ ∀ p, H1 p = none → Q (.ref p) (upd H1 p (.lst xs))) : tLst tr σ H Q := h
theorem d_rI {C : Int → Int → Prop} {g : Int → Int → V} (hc : C i j) (h : Q (g i j) H) : rI C g (.int i) (.int j) H Q := ⟨i, j, rfl, rfl, hc, h⟩
theorem d_rI0 {g : Int → Int → V} (h : Q (g i j) H) : rI0 g (.int i) (.int j) H Q := ⟨i, j, rfl, rfl, h⟩
theorem d_rU {g : Int → V} (h : Q (g i) H) : rU g (.int i) H Q := ⟨i, rfl, h⟩
theorem d_eqI (h : Q (.bl (decide (i = j))) H) : rEq (.int i) (.int j) H Q := ⟨rfl, by
  rw [show decide (V.int i = V.int j) = decide (i = j) by rw [Bool.eq_iff_iff]; simp]; exact h⟩
theorem d_neI (h : Q (.bl (!decide (i = j))) H) : rNe (.int i) (.int j) H Q := ⟨rfl, by
  rw [show decide (V.int i = V.int j) = decide (i = j) by rw [Bool.eq_iff_iff]; simp]; exact h⟩
theorem d_ixL (h : SqL K H p xs) (e : atI xs i = some v) (q : Q v H) : rIxL K (.ref p) (.int i) H Q := ⟨p, xs, i, v, rfl, rfl, h, e, q⟩
theorem d_ixLm (h : H p = some (.lst xs)) (e : atI xs i = some v) (q : Q v H) : rIxL K (.ref p) (.int i) H Q := ⟨p, xs, i, v, rfl, rfl, SqL.of h, e, q⟩
theorem d_ixT (h : SqT K H p xs) (e : atI xs i = some v) (q : Q v H) : rIxT K (.ref p) (.int i) H Q := ⟨p, xs, i, v, rfl, rfl, h, e, q⟩
theorem d_ixTm (h : H p = some (.tup xs)) (e : atI xs i = some v) (q : Q v H) : rIxT K (.ref p) (.int i) H Q := ⟨p, xs, i, v, rfl, rfl, SqT.of h, e, q⟩
theorem d_test (h : te σ H fun x H' => ∃ k, x = .bl k ∧ QT k H') : tTest te σ H QT := h
theorem d_tB (h : te σ H fun x H' => ∃ k, x = .bl k ∧ QT k H') : tB te σ H QT := h
theorem d_bl {b : Bool} {C : Bool → Prop} (h : C b) : ∃ k, V.bl b = .bl k ∧ C k := ⟨b, rfl, h⟩
theorem d_not (h : tt σ H fun c H1 => QT (!c) H1) : tNot tt σ H QT := h
theorem d_and (h : tt σ H fun c H1 => if c = true then tu σ H1 QT else QT false H1) : tAnd tt tu σ H QT := h
theorem d_or (h : tt σ H fun c H1 => if c = true then QT true H1 else tu σ H1 QT) : tOr tt tu σ H QT := h
theorem d_if (h : tt σ H fun c H1 => if c = true then ta σ H1 Q else tb σ H1 Q) : tIf tt ta tb σ H Q := h
theorem d_andV (h : ta σ H fun x H1 => ∃ c, x = .bl c ∧ if c = true then tb σ H1 Q else Q (.bl false) H1) : tAndV ta tb σ H Q := h
theorem d_sl {r : V → Option Int → Option Int → Hp → VK → Prop} {tl th : TO} (h : te σ H fun x H1 => tl σ H1 fun l H2 => th σ H2 fun u H3 => r x l u H3 Q) : tSl r te tl th σ H Q := h
theorem d_nop {QO : Option Int → Hp → Prop} (h : QO none H) : tNoPart σ H QO := h
theorem d_part {QO : Option Int → Hp → Prop} (h : te σ H fun x H1 => ∃ i, x = .int i ∧ QO (some i) H1) : tPart te σ H QO := h
theorem d_in {C : Int → Prop} (h : C i) : ∃ k, V.int i = .int k ∧ C k := ⟨i, rfl, h⟩
theorem d_bm {T : String} {r : V → List V → Hp → VK → Prop} (h : te σ H fun x H1 => tyV K T x H1 ∧ tr σ H1 fun xs H2 => r x xs H2 Q) : tBM K T r te tr σ H Q := h
theorem d_bm0 {T : String} {r : V → List V → Hp → VK → Prop} (h : te σ H fun x H1 => tyV K T x H1 ∧ r x [] H1 Q) : tBM0 K T r te σ H Q := h
theorem d_m1 {r : V → List V → Hp → VK → Prop} (h : ta σ H fun x H1 => (∃ a, x = .str a) ∧ te σ H1 fun y H2 => r x [y] H2 Q) : tM1 r ta te σ H Q := h
theorem d_exs {A : Str} {C : Prop} (h : C) : (∃ a, V.str A = .str a) ∧ C := ⟨⟨_, rfl⟩, h⟩
theorem d_app {l : Addr} {ys : List V} (h : H l = some (.lst ys)) (q : tr σ H fun zs H2 => rAppend (.ref l) zs H2 Q) : tyV K "list" (.ref l) H ∧ tr σ H fun zs H2 => rAppend (.ref l) zs H2 Q := ⟨.inl ⟨rfl, _, SqL.of h⟩, q⟩
theorem d_append {l : Addr} {ys : List V} (h : H l = some (.lst ys)) (hl : ys.length < sizeLine) (q : Q .non (upd H l (.lst (ys ++ [y])))) : rAppend (.ref l) [y] H Q := ⟨l, ys, y, rfl, rfl, h, hl, q⟩
theorem d_setL {QU : Hp → Prop} {l : Addr} {ys : List V} {j : Nat} (h : H l = some (.lst ys)) (e : ixN ys.length i = some j) (q : QU (upd H l (.lst (ys.set j v)))) : rSetL (.ref l) (.int i) v H QU := ⟨l, ys, i, j, rfl, rfl, h, e, q⟩
theorem d_lenL {C : List V → Prop} (h : SqL K H p xs) (q : C xs) : ∃ p' ys, [V.ref p] = [.ref p'] ∧ (SqL K H p' ys ∨ SqT K H p' ys) ∧ C ys := ⟨p, xs, rfl, .inl h, q⟩
theorem d_lenT {C : List V → Prop} (h : SqT K H p xs) (q : C xs) : ∃ p' ys, [V.ref p] = [.ref p'] ∧ (SqL K H p' ys ∨ SqT K H p' ys) ∧ C ys := ⟨p, xs, rfl, .inr h, q⟩
theorem d_lenS {C : Str → Prop} {z : Str} (h : z.length ≤ sizeLine) (q : C z) : ∃ z', [V.str z] = [.str z'] ∧ z'.length ≤ sizeLine ∧ C z' := ⟨z, rfl, h, q⟩
theorem d_isN {C : Prop} (q : C) : V.non = .non ∧ C := ⟨rfl, q⟩
-- statements
theorem d_next (h : D.nx σ H) : tNext D σ H := h
theorem d_seq (h : t { D with nx := u D } σ H) : tSeq t u D σ H := h
theorem d_asg {g : TG} (h : te σ H fun x H1 => g x σ H1 D.nx) : tAsg te g D σ H := h
theorem d_drop (h : te σ H fun _ H1 => D.nx σ H1) : tDrop te D σ H := h
theorem d_ret (h : te σ H D.rt) : tRet te D σ H := h
theorem d_retN (h : D.rt .non H) : tRetN D σ H := h
theorem d_ifS (h : tt σ H fun b H1 => if b = true then t D σ H1 else u D σ H1) : tIfS tt t u D σ H := h
theorem d_brk (h : D.bk σ H) : tBreak D σ H := h
theorem d_ct (h : D.ct σ H) : tCont D σ H := h
theorem d_aug {i : Nat} {ti : TIp} (e : σ[i]? = some (some x)) (h : te σ H fun y H1 => ti x y H1 fun z H2 => D.nx (σ.set i (some z)) H2) : tAug i te ti D σ H := ⟨x, e, h⟩
theorem d_gname {i : Nat} {QS : L2.St → Hp → Prop} (h : QS (σ.set i (some v)) H) : gName i v σ H QS := h
theorem d_gnil {QS : L2.St → Hp → Prop} (h : QS σ H) : gNil [] σ H QS := ⟨rfl, h⟩
theorem d_gcons {t : TG} {u : TGs} {vs : List V} {QS : L2.St → Hp → Prop} (h : t v σ H fun σ' H' => u vs σ' H' QS) : gCons t u (v :: vs) σ H QS := ⟨v, vs, rfl, h⟩
theorem d_gtup {t : TGs} {QS : L2.St → Hp → Prop} (h : SqT K H p xs) (hl : xs.length = n) (q : t xs σ H QS) : gTup K n t (.ref p) σ H QS := ⟨p, xs, rfl, h, hl, q⟩
theorem d_gtupm {t : TGs} {QS : L2.St → Hp → Prop} (h : H p = some (.tup xs)) (hl : xs.length = n) (q : t xs σ H QS) : gTup K n t (.ref p) σ H QS := ⟨p, xs, rfl, SqT.of h, hl, q⟩
theorem d_gsub {ti : TE} {s : TSet} {QS : L2.St → Hp → Prop} (h : ta σ H fun o H1 => ti σ H1 fun i H2 => s o i v H2 fun H3 => QS σ H3) : gSub ta ti s v σ H QS := h
-- what is walked
theorem d_for {wi : TI} {g : TG} (h : wi σ H fun J H1 => ∃ W : Nat → Nat → L2.St → Hp → Prop, (∃ m, W 0 m σ H1) ∧ ∀ i m σ H, W i m σ H →
  (J.stop i H ∧ D.nx σ H) ∨ (J.go i H ∧ ∃ N : L2.St → Hp → Prop, (∀ σ' H', N σ' H' → ∃ m', m' < m ∧ W (i + 1) m' σ' H') ∧ ∀ x H', J.yld i H x H' → g x σ H' fun σ2 H2 => t { D with nx := N, ct := N, bk := D.nx } σ2 H2)) : tFor wi g t D σ H := h
theorem d_lc {wi : TI} {g : TG} {vs : List Nat} (h : wi σ H fun J H1 => ∀ D, H1 D = none → ∃ W : Nat → Nat → Hp → Prop, (∃ m, W 0 m (upd H1 D (.lst []))) ∧ ∀ i m H, W i m H →
  (J.stop i H ∧ Q (.ref D) H) ∨ (J.go i H ∧ ∃ Nx : Hp → Prop, (∀ H', Nx H' → ∃ m', m' < m ∧ W (i + 1) m' H') ∧ ∀ x H', J.yld i H x H' → g x (wipe σ vs) H' fun σ2 H2 => wipe σ2 vs = wipe σ vs ∧ tt σ2 H2 fun b H3 =>
    if b = true then te σ2 H3 fun y H4 => ∃ acc, H4 D = some (.lst acc) ∧ acc.length < sizeLine ∧ Nx (upd H4 D (.lst (acc ++ [y]))) else Nx H3)) : tLc wi g tt te vs σ H Q := h
theorem d_iR1 {R : It → Hp → Prop} (h : tr σ H fun vs H1 => ∃ j : Int, vs = [.int j] ∧ -(2 ^ 62) ≤ j ∧ j < 2 ^ 62 ∧ R (Itr 0 j.toNat) H1) : iRng1 tr σ H R := h
theorem d_iR2 {R : It → Hp → Prop} (h : tr σ H fun vs H1 => ∃ i j : Int, vs = [.int i, .int j] ∧ (-(2 ^ 62) ≤ i ∧ i < 2 ^ 62 ∧ -(2 ^ 62) ≤ j ∧ j < 2 ^ 62) ∧ R (Itr i (j - i).toNat) H1) : iRng2 tr σ H R := h
theorem d_iR1e {C : Int → Prop} (h1 : -(2 ^ 62) ≤ j) (h2 : j < 2 ^ 62) (h : C j) : ∃ k : Int, [V.int j] = [.int k] ∧ -(2 ^ 62) ≤ k ∧ k < 2 ^ 62 ∧ C k := ⟨j, rfl, h1, h2, h⟩
theorem d_iR2e {C : Int → Int → Prop} (h1 : -(2 ^ 62) ≤ i ∧ i < 2 ^ 62 ∧ -(2 ^ 62) ≤ j ∧ j < 2 ^ 62) (h : C i j) : ∃ k l : Int, [V.int i, V.int j] = [.int k, .int l] ∧ (-(2 ^ 62) ≤ k ∧ k < 2 ^ 62 ∧ -(2 ^ 62) ≤ l ∧ l < 2 ^ 62) ∧ C k l := ⟨i, j, rfl, h1, h⟩
theorem d_iL {R : It → Hp → Prop} (h : te σ H fun x H1 => ∃ a, x = .ref a ∧ (∃ xs, SqL K H1 a xs) ∧ R (Itl K a) H1) : iList K te σ H R := h
theorem d_iT {R : It → Hp → Prop} (h : te σ H fun x H1 => ∃ a, x = .ref a ∧ (∃ xs, SqT K H1 a xs) ∧ R (Itt K a) H1) : iTup K te σ H R := h
theorem d_iTe {C : Addr → Prop} {a : Addr} (h : SqT K H a xs) (q : C a) : ∃ a', V.ref a = .ref a' ∧ (∃ xs, SqT K H a' xs) ∧ C a' := ⟨a, rfl, ⟨xs, h⟩, q⟩
theorem d_iLe {C : Addr → Prop} {a : Addr} (h : SqL K H a xs) (q : C a) : ∃ a', V.ref a = .ref a' ∧ (∃ xs, SqL K H a' xs) ∧ C a' := ⟨a, rfl, ⟨xs, h⟩, q⟩
theorem d_iS {R : It → Hp → Prop} (h : te σ H fun v H1 => ∃ x, v = .str x ∧ R (Its x) H1) : iStr te σ H R := h
theorem d_iSe {C : Str → Prop} {z : Str} (q : C z) : ∃ x, V.str z = .str x ∧ C x := ⟨z, rfl, q⟩
theorem d_yes (h : QT true H) : tYes σ H QT := h
theorem d_dget1 {td ty : TE} (h : td σ H fun x H1 => ∃ a, x = .ref a ∧ IsD H1 a ∧ ty σ H1 fun y H2 => ∃ o, DGet H2 a y o ∧ Q (o.getD .non) H2) : tDGet1 td ty σ H Q := h
theorem d_dget2 {td ty tx : TE} (h : td σ H fun x H1 => ∃ a, x = .ref a ∧ IsD H1 a ∧ ty σ H1 fun y H2 => tx σ H2 fun z H3 => ∃ o, DGet H3 a y o ∧ Q (o.getD z) H3) : tDGet2 td ty tx σ H Q := h
theorem d_daug {td ty tv : TE} {rd : V → V → Hp → VK → Prop} (h : td σ H fun x H1 => ty σ H1 fun y H2 => ∃ a v, x = .ref a ∧ DGet H2 a y (some v) ∧ tv σ H2 fun y2 H3 => rd v y2 H3 fun z H4 => ∃ H5, DPut H4 a y z H5 ∧ D.nx σ H5) : sDAug td ty tv rd D σ H := h
theorem d_notV (h : ta σ H fun x H1 => ∃ c, x = .bl c ∧ Q (.bl (!c)) H1) : tNotV ta σ H Q := h
theorem d_par {i j : Nat} (h : tr σ H fun vs H1 => ∃ v w, vs = [v, w] ∧ D.nx ((σ.set i (some v)).set j (some w)) H1) : tPar i j tr D σ H := h
theorem d_par2 {C : V → V → Prop} (h : C x y) : ∃ v w, [x, y] = [v, w] ∧ C v w := ⟨x, y, rfl, h⟩
theorem d_dget {td ty : TE} (h : td σ H fun x H1 => ty σ H1 fun y H2 => ∃ a v, x = .ref a ∧ DGet H2 a y (some v) ∧ Q v H2) : tDGet td ty σ H Q := h
theorem d_dput {td ty tv : TE} (h : tv σ H fun v H1 => td σ H1 fun x H2 => ty σ H2 fun y H3 => ∃ a H4, x = .ref a ∧ DPut H3 a y v H4 ∧ D.nx σ H4) : sDPut td ty tv D σ H := h
theorem d_din {td ty : TE} (h : ty σ H fun y H1 => td σ H1 fun x H2 => ∃ a o, x = .ref a ∧ DGet H2 a y o ∧ Q (.bl o.isSome) H2) : tDIn ty td σ H Q := h
theorem d_dnewT (h : ∀ p, H p = none → Q (.ref p) (upd H p (.dT []))) : tDNewT σ H Q := h
theorem d_dnewK (h : ∀ p, H p = none → Q (.ref p) (upd H p (.dK []))) : tDNewK σ H Q := h
theorem iteNT {A B : Prop} (h : B) : if (!true) = true then A else B := h
theorem iteNF {A B : Prop} (h : A) : if (!false) = true then A else B := h
theorem d_cut (M : L2.St → Hp → Prop) (h : t { D with nx := M } σ H) (k : ∀ σ' H', M σ' H' → u D σ' H') : Evl.tCut t u D σ H := ⟨M, h, k⟩
/-- a and b where b only looks -/
theorem if_any {c : Bool} {tb : TE} (hb : ∀ Q' : VK, (∀ b H', Same H H' → Q' (.bl b) H') → tb σ H Q') (q : ∀ b H', Same H H' → Q (.bl b) H') : if c = true then tb σ H Q else Q (.bl false) H := by
  cases c with
  | true => exact iteT (hb Q q)
  | false => exact iteF (q _ _ (Same.refl _))
theorem d_wipe {σ2 σ3 : L2.St} {vs : List Nat} {C : Prop} (e : wipe σ2 vs = wipe σ3 vs) (h : C) : wipe σ2 vs = wipe σ3 vs ∧ C := ⟨e, h⟩
theorem d_lsten (h : tr σ H fun vs H1 => rLstEn K vs H1 Q) : tLstEn K tr σ H Q := h
theorem d_slL {a : Addr} {lo hi : Option Int} (h : SqL K H a xs) (q : ∀ p, H p = none → Q (.ref p) (upd H p (.lst (cutV xs lo hi)))) : rSlL K (.ref a) lo hi H Q := ⟨a, xs, rfl, h, q⟩
theorem d_lrg {tg : L2.St → Hp → (Int → Int → Hp → Prop) → Prop} (h : tg σ H fun a b H1 => RgOk a b ∧ ∀ q, H1 q = none → Q (.ref q) (upd H1 q (.lst (rgV a b)))) : tLstRg tg σ H Q := h
theorem d_rg1 {R : Int → Int → Hp → Prop} (h : te σ H fun x H1 => ∃ n, x = .int n ∧ R 0 n H1) : tRg1 te σ H R := h
end
/-- the law's hand: two whole numbers -/
def Hand (H : Hp) (h : Addr) : Prop := ∃ d m : Int, H h = some (.lst [.int d, .int m]) ∧ 0 ≤ d ∧ 0 ≤ m ∧ m < 2147483587
theorem Hand.same {H H' : Hp} {h : Addr} (x : Hand H h) (s : Same H H') : Hand H' h := by
  obtain ⟨d, m, e, r⟩ := x
  exact ⟨d, m, s _ _ e, r⟩
theorem Hand.ne {H : Hp} {h p : Addr} (x : Hand H h) (n : H p = none) : p ≠ h := by
  obtain ⟨d, m, e, r⟩ := x
  exact (ne_of_none e n).symm
theorem Hand.put {H : Hp} {h p : Addr} {o : HO} (x : Hand H h) (n : p ≠ h) : Hand (upd H p o) h := by
  obtain ⟨d, m, e, r⟩ := x
  exact ⟨d, m, by rw [upd_ne n.symm]; exact e, r⟩
/-- a tuple stays where a list changes -/
theorem Keep.sqt {K : PySem.W.Frag} {h : Addr} {H H' : Hp} {a : Addr} {xs ys : List V} (k : Keep h H H') (e : H h = some (.lst ys)) (q : SqT K H a xs) : SqT K H' a xs := by
  rcases q with (q | ⟨o, q⟩) | q
  · exact .inl (.inl (k _ _ (ne_of q e (by intro z; cases z)) q))
  · exact .inl (.inr ⟨o, k _ _ (ne_of q e (by intro z; cases z)) q⟩)
  · exact .inr q
mutual
theorem dp_same {K : PySem.W.Frag} {H H' : Hp} (s : Same H H') : ∀ (d : PyData) (v : V), Dp K H v d → Dp K H' v d
  | .none, _, h => by cases h; exact .non
  | .bool b, _, h => by cases h; exact .bl b
  | .int i, _, h => by cases h; exact .int i
  | .str x, _, h => by cases h; exact .str x
  | .list ds, _, h => by
    cases h with
    | lst hs ha => exact .lst (Same.seq s hs) (dpa_same s ds _ ha)
  | .tuple ds, _, h => by
    cases h with
    | tup hs ha => exact .tup (Same.sqt s hs) (dpa_same s ds _ ha)
  | .dict _, _, h => by cases h
theorem dpa_same {K : PySem.W.Frag} {H H' : Hp} (s : Same H H') : ∀ (ds : List PyData) (vs : List V), DpAll K H vs ds → DpAll K H' vs ds
  | [], _, h => by cases h; exact .nil
  | d :: ds, _, h => by
    cases h with
    | cons a b => exact .cons (dp_same s d _ a) (dpa_same s ds _ b)
end
theorem dpa_ints {K : PySem.W.Frag} {H : Hp} : ∀ ns : List Int, DpAll K H (ns.map V.int) (ns.map PyData.int)
  | [] => .nil
  | n :: r => .cons (.int n) (dpa_ints r)
theorem shaped_ints (ns : List Int) : SeqAt.shaped (.list (ns.map PyData.int)) = true := PySem.W.ke_shaped_ints ns
/-- one sign -/
abbrev sg (c : Nat) : Str := ⟨#[c]⟩
def Ltr (c : Nat) : Prop := 97 ≤ c ∧ c ≤ 122
abbrev Tie := Nat × Nat × Nat
/-- places' kinds, ties -/
abbrev Web := List Nat × List Tie
def TieAt (K : PySem.W.Frag) (H : Hp) (v : V) (t : Tie) : Prop := ∃ a, v = .ref a ∧ SqT K H a [.int (t.1 : Nat), .int (t.2.1 : Nat), .str (sg t.2.2)]
def WebAt (K : PySem.W.Frag) (H : Hp) (v : V) (w : Web) : Prop := ∃ a b tvs, v = .ref a ∧ SqT K H a [.str ⟨w.1.toArray⟩, .ref b] ∧ SqT K H b tvs ∧ Paired (TieAt K H) tvs w.2
def tlt (s t : Tie) : Prop := s.1 < t.1 ∨ (s.1 = t.1 ∧ s.2.1 < t.2.1)
structure WOk (w : Web) : Prop where
  few : w.1.length ≤ 40
  most : w.2.length ≤ 1600
  kinds : ∀ c ∈ w.1, Ltr c
  rise : w.2.Pairwise tlt
  ends : ∀ t ∈ w.2, t.1 < t.2.1 ∧ t.2.1 < w.1.length ∧ Ltr t.2.2
theorem Paired.imp {α β : Type} {F G : α → β → Prop} {xs : List α} {ys : List β} (p : Paired F xs ys) (h : ∀ a b, F a b → G a b) : Paired G xs ys := by
  induction p with
  | nil => exact .nil
  | cons a _ ih => exact .cons (h _ _ a) ih
theorem TieAt.same {K : PySem.W.Frag} {H H' : Hp} {v : V} {t : Tie} (x : TieAt K H v t) (s : Same H H') : TieAt K H' v t := by
  obtain ⟨a, e, q⟩ := x
  exact ⟨a, e, Same.sqt s q⟩
theorem TieAt.keep {K : PySem.W.Frag} {H H' : Hp} {v : V} {t : Tie} {h : Addr} {ys : List V} (x : TieAt K H v t) (k : Keep h H H') (e : H h = some (.lst ys)) : TieAt K H' v t := by
  obtain ⟨a, e', q⟩ := x
  exact ⟨a, e', k.sqt e q⟩
theorem WebAt.same {K : PySem.W.Frag} {H H' : Hp} {v : V} {w : Web} (x : WebAt K H v w) (s : Same H H') : WebAt K H' v w := by
  obtain ⟨a, b, tvs, e, q1, q2, q3⟩ := x
  exact ⟨a, b, tvs, e, Same.sqt s q1, Same.sqt s q2, Paired.imp q3 fun _ _ z => z.same s⟩
theorem WebAt.keep {K : PySem.W.Frag} {H H' : Hp} {v : V} {w : Web} {h : Addr} {ys : List V} (x : WebAt K H v w) (k : Keep h H H') (e : H h = some (.lst ys)) : WebAt K H' v w := by
  obtain ⟨a, b, tvs, e', q1, q2, q3⟩ := x
  exact ⟨a, b, tvs, e', k.sqt e q1, k.sqt e q2, Paired.imp q3 fun _ _ z => z.keep k e⟩
theorem TieAt.put {K : PySem.W.Frag} {H : Hp} {v : V} {t : Tie} {b : Addr} {o : HO} (x : TieAt K H v t) (n : H b = none ∨ ∃ ys, H b = some (.lst ys)) : TieAt K (upd H b o) v t := by
  obtain ⟨a, e, q⟩ := x
  exact ⟨a, e, sqt_upd n q⟩
theorem WebAt.put {K : PySem.W.Frag} {H : Hp} {v : V} {w : Web} {b : Addr} {o : HO} (x : WebAt K H v w) (n : H b = none ∨ ∃ ys, H b = some (.lst ys)) : WebAt K (upd H b o) v w := by
  obtain ⟨a, b, tvs, e', q1, q2, q3⟩ := x
  exact ⟨a, b, tvs, e', sqt_upd n q1, sqt_upd n q2, Paired.imp q3 fun _ _ z => z.put n⟩
theorem Paired.at {α β : Type} {F : α → β → Prop} : ∀ {xs : List α} {ys : List β}, Paired F xs ys → ∀ {i : Nat} {x : α}, xs[i]? = some x → ∃ y, ys[i]? = some y ∧ F x y
  | _, _, .nil, i, x, h => by cases h
  | _, _, .cons r t, 0, x, h => by
    cases h
    exact ⟨_, rfl, r⟩
  | _, _, .cons r t, i + 1, x, h => Paired.at t h
open TL in
theorem joinL_nil : ∀ ps : List (List Nat), joinL [] ps = ps.flatten
  | [] => rfl
  | [p] => by show p = [p].flatten; simp
  | p :: q :: r => by
    show p ++ ([] ++ joinL [] (q :: r)) = (p :: q :: r).flatten
    rw [joinL_nil (q :: r)]; simp
theorem str_ext {x y : Str} (h : x.cps.toList = y.cps.toList) : x = y := by
  cases x; cases y
  simpa using h
open TL in
theorem join_signs (cs : List Nat) : Txt.join (Str.ofString "") (cs.map sg) = ⟨cs.toArray⟩ := by
  rw [join_eq]
  apply str_ext
  show tl (Str.join (Str.ofString "") (cs.map sg)) = cs
  rw [tl_join, show tl (Str.ofString "") = [] from by decide +kernel, joinL_nil, List.map_map]
  induction cs with
  | nil => rfl
  | cons c r ih =>
    rw [List.map_cons, List.flatten_cons, ih]
    rfl
theorem sum_const {α : Type} (f : α → Nat) (n : Nat) : ∀ l : List α, (∀ x ∈ l, f x = n) → (l.map f).sum = l.length * n
  | [], _ => by simp
  | a :: r, h => by
    rw [List.map_cons, List.sum_cons, sum_const f n r fun x hx => h x (List.mem_cons_of_mem _ hx), h a List.mem_cons_self, List.length_cons, Nat.succ_mul]
    omega
theorem sz {n : Nat} (h : n ≤ 100000) : n ≤ sizeLine := Nat.le_trans h (by decide)
theorem szl {n : Nat} (h : n ≤ 100000) : n < sizeLine := Nat.lt_of_le_of_lt h (by decide)
end Cw

namespace Cw
open PySem PySem.Spec PyProof.Rows L2
/-! ### ties -/
def at2 (a b : Nat) (t : Tie) : Bool := (t.1 == a && t.2.1 == b) || (t.1 == b && t.2.1 == a)
def tieL (ts : List Tie) (a b : Nat) : Option Nat := (ts.find? (at2 a b)).map (·.2.2)
def beside (p : Nat) (t : Tie) : Option Nat := if t.1 = p then some t.2.1 else if t.2.1 = p then some t.1 else none
def nb (ts : List Tie) (p : Nat) : List Nat := ts.filterMap (beside p)
theorem at2_iff {a b : Nat} {t : Tie} : at2 a b t = true ↔ (t.1 = a ∧ t.2.1 = b) ∨ (t.1 = b ∧ t.2.1 = a) := by
  simp [at2]
theorem at2_swap (a b : Nat) (t : Tie) : at2 a b t = at2 b a t := by
  unfold at2; rw [Bool.or_comm]
theorem tieL_swap (ts : List Tie) (a b : Nat) : tieL ts a b = tieL ts b a := by
  unfold tieL
  rw [show at2 a b = at2 b a from funext (at2_swap a b)]
theorem tieL_isSome {ts : List Tie} {a b : Nat} : (tieL ts a b).isSome = true ↔ ∃ t ∈ ts, at2 a b t = true := by
  unfold tieL
  rw [Option.isSome_map, List.find?_isSome]
theorem tieL_none {ts : List Tie} {a b : Nat} (h : ∀ t ∈ ts, at2 a b t = false) : tieL ts a b = none := by
  unfold tieL
  rw [List.find?_eq_none.mpr (fun t ht => by rw [h t ht]; simp)]; rfl
theorem tieL_snoc (l : List Tie) (t : Tie) (a b : Nat) : tieL (l ++ [t]) a b = (tieL l a b).or (if at2 a b t = true then some t.2.2 else none) := by
  unfold tieL
  rw [List.find?_append]
  cases l.find? (at2 a b) with
  | some x => rfl
  | none =>
    show ((none : Option Tie).or ([t].find? (at2 a b))).map (·.2.2) = (none : Option Nat).or _
    rw [Option.none_or, Option.none_or]
    by_cases h : at2 a b t = true
    · rw [if_pos h, List.find?_cons_of_pos h]; rfl
    · rw [if_neg h, List.find?_cons_of_neg h]; rfl
theorem nb_snoc (l : List Tie) (t : Tie) (p : Nat) : nb (l ++ [t]) p = nb l p ++ (if t.1 = p then [t.2.1] else if t.2.1 = p then [t.1] else []) := by
  unfold nb
  rw [List.filterMap_append]
  congr 1
  by_cases h1 : t.1 = p
  · rw [if_pos h1]; simp [beside, h1]
  · by_cases h2 : t.2.1 = p
    · rw [if_neg h1, if_pos h2]; simp [beside, h1, h2]
    · rw [if_neg h1, if_neg h2]; simp [beside, h1, h2]
theorem nb_len (l : List Tie) (p : Nat) : (nb l p).length ≤ l.length := List.length_filterMap_le _ _
theorem take_snoc {α : Type} {l : List α} {i : Nat} {x : α} (h : l[i]? = some x) : l.take (i + 1) = l.take i ++ [x] := by
  rw [List.take_add_one, h]; rfl
/-- no tie stands twice -/
theorem tieL_new {ts : List Tie} (s : ts.Pairwise tlt) (e : ∀ t ∈ ts, t.1 < t.2.1) {i : Nat} {t : Tie} (h : ts[i]? = some t) : tieL (ts.take i) t.1 t.2.1 = none := by
  refine tieL_none fun u hu => ?_
  have hl : (ts.take i ++ [t]).Pairwise tlt := by rw [← take_snoc h]; exact s.sublist (List.take_sublist _ _)
  have lt := (List.pairwise_append.mp hl).2.2 u hu t List.mem_cons_self
  have e1 := e u (List.mem_of_mem_take hu)
  have e2 := e t (List.mem_of_getElem? h)
  cases q : at2 t.1 t.2.1 u with
  | false => rfl
  | true =>
    rcases at2_iff.mp q with ⟨a, b⟩ | ⟨a, b⟩
    · rcases lt with z | ⟨_, z⟩ <;> omega
    · omega
theorem sorted_ext : ∀ {l m : List Nat}, l.Pairwise (· < ·) → m.Pairwise (· < ·) → (∀ x, x ∈ l ↔ x ∈ m) → l = m
  | [], [], _, _, _ => rfl
  | [], y :: m, _, _, h => absurd ((h y).mpr List.mem_cons_self) (by simp)
  | x :: l, [], _, _, h => absurd ((h x).mp List.mem_cons_self) (by simp)
  | x :: l, y :: m, hl, hm, h => by
    obtain ⟨l1, l2⟩ := List.pairwise_cons.mp hl
    obtain ⟨m1, m2⟩ := List.pairwise_cons.mp hm
    have hx : x = y := by
      rcases List.mem_cons.mp ((h x).mp List.mem_cons_self) with z | z
      · exact z
      · rcases List.mem_cons.mp ((h y).mpr List.mem_cons_self) with z' | z'
        · exact z'.symm
        · have a := m1 x z
          have b := l1 y z'
          omega
    subst hx
    congr 1
    refine sorted_ext l2 m2 fun z => ⟨fun hz => ?_, fun hz => ?_⟩
    · rcases List.mem_cons.mp ((h z).mp (List.mem_cons_of_mem _ hz)) with q | q
      · have := l1 z hz; omega
      · exact q
    · rcases List.mem_cons.mp ((h z).mpr (List.mem_cons_of_mem _ hz)) with q | q
      · have := m1 z hz; omega
      · exact q
theorem beside_iff {p o : Nat} {t : Tie} (e : t.1 < t.2.1) : beside p t = some o ↔ at2 p o t = true := by
  rw [at2_iff]
  unfold beside
  by_cases h1 : t.1 = p
  · rw [if_pos h1]
    constructor
    · intro z; exact .inl ⟨h1, Option.some.inj z⟩
    · rintro (⟨_, z⟩ | ⟨z1, z2⟩)
      · rw [z]
      · omega
  · rw [if_neg h1]
    by_cases h2 : t.2.1 = p
    · rw [if_pos h2]
      constructor
      · intro z; exact .inr ⟨Option.some.inj z, h2⟩
      · rintro (⟨z, _⟩ | ⟨z1, z2⟩)
        · exact absurd z h1
        · rw [z1]
    · rw [if_neg h2]
      constructor
      · intro z; cases z
      · rintro (⟨z, _⟩ | ⟨_, z⟩)
        · exact absurd z h1
        · exact absurd z h2
theorem nb_rise {ts : List Tie} (s : ts.Pairwise tlt) (e : ∀ t ∈ ts, t.1 < t.2.1) (p : Nat) : (nb ts p).Pairwise (· < ·) := by
  unfold nb
  rw [List.pairwise_filterMap]
  refine List.Pairwise.imp_of_mem (fun {t u} ht hu lt a ha b hb => ?_) s
  have e1 := e t ht
  have e2 := e u hu
  rcases at2_iff.mp ((beside_iff e1).mp ha) with ⟨a1, a2⟩ | ⟨a1, a2⟩ <;> rcases at2_iff.mp ((beside_iff e2).mp hb) with ⟨b1, b2⟩ | ⟨b1, b2⟩ <;> rcases lt with z | ⟨z1, z2⟩ <;> omega
theorem nb_eq {w : Web} (W : WOk w) (p : Nat) : nb w.2 p = (List.range w.1.length).filter fun o => (tieL w.2 p o).isSome := by
  refine sorted_ext (nb_rise W.rise (fun t ht => (W.ends t ht).1) p) (List.Pairwise.filter _ List.pairwise_lt_range) fun o => ?_
  rw [List.mem_filter, tieL_isSome, List.mem_range]
  unfold nb
  rw [List.mem_filterMap]
  constructor
  · rintro ⟨t, ht, hb⟩
    have q := (beside_iff (W.ends t ht).1).mp hb
    refine ⟨?_, t, ht, q⟩
    have r := W.ends t ht
    rcases at2_iff.mp q with ⟨_, a⟩ | ⟨a, _⟩ <;> omega
  · rintro ⟨_, t, ht, q⟩
    exact ⟨t, ht, (beside_iff (W.ends t ht).1).mpr q⟩
theorem tieL_self {w : Web} (W : WOk w) (p : Nat) : tieL w.2 p p = none := by
  refine tieL_none fun t ht => ?_
  have r := W.ends t ht
  cases q : at2 p p t with
  | false => rfl
  | true => rcases at2_iff.mp q with ⟨a, b⟩ | ⟨a, b⟩ <;> omega
/-- a tie's kind, or None -/
def optV : Option Nat → V
  | some c => .str (sg c)
  | none => .non
theorem optV_non (o : Option Nat) : (!decide (optV o = .non)) = o.isSome := by cases o <;> rfl
theorem optV_scal (o : Option Nat) : scal (optV o) (optV o) = true := by cases o <;> rfl
def zs (l : List Nat) : List Int := l.map fun (o : Nat) => (o : Int)
theorem ints_map (l : List Nat) : (l.map fun o => V.int (o : Nat)) = (zs l).map V.int := by
  unfold zs; rw [List.map_map]; rfl
theorem eqv_ints (l : List Int) : PyData.eqv (.list (l.map PyData.int)) (.list (l.map PyData.int)) = true := by
  show PyData.eqvAll _ _ = true
  rw [PySem.W.ked_eqvAll, decide_eq_true rfl]
theorem dp_nats {K : PySem.W.Frag} {H : Hp} {a : Addr} {l : List Nat} (h : H a = some (.lst (l.map fun o => V.int (o : Nat)))) : Dp K H (.ref a) (.list ((zs l).map PyData.int)) := by
  rw [ints_map] at h
  exact .lst (SqL.of h) (dpa_ints _)
/-- the heap without one object -/
def del (H : Hp) (a : Addr) : Hp := fun b => if b = a then none else H b
theorem del_ne {H : Hp} {a b : Addr} (n : b ≠ a) : del H a b = H b := by unfold del; rw [if_neg n]
theorem del_at {H : Hp} {a b : Addr} {o : HO} (n : b ≠ a) (h : H b = some o) : del H a b = some o := by rw [del_ne n]; exact h
theorem del_same (H : Hp) (a : Addr) : Same (del H a) H := fun b o e => by
  by_cases n : b = a
  · unfold del at e; rw [if_pos n] at e; cases e
  · rw [del_ne n] at e; exact e
theorem Keep.del {h : Addr} {H H' : Hp} (k : Keep h H H') : Same (del H h) (del H' h) := fun b o e => by
  by_cases n : b = h
  · unfold Cw.del at e; rw [if_pos n] at e; cases e
  · rw [del_ne n] at e ⊢; exact k b o n e
theorem dpa_snoc {K : PySem.W.Frag} {H : Hp} : ∀ {vs : List V} {ds : List PyData} {v : V} {d : PyData}, DpAll K H vs ds → Dp K H v d → DpAll K H (vs ++ [v]) (ds ++ [d])
  | [], [], _, _, _, h => .cons h .nil
  | _ :: _, _ :: _, _, _, .cons a b, h => .cons a (dpa_snoc b h)
/-- what is held: pairs of equal lists of whole numbers -/
def hD (x : List Int) : PyData := .list [.list (x.map PyData.int), .list (x.map PyData.int)]
def Held (K : PySem.W.Frag) (H : Hp) (hd : Addr) (m : Nat) : Prop := ∃ (hs : List V) (xs : List (List Int)), H hd = some (.lst hs) ∧ hs.length ≤ m ∧ DpAll K (del H hd) hs (xs.map hD)
theorem Held.same {K : PySem.W.Frag} {H H' : Hp} {hd : Addr} {m : Nat} (x : Held K H hd m) (s : Same H H') : Held K H' hd m := by
  obtain ⟨hs, xs, e, l, a⟩ := x
  exact ⟨hs, xs, s _ _ e, l, dpa_same (Keep.del (Same.keep s)) _ _ a⟩
theorem Held.mono {K : PySem.W.Frag} {H : Hp} {hd : Addr} {m n : Nat} (x : Held K H hd m) (h : m ≤ n) : Held K H hd n := by
  obtain ⟨hs, xs, e, l, a⟩ := x
  exact ⟨hs, xs, e, Nat.le_trans l h, a⟩
theorem dpa_at {K : PySem.W.Frag} {H : Hp} : ∀ {vs : List V} {ds : List PyData} (i : Nat) {v : V}, DpAll K H vs ds → vs[i]? = some v → ∃ d, ds[i]? = some d ∧ Dp K H v d
  | [], _, _, _, _, h => by simp at h
  | _ :: _, _ :: _, 0, _, .cons a b, h => by
    cases h
    exact ⟨_, rfl, a⟩
  | _ :: _, _ :: _, i + 1, _, .cons a b, h => dpa_at i b (by simpa using h)
theorem rgV_nats (n : Int) : rgV 0 n = (List.range n.toNat).map fun q => V.int (q : Nat) := by
  unfold rgV
  rw [Int.sub_zero]
  congr 1
  funext i
  rw [Int.zero_add]
end Cw

namespace Cw
open PySem PySem.Spec PyProof.Rows L2 Srt

/-! ### triples (whole number, whole number, one sign), by all three -/
abbrev Tri := Int × Int × Nat
def lexT (p q : Tri) : Bool := if p.1 = q.1 then (if p.2.1 = q.2.1 then decide (p.2.2 < q.2.2) else decide (p.2.1 < q.2.1)) else decide (p.1 < q.1)
theorem lexT_iff {p q : Tri} : lexT p q = true ↔ p.1 < q.1 ∨ (p.1 = q.1 ∧ (p.2.1 < q.2.1 ∨ (p.2.1 = q.2.1 ∧ p.2.2 < q.2.2))) := by
  unfold lexT
  by_cases e : p.1 = q.1
  · rw [if_pos e]
    by_cases e2 : p.2.1 = q.2.1
    · rw [if_pos e2, decide_eq_true_eq]; omega
    · rw [if_neg e2, decide_eq_true_eq]; omega
  · rw [if_neg e, decide_eq_true_eq]; omega
theorem lexT_no {p q : Tri} : lexT p q = false ↔ ¬ (p.1 < q.1 ∨ (p.1 = q.1 ∧ (p.2.1 < q.2.1 ∨ (p.2.1 = q.2.1 ∧ p.2.2 < q.2.2)))) := by
  rw [← lexT_iff]
  cases lexT p q <;> simp
theorem swo_T {α : Type} (k : α → Tri) : SrtO.Swo fun v u => lexT (k v) (k u) := by
  refine ⟨fun x y h => ?_, fun x y z h1 h2 => ?_⟩
  · have a := lexT_iff.mp h
    exact lexT_no.mpr (by omega)
  · have a := lexT_no.mp h1
    have b := lexT_no.mp h2
    exact lexT_no.mpr (by omega)
def IsTri (h : Heap) (v : Value) (p : Tri) : Prop := ∃ a o t u t3 n, v = .ref a ∧ h.get? a = some o ∧ o.cls = .type "tuple" ∧ o.data = .seq #[.int p.1 t, .int p.2.1 u, .str (sg p.2.2) t3] n
theorem IsTri.keeps {h h' : Heap} {v : Value} {p : Tri} (x : IsTri h v p) (k : ∀ b o, h.get? b = some o → o.cls = .type "tuple" → h'.get? b = some o) : IsTri h' v p := by
  obtain ⟨a, o, t, u, t3, n, e, ho, hc, hd⟩ := x
  exact ⟨a, o, t, u, t3, n, e, k _ _ ho hc, hc, hd⟩
theorem sg_lt (c d : Nat) : decide ((sg c).cps.toList < (sg d).cps.toList) = decide (c < d) := by
  rw [Bool.eq_iff_iff, decide_eq_true_eq, decide_eq_true_eq]
  show ([c] : List Nat) < [d] ↔ c < d
  rw [List.cons_lt_cons_iff]
  constructor
  · rintro (h | ⟨_, h⟩)
    · exact h
    · exact absurd h (List.not_lt_nil _)
  · intro h; exact .inl h
theorem sg_inj {c d : Nat} : sg c = sg d ↔ c = d := by
  constructor
  · intro h
    have e : (sg c).cps.toList = (sg d).cps.toList := by rw [h]
    simpa using e
  · rintro rfl; rfl
section
variable {prog : Program} {w : World} {A : Around} {E : Value → Shared → Prop} {s : Shared}
theorem tri_cmp {vs : List Value} {k : Value → Tri} (hp : ∀ v ∈ vs, IsTri s.heap v (k v)) : SrtO.Cmp prog w A s (tuples' true) (fun p => p.1 ∈ vs) (SrtO.lt2 fun v u => lexT (k v) (k u)) := by
  intro p q hm hm'
  have h1 := hp _ hm
  have h2 := hp _ hm'
  show wpAny (model prog w) A (keyLt' (tuples' true) p.1 q.1) (fun r s' => s' = s ∧ r = lexT (k p.1) (k q.1)) (fun _ _ => False) s
  generalize k p.1 = P at h1 ⊢
  generalize k q.1 = R at h2 ⊢
  obtain ⟨x, y, c⟩ := P
  obtain ⟨x', y', c'⟩ := R
  obtain ⟨a, o, t, u, t3, n, e, ho, hc, hd⟩ := h1
  obtain ⟨a', o', t', u', t3', n', e', ho', hc', hd'⟩ := h2
  dsimp only at hd hd'
  rw [e, e']
  refine PySem.W.kat_lt ho hd ho' hd' ?_
  show PySem.W.KatLex prog w A true (decide (3 < 3)) _ [(.int x t, .int x' t'), (.int y u, .int y' u'), (.str (sg c) t3, .str (sg c') t3')] 0 s
  refine PySem.W.kat_cons (SeqAt.EqAt.int_int x t x' t' prog w _ _ (PySem.W.kat_go (fun e1 => ?_) (fun e1 => ?_)))
  · have ex : x = x' := by simpa using e1
    subst ex
    refine PySem.W.kat_yes (PySem.W.kat_cons (SeqAt.EqAt.int_int y u y' u' prog w _ _ (PySem.W.kat_go (fun e2 => ?_) (fun e2 => ?_))))
    · have ey : y = y' := by simpa using e2
      subst ey
      refine PySem.W.kat_yes (PySem.W.kat_cons (wpAny_eqBool_str (PySem.W.kat_go (fun e3 => ?_) (fun e3 => ?_))))
      · have ec : c = c' := sg_inj.mp (by simpa using e3)
        subst ec
        exact PySem.W.kat_yes (PySem.W.kat_nil ⟨rfl, (lexT_no.mpr (by show ¬ (x < x ∨ (x = x ∧ (y < y ∨ (y = y ∧ c < c)))); omega)).symm⟩)
      · refine PySem.W.kat_no (PySem.W.kat_one _ _ (PyProof.Rows.lt_str ?_))
        refine (show s = s ∧ decide ((sg c).cps.toList < (sg c').cps.toList) = lexT (x, y, c) (x, y, c') from ⟨rfl, ?_⟩)
        rw [sg_lt]
        unfold lexT
        rw [if_pos rfl, if_pos rfl]
    · have ey : ¬ y = y' := by simpa using e2
      refine PySem.W.kat_no (PySem.W.kat_one _ _ (PyProof.Rows.lt_int ?_))
      refine (show s = s ∧ decide (y < y') = lexT (x, y, c) (x, y', c') from ⟨rfl, ?_⟩)
      unfold lexT
      rw [if_pos rfl, if_neg ey]
  · have ex : ¬ x = x' := by simpa using e1
    refine PySem.W.kat_no (oneLt_int ⟨rfl, ?_⟩)
    unfold lexT
    rw [if_neg ex]
theorem tri_firsts {h : Heap} : ∀ {vs : List Value}, (∀ v ∈ vs, ∃ p, IsTri h v p) → ∃ fs : List Value, PySem.W.KatTups h vs fs ∧ fs.length = vs.length ∧ ∀ f ∈ fs, ∃ x t, f = Value.int x t
  | [], _ => ⟨[], PySem.W.KatTups.nil, rfl, fun _ hm => by simp at hm⟩
  | v :: vs, hp => by
    obtain ⟨fs, h1, h2, h3⟩ := tri_firsts (vs := vs) fun v' hm => hp v' (List.mem_cons_of_mem _ hm)
    obtain ⟨p, a, o, t, u, t3, n, e, ho, hc, hd⟩ := hp v List.mem_cons_self
    subst e
    refine ⟨.int p.1 t :: fs, PySem.W.KatTups.cons ho hc hd rfl h1, by rw [List.length_cons, List.length_cons, h2], fun f hm => ?_⟩
    rcases List.mem_cons.mp hm with rfl | hm
    · exact ⟨_, t, rfl⟩
    · exact h3 f hm
theorem tri_sortable {a : Addr} {vs : List Value} {k : Value → Tri} (h0 : 0 < vs.length) (hp : ∀ v ∈ vs, IsTri s.heap v (k v)) (ha : ∀ o, s.heap.get? a = some o → o.cls ≠ .type "tuple") : SrtO.SortableO prog w A s a vs fun v u => lexT (k v) (k u) := by
  intro h' keep
  have hp' : ∀ v ∈ vs, IsTri h' v (k v) := fun v hm => (hp v hm).keeps fun b o e c => keep b o (fun z => by subst z; exact ha o e c) e
  obtain ⟨fs, h1, h2, h3⟩ := tri_firsts fun v hm => ⟨_, hp' v hm⟩
  refine ⟨tuples' true, fun Q E hq => PySem.W.kat_kind (T := .type "int") h1 (by omega) (fun f hm => ?_) (by rfl) ?_, tri_cmp hp'⟩
  · obtain ⟨x, t, rfl⟩ := h3 f hm
    exact PySem.W.Looks.now
  · rw [show (Value.type "int" != Value.type "tuple") = true by decide +kernel]; exact hq
theorem sorted_tris {l : Addr} {vs : List Value} {k : Value → Tri} {Q : Value → Shared → Prop} (hl : s.heap.IsList l vs.toArray) (hz : vs.length ≤ sizeLine) (hp : ∀ v ∈ vs, IsTri s.heap v (k v))
    (h : ∀ (h' : Heap) (d : Addr) (out : List Value), SrtO.Srtd (fun v u => lexT (k v) (k u)) out → out.Perm vs → (∀ b o, s.heap.get? b = some o → h'.get? b = some o) → s.heap.objs.size ≤ d → (∃ n, h'.get? d = some (seqObj "list" out.toArray n)) → Q (.ref d) { s with heap := h' }) :
    wpAny (model prog w) A (call (.builtin "sorted") [.ref l]) Q E s := by
  refine SrtO.sorted_ord (swo_T k) hl hz (fun h2 h₁ a ha kk => tri_sortable (s := { s with heap := h₁ }) (by omega) (fun v hm => (hp v hm).keeps fun b o e _ => (kk b o e).2) fun o e c => ?_) fun out hs hb => ?_
  · have e' : some o = some (seqObj "list" vs.toArray 0) := e.symm.trans ha
    cases e'
    exact absurd (Value.type.inj c) (by decide)
  · exact h _ _ out hs hb.perm (fun b o e => sortedAll_old e) (Nat.le_succ _) (sortedAll_at s.heap vs out.toArray)
end
def triV (p : Tri) : List V := [.int p.1, .int p.2.1, .str (sg p.2.2)]
/-- sorted(ties): the same tuples, by their three -/
def rSorted3 (K : PySem.W.Frag) : List V → Hp → VK → Prop := fun vs H Q => ∃ (a : Addr) (es : List (Addr × Tri)), vs = [V.ref a] ∧ SqL K H a (es.map fun e => V.ref e.1) ∧ (∀ e ∈ es, H e.1 = some (.tup (triV e.2))) ∧
  ∀ (es' : List (Addr × Tri)) p, es'.Perm es → (es'.map (·.2)).Pairwise (fun x y => lexT y x = false) → H p = none → Q (.ref p) (upd H p (.lst (es'.map fun e => V.ref e.1)))
section
variable {X : Cx}
theorem cr_sorted3 : CallR X (.builtin "sorted") (rSorted3 X.K) := by
  intro pins s σ H vs us Q I r h
  obtain ⟨a, es, rfl, hs, hx, q⟩ := h
  obtain ⟨its, rv, hl, hz⟩ := I.list hs
  obtain ⟨u, rfl, ru⟩ := vals1 r
  obtain rfl : u = Value.ref a := ru
  -- the items, by their addresses
  have eits : its = es.map fun e => Value.ref e.1 := by
    have : ∀ {xs : List (Addr × Tri)} {us : List Value}, Vals (xs.map fun e => V.ref e.1) us → us = xs.map fun e => Value.ref e.1 := by
      intro xs
      induction xs with
      | nil => intro us r; cases r; rfl
      | cons x xs ih =>
        intro us r
        cases r with
        | cons r1 r2 => rw [ih r2, (show _ = Value.ref x.1 from r1)]; rfl
    exact this rv
  -- the key, read off the heap
  let kA : Addr → Tri := fun b => match H b with
    | some (.tup [.int x, .int y, .str z]) => (x, y, (z.cps.toList.headD 0))
    | _ => (0, 0, 0)
  have kA_eq : ∀ e ∈ es, kA e.1 = e.2 := fun e he => by
    show (match H e.1 with
      | some (.tup [.int x, .int y, .str z]) => (x, y, (z.cps.toList.headD 0))
      | _ => (0, 0, 0)) = e.2
    rw [hx e he]; rfl
  let kV' : Value → Tri := fun v => match v with
    | .ref b => kA b
    | _ => (0, 0, 0)
  refine sorted_tris (k := kV') hl.isList (by rw [← rv.length]; exact hz) (fun v hv => ?_) fun h' d out h1 h2 kp hd hn => ?_
  · rw [eits] at hv
    obtain ⟨e, he, rfl⟩ := List.mem_map.mp hv
    obtain ⟨_, its2, r2, o, ho, hc, n, hd⟩ := I.hok _ _ (hx e he)
    have ek : kV' (Value.ref e.1) = e.2 := kA_eq e he
    rw [ek]
    cases r2 with
    | cons ra rr =>
      cases rr with
      | cons rb rr =>
        cases rr with
        | cons rc rr =>
          cases rr
          obtain ⟨t1, rfl⟩ := ra
          obtain ⟨t2, rfl⟩ := rb
          obtain ⟨t3, rfl⟩ := rc
          exact ⟨e.1, o, t1, t2, t3, n, rfl, ho, hc, hd⟩
  · obtain ⟨n, hn⟩ := hn
    rw [eits] at h2
    have hmem : ∀ v ∈ out, ∃ e ∈ es, v = Value.ref e.1 := fun v hv => by
      obtain ⟨e, he, e'⟩ := List.mem_map.mp (h2.mem_iff.mp hv)
      exact ⟨e, he, e'.symm⟩
    -- back to pairs
    let back : Value → Addr × Tri := fun v => match v with
      | .ref b => (b, kA b)
      | _ => (0, (0, 0, 0))
    have p1 : (out.map back).Perm es := by
      have z := h2.map back
      rw [List.map_map] at z
      have e2 : es.map (back ∘ fun e => Value.ref e.1) = es := by
        conv => rhs; rw [← List.map_id es]
        refine List.map_congr_left fun e he => ?_
        show (e.1, kA e.1) = e
        rw [kA_eq e he]
      rw [e2] at z
      exact z
    have e3 : (out.map back).map (fun e => V.ref e.1) = out.map backV := by
      rw [List.map_map]
      refine List.map_congr_left fun v hv => ?_
      obtain ⟨e, he, rfl⟩ := hmem v hv
      rfl
    have srt : ((out.map back).map (·.2)).Pairwise (fun x y => lexT y x = false) := by
      rw [List.map_map, List.pairwise_map]
      refine h1.imp_of_mem fun {x y} hx' hy' hxy => ?_
      obtain ⟨e, he, rfl⟩ := hmem x hx'
      obtain ⟨e', he', rfl⟩ := hmem y hy'
      exact hxy
    have g := q (out.map back) d p1 srt (I.hok.fresh hd)
    rw [e3] at g
    have hzo : (out.map backV).length ≤ sizeLine := by
      rw [List.length_map, h2.length_eq, List.length_map]
      rw [List.length_map] at hz
      exact hz
    have hvb : Vals (out.map backV) out := vals_back fun u hu => by
      obtain ⟨e, he, rfl⟩ := hmem u hu
      exact ⟨_, rfl⟩
    exact ⟨.ref d, upd H d (.lst (out.map backV)), I.laid (t' := s.toks) kp hd (show ObjOk X.prog X.w _ _ _ (.lst (out.map backV)) from ⟨hzo, out, n, hvb, hn⟩), rfl, g⟩

/-- sorted(d), the keys pairs of whole numbers -/
def rSortedD : List V → Hp → VK → Prop := fun vs H Q => ∃ (d : Addr) (kvs : List (List Key × V)), vs = [V.ref d] ∧ H d = some (.dT kvs) ∧ (∀ p ∈ kvs, ∃ i j : Int, p.1 = [.inl i, .inl j]) ∧
  ∀ (es : List (Addr × Int × Int)) p, (es.map fun e => ([.inl e.2.1, .inl e.2.2] : List Key)).Perm (kvs.map (·.1)) → (∀ e ∈ es, H e.1 = some (.tup [.int e.2.1, .int e.2.2])) → (es.map (·.2)).Pairwise (fun x y => SrtO.lexB y x = false) → H p = none → Q (.ref p) (upd H p (.lst (es.map fun e => V.ref e.1)))
theorem cr_sortedD (hc : X.calm = true) : CallR X (.builtin "sorted") rSortedD := by
  intro pins s σ H vs us Q I r h
  obtain ⟨d, kvs, rfl, hd, hk, q⟩ := h
  obtain ⟨u, rfl, ru⟩ := vals1 r
  obtain rfl : u = Value.ref d := ru
  obtain ⟨z, lo, ks, pr, o, es0, ep, ho, hx, hdt, he, hn⟩ := (show ObjOk X.prog X.w H s.heap d (.dT kvs) from I.hok d _ hd)
  have l1 : es0.size = ks.length := size_of_entries he
  have l2 : kvs.length = ks.length := Paired.length pr
  refine Calls.call_function_entry PyProof.Rows.kind_sorted PyProof.Rows.plain_sorted PyProof.Rows.entry_sorted (PyProof.Rows.args_sorted1 _) ?_; unfold Builtin.«sorted»
  refine wpAny_bind (m := checkCount "sorted" 1 1 _) (wpAny_pure (wpAny_bind (PySem.W.kdu_collect (A := X.A.in1) (kdl_raw lo hx hdt) (I.ok.hd hc) ho (by omega) fun h' tk acc hk' hacc => ?_)))
  -- the collected keys
  have ea : acc.toList = ks.map fun x => Value.ref x.2.1 := by
    have hl : acc.toList.length = ks.length := by rw [Array.length_toList, hacc.1]; exact l1
    refine List.ext_getElem? fun j => ?_
    rw [List.getElem?_map]
    cases hj : acc.toList[j]? with
    | none => rw [List.getElem?_eq_none (by have := List.getElem?_eq_none_iff.mp hj; omega)]; rfl
    | some v =>
      obtain ⟨en, hen, hv⟩ := hacc.2 j v (by rw [← Array.getElem?_toList]; exact hj)
      have qe := entry_at he j
      rw [hen] at qe
      cases hb : ks[j]? with
      | none => rw [hb] at qe; cases qe
      | some b =>
        rw [hb] at qe
        have e2 : en = entryOfKey (tupleKind (mixKind X.prog X.w)) b := Option.some.inj qe
        rw [hv, e2]; rfl
  have pk : ∀ x ∈ ks, ∃ i j : Int, x.1 = [.inl i, .inl j] ∧ H x.2.1 = some (.tup [.int i, .int j]) := by
    have go : ∀ {kvs : List (List Key × V)} {ks : List (List Key × Addr × Value)}, Paired (fun (p : List Key × V) (q : List Key × Addr × Value) => p.1 = q.1 ∧ H q.2.1 = some (.tup (p.1.map kV)) ∧ RelV p.2 q.2.2) kvs ks → (∀ p ∈ kvs, ∃ i j : Int, p.1 = [.inl i, .inl j]) → ∀ x ∈ ks, ∃ i j : Int, x.1 = [.inl i, .inl j] ∧ H x.2.1 = some (.tup [.int i, .int j]) := by
      intro kvs ks pr
      induction pr with
      | nil => intro _ x hx; simp at hx
      | cons a _ ih =>
        intro hk x hx
        rcases List.mem_cons.mp hx with rfl | hx
        · obtain ⟨i, j, e⟩ := hk _ List.mem_cons_self
          refine ⟨i, j, a.1.symm.trans e, ?_⟩
          have := a.2.1
          rw [e] at this
          exact this
        · exact ih (fun p hp => hk p (List.mem_cons_of_mem _ hp)) x hx
    exact go pr hk
  have ek : ks.map (·.1) = kvs.map (·.1) := by
    have go : ∀ {kvs : List (List Key × V)} {ks : List (List Key × Addr × Value)}, Paired (fun (p : List Key × V) (q : List Key × Addr × Value) => p.1 = q.1 ∧ H q.2.1 = some (.tup (p.1.map kV)) ∧ RelV p.2 q.2.2) kvs ks → ks.map (·.1) = kvs.map (·.1) := by
      intro kvs ks pr
      induction pr with
      | nil => rfl
      | cons a _ ih => rw [List.map_cons, List.map_cons, ih, a.1]
    exact go pr
  let kA : Addr → Int × Int := fun b => match H b with
    | some (.tup [.int x, .int y]) => (x, y)
    | _ => (0, 0)
  have kA_eq : ∀ {b : Addr} {i j : Int}, H b = some (.tup [.int i, .int j]) → kA b = (i, j) := fun {b i j} e => by
    show (match H b with
      | some (.tup [.int x, .int y]) => (x, y)
      | _ => (0, 0)) = (i, j)
    rw [e]
  let kW : Value → Int × Int := fun v => match v with
    | .ref b => kA b
    | _ => (0, 0)
  have I1 : Inv X pins σ H { s with heap := h', toks := tk } := I.kept hk'
  have hal : acc.toList.length ≤ sizeLine := by rw [ea, List.length_map]; omega
  refine wpAny_bind (wpAny_newList ?_ hal)
  have hoL : (h'.push (seqObj "list" acc.toList.toArray 0)).get? h'.objs.size = some (seqObj "list" acc.toList.toArray 0) := Heap.get?_push_size _ rfl
  have hpair : ∀ v ∈ acc.toList, Srt.IsPair (h'.push (seqObj "list" acc.toList.toArray 0)) v (kW v).1 (kW v).2 := fun v hv => by
    rw [ea] at hv
    obtain ⟨x, hx', rfl⟩ := List.mem_map.mp hv
    obtain ⟨i, j, _, e⟩ := pk x hx'
    obtain ⟨_, its2, r2, o', ho', hc', n', hd'⟩ := I1.hok _ _ e
    have e2 : kW (Value.ref x.2.1) = (i, j) := kA_eq e
    rw [e2]
    obtain ⟨u1, u2, rfl, ⟨t1, rfl⟩, ⟨t2, rfl⟩⟩ := vals2 r2
    exact ⟨x.2.1, o', t1, t2, n', rfl, Heap.get?_push_of_some _ ho', hc', hd'⟩
  show wpAny _ _ _ _ _ { s with heap := h'.push (seqObj "list" acc.toList.toArray 0), toks := tk }
  refine wpAny_bind (wpAny_holding (wpAny_call_entry PyProof.Rows.slot_list_sort ⟨_, hoL, rfl⟩ PyProof.Rows.entry_list_sort
    (SrtO.list_sort_ord (s := { s with heap := h'.push (seqObj "list" acc.toList.toArray 0), toks := tk }) (SrtO.swo_lex kW) hoL hal (fun h2 => SrtO.pairs_sortableO (by omega) hpair fun o e c => ?_) fun out hs hb => ⟨_, rfl, ?_⟩) (PyProof.Rows.args_list_sort _)))
  · have e' : some o = some (seqObj "list" acc.toList.toArray 0) := e.symm.trans hoL
    cases e'
    exact absurd (Value.type.inj c) (by decide)
  obtain ⟨n, hn2⟩ := PyProof.Rows.sortedHeap_at (vs := acc.toList) (out := out.toArray) hoL
  have h2 := hb.perm
  rw [ea] at h2
  have hmem : ∀ v ∈ out, ∃ x ∈ ks, v = Value.ref x.2.1 := fun v hv => by
    obtain ⟨x, hx', e'⟩ := List.mem_map.mp (h2.mem_iff.mp hv)
    exact ⟨x, hx', e'.symm⟩
  let back : Value → Addr × Int × Int := fun v => match v with
    | .ref b => (b, kA b)
    | _ => (0, (0, 0))
  have g := q (out.map back) h'.objs.size (by
      have z := h2.map fun v => ([.inl (back v).2.1, .inl (back v).2.2] : List Key)
      rw [List.map_map] at z
      have e2 : ks.map ((fun v => ([.inl (back v).2.1, .inl (back v).2.2] : List Key)) ∘ fun x => Value.ref x.2.1) = ks.map (·.1) := by
        refine List.map_congr_left fun x hx' => ?_
        obtain ⟨i, j, e3, e4⟩ := pk x hx'
        show ([.inl (kA x.2.1).1, .inl (kA x.2.1).2] : List Key) = x.1
        rw [kA_eq e4, e3]
      rw [e2, ek] at z
      rw [List.map_map]
      exact z) (fun e he' => by
      obtain ⟨v, hv, rfl⟩ := List.mem_map.mp he'
      obtain ⟨x, hx', rfl⟩ := hmem v hv
      obtain ⟨i, j, e3, e4⟩ := pk x hx'
      show H x.2.1 = some (.tup [.int (kA x.2.1).1, .int (kA x.2.1).2])
      rw [kA_eq e4, e4]) (by
      rw [List.map_map, List.pairwise_map]
      refine hs.imp_of_mem fun {x y} hx' hy' hxy => ?_
      obtain ⟨e1, _, rfl⟩ := hmem x hx'
      obtain ⟨e2, _, rfl⟩ := hmem y hy'
      exact hxy) (I1.hok.fresh (Nat.le_refl _))
  have e3 : (out.map back).map (fun e => V.ref e.1) = out.map backV := by
    rw [List.map_map]
    refine List.map_congr_left fun v hv => ?_
    obtain ⟨e, he', rfl⟩ := hmem v hv
    rfl
  rw [e3] at g
  have hzo : (out.map backV).length ≤ sizeLine := by
    rw [List.length_map, h2.length_eq, List.length_map]; omega
  have hvb : Vals (out.map backV) out := vals_back fun u hu => by
    obtain ⟨e, _, rfl⟩ := hmem u hu
    exact ⟨_, rfl⟩
  refine wpAny_pure ⟨_, rfl, .ref h'.objs.size, upd H h'.objs.size (.lst (out.map backV)), I1.laid (t' := tk) (fun b u e => ?_) (Nat.le_refl _) (show ObjOk X.prog X.w _ _ _ (.lst (out.map backV)) from ⟨hzo, out, n, hvb, hn2⟩), rfl, g⟩
  have hb' : b < h'.objs.size := Heap.lt_size e
  rw [PyProof.Rows.sortedHeap_old (Nat.ne_of_lt hb') (by rw [size_push']; exact Nat.lt_succ_of_lt hb')]; exact Heap.get?_push_of_some _ e

/-- d.pop(k), k a tuple that is there -/
def rPop1 : V → List V → Hp → VK → Prop := fun x xs H Q => ∃ (a : Addr) (kvs : List (List Key × V)) (k : List Key) (b : Addr) (v : V), x = .ref a ∧ xs = [.ref b] ∧ H a = some (.dT kvs) ∧ H b = some (.tup (k.map kV)) ∧ valV kvs k = some v ∧ Q v (upd H a (.dT (dropK kvs k)))
end
section
variable {prog : Program} {w : World} {K : Type} [DecidableEq K] {knd : HeapKind prog w K}
theorem meets_pop1 {d b : Addr} {k : K} (hd : (d == sysModules) = false) :
    MeetsIn prog w (Builtin.«dict.pop» ⟨[.ref d, .ref b], []⟩) (fun A R s => ∃ xs p0, knd.room A.in1 ∧ knd.is s.heap k b ∧ s.heap.DictOfH knd d xs ∧ xs.length ≤ sizeLine ∧ atKey xs k = some p0 ∧
      ∀ p, atKey xs k = some p → ∀ h' tk, h'.DictOfH knd d (DT.dropH xs k) → Heap.SameBut d s.heap h' → R (.ok (.ret p.2)) { s with heap := h', toks := tk }) :=
  .of_wp fun A R s ⟨xs, p0, hu, hkey, hm, hsz, hp0, hsome⟩ => by
    obtain ⟨o, es, ep, ho, hc, hdat, he, his, hn⟩ := id hm
    have hes : es.size = xs.length := size_of_entries he
    have hne : xs ≠ [] := fun z => by rw [z] at hp0; cases hp0
    have hem : es.isEmpty = false := by
      cases q : es.isEmpty with
      | false => rfl
      | true =>
        have z : es.size = 0 := by simpa using q
        exact absurd (List.length_eq_zero_iff.mp (by omega)) hne
    unfold Builtin.«dict.pop»
    refine wpAny_bind ?_; unfold Builtin.Dict.keyAndDefault
    refine wpAny_bind (wpAny_notOrdered_dict hm.typeIs ?_)
    show wpAny _ _ (pure (d, Value.ref b, (none : Option Value))) _ _ s
    refine wpAny_pure ?_
    simp only [show (keyPart (Value.ref b)).isSome = false from rfl, Bool.false_eq_true, if_false]
    refine wpAny_bind (wpAny_dictEntries ho hdat (wpAny_bind (wpAny_pure ?_)))
    simp only [hem, Bool.false_eq_true, if_false]
    refine wpAny_bind (DT.takeH hu hkey hm hsz (fun hno => ?_) fun p e hp hev h' hm' hs' => ?_)
    · rw [hno] at hp0; cases hp0
    · simp only [Option.isNone_some, Bool.false_eq_true, if_false]
      exact wpAny_bind (wpAny_letGo (wpAny_pure ⟨e.val, rfl, by rw [hev]; exact hsome p hp h' _ hm' hs'⟩))
end
section
variable {X : Cx}
theorem mt_pop1T (hu : X.A.units + 1 < cLine) : MtR X "dict.pop" rPop1 := by
  intro pins s σ H x xs v us Q I rx rxs h
  obtain ⟨a, kvs, k, b, v0, rfl, rfl, ha, hb, hv0, q⟩ := h
  cases rx
  obtain ⟨u1, rfl, r1⟩ := vals1 rxs
  cases r1
  obtain ⟨z, hd, xs', rel, dd⟩ := dt_of I.hok ha
  have hz : xs'.length ≤ sizeLine := by rw [← Paired.length rel]; exact z
  have r := rel.val k
  rw [hv0] at r
  obtain ⟨p0, hp0, rv⟩ : ∃ p0, atKey xs' k = some p0 ∧ RelV v0 p0.2 := by
    cases ev : atKey xs' k with
    | none => rw [ev] at r; exact (show False from r).elim
    | some p0 => rw [ev] at r; exact ⟨p0, rfl, r⟩
  refine call_meetsIn PySem.F.slot_dict_pop dd.typeIs PySem.F.entry_dict_pop (PySem.F.args_dict_pop_2 _ _) (meets_pop1 (knd := tupleKind (mixKind X.prog X.w)) (k := k) hd) ⟨xs', p0, tupleKind_room_in1 hu, key_of I.hok hb, dd, hz, hp0, fun p hp h' tk dd' hs => ?_⟩
  rw [hp0] at hp
  cases hp
  obtain ⟨o, es, ep, hq, h2, h3, h4, _, h5⟩ := dd'
  have I2 : Inv X pins σ (upd H a (.dT (dropK kvs k))) { s with heap := h', toks := tk } :=
    d_write I (by rw [ha]; exact True.intro) hs ⟨o, hq⟩ ⟨Nat.le_trans (dropK_le kvs k) z, hd, _, (L2.DX.KT_drop k rel).keeps (fun c ys ec => (by rw [upd_ne (ne_of ec ha (fun z => nomatch z))]; exact ec)), o, es, ep, hq, h2, h3, h4, h5⟩
  show EP X pins σ Q p0.2 _
  exact ⟨v0, _, I2, rv, q⟩
end
/-- a text's signs with their places -/
def Itse (x : Str) : It := ⟨fun i _ => i < x.cps.size, fun i H v H' => ∃ T c, v = .ref T ∧ H T = none ∧ H' = upd H T (.tup [.int (i : Nat), .str ⟨#[c]⟩]) ∧ x.cps[i]? = some c, fun i _ => x.cps.size ≤ i⟩
theorem turn_enumS {P : Program} {w : World} {K : PySem.W.Frag} {elts : List Expr} {kk : Nat} {tpos : Pos} (e it : Addr) (x : Str) (t : Tok) (ty : String) (hty : ty = "str_ascii_iterator" ∨ ty = "str_iterator") :
    Turn P w K (.Tuple elts kk tpos) (Itse x) [e, it] e (fun i h => (∃ old, IsEnum h e it i old) ∧ h.IsStrIter it ty x t i ∧ e ≠ it ∧ i ≤ x.cps.size) where
  mem := by simp
  obj := fun i h st b hb => by
    obtain ⟨⟨old, he⟩, ⟨o, ho, hc, hd⟩, _⟩ := st
    have e' : b = e ∨ b = it := by simpa using hb
    rcases e' with z | z
    · rw [z]; exact ⟨_, he, fun v q => nomatch q⟩
    · rw [z]; exact ⟨o, ho, fun v q => by rw [hd] at q; cases q⟩
  keep := fun i h h' st k => by
    obtain ⟨⟨old, he⟩, ⟨o, ho, r⟩, hne⟩ := st
    exact ⟨⟨old, k e (by simp) _ he⟩, ⟨o, k it (by simp) o ho, r⟩, hne⟩
  item := by
    intro X hP hw hK hc i pins s σ H E I hf st hg
    subst hP hw hK
    obtain ⟨⟨old, he⟩, hit, hne, hi⟩ := st
    have hg' : i < x.cps.size := hg
    have hel : e < s.heap.objs.size := Heap.lt_size he
    have hil : it < s.heap.objs.size := by obtain ⟨_, q, _⟩ := hit; exact Heap.lt_size q
    have D : Draws X.prog X.w X.A.in1 it [it] x.cps.size (fun i v => ∃ c u, x.cps[i]? = some c ∧ v = .str ⟨#[c]⟩ u) (fun i h => h.IsStrIter it ty x t i) := by
      rcases hty with z | z
      · rw [z]; exact Draws.strAscii (A := X.A.in1) (I.ok.hd hc) it x t
      · rw [z]; exact Draws.strWide (A := X.A.in1) (I.ok.hd hc) it x t
    refine wpAny_pyNext_enum_itemD D he hit hg hne (by simpa using hne) fun v h' tk hv ho hit' hT hsz hk => ?_
    obtain ⟨c, u, hcx, rfl⟩ := hv
    refine ⟨_, rfl, wpAny_letOwnedTupleGo_enum (s := { s with heap := h', toks := tk + 1 }) ho fun h'' he' sb => ?_⟩
    have hT2 : h''.get? s.heap.objs.size = some { cls := .type "tuple", data := .seq #[.int i tk, .str ⟨#[c]⟩ u] } := (sb.2 _ (Nat.ne_of_gt hel)).trans hT
    have new : ObjOk X.prog X.w (upd H s.heap.objs.size (.tup [.int (i : Nat), .str ⟨#[c]⟩])) h'' s.heap.objs.size (.tup [.int (i : Nat), .str ⟨#[c]⟩]) :=
      ⟨(by show 2 ≤ sizeLine; decide), [.int i tk, .str ⟨#[c]⟩ u], .cons ⟨_, rfl⟩ (.cons ⟨u, rfl⟩ .nil), ⟨_, hT2, rfl, _, rfl⟩⟩
    have I1 : Inv X pins σ (upd H s.heap.objs.size (.tup [.int (i : Nat), .str ⟨#[c]⟩])) { s with heap := h'', toks := tk + 1 } :=
      I.turnedNew (ch := [e, it]) (fun b ob hb q => (sb.2 b (fun z => hb (by simp [z]))).trans (hk b ob (fun z => hb (by simp [z])) (fun z => hb (by simp [z])) q)) hf (Nat.le_refl _) new
    refine ⟨.ref s.heap.objs.size, _, I1, rfl, ⟨_, c, rfl, I.hok.fresh (Nat.le_refl _), rfl, hcx⟩, ⟨⟨.str ⟨#[c]⟩ u, ?_⟩, (by obtain ⟨o, a, b⟩ := hit'; exact ⟨o, (sb.2 it (Ne.symm hne)).trans a, b⟩), hne, hg'⟩, fun b hb => ?_⟩
    · rw [show ((i + 1 : Nat) : Int) = (i : Int) + 1 by omega]; exact he'
    · have hb' : b < s.heap.objs.size := by
        have z : b = e ∨ b = it := by simpa using hb
        rcases z with z | z
        · rw [z]; exact hel
        · rw [z]; exact hil
      rw [upd_ne (Nat.ne_of_lt hb')]; exact (hf b hb).1
  done := by
    intro X hP hw hK hc i pins s σ H E I hf st hg
    subst hP hw hK
    obtain ⟨⟨old, he⟩, hit, hne, hi⟩ := st
    have hg' : x.cps.size ≤ i := hg
    obtain rfl : i = x.cps.size := by omega
    have D : Draws X.prog X.w X.A.in1 it [it] x.cps.size (fun i v => ∃ c u, x.cps[i]? = some c ∧ v = .str ⟨#[c]⟩ u) (fun i h => h.IsStrIter it ty x t i) := by
      rcases hty with z | z
      · rw [z]; exact Draws.strAscii (A := X.A.in1) (I.ok.hd hc) it x t
      · rw [z]; exact Draws.strWide (A := X.A.in1) (I.ok.hd hc) it x t
    obtain ⟨f0, f1, f2, f3, f4, f5⟩ := hf it (by simp)
    exact wpAny_pyNext_enum_endD D he hit fun h' eb => ⟨rfl, I.turned (t' := s.toks) (fun b o hb q => eb b o hb q) f0 f1 f3 f4 f5⟩
  self := fun A i s Q E st h => by
    obtain ⟨⟨old, he⟩, _, _⟩ := st
    exact wpAny_pyIter_enum he h
def iEnumS (ta : TA) : TI := fun σ H R => ta σ H fun vs H1 => ∃ x, vs = [.str x] ∧ R (Itse x) H1
theorem strIter_ty (x : Str) : strIterType x = "str_ascii_iterator" ∨ strIterType x = "str_iterator" := by
  unfold strIterType
  cases x.cps.all (· < 128)
  · exact .inr rfl
  · exact .inl rfl
theorem pi_enumS {X : Cx} {e : Expr} {ta : TA} {p pos tpos : Pos} {elts : List Expr} {kk : Nat} (hg : Gl X "enumerate") (hm : X.mg "enumerate" = none) (ha : PA X [e] ta) (hs : starEach [e] X.env = [(false, eval e X.env)] := by rfl) :
    PI X (.Tuple elts kk tpos) (.Call (.Name "enumerate" p) [e] [] pos) (iEnumS ta) := by
  refine ⟨fun pins s σ H R I h => Call_ (ld_blt I hg hm boot_enumerate (PyProof.Rows.callWith_type1 (thn (ha.run pos pins s σ H _ I h) fun us s1 ⟨vs, H1, I1, r1, q1⟩ => ?_) hs rfl))⟩
  obtain ⟨x, ex, q⟩ := q1
  subst ex
  cases r1 with
  | cons r rr =>
    cases rr
    obtain ⟨t, rfl⟩ := r
    refine call_enumerate_str fun h' he hit hsz hk => wpAny_pyIter_enum he ?_
    have I2 : Inv X pins σ H1 { s1 with heap := h' } := I1.kept (t' := s1.toks) hk
    refine ⟨s1.heap.objs.size + 1, [s1.heap.objs.size + 1, s1.heap.objs.size], _, _, H1, rfl, I2, turn_enumS (s1.heap.objs.size + 1) s1.heap.objs.size x t (strIterType x) (strIter_ty x), ⟨⟨.none, he⟩, hit, Nat.succ_ne_self _, Nat.zero_le _⟩, fun b hb => ?_, q⟩
    have hle : s1.heap.objs.size ≤ b := by
      have z : b = s1.heap.objs.size + 1 ∨ b = s1.heap.objs.size := by simpa using hb
      rcases z with z | z
      · rw [z]; exact Nat.le_add_right _ _
      · rw [z]; exact Nat.le_refl _
    exact I1.fpOk hle (I1.hok.fresh hle)
theorem walk_enumS {z : Str} : Walk (Itse z) z.cps.size (fun _ => True) (YPair (fun i => some (.int (i : Nat))) (fun i => z.cps[i]?.map fun c => V.str ⟨#[c]⟩)) := by
  refine ⟨fun _ _ hi _ => hi, fun _ _ => Nat.le_refl _, fun i H v H' _ _ y => ?_⟩
  obtain ⟨T, c, h1, h2, h3, h4⟩ := y
  exact ⟨T, .int (i : Nat), .str ⟨#[c]⟩, h1, h2, h3, rfl, by show (z.cps[i]?).map _ = _; rw [h4]; rfl⟩
theorem d_iEnS {ta : TA} {σ : L2.St} {H : Hp} {R : It → Hp → Prop} (h : ta σ H fun vs H1 => ∃ x, vs = [.str x] ∧ R (Itse x) H1) : iEnumS ta σ H R := h
theorem d_iEnSe {C : Str → Prop} {z : Str} (q : C z) : ∃ x, [V.str z] = [.str x] ∧ C x := ⟨z, rfl, q⟩
theorem d_iEn {K : PySem.W.Frag} {ta : TA} {σ : L2.St} {H : Hp} {R : It → Hp → Prop} (h : ta σ H fun vs H1 => ∃ a xs, vs = [.ref a] ∧ SqL K H1 a xs ∧ R (Ite K a) H1) : iEnum K ta σ H R := h
end Cw

namespace Cw
open PySem PySem.Spec PyProof.Rows L2
theorem erase_map {α β : Type} (f : α → β) : ∀ (l : List α) (m : Nat), (l.map f).eraseIdx m = (l.eraseIdx m).map f
  | [], m => by simp
  | _ :: _, 0 => rfl
  | x :: l, m + 1 => by
    show f x :: (l.map f).eraseIdx m = f x :: (l.eraseIdx m).map f
    rw [erase_map f l m]
theorem erase_perm {α : Type} : ∀ (l : List α) (m : Nat) (h : m < l.length), (l[m] :: l.eraseIdx m).Perm l
  | [], m, h => absurd h (Nat.not_lt_zero _)
  | x :: l, 0, _ => List.Perm.refl _
  | x :: l, m + 1, h => by
    have hm : m < l.length := Nat.lt_of_succ_lt_succ h
    have ih := erase_perm l m hm
    exact (List.Perm.swap x l[m] _).trans (ih.cons x)
/-- as many different numbers below n as there are, at most -/
theorem nodup_len : ∀ (n : Nat) (l : List Nat), l.Nodup → (∀ x ∈ l, x < n) → l.length ≤ n
  | 0, l, _, h => by
    cases l with
    | nil => exact Nat.le_refl _
    | cons x r => exact absurd (h x List.mem_cons_self) (Nat.not_lt_zero _)
  | n + 1, l, hn, h => by
    by_cases hm : n ∈ l
    · have ih := nodup_len n (l.erase n) (hn.erase n) fun x hx => by
        have h1 := h x (List.mem_of_mem_erase hx)
        have h2 : x ≠ n := fun z => by
          subst z
          exact absurd hx (List.Nodup.not_mem_erase hn)
        omega
      rw [List.length_erase_of_mem hm] at ih
      omega
    · have ih := nodup_len n l hn fun x hx => by
        have h1 := h x hx
        have h2 : x ≠ n := fun z => hm (z ▸ hx)
        omega
      omega
/-! ### places called otherwise -/
def qa (qs : List Nat) (p : Nat) : Nat := qs.getD p 0
def mapTie (qs : List Nat) (t : Tie) : Tie := (min (qa qs t.1) (qa qs t.2.1), max (qa qs t.1) (qa qs t.2.1), t.2.2)
theorem qa_at {qs : List Nat} {p : Nat} (h : p < qs.length) : qs[p]? = some (qa qs p) := by
  unfold qa
  rw [List.getD_eq_getElem?_getD, List.getElem?_eq_getElem h]; rfl
structure Ord (qs : List Nat) (n : Nat) : Prop where
  len : qs.length = n
  nd : qs.Nodup
  lt : ∀ q ∈ qs, q < n
  all : ∀ j, j < n → j ∈ qs
theorem Ord.of {qs : List Nat} {n : Nat} (p : qs.Perm (List.range n)) : Ord qs n :=
  ⟨by rw [p.length_eq, List.length_range], p.nodup_iff.mpr List.nodup_range, fun q hq => List.mem_range.mp (p.mem_iff.mp hq), fun j hj => p.mem_iff.mpr (List.mem_range.mpr hj)⟩
theorem Ord.inj {qs : List Nat} {n p r : Nat} (o : Ord qs n) (hp : p < n) (hr : r < n) (h : qa qs p = qa qs r) : p = r := by
  have h1 : p < qs.length := by rw [o.len]; exact hp
  have h2 : r < qs.length := by rw [o.len]; exact hr
  have e1 := qa_at h1
  have e2 := qa_at h2
  rw [List.getElem?_eq_getElem h1] at e1
  rw [List.getElem?_eq_getElem h2] at e2
  exact (List.getElem_inj o.nd).mp ((Option.some.inj e1).trans (h.trans (Option.some.inj e2).symm))
theorem Ord.lt' {qs : List Nat} {n p : Nat} (o : Ord qs n) (hp : p < n) : qa qs p < n := o.lt _ (List.mem_of_getElem? (qa_at (by rw [o.len]; exact hp)))
theorem Ord.onto {qs : List Nat} {n j : Nat} (o : Ord qs n) (hj : j < n) : ∃ p, p < n ∧ qa qs p = j := by
  obtain ⟨p, hp⟩ := List.mem_iff_getElem?.mp (o.all j hj)
  have h1 : p < qs.length := (List.getElem?_eq_some_iff.mp hp).1
  rw [qa_at h1] at hp
  exact ⟨p, by rw [← o.len]; exact h1, Option.some.inj hp⟩
def ends (t : Tie) : Nat × Nat := (t.1, t.2.1)
structure Named (w : Web) (qs : List Nat) (w' : Web) : Prop where
  len : w'.1.length = w.1.length
  kinds : ∀ p, p < w.1.length → w'.1[qa qs p]? = w.1[p]?
  ties : w'.2.Perm (w.2.map (mapTie qs))
theorem mapTie_ends {w : Web} {qs : List Nat} (W : WOk w) (o : Ord qs w.1.length) : (w.2.map (mapTie qs)).Pairwise (fun x y => ends x ≠ ends y) := by
  rw [List.pairwise_map]
  refine List.Pairwise.imp_of_mem (fun {t u} ht hu lt e => ?_) W.rise
  have r1 := W.ends t ht
  have r2 := W.ends u hu
  unfold ends mapTie at e
  simp only [Prod.mk.injEq] at e
  obtain ⟨e1, e2⟩ := e
  by_cases c : qa qs t.1 = qa qs u.1
  · have a := o.inj (by omega) (by omega) c
    have c2 : qa qs t.2.1 = qa qs u.2.1 := by omega
    have b := o.inj (by omega) (by omega) c2
    rcases lt with z | ⟨_, z⟩ <;> omega
  · have c1 : qa qs t.1 = qa qs u.2.1 := by omega
    have c2 : qa qs t.2.1 = qa qs u.1 := by omega
    have a := o.inj (by omega) (by omega) c1
    have b := o.inj (by omega) (by omega) c2
    omega
/-- sorted ties of different ends rise -/
theorem rise_of {ts : List Tie} (s : ts.Pairwise (fun x y => lexT ((y.1 : Int), (y.2.1 : Int), y.2.2) ((x.1 : Int), (x.2.1 : Int), x.2.2) = false)) (d : ts.Pairwise (fun x y => ends x ≠ ends y)) : ts.Pairwise tlt := by
  refine (s.and d).imp fun {x y} h => ?_
  obtain ⟨h1, h2⟩ := h
  have a := lexT_no.mp h1
  unfold ends at h2
  simp only [ne_eq, Prod.mk.injEq, not_and] at h2
  dsimp only at a
  unfold tlt
  by_cases c : x.1 = y.1
  · have := h2 c
    right
    omega
  · left
    omega
theorem named_ok {w w' : Web} {qs : List Nat} (W : WOk w) (o : Ord qs w.1.length) (N : Named w qs w') (s : w'.2.Pairwise (fun x y => lexT ((y.1 : Int), (y.2.1 : Int), y.2.2) ((x.1 : Int), (x.2.1 : Int), x.2.2) = false)) : WOk w' := by
  refine ⟨by rw [N.len]; exact W.few, by rw [N.ties.length_eq, List.length_map]; exact W.most, fun c hc => ?_, rise_of s ?_, fun t ht => ?_⟩
  · obtain ⟨j, hj⟩ := List.mem_iff_getElem?.mp hc
    have hj' : j < w.1.length := by rw [← N.len]; exact (List.getElem?_eq_some_iff.mp hj).1
    obtain ⟨p, hp, rfl⟩ := o.onto hj'
    rw [N.kinds p hp] at hj
    exact W.kinds c (List.mem_of_getElem? hj)
  · exact (List.Perm.pairwise_iff (fun {x y} h => h.symm) N.ties).mpr (mapTie_ends W o)
  · obtain ⟨u, hu, rfl⟩ := List.mem_map.mp (N.ties.mem_iff.mp ht)
    have r := W.ends u hu
    have a := o.lt' (p := u.1) (by omega)
    have b := o.lt' (p := u.2.1) (by omega)
    have n : qa qs u.1 ≠ qa qs u.2.1 := fun z => by
      have := o.inj (by omega) (by omega) z
      omega
    refine ⟨?_, ?_, r.2.2⟩
    · show min _ _ < max _ _; omega
    · show max _ _ < w'.1.length; rw [N.len]; omega
theorem flat_rep (n : Nat) (x : V) : (List.replicate n [x]).flatten = List.replicate n x := by
  induction n with
  | zero => rfl
  | succ n ih => rw [List.replicate_succ, List.flatten_cons, ih, List.replicate_succ]; rfl
end Cw

namespace Cw
open PySem PySem.Spec PyProof.Rows L2
/-! ### a dict of ties by their ends -/
def kE (a b : Int) : List Key := [.inl a, .inl b]
structure DictOk (n : Nat) (kvs : List (List Key × V)) : Prop where
  nd : (kvs.map (·.1)).Nodup
  ok : ∀ p ∈ kvs, ∃ a b c : Nat, p = (kE a b, V.str (sg c)) ∧ a < b ∧ b < n ∧ Ltr c
theorem DictOk.nil (n : Nat) : DictOk n [] := ⟨List.nodup_nil, fun p hp => by simp at hp⟩
theorem valV_mem {kvs : List (List Key × V)} {k : List Key} {v : V} (h : valV kvs k = some v) : (k, v) ∈ kvs := by
  unfold valV at h
  obtain ⟨p, hp, rfl⟩ := Option.map_eq_some_iff.mp h
  have h1 := List.find?_some hp
  have h2 := List.mem_of_find?_eq_some hp
  have e : p.1 = k := of_decide_eq_true h1
  subst e
  exact h2
theorem DictOk.at {n : Nat} {kvs : List (List Key × V)} (d : DictOk n kvs) {k : List Key} {v : V} (h : valV kvs k = some v) : ∃ a b c : Nat, k = kE a b ∧ v = V.str (sg c) ∧ a < b ∧ b < n ∧ Ltr c := by
  obtain ⟨a, b, c, e, r⟩ := d.ok _ (valV_mem h)
  cases e
  exact ⟨a, b, c, rfl, rfl, r⟩
theorem DictOk.put {n : Nat} {kvs : List (List Key × V)} (d : DictOk n kvs) {a b c : Nat} (h1 : a < b) (h2 : b < n) (h3 : Ltr c) : DictOk n (putK kvs (kE a b) (.str (sg c))) := by
  unfold putK
  by_cases h : (kvs.any fun kv => decide (kv.1 = kE a b)) = true
  · rw [if_pos h]
    refine ⟨?_, fun p hp => ?_⟩
    · rw [List.map_map]
      have e : kvs.map ((·.1) ∘ fun kv => if kv.1 = kE a b then (kv.1, V.str (sg c)) else kv) = kvs.map (·.1) := by
        refine List.map_congr_left fun x _ => ?_
        show (if x.1 = kE a b then (x.1, V.str (sg c)) else x).1 = x.1
        split <;> rfl
      rw [e]
      exact d.nd
    · obtain ⟨x, hx, rfl⟩ := List.mem_map.mp hp
      by_cases e : x.1 = kE a b
      · rw [if_pos e, e]
        exact ⟨a, b, c, rfl, h1, h2, h3⟩
      · rw [if_neg e]
        exact d.ok x hx
  · rw [if_neg h]
    have hno : kE a b ∉ kvs.map (·.1) := fun hm => by
      obtain ⟨x, hx, e⟩ := List.mem_map.mp hm
      exact h (List.any_eq_true.mpr ⟨x, hx, decide_eq_true e⟩)
    refine ⟨?_, fun p hp => ?_⟩
    · rw [List.map_append]
      exact List.nodup_append.mpr ⟨d.nd, by simp, fun x hx y hy => by rw [List.mem_singleton.mp hy]; intro z; exact hno (by rw [← (show x = kE a b from z)]; exact hx)⟩
    · rcases List.mem_append.mp hp with hp | hp
      · exact d.ok p hp
      · rw [List.mem_singleton.mp hp]
        exact ⟨a, b, c, rfl, h1, h2, h3⟩
theorem DictOk.drop {n : Nat} {kvs : List (List Key × V)} (d : DictOk n kvs) (k : List Key) : DictOk n (dropK kvs k) :=
  ⟨d.nd.sublist ((List.filter_sublist).map _), fun p hp => d.ok p (List.mem_filter.mp hp).1⟩
theorem valV_drop {kvs : List (List Key × V)} {k j : List Key} (h : j ≠ k) : valV (dropK kvs k) j = valV kvs j := by
  unfold valV dropK
  congr 1
  induction kvs with
  | nil => rfl
  | cons x kvs ih =>
    by_cases e : x.1 = k
    · have e2 : ¬ x.1 = j := fun z => h (z.symm.trans e)
      rw [List.filter_cons_of_neg (by simp [e]), List.find?_cons_of_neg (by simp [e2])]
      exact ih
    · rw [List.filter_cons_of_pos (by simp [e])]
      by_cases e2 : x.1 = j
      · rw [List.find?_cons_of_pos (by simp [e2]), List.find?_cons_of_pos (by simp [e2])]
      · rw [List.find?_cons_of_neg (by simp [e2]), List.find?_cons_of_neg (by simp [e2])]
        exact ih
theorem DictOk.has {n : Nat} {kvs : List (List Key × V)} {k : List Key} (d : DictOk n kvs) (h : k ∈ kvs.map (·.1)) : ∃ v, valV kvs k = some v := by
  obtain ⟨x, hx, rfl⟩ := List.mem_map.mp h
  cases e : valV kvs x.1 with
  | some v => exact ⟨v, rfl⟩
  | none => exact absurd (List.mem_map.mpr ⟨x, hx, rfl⟩) (valV_not e)
theorem DictOk.len {n : Nat} {kvs : List (List Key × V)} (d : DictOk n kvs) (hn : n ≤ 40) : kvs.length ≤ 1600 := by
  let code : List Key × V → Nat := fun p => match p.1 with
    | [.inl a, .inl b] => a.toNat * 40 + b.toNat
    | _ => 0
  have hc : ∀ p ∈ kvs, ∃ a b : Nat, p.1 = kE a b ∧ code p = a * 40 + b ∧ a < 40 ∧ b < 40 := fun p hp => by
    obtain ⟨a, b, c, rfl, h1, h2, _⟩ := d.ok p hp
    exact ⟨a, b, rfl, rfl, by omega, by omega⟩
  have l := nodup_len 1600 (kvs.map code) (by
    have z := d.nd
    unfold List.Nodup at z ⊢
    rw [List.pairwise_map] at z ⊢
    refine List.Pairwise.imp_of_mem (fun {x y} hx hy hne e => ?_) z
    obtain ⟨a, b, e1, e2, b1, b2⟩ := hc x hx
    obtain ⟨a', b', e1', e2', b1', b2'⟩ := hc y hy
    rw [e2, e2'] at e
    have : a = a' ∧ b = b' := by omega
    rw [e1, e1', this.1, this.2] at hne
    exact hne rfl) (fun x hx => by
    obtain ⟨p, hp, rfl⟩ := List.mem_map.mp hx
    obtain ⟨a, b, _, e2, b1, b2⟩ := hc p hp
    rw [e2]; omega)
  rw [List.length_map] at l
  exact l
theorem DictOk.pairs {n : Nat} {kvs : List (List Key × V)} (d : DictOk n kvs) : ∀ p ∈ kvs, ∃ i j : Int, p.1 = [.inl i, .inl j] := fun p hp => by
  obtain ⟨a, b, c, rfl, _⟩ := d.ok p hp
  exact ⟨a, b, rfl⟩
/-- the web's other, in the making -/
def OI (h d : Addr) (H3 : Hp) (N : Nat) (kvs : List (List Key × V)) (H' : Hp) : Prop := H' d = some (.dT kvs) ∧ Keep h H3 H' ∧ Hand H' h ∧ DictOk N kvs
section
variable {h d p : Addr} {H3 H' H'' : Hp} {N : Nat} {kvs : List (List Key × V)} {o : HO}
theorem OI.new (x : OI h d H3 N kvs H') (f : H' p = none) : OI h d H3 N kvs (upd H' p o) := by
  obtain ⟨e, k, hh, dk⟩ := x
  exact ⟨at_upd e f, Keep.new k (Keep.free k (hh.ne f) f), hh.put (hh.ne f), dk⟩
theorem OI.draw (x : OI h d H3 N kvs H') (k' : Keep h H' H'') (hh' : Hand H'' h) : OI h d H3 N kvs H'' := by
  obtain ⟨e, k, hh, dk⟩ := x
  obtain ⟨_, _, eh, _⟩ := hh
  exact ⟨k' d _ (ne_of e eh (by intro z; cases z)) e, Keep.trans k k', hh', dk⟩
theorem OI.same (x : OI h d H3 N kvs H') (s : Same H' H'') : OI h d H3 N kvs H'' := x.draw (Same.keep s) (x.2.2.1.same s)
theorem OI.set (x : OI h d H3 N kvs H') (f : H3 d = none) {kvs' : List (List Key × V)} (dk' : DictOk N kvs') : OI h d H3 N kvs' (upd H' d (.dT kvs')) := by
  obtain ⟨e, k, hh, dk⟩ := x
  obtain ⟨_, _, eh, _⟩ := id hh
  exact ⟨upd_same, Keep.new k f, hh.put (ne_of e eh (by intro z; cases z)), dk'⟩
end
theorem putK_keys {kvs : List (List Key × V)} {k j : List Key} {v : V} (h : j ∈ kvs.map (·.1)) : j ∈ (putK kvs k v).map (·.1) := by
  obtain ⟨x, hx, rfl⟩ := List.mem_map.mp h
  unfold putK
  split
  · refine List.mem_map.mpr ⟨_, List.mem_map.mpr ⟨x, hx, rfl⟩, ?_⟩
    split <;> rfl
  · exact List.mem_map.mpr ⟨x, List.mem_append_left _ hx, rfl⟩
theorem dropK_keys {kvs : List (List Key × V)} {k j : List Key} (h : j ∈ kvs.map (·.1)) (n : j ≠ k) : j ∈ (dropK kvs k).map (·.1) := by
  obtain ⟨x, hx, rfl⟩ := List.mem_map.mp h
  exact List.mem_map.mpr ⟨x, List.mem_filter.mpr ⟨hx, decide_eq_true n⟩, rfl⟩
/-- the web's other, its keys being gone through -/
def OL (h d : Addr) (H3 : Hp) (N : Nat) (p : Addr) (es : List (Addr × Int × Int)) (i : Nat) (kvs : List (List Key × V)) (H' : Hp) : Prop :=
  OI h d H3 N kvs H' ∧ H' p = some (.lst (es.map fun e => V.ref e.1)) ∧ p ≠ h ∧ (∀ e ∈ es, H' e.1 = some (.tup [.int e.2.1, .int e.2.2])) ∧ (∀ j e, i ≤ j → es[j]? = some e → kE e.2.1 e.2.2 ∈ kvs.map (·.1)) ∧ (es.map fun e => kE e.2.1 e.2.2).Nodup
section
variable {h d p b : Addr} {H3 H' H'' : Hp} {N i : Nat} {kvs : List (List Key × V)} {o : HO} {es : List (Addr × Int × Int)}
theorem OL.start (x : OI h d H3 N kvs H') (f : H' p = none) (pm : (es.map fun e => kE e.2.1 e.2.2).Perm (kvs.map (·.1))) (he : ∀ e ∈ es, H' e.1 = some (.tup [.int e.2.1, .int e.2.2])) : OL h d H3 N p es 0 kvs (upd H' p (.lst (es.map fun e => V.ref e.1))) :=
  ⟨x.new f, upd_same, x.2.2.1.ne f, fun e h => at_upd (he e h) f, fun j e _ h => pm.mem_iff.mp (List.mem_map.mpr ⟨e, List.mem_of_getElem? h, rfl⟩), pm.nodup_iff.mpr x.2.2.2.nd⟩
theorem OL.next (x : OL h d H3 N p es i kvs H') : OL h d H3 N p es (i + 1) kvs H' := ⟨x.1, x.2.1, x.2.2.1, x.2.2.2.1, fun j e hj => x.2.2.2.2.1 j e (by omega), x.2.2.2.2.2⟩
theorem OL.new (x : OL h d H3 N p es i kvs H') (f : H' b = none) : OL h d H3 N p es i kvs (upd H' b o) := ⟨x.1.new f, at_upd x.2.1 f, x.2.2.1, fun e h => at_upd (x.2.2.2.1 e h) f, x.2.2.2.2⟩
theorem OL.list (x : OL h d H3 N p es i kvs H') {ys ys' : List V} (e : H' b = some (.lst ys)) (np : b ≠ p) (nh : b ≠ h) (f : H3 b = none) : OL h d H3 N p es i kvs (upd H' b (.lst ys')) := by
  obtain ⟨⟨ed, k, hh, dk⟩, ep, n, he, r⟩ := x
  exact ⟨⟨by rw [upd_ne (ne_of ed e (by intro z; cases z))]; exact ed, Keep.new k f, hh.put nh, dk⟩, by rw [upd_ne np.symm]; exact ep, n, fun t h => by rw [upd_ne (ne_of (he t h) e (by intro z; cases z))]; exact he t h, r⟩
theorem OL.draw (x : OL h d H3 N p es i kvs H') (k' : Keep h H' H'') (hh' : Hand H'' h) : OL h d H3 N p es i kvs H'' := by
  obtain ⟨O, ep, np, he, r⟩ := x
  obtain ⟨_, _, eh, _⟩ := id O.2.2.1
  exact ⟨O.draw k' hh', k' p _ np ep, np, fun e h => k' _ _ (ne_of (he e h) eh (by intro z; cases z)) (he e h), r⟩
theorem OL.set (x : OL h d H3 N p es i kvs H') (f : H3 d = none) {c c2 t : Nat} (h1 : c < c2) (h2 : c2 < N) (h3 : Ltr t) : OL h d H3 N p es i (putK kvs (kE c c2) (.str (sg t))) (upd H' d (.dT (putK kvs (kE c c2) (.str (sg t))))) := by
  obtain ⟨O, ep, np, he, hk, nd⟩ := x
  exact ⟨O.set f (O.2.2.2.put h1 h2 h3), by rw [upd_ne (ne_of ep O.1 (by intro z; cases z))]; exact ep, np, fun e h => by rw [upd_ne (ne_of (he e h) O.1 (by intro z; cases z))]; exact he e h, fun j e hj h => putK_keys (hk j e hj h), nd⟩
theorem OL.pop (x : OL h d H3 N p es i kvs H') (f : H3 d = none) {e : Addr × Int × Int} (h0 : es[i]? = some e) : OL h d H3 N p es (i + 1) (dropK kvs (kE e.2.1 e.2.2)) (upd H' d (.dT (dropK kvs (kE e.2.1 e.2.2)))) := by
  obtain ⟨O, ep, np, he, hk, nd⟩ := x
  refine ⟨O.set f (O.2.2.2.drop _), by rw [upd_ne (ne_of ep O.1 (by intro z; cases z))]; exact ep, np, fun e h => by rw [upd_ne (ne_of (he e h) O.1 (by intro z; cases z))]; exact he e h, fun j e' hj h => dropK_keys (hk j e' (by omega) h) fun z => ?_, nd⟩
  have li : i < es.length := (List.getElem?_eq_some_iff.mp h0).1
  have lj : j < es.length := (List.getElem?_eq_some_iff.mp h).1
  have e1 := (List.getElem?_eq_some_iff.mp h0).2
  have e2 := (List.getElem?_eq_some_iff.mp h).2
  have ne := List.pairwise_iff_getElem.mp nd i j (by rw [List.length_map]; exact li) (by rw [List.length_map]; exact lj) (by omega)
  simp only [List.getElem_map, e1, e2] at ne
  exact ne z.symm
end
theorem valV_mem' {kvs : List (List Key × V)} {n : Nat} (d : DictOk n kvs) {k : List Key} (h : k ∈ kvs.map (·.1)) : ∃ a b c : Nat, k = kE a b ∧ valV kvs k = some (V.str (sg c)) ∧ a < b ∧ b < n ∧ Ltr c := by
  obtain ⟨v, e⟩ := d.has h
  obtain ⟨a, b, c, e1, rfl, r⟩ := d.at e
  exact ⟨a, b, c, e1, e, r⟩
theorem kE_inj {a b c d : Int} (h : kE a b = kE c d) : a = c ∧ b = d := by
  unfold kE at h
  injection h with h1 h2
  injection h1 with h1
  injection h2 with h2
  injection h2 with h2
  exact ⟨h1, h2⟩
theorem rise_keys {es : List (Addr × Int × Int)} {ts : List Tie} (e : ts.map (fun t => ((t.1 : Int), (t.2.1 : Int))) = es.map (·.2)) (nd : (es.map fun e => kE e.2.1 e.2.2).Nodup)
    (s : (es.map (·.2)).Pairwise (fun x y => SrtO.lexB y x = false)) : ts.Pairwise tlt := by
  rw [← e, List.pairwise_map] at s
  have e2 : (es.map fun e => kE e.2.1 e.2.2) = ts.map fun t => kE t.1 t.2.1 := by
    have z := congrArg (List.map fun q : Int × Int => kE q.1 q.2) e
    rw [List.map_map, List.map_map] at z
    exact z.symm
  rw [e2] at nd
  have nd' := List.pairwise_map.mp nd
  refine (List.Pairwise.and s nd').imp fun {x y} ⟨h1, h2⟩ => ?_
  have h3 : ¬ ((y.1 : Int) < x.1 ∨ ((y.1 : Int) = x.1 ∧ (y.2.1 : Int) < x.2.1)) := fun z => by
    rw [← SrtO.lexB_iff (p := ((y.1 : Int), (y.2.1 : Int))) (q := ((x.1 : Int), (x.2.1 : Int)))] at z
    rw [z] at h1; cases h1
  have h4 : ¬ (x.1 = y.1 ∧ x.2.1 = y.2.1) := fun z => h2 (by rw [z.1, z.2])
  unfold tlt
  omega
/-- names that lead each place of the one to a like place of the other -/
structure NamesOk (w w' : Web) (ns : List Nat) : Prop where
  len : ns.length = w.1.length
  nd : ns.Nodup
  like : ∀ p q : Nat, ns[p]? = some q → q < w'.1.length ∧ w'.1[q]? = w.1[p]?
theorem cut_take (xs : List V) (n : Nat) (h : n ≤ xs.length) : cutV xs none (some (n : Nat)) = xs.take n := by
  unfold cutV
  have e : HT.sIx xs.length xs.length (some ((n : Nat) : Int)) = min n xs.length := HT.sIx_nat xs.length xs.length n
  rw [HT.sIx_none, e, List.drop_zero, Nat.sub_zero, Nat.min_eq_left h]
end Cw

namespace Cw
open PySem PySem.Spec PyProof.Rows L2
/-! ### leads -/
abbrev Lead := List (Nat × Nat)
structure LOk (w w' : Web) (ld : Lead) : Prop where
  rise : ld.Pairwise (fun x y => x.1 < y.1)
  ends : (ld.map (·.2)).Nodup
  like : ∀ p ∈ ld, p.1 < w.1.length ∧ p.2 < w'.1.length ∧ w'.1[p.2]? = w.1[p.1]?
def PairAt (K : PySem.W.Frag) (H : Hp) (v : V) (p : Nat × Nat) : Prop := ∃ a, v = .ref a ∧ SqT K H a [.int (p.1 : Nat), .int (p.2 : Nat)]
theorem PairAt.same {K : PySem.W.Frag} {H H' : Hp} {v : V} {p : Nat × Nat} (x : PairAt K H v p) (s : Same H H') : PairAt K H' v p := by
  obtain ⟨a, e, q⟩ := x
  exact ⟨a, e, Same.sqt s q⟩
theorem PairAt.keep {K : PySem.W.Frag} {H H' : Hp} {v : V} {p : Nat × Nat} {h : Addr} {ys : List V} (x : PairAt K H v p) (k : Keep h H H') (e : H h = some (.lst ys)) : PairAt K H' v p := by
  obtain ⟨a, e', q⟩ := x
  exact ⟨a, e', k.sqt e q⟩
theorem PairAt.put {K : PySem.W.Frag} {H : Hp} {v : V} {p : Nat × Nat} {b : Addr} {o : HO} (x : PairAt K H v p) (n : H b = none ∨ ∃ ys, H b = some (.lst ys)) : PairAt K (upd H b o) v p := by
  obtain ⟨a, e, q⟩ := x
  exact ⟨a, e, sqt_upd n q⟩
def Pairs (K : PySem.W.Frag) (H : Hp) (pvs : List V) (ld : Lead) : Prop := Paired (PairAt K H) pvs ld
section
variable {K : PySem.W.Frag} {H H' : Hp} {pvs : List V} {ld : Lead} {h b : Addr} {ys : List V} {o : HO}
theorem Pairs.same (x : Pairs K H pvs ld) (s : Same H H') : Pairs K H' pvs ld := Paired.imp x fun _ _ z => z.same s
theorem Pairs.keep (x : Pairs K H pvs ld) (k : Keep h H H') (e : H h = some (.lst ys)) : Pairs K H' pvs ld := Paired.imp x fun _ _ z => z.keep k e
theorem Pairs.put (x : Pairs K H pvs ld) (n : H b = none ∨ ∃ ys, H b = some (.lst ys)) : Pairs K (upd H b o) pvs ld := Paired.imp x fun _ _ z => z.put n
/-- one more pair, at a new place, and the list itself -/
theorem Pairs.more {p q : Nat} {l : Addr} {zs : List V} (x : Pairs K H pvs ld) (e : H l = some (.lst ys)) (f : H b = none) : Pairs K (upd (upd H b (.tup [.int (p : Nat), .int (q : Nat)])) l (.lst zs)) (pvs ++ [.ref b]) (ld ++ [(p, q)]) := by
  have el : (upd H b (.tup [.int (p : Nat), .int (q : Nat)])) l = some (.lst ys) := at_upd e f
  exact Paired.snoc ((x.put (.inl f)).put (.inr ⟨_, el⟩)) ⟨b, rfl, sqt_upd (.inr ⟨_, el⟩) (SqT.of upd_same)⟩
theorem Pairs.len (x : Pairs K H pvs ld) : pvs.length = ld.length := Paired.length x
end
theorem LOk.few {w w' : Web} {ld : Lead} (l : LOk w w' ld) : ld.length ≤ w'.1.length := by
  have := nodup_len w'.1.length (ld.map (·.2)) l.ends fun x hx => by
    obtain ⟨p, hp, rfl⟩ := List.mem_map.mp hx
    exact (l.like p hp).2.1
  rwa [List.length_map] at this
theorem eqv_nil (ds : List PyData) : PyData.eqv (.list ds) (.list []) = ds.isEmpty := by
  cases ds <;> simp [PyData.eqv, PyData.eqvAll]
theorem erase_zs (ls : List Nat) (j : Nat) : (zs ls).eraseIdx j = zs (ls.eraseIdx j) := erase_map _ _ _
theorem zs_at {ls : List Nat} {j x : Nat} : (zs ls)[j]? = some (x : Int) ↔ ls[j]? = some x := by
  unfold zs
  rw [List.getElem?_map, Option.map_eq_some_iff]
  constructor
  · rintro ⟨a, ha, e⟩
    rw [ha]; congr 1; omega
  · intro h
    exact ⟨x, h, rfl⟩
theorem nodup_at {ls : List Nat} (nd : ls.Nodup) {i j x : Nat} (h1 : ls[i]? = some x) (h2 : ls[j]? = some x) : i = j := by
  obtain ⟨l1, e1⟩ := List.getElem?_eq_some_iff.mp h1
  obtain ⟨l2, e2⟩ := List.getElem?_eq_some_iff.mp h2
  rcases Nat.lt_trichotomy i j with z | z | z
  · exact absurd (e1.trans e2.symm) (List.pairwise_iff_getElem.mp nd i j l1 l2 z)
  · exact z
  · exact absurd (e2.trans e1.symm) (List.pairwise_iff_getElem.mp nd j i l2 l1 z)
theorem nodup_erase {ls : List Nat} (nd : ls.Nodup) {j x : Nat} (h : ls[j]? = some x) : ∀ y, y ∈ ls.eraseIdx j ↔ y ∈ ls ∧ y ≠ x := by
  intro y
  obtain ⟨l1, e1⟩ := List.getElem?_eq_some_iff.mp h
  have p := erase_perm ls j l1
  rw [e1] at p
  have nd2 := p.nodup_iff.mpr nd
  rw [List.nodup_cons] at nd2
  have m := p.mem_iff (a := y)
  rw [List.mem_cons] at m
  constructor
  · intro hy
    exact ⟨m.mp (.inr hy), fun z => nd2.1 (z ▸ hy)⟩
  · rintro ⟨hy, ne⟩
    rcases m.mpr hy with z | z
    · exact absurd z ne
    · exact z
/-! ### led ties -/
def ldAt (ld : Lead) (p : Nat) : Option Nat := (ld.find? fun q => q.1 == p).map (·.2)
def isLed (w' : Web) (ld : Lead) (t : Tie) : Bool := match ldAt ld t.1, ldAt ld t.2.1 with
  | some a, some b => decide (tieL w'.2 a b = some t.2.2)
  | _, _ => false
def dueL (w w' : Web) (ld : Lead) : List Tie := w.2.filter (isLed w' ld)
theorem ldAt_nil (p : Nat) : ldAt [] p = none := rfl
theorem ldAt_pos {x : Nat × Nat} {r : Lead} {p : Nat} (e : x.1 = p) : ldAt (x :: r) p = some x.2 := by
  unfold ldAt; rw [List.find?_cons_of_pos (by simp [e])]; rfl
theorem ldAt_neg {x : Nat × Nat} {r : Lead} {p : Nat} (e : x.1 ≠ p) : ldAt (x :: r) p = ldAt r p := by
  unfold ldAt; rw [List.find?_cons_of_neg (by simp [e])]
theorem ldAt_none {ld : Lead} {p : Nat} (h : ∀ q ∈ ld, q.1 ≠ p) : ldAt ld p = none := by
  unfold ldAt
  rw [List.find?_eq_none.mpr fun q hq => by simp [h q hq]]; rfl
theorem filt_at (p : Nat) : ∀ ld : Lead, ld.Pairwise (fun x y => x.1 < y.1) → (ld.filter fun q => q.1 == p).map (·.2) = (ldAt ld p).toList
  | [], _ => rfl
  | x :: r, s => by
    obtain ⟨h, t⟩ := List.pairwise_cons.mp s
    by_cases e : x.1 = p
    · rw [ldAt_pos e, List.filter_cons_of_pos (by simp [e]), List.map_cons, filt_at p r t, ldAt_none fun q hq => by have := h q hq; omega]; rfl
    · rw [ldAt_neg e, List.filter_cons_of_neg (by simp [e])]; exact filt_at p r t
theorem ldAt_mem {ld : Lead} {p q : Nat} (h : ldAt ld p = some q) : (p, q) ∈ ld := by
  unfold ldAt at h
  obtain ⟨x, hx, rfl⟩ := Option.map_eq_some_iff.mp h
  have e : x.1 = p := by simpa using List.find?_some hx
  subst e
  exact List.mem_of_find?_eq_some hx
theorem led_merge (k : Nat) : ∀ (ld : Lead) (acc : List (Key × V)), ld.Pairwise (fun x y => x.1 < y.1) → valV (mergeK acc (ld.map fun p => ((.inl (p.1 : Int) : Key), V.int (p.2 : Nat)))) (.inl (k : Int)) = ((ldAt ld k).map fun q => V.int (q : Nat)).or (valV acc (.inl (k : Int)))
  | [], acc, _ => rfl
  | x :: r, acc, s => by
    obtain ⟨h, t⟩ := List.pairwise_cons.mp s
    show valV (mergeK (putK acc (.inl (x.1 : Int)) (V.int (x.2 : Nat))) (r.map _)) _ = _
    rw [led_merge k r _ t, valV_put]
    by_cases e : x.1 = k
    · rw [ldAt_pos e, ldAt_none fun q hq => by have := h q hq; omega, e, if_pos rfl]; rfl
    · rw [ldAt_neg e, if_neg (by intro z; injection z with z; omega)]
theorem led_dict (ld : Lead) (s : ld.Pairwise (fun x y => x.1 < y.1)) (k : Nat) : valV (mergeK [] (ld.map fun p => ((.inl (p.1 : Int) : Key), V.int (p.2 : Nat)))) (.inl (k : Int)) = (ldAt ld k).map fun q => V.int (q : Nat) := by
  rw [led_merge k ld [] s]
  show Option.or _ none = _
  rw [Option.or_none]
theorem optV_get (o : Option Nat) : (o.map fun c => V.str (sg c)).getD .non = optV o := by cases o <;> rfl
theorem optV_str (o : Option Nat) (c : Nat) : scal (optV o) (.str (sg c)) = true := by cases o <;> rfl
theorem optV_eq (o : Option Nat) (c : Nat) : decide (optV o = .str (sg c)) = decide (o = some c) := by
  cases o with
  | none => rfl
  | some d =>
    rw [Bool.eq_iff_iff, decide_eq_true_eq, decide_eq_true_eq]
    constructor
    · intro z
      injection z with z
      rw [sg_inj.mp z]
    · intro z
      cases z; rfl
theorem due_snoc {w' : Web} {ld : Lead} {ts : List Tie} {i : Nat} {t : Tie} (h : ts[i]? = some t) : (ts.take (i + 1)).filter (isLed w' ld) = (ts.take i).filter (isLed w' ld) ++ if isLed w' ld t = true then [t] else [] := by
  rw [take_snoc h, List.filter_append]
  congr 1
  by_cases c : isLed w' ld t = true
  · rw [if_pos c, List.filter_cons_of_pos c]; rfl
  · rw [if_neg c, List.filter_cons_of_neg c]; rfl
def Ties (K : PySem.W.Frag) (H : Hp) (xs : List V) (ts : List Tie) : Prop := Paired (TieAt K H) xs ts
section
variable {K : PySem.W.Frag} {H H' : Hp} {xs : List V} {ts : List Tie} {h b : Addr} {ys : List V} {o : HO}
theorem Ties.same (x : Ties K H xs ts) (s : Same H H') : Ties K H' xs ts := Paired.imp x fun _ _ z => z.same s
theorem Ties.keep (x : Ties K H xs ts) (k : Keep h H H') (e : H h = some (.lst ys)) : Ties K H' xs ts := Paired.imp x fun _ _ z => z.keep k e
theorem Ties.put (x : Ties K H xs ts) (n : H b = none ∨ ∃ ys, H b = some (.lst ys)) : Ties K (upd H b o) xs ts := Paired.imp x fun _ _ z => z.put n
theorem Ties.more {t : Tie} {l : Addr} {zs : List V} (x : Ties K H xs ts) (e : H l = some (.lst ys)) (f : H b = none) : Ties K (upd (upd H b (.tup [.int (t.1 : Nat), .int (t.2.1 : Nat), .str (sg t.2.2)])) l (.lst zs)) (xs ++ [.ref b]) (ts ++ [t]) := by
  have el : (upd H b (.tup [.int (t.1 : Nat), .int (t.2.1 : Nat), .str (sg t.2.2)])) l = some (.lst ys) := at_upd e f
  exact Paired.snoc ((x.put (.inl f)).put (.inr ⟨_, el⟩)) ⟨b, rfl, sqt_upd (.inr ⟨_, el⟩) (SqT.of upd_same)⟩
theorem Ties.len (x : Ties K H xs ts) : xs.length = ts.length := Paired.length x
end
theorem two_led {ld : Lead} {t : Tie} (h : ((ldAt ld t.1).toList ++ (ldAt ld t.2.1).toList).length = 2) : ∃ x y, ldAt ld t.1 = some x ∧ ldAt ld t.2.1 = some y := by
  cases e1 : ldAt ld t.1 <;> cases e2 : ldAt ld t.2.1 <;> rw [e1, e2] at h <;> simp at h
  exact ⟨_, _, rfl, rfl⟩
theorem not_two {w' : Web} {ld : Lead} {t : Tie} (h : ¬ ((ldAt ld t.1).toList ++ (ldAt ld t.2.1).toList).length = 2) : isLed w' ld t = false := by
  unfold isLed
  cases e1 : ldAt ld t.1 <;> cases e2 : ldAt ld t.2.1 <;> rw [e1, e2] at h <;> simp at h <;> rfl
theorem isLed_at {w' : Web} {ld : Lead} {t : Tie} {x y : Nat} (h1 : ldAt ld t.1 = some x) (h2 : ldAt ld t.2.1 = some y) : isLed w' ld t = decide (tieL w'.2 x y = some t.2.2) := by
  unfold isLed; rw [h1, h2]
theorem isLed_no {w' : Web} {ld : Lead} {t : Tie} (h : ldAt ld t.1 = none ∨ ldAt ld t.2.1 = none) : isLed w' ld t = false := by
  unfold isLed
  rcases h with h | h
  · rw [h]
  · rw [h]; cases ldAt ld t.1 <;> rfl
theorem Pairs.refs {K : PySem.W.Frag} {H : Hp} : ∀ {pvs : List V} {ld : Lead}, Pairs K H pvs ld → ∃ ps : List Addr, pvs = ps.map V.ref ∧ Paired (fun p (kv : Key × V) => SqT K H p [kV kv.1, kv.2]) ps (ld.map fun p => ((.inl (p.1 : Int) : Key), V.int (p.2 : Nat)))
  | _, _, .nil => ⟨[], rfl, .nil⟩
  | _, _, .cons h t => by
    obtain ⟨a, rfl, q⟩ := h
    obtain ⟨ps, rfl, r⟩ := Pairs.refs t
    exact ⟨a :: ps, rfl, .cons q r⟩
end Cw

namespace Cw
open PySem PySem.Spec PyProof.Rows L2
/-! ### data told -/
def tieD (t : Tie) : PyData := .tuple [.int (t.1 : Nat), .int (t.2.1 : Nat), .str (sg t.2.2)]
def pairD (p : Nat × Nat) : PyData := .tuple [.int (p.1 : Nat), .int (p.2 : Nat)]
def tiesD (ts : List Tie) : PyData := .list (ts.map tieD)
def pairsD (ld : Lead) : PyData := .list (ld.map pairD)
theorem Ties.dpa {K : PySem.W.Frag} {H : Hp} : ∀ {xs : List V} {ts : List Tie}, Ties K H xs ts → DpAll K H xs (ts.map tieD)
  | _, _, .nil => .nil
  | _, _, .cons h t => by
    obtain ⟨a, rfl, q⟩ := h
    exact .cons (.tup q (.cons (.int _) (.cons (.int _) (.cons (.str _) .nil)))) (Ties.dpa t)
theorem Pairs.dpa {K : PySem.W.Frag} {H : Hp} : ∀ {xs : List V} {ts : Lead}, Pairs K H xs ts → DpAll K H xs (ts.map pairD)
  | _, _, .nil => .nil
  | _, _, .cons h t => by
    obtain ⟨a, rfl, q⟩ := h
    exact .cons (.tup q (.cons (.int _) (.cons (.int _) .nil))) (Pairs.dpa t)
theorem Ties.dp {K : PySem.W.Frag} {H : Hp} {xs : List V} {ts : List Tie} {l : Addr} (x : Ties K H xs ts) (e : H l = some (.lst xs)) : Dp K H (.ref l) (tiesD ts) := .lst (SqL.of e) x.dpa
theorem Pairs.dp {K : PySem.W.Frag} {H : Hp} {xs : List V} {ts : Lead} {l : Addr} (x : Pairs K H xs ts) (e : H l = some (.lst xs)) : Dp K H (.ref l) (pairsD ts) := .lst (SqL.of e) x.dpa
theorem lay_all : ∀ {ds : List PyData} {k : Nat}, (∀ d ∈ ds, d.canLay0 = true ∧ d.depth ≤ k) → PyData.canLayAll0 ds = true ∧ PyData.depthAll ds ≤ k
  | [], k, _ => ⟨by simp [PyData.canLayAll0], by simp [PyData.depthAll]⟩
  | d :: ds, k, h => by
    obtain ⟨h1, h2⟩ := lay_all (ds := ds) (k := k) fun x hx => h x (List.mem_cons_of_mem _ hx)
    obtain ⟨h3, h4⟩ := h d List.mem_cons_self
    exact ⟨by simp [PyData.canLayAll0, h1, h3], by simp only [PyData.depthAll]; omega⟩
theorem shaped_list {ds : List PyData} {k : Nat} (hk : k ≤ 63) (h : ∀ d ∈ ds, d.canLay0 = true ∧ d.depth ≤ k) : SeqAt.shaped (.list ds) = true := by
  obtain ⟨h1, h2⟩ := lay_all h
  have : PyData.depth (.list ds) ≤ 64 := by simp only [PyData.depth]; omega
  simp [SeqAt.shaped, PyData.canLay0, h1, this]
theorem good_eqv {d : PyData} (h : SeqAt.shaped d = true) : PyData.eqv d d = true := SeqAt.eqv_refl d (SeqAt.canLay_of_shaped h)
theorem str_ok : ∀ c : Nat, c < 123 → PyData.strOk (sg c) = true := fun c h => by
  unfold PyData.strOk sg
  simp; omega
theorem tieD_lay {t : Tie} (h : Ltr t.2.2) : (tieD t).canLay0 = true ∧ (tieD t).depth ≤ 1 := by
  have := str_ok t.2.2 (by unfold Ltr at h; omega)
  unfold tieD
  simp [PyData.canLay0, PyData.canLayAll0, PyData.depth, PyData.depthAll, this]
theorem pairD_lay (p : Nat × Nat) : (pairD p).canLay0 = true ∧ (pairD p).depth ≤ 1 := by
  unfold pairD
  simp [PyData.canLay0, PyData.canLayAll0, PyData.depth, PyData.depthAll]
theorem tiesD_good {ts : List Tie} (h : ∀ t ∈ ts, Ltr t.2.2) : SeqAt.shaped (tiesD ts) = true := shaped_list (k := 1) (by decide) fun d hd => by
  obtain ⟨t, ht, rfl⟩ := List.mem_map.mp hd
  exact tieD_lay (h t ht)
theorem pairsD_good (ld : Lead) : SeqAt.shaped (pairsD ld) = true := shaped_list (k := 1) (by decide) fun d hd => by
  obtain ⟨t, ht, rfl⟩ := List.mem_map.mp hd
  exact pairD_lay t
theorem due_good {w w' : Web} (W : WOk w) (ld : Lead) : SeqAt.shaped (tiesD (dueL w w' ld)) = true := tiesD_good fun t ht => (W.ends t (List.mem_filter.mp ht).1).2.2
/-! ### what is held -/
def HeldG (K : PySem.W.Frag) (H : Hp) (hd : Addr) (m : Nat) : Prop := ∃ (hs : List V) (xs : List PyData), H hd = some (.lst hs) ∧ hs.length ≤ m ∧ DpAll K (del H hd) hs (xs.map fun x => PyData.list [x, x]) ∧ ∀ x ∈ xs, SeqAt.shaped x = true
/-- and nothing of it at h -/
def HeldH (K : PySem.W.Frag) (H : Hp) (hd h : Addr) (m : Nat) : Prop := ∃ (hs : List V) (xs : List PyData), H hd = some (.lst hs) ∧ hs.length ≤ m ∧ DpAll K (del (del H hd) h) hs (xs.map fun x => PyData.list [x, x]) ∧ ∀ x ∈ xs, SeqAt.shaped x = true
section
variable {K : PySem.W.Frag} {H H' : Hp} {hd h : Addr} {m n : Nat}
theorem HeldG.same (x : HeldG K H hd m) (s : Same H H') : HeldG K H' hd m := by
  obtain ⟨hs, xs, e, l, a, g⟩ := x
  exact ⟨hs, xs, s _ _ e, l, dpa_same (Keep.del (Same.keep s)) _ _ a, g⟩
theorem HeldG.mono (x : HeldG K H hd m) (h : m ≤ n) : HeldG K H hd n := by
  obtain ⟨hs, xs, e, l, a, g⟩ := x
  exact ⟨hs, xs, e, Nat.le_trans l h, a, g⟩
theorem HeldG.hand (x : HeldG K H hd m) (s : Same H H') (f : H h = none) : HeldH K H' hd h m := by
  obtain ⟨hs, xs, e, l, a, g⟩ := x
  refine ⟨hs, xs, s _ _ e, l, dpa_same (fun b o hb => ?_) _ _ a, g⟩
  have h1 := del_same _ _ b o hb
  rw [del_ne (ne_of_none h1 f)]
  exact Keep.del (Same.keep s) b o hb
theorem HeldH.out (x : HeldH K H hd h m) : HeldG K H hd m := by
  obtain ⟨hs, xs, e, l, a, g⟩ := x
  exact ⟨hs, xs, e, l, dpa_same (del_same _ _) _ _ a, g⟩
theorem keep_dd (k : Keep h H H') : Same (del (del H hd) h) (del (del H' hd) h) := Keep.del fun b o nb e => by
  have := del_same _ _ b o e
  by_cases n : b = hd
  · unfold del at e; rw [if_pos n] at e; cases e
  · rw [del_ne n]; exact k b o nb this
theorem HeldH.keep (x : HeldH K H hd h m) (k : Keep h H H') (n : hd ≠ h) : HeldH K H' hd h m := by
  obtain ⟨hs, xs, e, l, a, g⟩ := x
  exact ⟨hs, xs, k _ _ n e, l, dpa_same (keep_dd k) _ _ a, g⟩
theorem HeldH.same (x : HeldH K H hd h m) (s : Same H H') (n : hd ≠ h) : HeldH K H' hd h m := x.keep (Same.keep s) n
end
theorem sqt_del {K : PySem.W.Frag} {H : Hp} {a b : Addr} {xs ys : List V} (e : H b = some (.lst ys)) (q : SqT K H a xs) : SqT K (del H b) a xs := by
  rcases q with (q | ⟨o, q⟩) | q
  · exact .inl (.inl (del_at (ne_of q e (by intro z; cases z)) q))
  · exact .inl (.inr ⟨o, del_at (ne_of q e (by intro z; cases z)) q⟩)
  · exact .inr q
theorem Ties.del {K : PySem.W.Frag} {H : Hp} {b : Addr} {xs ys : List V} {ts : List Tie} (x : Ties K H xs ts) (e : H b = some (.lst ys)) : Ties K (Cw.del H b) xs ts := Paired.imp x fun _ _ ⟨a, r, q⟩ => ⟨a, r, sqt_del e q⟩
/-- a pair of lists of ties, held -/
theorem dp_two {K : PySem.W.Frag} {H : Hp} {hd h r t f : Addr} {hs hv tv fv : List V} {ts : List Tie} (ehd : H hd = some (.lst hs)) (eh : H h = some (.lst hv)) (er : H r = some (.lst [.ref t, .ref f])) (et : H t = some (.lst tv)) (ef : H f = some (.lst fv)) (x : Ties K H tv ts) (y : Ties K H fv ts)
    (n0 : h ≠ hd) (n1 : r ≠ hd) (n2 : t ≠ hd) (n3 : f ≠ hd) (m1 : r ≠ h) (m2 : t ≠ h) (m3 : f ≠ h) : Dp K (del (del H hd) h) (.ref r) (.list [tiesD ts, tiesD ts]) := by
  have eh' := del_at n0 eh
  refine .lst (SqL.of (del_at m1 (del_at n1 er))) (.cons ?_ (.cons ?_ .nil))
  · exact ((x.del ehd).del eh').dp (del_at m2 (del_at n2 et))
  · exact ((y.del ehd).del eh').dp (del_at m3 (del_at n3 ef))
end Cw

namespace Cw
open PySem PySem.Spec PyProof.Rows L2
theorem LOk.sub {w w' : Web} {ld kd : Lead} (L : LOk w w' ld) (s : kd.Sublist ld) : LOk w w' kd := ⟨L.rise.sublist s, L.ends.sublist (s.map _), fun p hp => L.like p (s.subset hp)⟩
theorem ldAt_iff {ld : Lead} (s : ld.Pairwise (fun x y => x.1 < y.1)) {p q : Nat} : ldAt ld p = some q ↔ (p, q) ∈ ld := by
  refine ⟨ldAt_mem, fun h => ?_⟩
  cases e : ldAt ld p with
  | none =>
    have : ld.find? (fun q => q.1 == p) = none := by
      unfold ldAt at e
      exact Option.map_eq_none_iff.mp e
    have := List.find?_eq_none.mp this _ h
    simp at this
  | some r =>
    have h2 := ldAt_mem e
    obtain ⟨i, hi, e1⟩ := List.getElem_of_mem h
    obtain ⟨j, hj, e2⟩ := List.getElem_of_mem h2
    have pw := List.pairwise_iff_getElem.mp s
    rcases Nat.lt_trichotomy i j with z | z | z
    · have := pw i j hi hj z
      rw [e1, e2] at this
      exact absurd this (Nat.lt_irrefl _)
    · subst z
      rw [e1] at e2
      injection e2 with _ e2
      rw [e2]
    · have := pw j i hj hi z
      rw [e1, e2] at this
      exact absurd this (Nat.lt_irrefl _)
theorem isLed_iff {w' : Web} {ld : Lead} (s : ld.Pairwise (fun x y => x.1 < y.1)) {t : Tie} : isLed w' ld t = true ↔ ∃ a b, (t.1, a) ∈ ld ∧ (t.2.1, b) ∈ ld ∧ tieL w'.2 a b = some t.2.2 := by
  constructor
  · intro h
    cases e1 : ldAt ld t.1 with
    | none => rw [isLed_no (.inl e1)] at h; cases h
    | some a =>
      cases e2 : ldAt ld t.2.1 with
      | none => rw [isLed_no (.inr e2)] at h; cases h
      | some b =>
        rw [isLed_at e1 e2] at h
        exact ⟨a, b, ldAt_mem e1, ldAt_mem e2, of_decide_eq_true h⟩
  · rintro ⟨a, b, h1, h2, h3⟩
    rw [isLed_at ((ldAt_iff s).mpr h1) ((ldAt_iff s).mpr h2)]
    exact decide_eq_true h3
def onT (p : Nat) (t : Tie) : Bool := t.1 == p || t.2.1 == p
/-- the pairs on some ties -/
def tiedL (ts : List Tie) (ld : Lead) : Lead := ld.filter fun p => ts.any (onT p.1)
theorem due_tied {w w' : Web} {ld : Lead} (L : LOk w w' ld) : dueL w w' (tiedL (dueL w w' ld) ld) = dueL w w' ld := by
  have sub : (tiedL (dueL w w' ld) ld).Sublist ld := List.filter_sublist
  refine List.filter_congr fun t ht => ?_
  rw [Bool.eq_iff_iff, isLed_iff (L.rise.sublist sub), isLed_iff L.rise]
  constructor
  · rintro ⟨a, b, h1, h2, h3⟩
    exact ⟨a, b, sub.subset h1, sub.subset h2, h3⟩
  · rintro ⟨a, b, h1, h2, h3⟩
    have hd : t ∈ dueL w w' ld := List.mem_filter.mpr ⟨ht, (isLed_iff L.rise).mpr ⟨a, b, h1, h2, h3⟩⟩
    exact ⟨a, b, List.mem_filter.mpr ⟨h1, List.any_eq_true.mpr ⟨t, hd, by simp [onT]⟩⟩, List.mem_filter.mpr ⟨h2, List.any_eq_true.mpr ⟨t, hd, by simp [onT]⟩⟩, h3⟩
theorem optV_scal2 (a b : Option Nat) : scal (optV a) (optV b) = true := by cases a <;> cases b <;> rfl
theorem optV_inj (a b : Option Nat) : decide (optV a = optV b) = decide (a = b) := by
  rw [Bool.eq_iff_iff, decide_eq_true_eq, decide_eq_true_eq]
  constructor
  · intro z
    cases a <;> cases b
    · rfl
    · cases z
    · cases z
    · injection z with z; rw [sg_inj.mp z]
  · intro z; rw [z]
theorem tiedL_snoc {ts : List Tie} {ld : Lead} {i : Nat} {p : Nat × Nat} (h : ld[i]? = some p) : tiedL ts (ld.take (i + 1)) = tiedL ts (ld.take i) ++ if ts.any (onT p.1) = true then [p] else [] := by
  unfold tiedL
  rw [take_snoc h, List.filter_append]
  congr 1
  by_cases c : ts.any (onT p.1) = true
  · rw [if_pos c, List.filter_cons_of_pos (p := fun p : Nat × Nat => ts.any (onT p.1)) c]; rfl
  · rw [if_neg c, List.filter_cons_of_neg (p := fun p : Nat × Nat => ts.any (onT p.1)) c]; rfl
/-- a block in a block -/
theorem any_ends (ts : List Tie) (p : Nat) : (!(((ts.map ends).filter fun e => e.1 == p || e.2 == p).map pairD).isEmpty) = ts.any (onT p) := by
  induction ts with
  | nil => rfl
  | cons t r ih =>
    rw [List.any_cons, List.map_cons]
    by_cases c : onT p t = true
    · rw [List.filter_cons_of_pos (p := fun e : Nat × Nat => e.1 == p || e.2 == p) (a := ends t) c, c, Bool.true_or]; rfl
    · rw [List.filter_cons_of_neg (p := fun e : Nat × Nat => e.1 == p || e.2 == p) (a := ends t) c, ih, Bool.eq_false_iff.mpr c, Bool.false_or]
theorem sh2 (x y : Int) : SeqAt.shaped (.tuple [.int x, .int y]) = true := by simp [SeqAt.shaped, PyData.canLay0, PyData.canLayAll0, PyData.depth, PyData.depthAll]
theorem two_good (a b : Lead) : SeqAt.shaped (.list [pairsD a, pairsD b]) = true := shaped_list (k := 2) (by decide) fun d hd => by
  have g : ∀ l : Lead, (pairsD l).canLay0 = true ∧ (pairsD l).depth ≤ 2 := fun l => by
    obtain ⟨h1, h2⟩ := lay_all (ds := l.map pairD) (k := 1) fun d hd => by
      obtain ⟨t, ht, rfl⟩ := List.mem_map.mp hd
      exact pairD_lay t
    unfold pairsD
    exact ⟨by simp only [PyData.canLay0]; exact h1, by simp only [PyData.depth]; omega⟩
  rcases List.mem_cons.mp hd with e | hd
  · rw [e]; exact g a
  · rw [List.mem_singleton.mp hd]; exact g b
end Cw

/-! sets of whole numbers: set(a list), {one}; a def's code told to its body -/
namespace Cw
open PySem PySem.Spec PySem.Calls PyProof.Rows L2
section
variable {P : Program} {w : World} {A : Around} {E : Value → Shared → Prop} {s : Shared}
abbrev noSet (w : World) : Obj := { cls := .type "set", dict := none, data := .set #[] 0 (.fresh 0 0 (!w.params.followText "set-order")) }
set_option maxHeartbeats 3200000 in
theorem call_set_lstI {l : Addr} {items : Array Value} (ns : List Int) {Q : Value → Shared → Prop} (hh : A.handled = none) (lst : s.heap.IsList l items) (nums : IntsAre items.toList ns) (room : ns.length + 1 < scanBound)
    (h : ∀ (h' : Heap) (tk c : Nat), SetR w h' s.heap.objs.size (fun j => decide (j ∈ ns)) c → c ≤ ns.length → (∀ b o, s.heap.get? b = some o → h'.get? b = some o) → Q (.ref s.heap.objs.size) { s with heap := h', toks := tk }) :
    wpAny (model P w) A (call (.type "set") [.ref l]) Q E s := by
  have many : items.size = ns.length := by
    have z := IntsAre.length nums
    rwa [Array.length_toList] at z
  obtain ⟨c, tl, hmro⟩ := F.called_set.mro
  have hmade := F.called_set.made
  have hsub := F.called_set.sub
  (refine wpAny_call (codeAny_of_tree ?_))
  show wpAny _ _ (callAny (.type "set") _) _ _ _
  (refine wpAny_pure ⟨Code.quiet_builtin _ (by decide +kernel), codeAny_builtin F.entry_type_call ?_⟩)
  (rw [Around.under_plain (weight_type_call_type "set" [.ref l] []) rfl])
  have h1 := F.called_set.notType
  have h2 := F.called_set.canCreate
  have hct := F.typeCall_set_1 (.ref l)
  (repeat (any_goals (first | assumption | wp_step)))
  refine codeAny_mono (code_set_led1 (.ref l) (E := E) (Q₁ := fun obj s₁ => obj = .ref s.heap.objs.size ∧ s₁ = { s with heap := s.heap.push (noSet w) }) ⟨rfl, rfl⟩) fun r s₁ hr => ?_
  match r, hr with
  | .error e, hr => exact hr
  | .ok (.next), hr => exact hr.elim
  | .ok (.brk), hr => exact hr.elim
  | .ok (.cont), hr => exact hr.elim
  | .ok (.ret obj), hr =>
    obtain ⟨rfl, rfl⟩ := hr
    have eS : (s.heap.push (noSet w)).get? s.heap.objs.size = some (noSet w) := Heap.get?_push_size _ rfl
    have tyS : Shared.TypeIs { s with heap := s.heap.push (noSet w) } (.ref s.heap.objs.size) "set" := ⟨_, eS, rfl⟩
    have hli := F.called_set.init.lookup
    have hbi := F.called_set.init.bind (.ref s.heap.objs.size)
    (repeat (any_goals (first | assumption | wp_step)))
    refine codeAny_mono (codeAny_call_builtin (R := wants (fun r s₂ => r = .none ∧ ∃ h' tk c, s₂ = { s with heap := h', toks := tk } ∧ SetR w h' s.heap.objs.size (fun j => decide (j ∈ ns)) c ∧ c ≤ ns.length ∧
        (∀ b o, s.heap.get? b = some o → h'.get? b = some o)) E) F.called_set.init.plain F.entry_set_init (check_set_init_1 tyS ?_)) fun r₂ s₂ hr₂ => ?_
    · obtain ⟨ol, eol, cl, nl, dl⟩ := lst
      obtain ⟨lcls, ldict, ldata, lslots⟩ := ol
      simp only at cl dl
      subst cl
      subst dl
      have eol' : (s.heap.push (noSet w)).get? l = some { cls := .type "list", dict := ldict, data := .seq items nl, slots := lslots } := Heap.get?_push_of_some _ eol
      have hsls := F.sub_list_set
      have hslf := F.sub_list_frozenset
      have hne : (Value.type "list" == Value.type "dict") = false := by decide
      have lst1 : (s.heap.push (noSet w)).IsList l items := ⟨_, eol', rfl, nl, rfl⟩
      (unfold Builtin.«set.__init__» noKeywords; unfold Builtin.Frozenset.updateFrom)
      generalize hPI : pyIter = PI
      wp_walk
      subst hPI
      refine wpAny_pyIter_list lst1 ?_
      refine wpAny_bind (wpAny_runValue ?_)
      have below : l < s.heap.objs.size := Heap.lt_size eol
      have hh3 : A.in1.in1.in1.handled = none := by simp [hh]
      have sz1 : (s.heap.push (noSet w)).objs.size = s.heap.objs.size + 1 := Heap.size_push ..
      have neI : l ≠ (s.heap.push (noSet w)).objs.size := by
        rw [sz1]
        exact Nat.ne_of_lt (Nat.lt_succ_of_lt below)
      have apart : s.heap.objs.size ∉ [(s.heap.push (noSet w)).objs.size, l] := by
        rw [sz1]
        intro z
        rcases List.mem_cons.mp z with z | z
        · exact absurd z (Nat.ne_of_lt (Nat.lt_succ_self _))
        · exact absurd (List.mem_singleton.mp z) (Nat.ne_of_gt below)
      have vals : ∀ (i : Nat) (v : Value), items[i]? = some v → ∃ k t, ns[i]? = some k ∧ v = .int k t := fun i v hv => by
        have hi : i < ns.length := by rw [← many]; exact (Array.getElem?_eq_some_iff.mp hv).1
        obtain ⟨t, e⟩ := PyProof.Rows.IntsAre.int_at nums i v (by rw [Array.getElem?_toList]; exact hv)
        exact ⟨ns[i], t, List.getElem?_eq_getElem hi, by rw [e, List.getD_eq_getElem?_getD, List.getElem?_eq_getElem hi]; rfl⟩
      refine set_update_ints ((Walks.list hh3 _ l neI items).toS) s.heap.objs.size apart ns many room vals (items.size - 0) 0 _ (by omega) (Nat.zero_le _) ⟨⟨_, Heap.get?_push_size _ rfl, rfl, rfl⟩, (lst1.push _)⟩ ⟨0, Nat.le_refl 0, setR_new_at (Heap.get?_push_of_some _ eS)⟩ ?_
      intro s' c' mv le' new
      obtain ⟨h', g2, d', tk', os'⟩ := s'
      have eg : g2 = s.gens := mv.gens
      have ed : d' = s.drawn := mv.drawn
      have eo : os' = s.os := mv.os
      subst eg
      subst ed
      subst eo
      show wpAny _ _ _ _ _ _
      refine wpAny_pure ?_
      show wpAny _ _ (ret Value.none) _ _ _
      rw [many] at le'
      refine wpAny_pure ⟨rfl, h', tk', c', rfl, new, le', fun b o e => ?_⟩
      have b0 : b < s.heap.objs.size := Heap.lt_size e
      refine mv.heap b o (fun z => ?_) (Heap.get?_push_of_some _ (Heap.get?_push_of_some _ e))
      rcases List.mem_cons.mp z with z | z
      · exact absurd z (Nat.ne_of_lt b0)
      · have z := List.mem_singleton.mp z
        rw [sz1] at z
        exact absurd z (Nat.ne_of_lt (Nat.lt_succ_of_lt b0))
    · match r₂, hr₂ with
      | .error e, hr₂ => exact hr₂
      | .ok (.next), hr₂ => exact hr₂.elim
      | .ok (.brk), hr₂ => exact hr₂.elim
      | .ok (.cont), hr₂ => exact hr₂.elim
      | .ok (.ret r), hr₂ =>
        obtain ⟨rfl, h', tk, c', rfl, new, le', kept⟩ := hr₂
        (repeat (any_goals (first | assumption | wp_step)))
        exact h _ _ _ new le' kept
end
section
variable {X : Cx}
/-- set(xs), xs a list of whole numbers -/
def rSetL (K : PySem.W.Frag) (w : World) : List V → Hp → VK → Prop := fun xs H Q => ∃ (a : Addr) (ns : List Int), xs = [.ref a] ∧ SqL K H a (ns.map V.int) ∧ ns.length ≤ 1000 ∧
  ∀ p c, c ≤ ns.length → H p = none → Q (.ref p) (upd H p (SetO w p (fun k => decide (k ∈ ns)) c))
theorem cr_setL (hc : X.calm = true) : CallR X (.type "set") (rSetL X.K X.w) := by
  intro pins s σ H xs us Q I r h
  obtain ⟨a, ns, rfl, hx, few, q⟩ := h
  obtain ⟨u, rfl, ru⟩ := vals1 r
  cases ru
  obtain ⟨its, rel, lst, _⟩ := I.list hx
  refine call_set_lstI ns (I.ok.hd hc) lst.isList (by simpa using intsAre_of rel) (by unfold scanBound; omega) fun h' tk c R le kept => ?_
  exact ⟨.ref _, _, I.laid (t' := tk) kept (Nat.le_refl _) (setO_new R), rfl, q _ c le (I.hok.fresh (Nat.le_refl _))⟩
end
/-! ### {one} -/
theorem codeIn_kds {K : PySem.W.Frag} {cd : Value} {q : Str} (h : PySem.W.codeIn K cd q = true) : PySem.W.kdsCode K cd = true := by
  unfold PySem.W.codeIn at h
  unfold PySem.W.kdsCode
  split at h
  · split at h
    · rename_i e
      simp only [e]
    · cases h
  · cases h
section
variable {P : Program} {w : World} {A : Around} {E : Value → Shared → Prop} {s : Shared}
theorem newSet_led {Q : Value → Shared → Prop} (h : Q (.ref s.heap.objs.size) { s with heap := s.heap.push (noSet w) }) : wpAny (model P w) A (newSet (.type "set")) Q E s := by
  unfold newSet
  refine wpAny_bind (wpAny_byText ?_)
  dsimp only
  exact wpAny_newObj_type h
theorem display_one {b : Bool} {T : Sem Value} {Q : Value → Shared → Prop}
    (h : wpAny (model P w) A T (fun v s1 => wpAny (model P w) A (setAdd s.heap.objs.size v) (fun _ s2 => Q (.ref s.heap.objs.size) s2) E s1) E { s with heap := s.heap.push (noSet w) }) :
    wpAny (model P w) A (setDisplay .oneByOne b [(false, T)]) Q E s := by
  unfold setDisplay
  dsimp only
  rw [if_neg (by decide)]
  refine wpAny_bind (newSet_led ?_)
  dsimp only
  refine wpAny_bind (wpAny_holding ?_)
  refine wpAny_bind ?_
  show wpAny _ _ (T >>= fun v => holding [v] (evalAll []) >>= fun r => pure (v :: r)) _ _ _
  refine wpAny_bind (wpAny_mono h (fun v s1 h1 => ?_) fun _ _ x => x)
  refine wpAny_bind (wpAny_holding (wpAny_pure ?_))
  refine wpAny_pure ?_
  refine wpAny_bind (wpAny_holding ?_)
  rw [List.forIn_cons]
  refine wpAny_bind (wpAny_bind (wpAny_bind (wpAny_mono h1 (fun _ s2 h2 => wpAny_pure ?_) fun _ _ x => x)))
  dsimp only
  rw [List.forIn_nil]
  refine wpAny_pure ?_
  rw [if_neg (by decide)]
  refine wpAny_pure ?_
  refine wpAny_bind ?_
  show wpAny _ _ (forIn ([] : List (Bool × Sem Value)) PUnit.unit _) _ _ s2
  rw [List.forIn_nil]
  exact wpAny_pure (wpAny_pure (wpAny_pure h2))
end
def tSet1 (w : World) (te : TE) : TE := fun σ H Q => ∀ p, H p = none → te σ (upd H p (SetO w p (fun _ => false) 0)) fun x H1 => ∃ k : Int, x = .int k ∧ H1 p = some (SetO w p (fun _ => false) 0) ∧ Q (.ref p) (upd H1 p (SetO w p (fun j => false || decide (j = k)) 1))
theorem pe_set1 {X : Cx} {e : Expr} {te : TE} {pos : Pos} {q : Str} {wd : World} (hw : X.w = wd) (hcd : PySem.W.codeIn X.K X.env.code q = true) (he : PE X e te) (hp : PySem.W.kdsPlain e = true := by rfl) : PE X (.Set [e] 0 pos) (tSet1 wd te) := by
  subst hw
  refine ⟨fun pins s σ H Q I h => ?_⟩
  rw [arm_eval_Set]
  refine wpAny_bind (wpAny_standAt ?_)
  refine wpAny_bind (PySem.W.kds_main I.kIn (codeIn_kds hcd) fun bm => ?_)
  rw [PySem.W.kds_star [e] (by simp [hp]), List.map_map, arm_evalEach_cons]
  refine (show wpAny (model X.prog X.w) X.A (setDisplay .oneByOne bm [(false, do let v ← eval e X.env; standAt pos; pure v)]) (EP X pins σ Q) X.xe s from display_one ?_)
  have R0 : SetR X.w (s.heap.push (noSet X.w)) s.heap.objs.size (fun _ => false) 0 := setR_fresh X.w
  have f0 : H s.heap.objs.size = none := I.hok.fresh (Nat.le_refl _)
  have I1 : Inv X pins σ (upd H s.heap.objs.size (SetO X.w s.heap.objs.size (fun _ => false) 0)) { s with heap := s.heap.push (noSet X.w) } := I.laid (t' := s.toks) (fun b u g => Heap.get?_push_of_some _ g) (Nat.le_refl _) (setO_new R0)
  refine wpAny_bind (thn (he.run pins _ σ _ _ I1 (h _ f0)) fun v s1 ⟨x, H1, I2, r1, k, ex, ep, q1⟩ => ?_)
  subst ex
  obtain ⟨tk, rfl⟩ := r1
  refine wpAny_bind (wpAny_standAt (wpAny_pure ?_))
  have R1 := setO_get I2 ep
  unfold setAdd
  refine wpAny_holding ?_
  refine wpAny_bind ((intKind X.prog X.w).pyHash (k := k) (intKind_is _ _ _ _) ?_)
  refine setR_add_hashed (s := { s1 with toks := s1.toks + 1 }) R1 (by decide) fun h' sb new => ?_
  have he' : ∃ u, h'.get? s.heap.objs.size = some u := let ⟨o, _, _, _, ho, _⟩ := new; ⟨o, ho⟩
  exact ⟨.ref _, _, I2.write (e := s.heap.objs.size) (t' := s1.toks + 1) (by rw [ep]; trivial) (.inl rfl) (fun b u hb hu => (sb.2 b hb).trans hu) he' (setO_new new), rfl, q1⟩
end Cw

/-! what hangs together -/
namespace Cw
open PySem PySem.Spec PyProof.Rows L2
noncomputable def dec (p : Prop) : Bool := @decide p (Classical.propDecidable p)
theorem dec_iff {p : Prop} : dec p = true ↔ p := by unfold dec; exact @decide_eq_true_iff p (Classical.propDecidable p)
theorem dec_true {p : Prop} (h : p) : dec p = true := dec_iff.mpr h
theorem dec_false {p : Prop} (h : ¬ p) : dec p = false := by
  cases e : dec p with
  | false => rfl
  | true => exact absurd (dec_iff.mp e) h
theorem dec_congr {p q : Prop} (h : p ↔ q) : dec p = dec q := by
  rw [Bool.eq_iff_iff, dec_iff, dec_iff]; exact h
theorem mem_nb {w : Web} (W : WOk w) {p q : Nat} : q ∈ nb w.2 p ↔ ∃ t ∈ w.2, at2 p q t = true := by
  unfold nb
  rw [List.mem_filterMap]
  constructor
  · rintro ⟨t, ht, h⟩
    exact ⟨t, ht, (beside_iff (W.ends t ht).1).mp h⟩
  · rintro ⟨t, ht, h⟩
    exact ⟨t, ht, (beside_iff (W.ends t ht).1).mpr h⟩
theorem nb_symm {w : Web} (W : WOk w) {p q : Nat} (h : q ∈ nb w.2 p) : p ∈ nb w.2 q := by
  obtain ⟨t, ht, e⟩ := (mem_nb W).mp h
  exact (mem_nb W).mpr ⟨t, ht, by rw [at2_swap]; exact e⟩
theorem nb_lt {w : Web} (W : WOk w) {p q : Nat} (h : q ∈ nb w.2 p) : p < w.1.length ∧ q < w.1.length := by
  obtain ⟨t, ht, e⟩ := (mem_nb W).mp h
  have r := W.ends t ht
  rcases at2_iff.mp e with ⟨a, b⟩ | ⟨a, b⟩ <;> omega
/-- from a one comes to it -/
inductive Rch (ts : List Tie) (a : Nat) : Nat → Prop
  | base : Rch ts a a
  | step {p q : Nat} : Rch ts a p → q ∈ nb ts p → Rch ts a q
theorem Rch.trans {ts : List Tie} {a b c : Nat} (h : Rch ts a b) (k : Rch ts b c) : Rch ts a c := by
  induction k with
  | base => exact h
  | step _ m ih => exact ih.step m
theorem Rch.symm {w : Web} (W : WOk w) {a b : Nat} (h : Rch w.2 a b) : Rch w.2 b a := by
  induction h with
  | base => exact .base
  | step _ m ih => exact Rch.trans (Rch.base.step (nb_symm W m)) ih
theorem Rch.lt {w : Web} (W : WOk w) {a b : Nat} (h : Rch w.2 a b) (ha : a < w.1.length) : b < w.1.length := by
  cases h with
  | base => exact ha
  | step _ m => exact (nb_lt W m).2
/-- the places that hang together with a -/
noncomputable def partL (w : Web) (a : Nat) : List Nat := (List.range w.1.length).filter fun k => dec (Rch w.2 a k)
theorem mem_partL {w : Web} (W : WOk w) {a k : Nat} (ha : a < w.1.length) : k ∈ partL w a ↔ Rch w.2 a k := by
  unfold partL
  rw [List.mem_filter, dec_iff, List.mem_range]
  exact ⟨fun h => h.2, fun h => ⟨h.lt W ha, h⟩⟩
theorem partL_rise (w : Web) (a : Nat) : (partL w a).Pairwise (· < ·) := List.Pairwise.filter _ List.pairwise_lt_range
theorem partL_len (w : Web) (a : Nat) : (partL w a).length ≤ w.1.length := Nat.le_trans (List.length_filter_le _ _) (by rw [List.length_range]; exact Nat.le_refl _)
/-- no lesser place hangs together with it -/
def Lst (w : Web) (a : Nat) : Prop := ∀ b, Rch w.2 a b → a ≤ b
noncomputable def leastsL (w : Web) (n : Nat) : List Nat := (List.range n).filter fun a => dec (Lst w a)
noncomputable def partsN (w : Web) (n : Nat) : List (List Nat) := (leastsL w n).map (partL w)
noncomputable def partsL (w : Web) : List (List Nat) := partsN w w.1.length
theorem leastsL_succ (w : Web) (n : Nat) : leastsL w (n + 1) = leastsL w n ++ if dec (Lst w n) = true then [n] else [] := by
  unfold leastsL
  rw [List.range_succ, List.filter_append]
  congr 1
  by_cases c : dec (Lst w n) = true
  · rw [if_pos c]; simp [c]
  · rw [if_neg c]; simp [c]
theorem partsN_succ (w : Web) (n : Nat) : partsN w (n + 1) = partsN w n ++ if dec (Lst w n) = true then [partL w n] else [] := by
  unfold partsN
  rw [leastsL_succ, List.map_append]
  congr 1
  split <;> rfl
theorem partsN_len (w : Web) (n : Nat) : (partsN w n).length ≤ n := by
  unfold partsN leastsL
  rw [List.length_map]
  exact Nat.le_trans (List.length_filter_le _ _) (by rw [List.length_range]; exact Nat.le_refl _)
/-- a place that none of the lesser ones comes to is least -/
theorem seen_iff {w : Web} (W : WOk w) {n : Nat} : (∃ a, a < n ∧ Rch w.2 a n) ↔ ¬ Lst w n := by
  constructor
  · rintro ⟨a, h1, h2⟩ l
    have := l a (h2.symm W)
    omega
  · intro h
    unfold Lst at h
    obtain ⟨b, hb⟩ := Classical.not_forall.mp h
    obtain ⟨h1, h2⟩ := Classical.not_imp.mp hb
    exact ⟨b, by omega, h1.symm W⟩
/-! ### the least place that one comes to, by turns -/
def Dn (ts : List Tie) : Nat → Nat → Nat → Prop
  | 0, p, q => p = q
  | k + 1, p, q => Dn ts k p q ∨ ∃ r, r ∈ nb ts p ∧ Dn ts k r q
theorem Dn.mono {ts : List Tie} {k p q : Nat} (h : Dn ts k p q) : ∀ m, Dn ts (k + m) p q
  | 0 => h
  | m + 1 => .inl (Dn.mono h m)
theorem filter_lt {α : Type} {P Q : α → Bool} : ∀ {l : List α}, (∀ x ∈ l, P x = true → Q x = true) → (∃ x ∈ l, Q x = true ∧ P x = false) → (l.filter P).length < (l.filter Q).length
  | [], _, ⟨x, h, _⟩ => absurd h (by simp)
  | y :: l, i, ⟨x, h, h1, h2⟩ => by
    have le : ∀ {l : List α}, (∀ x ∈ l, P x = true → Q x = true) → (l.filter P).length ≤ (l.filter Q).length := fun {l} i => by
      induction l with
      | nil => exact Nat.le_refl _
      | cons a r ih =>
        have ihr := ih fun x hx => i x (List.mem_cons_of_mem _ hx)
        by_cases c : P a = true
        · rw [List.filter_cons_of_pos c, List.filter_cons_of_pos (i a List.mem_cons_self c)]
          exact Nat.succ_le_succ ihr
        · rw [List.filter_cons_of_neg c]
          by_cases d : Q a = true
          · rw [List.filter_cons_of_pos d]; exact Nat.le_succ_of_le ihr
          · rw [List.filter_cons_of_neg d]; exact ihr
    have il : ∀ x ∈ l, P x = true → Q x = true := fun x hx => i x (List.mem_cons_of_mem _ hx)
    rcases List.mem_cons.mp h with z | z
    · subst z
      rw [List.filter_cons_of_neg (by rw [h2]; simp), List.filter_cons_of_pos h1]
      exact Nat.lt_succ_of_le (le il)
    · have ih := filter_lt il ⟨x, z, h1, h2⟩
      by_cases c : P y = true
      · rw [List.filter_cons_of_pos c, List.filter_cons_of_pos (i y List.mem_cons_self c)]
        exact Nat.succ_lt_succ ih
      · rw [List.filter_cons_of_neg c]
        by_cases d : Q y = true
        · rw [List.filter_cons_of_pos d]; exact Nat.lt_succ_of_lt ih
        · rw [List.filter_cons_of_neg d]; exact ih
/-- as many turns as there are places are enough -/
theorem dn_all {w : Web} (W : WOk w) {p q : Nat} (hq : q < w.1.length) (h : Rch w.2 p q) : Dn w.2 w.1.length p q := by
  have grow : ∀ k, (∀ a r, r ∈ nb w.2 a → Dn w.2 k r q → Dn w.2 k a q) ∨ k + 1 ≤ ((List.range w.1.length).filter fun a => dec (Dn w.2 k a q)).length := by
    intro k
    induction k with
    | zero =>
      right
      have : q ∈ (List.range w.1.length).filter fun a => dec (Dn w.2 0 a q) := List.mem_filter.mpr ⟨List.mem_range.mpr hq, dec_true rfl⟩
      exact List.length_pos_of_mem this
    | succ k ih =>
      rcases Classical.em (∀ a r, r ∈ nb w.2 a → Dn w.2 k r q → Dn w.2 k a q) with c | c
      · left
        have back : ∀ a, Dn w.2 (k + 1) a q → Dn w.2 k a q := fun a d => by
          rcases d with d | ⟨r, h1, h2⟩
          · exact d
          · exact c a r h1 h2
        intro a r h1 h2
        exact .inl (c a r h1 (back r h2))
      · right
        rcases ih with ih | ih
        · exact absurd ih c
        obtain ⟨a, ha⟩ := Classical.not_forall.mp c
        obtain ⟨r, hr⟩ := Classical.not_forall.mp ha
        obtain ⟨h1, hr⟩ := Classical.not_imp.mp hr
        obtain ⟨h2, h3⟩ := Classical.not_imp.mp hr
        have lt := filter_lt (l := List.range w.1.length) (P := fun a => dec (Dn w.2 k a q)) (Q := fun a => dec (Dn w.2 (k + 1) a q)) (fun x _ hx => dec_true (.inl (dec_iff.mp hx)))
          ⟨a, List.mem_range.mpr (nb_lt W h1).1, dec_true (.inr ⟨r, h1, h2⟩), dec_false h3⟩
        omega
  have closed : ∀ a r, r ∈ nb w.2 a → Dn w.2 w.1.length r q → Dn w.2 w.1.length a q := by
    rcases grow w.1.length with c | c
    · exact c
    · have := List.length_filter_le (fun a => dec (Dn w.2 w.1.length a q)) (List.range w.1.length)
      rw [List.length_range] at this
      omega
  have d0 : Dn w.2 w.1.length q q := by
    have z := Dn.mono (show Dn w.2 0 q q from rfl) w.1.length
    rw [Nat.zero_add] at z
    exact z
  have go : ∀ x, Rch w.2 p x → Dn w.2 w.1.length x q → Dn w.2 w.1.length p q := by
    intro x hx
    induction hx with
    | base => exact id
    | step _ m ih => exact fun d => ih (closed _ _ m d)
  exact go q h d0
/-- what the labels are while they sink: of its own part, and no greater than what k steps come to -/
structure Lab (w : Web) (k : Nat) (ls : List Nat) : Prop where
  len : ls.length = w.1.length
  own : ∀ (p l : Nat), ls[p]? = some l → Rch w.2 p l
  low : ∀ (p l q : Nat), ls[p]? = some l → Dn w.2 k p q → l ≤ q
/-- within a turn: i ties are done -/
structure LabT (w : Web) (k i : Nat) (old ls : List Nat) : Prop where
  len : ls.length = w.1.length
  own : ∀ (p l : Nat), ls[p]? = some l → Rch w.2 p l
  sink : ∀ (p l m : Nat), ls[p]? = some l → old[p]? = some m → l ≤ m
  done : ∀ t ∈ w.2.take i, ∀ (l m : Nat), (ls[t.1]? = some l → old[t.2.1]? = some m → l ≤ m) ∧ (ls[t.2.1]? = some l → old[t.1]? = some m → l ≤ m)
theorem Lab.start (w : Web) : Lab w 0 (List.range w.1.length) := by
  refine ⟨List.length_range, fun p l h => ?_, fun p l q h d => ?_⟩
  · obtain ⟨h1, h2⟩ := List.getElem?_eq_some_iff.mp h
    rw [List.getElem_range] at h2
    subst h2
    exact .base
  · obtain ⟨h1, h2⟩ := List.getElem?_eq_some_iff.mp h
    rw [List.getElem_range] at h2
    have : p = q := d
    omega
theorem LabT.start {w : Web} {k : Nat} {ls : List Nat} (L : Lab w k ls) : LabT w k 0 ls ls :=
  ⟨L.len, L.own, fun p l m h1 h2 => by rw [h1] at h2; cases h2; exact Nat.le_refl _, fun t ht => by simp at ht⟩
theorem LabT.tie {w : Web} (W : WOk w) {k i : Nat} {old ls : List Nat} (T : LabT w k i old ls) {t : Tie} (ht : w.2[i]? = some t) {l m : Nat} (hl : ls[t.1]? = some l) (hm : ls[t.2.1]? = some m) :
    LabT w k (i + 1) old ((ls.set t.1 (min l m)).set t.2.1 (min l m)) := by
  have r := W.ends t (List.mem_of_getElem? ht)
  have n1 : t.1 < ls.length := by rw [T.len]; omega
  have n2 : t.2.1 < ls.length := by rw [T.len]; omega
  have adj : t.2.1 ∈ nb w.2 t.1 := (mem_nb W).mpr ⟨t, List.mem_of_getElem? ht, at2_iff.mpr (.inl ⟨rfl, rfl⟩)⟩
  have at_ : ∀ p, ((ls.set t.1 (min l m)).set t.2.1 (min l m))[p]? = if p = t.1 ∨ p = t.2.1 then some (min l m) else ls[p]? := fun p => by
    by_cases c2 : t.2.1 = p
    · subst c2
      rw [List.getElem?_set_self (by rw [List.length_set]; exact n2), if_pos (.inr rfl)]
    · rw [List.getElem?_set_ne c2]
      by_cases c1 : t.1 = p
      · subst c1
        rw [List.getElem?_set_self n1, if_pos (.inl rfl)]
      · rw [List.getElem?_set_ne c1, if_neg (by intro z; rcases z with z | z; exact c1 z.symm; exact c2 z.symm)]
  have rl := T.own _ _ hl
  have rm := T.own _ _ hm
  have down : ∀ p x y, ((ls.set t.1 (min l m)).set t.2.1 (min l m))[p]? = some x → ls[p]? = some y → x ≤ y := fun p x y hx hy => by
    rw [at_] at hx
    split at hx
    · rename_i c
      have e := (Option.some.inj hx).symm
      subst e
      rcases c with c | c
      · subst c; rw [hl] at hy; cases hy; exact Nat.min_le_left _ _
      · subst c; rw [hm] at hy; cases hy; exact Nat.min_le_right _ _
    · rw [hx] at hy; cases hy; exact Nat.le_refl _
  have here : ∀ p x, ((ls.set t.1 (min l m)).set t.2.1 (min l m))[p]? = some x → ∃ y, ls[p]? = some y := fun p x hx => by
    have := (List.getElem?_eq_some_iff.mp hx).1
    rw [List.length_set, List.length_set] at this
    exact ⟨_, List.getElem?_eq_getElem this⟩
  refine ⟨by rw [List.length_set, List.length_set]; exact T.len, fun p x hx => ?_, fun p x y hx hy => ?_, fun u hu x y => ⟨fun hx hy => ?_, fun hx hy => ?_⟩⟩
  · rw [at_] at hx
    split at hx
    · rename_i c
      have e := (Option.some.inj hx).symm
      subst e
      have to1 : Rch w.2 t.1 (min l m) := by
        rcases Nat.le_total l m with z | z
        · rw [Nat.min_eq_left z]; exact rl
        · rw [Nat.min_eq_right z]; exact Rch.trans (Rch.base.step adj) rm
      rcases c with c | c
      · subst c; exact to1
      · subst c; exact Rch.trans (Rch.base.step (nb_symm W adj)) to1
    · exact T.own p x hx
  · obtain ⟨z, hz⟩ := here p x hx
    exact Nat.le_trans (down p x z hx hz) (T.sink p z y hz hy)
  · rw [take_snoc ht] at hu
    rcases List.mem_append.mp hu with hu | hu
    · obtain ⟨z, hz⟩ := here _ x hx
      exact Nat.le_trans (down _ x z hx hz) ((T.done u hu z y).1 hz hy)
    · rw [List.mem_singleton.mp hu] at hx hy
      rw [at_, if_pos (.inl rfl)] at hx
      cases hx
      exact Nat.le_trans (Nat.min_le_right _ _) (T.sink _ m y hm hy)
  · rw [take_snoc ht] at hu
    rcases List.mem_append.mp hu with hu | hu
    · obtain ⟨z, hz⟩ := here _ x hx
      exact Nat.le_trans (down _ x z hx hz) ((T.done u hu z y).2 hz hy)
    · rw [List.mem_singleton.mp hu] at hx hy
      rw [at_, if_pos (.inr rfl)] at hx
      cases hx
      exact Nat.le_trans (Nat.min_le_left _ _) (T.sink _ l y hl hy)
theorem LabT.turn {w : Web} (W : WOk w) {k : Nat} {old ls : List Nat} (L : Lab w k old) (T : LabT w k w.2.length old ls) : Lab w (k + 1) ls := by
  refine ⟨T.len, T.own, fun p l q hl d => ?_⟩
  have hp : p < old.length := by rw [L.len, ← T.len]; exact (List.getElem?_eq_some_iff.mp hl).1
  have ho := List.getElem?_eq_getElem hp
  rcases d with d | ⟨r, h1, h2⟩
  · exact Nat.le_trans (T.sink p l _ hl ho) (L.low p _ q ho d)
  · obtain ⟨t, ht, e⟩ := (mem_nb W).mp h1
    have hr : r < old.length := by rw [L.len]; exact (nb_lt W h1).2
    have hr' := List.getElem?_eq_getElem hr
    have tm : t ∈ w.2.take w.2.length := by rw [List.take_length]; exact ht
    have dn := T.done t tm l old[r]
    have le : l ≤ old[r] := by
      rcases at2_iff.mp e with ⟨a, b⟩ | ⟨a, b⟩
      · exact dn.1 (by rw [a]; exact hl) (by rw [b]; exact hr')
      · exact dn.2 (by rw [b]; exact hl) (by rw [a]; exact hr')
    exact Nat.le_trans le (L.low r _ q hr' h2)
/-- at the end: each label is the least place of its part -/
theorem Lab.end_ {w : Web} (W : WOk w) {ls : List Nat} (L : Lab w w.1.length ls) {p l : Nat} (h : ls[p]? = some l) : Rch w.2 p l ∧ Lst w l := by
  have hp : p < w.1.length := by rw [← L.len]; exact (List.getElem?_eq_some_iff.mp h).1
  have r := L.own p l h
  refine ⟨r, fun b hb => ?_⟩
  have rb := r.trans hb
  exact L.low p l b h (dn_all W (rb.lt W hp) rb)
theorem lst_uniq {w : Web} (W : WOk w) {a b : Nat} (ha : Lst w a) (hb : Lst w b) (h : Rch w.2 a b) : a = b := by
  have h1 := ha b h
  have h2 := hb a (h.symm W)
  omega
theorem Lab.is_ {w : Web} (W : WOk w) {ls : List Nat} (L : Lab w w.1.length ls) {p l a : Nat} (h : ls[p]? = some l) (ha : Lst w a) : l = a ↔ Rch w.2 a p := by
  obtain ⟨h1, h2⟩ := L.end_ W h
  constructor
  · rintro rfl
    exact h1.symm W
  · intro z
    exact (lst_uniq W ha h2 (z.trans h1)).symm
theorem labs_mem {w : Web} (W : WOk w) {ls : List Nat} (L : Lab w w.1.length ls) (x : Nat) : x ∈ ls ↔ x ∈ leastsL w w.1.length := by
  unfold leastsL
  rw [List.mem_filter, List.mem_range, dec_iff]
  constructor
  · intro h
    obtain ⟨p, hp⟩ := List.getElem?_of_mem h
    obtain ⟨h1, h2⟩ := L.end_ W hp
    have hp' : p < w.1.length := by rw [← L.len]; exact (List.getElem?_eq_some_iff.mp hp).1
    exact ⟨h1.lt W hp', h2⟩
  · rintro ⟨h1, h2⟩
    have hx : x < ls.length := by rw [L.len]; exact h1
    have g := List.getElem?_eq_getElem hx
    have e := (L.is_ W g h2).mpr .base
    rw [e] at g
    exact List.mem_of_getElem? g
theorem leasts_rise (w : Web) (n : Nat) : (leastsL w n).Pairwise (· < ·) := List.Pairwise.filter _ List.pairwise_lt_range
theorem mem_leasts {w : Web} {n x : Nat} (h : x ∈ leastsL w n) : x < n ∧ Lst w x := by
  unfold leastsL at h
  rw [List.mem_filter, List.mem_range, dec_iff] at h
  exact h
theorem labs_part {w : Web} (W : WOk w) {ls : List Nat} (L : Lab w w.1.length ls) {a : Nat} (ha : Lst w a) : ((List.range w.1.length).filter fun p => decide (ls[p]? = some a)) = partL w a := by
  unfold partL
  refine List.filter_congr fun p hp => ?_
  have hp' : p < ls.length := by rw [L.len]; exact List.mem_range.mp hp
  have g := List.getElem?_eq_getElem hp'
  rw [Bool.eq_iff_iff, dec_iff, decide_eq_true_eq, g, Option.some.injEq]
  exact L.is_ W g ha

/-! ### a def's code told to its body -/
section
variable {P : Program} {w : World} {K : PySem.W.Frag} {mg : Str → Option Value} {base : Heap}
theorem funOkC {x qual : Str} {st : Stmt} {f : Addr} {fd : FuncData} {N ps : List Str} {k : Nat} {sp : Sp} (F : Fun K x qual st f fd) (S : FnScope N ps (defScope st)) (len : ∀ vs H Q E, sp vs H Q E → vs.length = ps.length)
    (hbody : ∀ (cdv : Value), PySem.W.codeIn K cdv qual = true → ∀ (A : Around) (outer : List Env) (s : Shared) (H : Hp) (vs : List V) (Q : VK) (E : XK), Room k (A.deeper (envOfC qual (defScope st) s.heap.objs.size f cdv)) → sp vs H Q E →
      ∃ t, PSs (cxOf CX0 P w K mg base N qual (defScope st) f cdv A outer s H E).nox (defBody st) t ∧ t { nx := fun _ H' => Q .non H', rt := Q } (start N vs) H) : FnOk P w K mg base CX0 (k + 1) f fd ps sp := by
  obtain ⟨oc, od, kV, doc, pm, an, cdv, ct, osl, rfl, lk, hcd⟩ := F.ex
  refine fn_of lk hcd S len fun A outer s H vs Q E hr hsp => ?_
  obtain ⟨t, h, q⟩ := hbody cdv hcd A outer s H vs Q E hr hsp
  exact ⟨t, h.nox, q⟩
end
/-! ### a set of places -/
theorem cr_set0w {X : Cx} {wd : World} (hw : X.w = wd) : CallR X (.type "set") (rSet0 wd) := by
  subst hw
  exact cr_set0
def SetN (wd : World) (H : Hp) (S : Addr) (ms : List Nat) : Prop := ∃ Sx n, H S = some (SetO wd S Sx n) ∧ n ≤ ms.length ∧ (ms.Nodup → n = ms.length) ∧ ∀ k : Int, Sx k = true ↔ ∃ q : Nat, k = (q : Int) ∧ q ∈ ms
section
variable {wd : World} {K : PySem.W.Frag} {H H' : Hp} {S : Addr} {ms : List Nat} {q : Nat} {Q : VK}
theorem SetN.new (h : H S = some (SetO wd S (fun _ => false) 0)) : SetN wd H S [] := ⟨_, 0, h, Nat.le_refl _, fun _ => rfl, fun k => by simp⟩
theorem SetN.same (x : SetN wd H S ms) (s : Same H H') : SetN wd H' S ms := by
  obtain ⟨a, n, e, r⟩ := x
  exact ⟨a, n, s _ _ e, r⟩
theorem SetN.at_ (x : SetN wd H S ms) {b : Addr} {o : HO} (n : b ≠ S) : SetN wd (upd H b o) S ms := by
  obtain ⟨a, m, e, r⟩ := x
  exact ⟨a, m, by rw [upd_ne n.symm]; exact e, r⟩
theorem SetN.ne (x : SetN wd H S ms) {b : Addr} {ys : List V} (e : H b = some (.lst ys)) : b ≠ S := by
  obtain ⟨a, m, e', r⟩ := x
  exact ne_of e e' (by intro z; cases z)
theorem d_snotin (x : SetN wd H S ms) (k : Q (.bl (!decide (q ∈ ms))) H) : rSNotIn wd (.int (q : Nat)) (.ref S) H Q := by
  obtain ⟨Sx, n, e, l, l', m⟩ := x
  refine ⟨q, S, Sx, n, rfl, rfl, e, ?_⟩
  have : Sx (q : Nat) = decide (q ∈ ms) := by
    rw [Bool.eq_iff_iff, decide_eq_true_eq, m]
    constructor
    · rintro ⟨q', h1, h2⟩
      have : q = q' := by omega
      rw [this]; exact h2
    · intro h
      exact ⟨q, rfl, h⟩
  rw [this]
  exact k
theorem d_tsadd {to : TE} {t : TA} {σ : L2.St} (h : to σ H fun x H1 => (∃ a S n, x = V.ref a ∧ H1 a = some (SetO wd a S n)) ∧ t σ H1 fun xs H2 => rSAdd wd x xs H2 Q) : tSAdd wd to t σ H Q := h
theorem d_sadd0 (x : SetN wd H S ms) {C : Prop} (h : C) : (∃ a Sx n, V.ref S = V.ref a ∧ H a = some (SetO wd a Sx n)) ∧ C := by
  obtain ⟨a, n, e, r⟩ := x
  exact ⟨⟨S, a, n, rfl, e⟩, h⟩
theorem d_sadd (x : SetN wd H S ms) (few : ms.length ≤ 4000) (k : ∀ o ms', SetN wd (upd H S o) S ms' → (∀ y, y ∈ ms' ↔ y ∈ ms ∨ y = q) → ms'.length ≤ ms.length + 1 → (q ∉ ms → ms' = ms ++ [q]) → Q .non (upd H S o)) : rSAdd wd (.ref S) [.int (q : Nat)] H Q := by
  obtain ⟨Sx, n, e, l, l', m⟩ := x
  refine ⟨S, q, Sx, n, rfl, rfl, e, by unfold scanBound; omega, ?_⟩
  have mem : ∀ j : Int, (Sx j || decide (j = (q : Int))) = true ↔ ∃ y : Nat, j = (y : Int) ∧ (y ∈ ms ∨ y = q) := fun j => by
    rw [Bool.or_eq_true, m, decide_eq_true_eq]
    constructor
    · rintro (⟨y, h1, h2⟩ | h)
      · exact ⟨y, h1, .inl h2⟩
      · exact ⟨q, h, .inr rfl⟩
    · rintro ⟨y, h1, h2 | h2⟩
      · exact .inl ⟨y, h1, h2⟩
      · exact .inr (by rw [h1, h2])
  by_cases c : q ∈ ms
  · have c' : Sx (q : Nat) = true := (m _).mpr ⟨q, rfl, c⟩
    rw [if_pos c']
    refine k _ ms ⟨_, n, upd_same, l, l', fun j => ?_⟩ (fun y => ⟨.inl, fun h => h.elim id fun z => z ▸ c⟩) (by omega) fun z => absurd c z
    rw [mem]
    exact ⟨fun ⟨y, h1, h2⟩ => ⟨y, h1, h2.elim id fun z => z ▸ c⟩, fun ⟨y, h1, h2⟩ => ⟨y, h1, .inl h2⟩⟩
  · have c' : ¬ Sx (q : Nat) = true := fun z => by
      obtain ⟨y, h1, h2⟩ := (m _).mp z
      have : q = y := by omega
      exact c (this ▸ h2)
    rw [if_neg c']
    refine k _ (ms ++ [q]) ⟨_, n + 1, upd_same, by rw [List.length_append]; show n + 1 ≤ ms.length + 1; omega, fun nd => ?_, fun j => ?_⟩ (fun y => by rw [List.mem_append, List.mem_singleton]) (by rw [List.length_append]; exact Nat.le_refl _) fun _ => rfl
    · rw [List.length_append, l' (List.nodup_append.mp nd).1]; rfl
    · rw [mem]
      exact ⟨fun ⟨y, h1, h2⟩ => ⟨y, h1, by rw [List.mem_append, List.mem_singleton]; exact h2⟩, fun ⟨y, h1, h2⟩ => ⟨y, h1, by rw [List.mem_append, List.mem_singleton] at h2; exact h2⟩⟩
theorem nats_of {ns : List Int} {l : List Nat} (s : ns.Pairwise (· < ·)) (sl : l.Pairwise (· < ·)) (m : ∀ k, k ∈ ns ↔ ∃ q : Nat, k = (q : Int) ∧ q ∈ l) : ns = zs l := by
  have nn : ∀ k ∈ ns, 0 ≤ k := fun k hk => by
    obtain ⟨q, h, _⟩ := (m k).mp hk
    omega
  have e1 : zs (ns.map Int.toNat) = ns := by
    unfold zs
    rw [List.map_map]
    refine (List.map_congr_left fun k hk => ?_).trans (List.map_id _)
    show ((k.toNat : Nat) : Int) = k
    exact Int.toNat_of_nonneg (nn k hk)
  rw [← e1]
  congr 1
  refine sorted_ext ?_ sl fun x => ?_
  · rw [List.pairwise_map]
    refine s.imp_of_mem fun {x y} hx hy h => ?_
    have := nn x hx
    have := nn y hy
    omega
  · rw [List.mem_map]
    constructor
    · rintro ⟨k, h1, h2⟩
      obtain ⟨q, h3, h4⟩ := (m k).mp h1
      have : x = q := by omega
      rw [this]; exact h4
    · intro h
      exact ⟨(x : Int), (m _).mpr ⟨x, rfl, h⟩, by simp⟩
theorem d_ssort (x : SetN wd H S ms) {l : List Nat} (nd : ms.Nodup) (few : ms.length < 64) (sl : l.Pairwise (· < ·)) (m : ∀ y, y ∈ ms ↔ y ∈ l) (k : ∀ p, H p = none → Q (.ref p) (upd H p (.lst (l.map fun y => V.int (y : Nat))))) : rSortedSet wd [.ref S] H Q := by
  obtain ⟨Sx, n, e, l1, l2, m1⟩ := x
  refine ⟨S, Sx, n, rfl, e, by have := l2 nd; omega, fun ns p s mem len fp => ?_⟩
  have : ns = zs l := nats_of s sl fun j => by
    rw [mem, m1]
    exact ⟨fun ⟨y, h1, h2⟩ => ⟨y, h1, (m y).mp h2⟩, fun ⟨y, h1, h2⟩ => ⟨y, h1, (m y).mpr h2⟩⟩
  rw [this, ← ints_map]
  exact k p fp
end
/-! ### lists of lists of places -/
abbrev natsV (p : List Nat) : List V := p.map fun q => V.int (q : Nat)
def PartsAt (H : Hp) (rs : List Addr) (ps : List (List Nat)) : Prop := Paired (fun r p => H r = some (.lst (natsV p))) rs ps
def partsD (ps : List (List Nat)) : PyData := .list (ps.map fun p => .list ((zs p).map PyData.int))
section
variable {K : PySem.W.Frag} {H H' : Hp} {rs : List Addr} {ps : List (List Nat)}
theorem PartsAt.same (x : PartsAt H rs ps) (s : Same H H') : PartsAt H' rs ps := Paired.imp x fun _ _ e => s _ _ e
theorem PartsAt.keep {h : Addr} (x : PartsAt H rs ps) (k : Keep h H H') (n : h ∉ rs) : PartsAt H' rs ps := by
  induction x with
  | nil => exact .nil
  | cons e _ ih =>
    exact .cons (k _ _ (fun z => n (z ▸ List.mem_cons_self)) e) (ih fun z => n (List.mem_cons_of_mem _ z))
theorem PartsAt.dpa : ∀ {rs : List Addr} {ps : List (List Nat)}, PartsAt H rs ps → DpAll K H (rs.map V.ref) (ps.map fun p => PyData.list ((zs p).map PyData.int))
  | _, _, .nil => .nil
  | _, _, .cons e r => .cons (dp_nats e) (PartsAt.dpa r)
theorem PartsAt.dp {T : Addr} (x : PartsAt H rs ps) (e : H T = some (.lst (rs.map V.ref))) : Dp K H (.ref T) (partsD ps) := .lst (SqL.of e) x.dpa
theorem partsD_good (ps : List (List Nat)) : SeqAt.shaped (partsD ps) = true := by
  refine shaped_list (k := 1) (by decide) fun d hd => ?_
  obtain ⟨p, _, rfl⟩ := List.mem_map.mp hd
  have h := shaped_ints (zs p)
  refine ⟨SeqAt.canLay_of_shaped h, ?_⟩
  have : PyData.depthAll ((zs p).map PyData.int) ≤ 0 := by
    generalize zs p = l
    induction l with
    | nil => simp [PyData.depthAll]
    | cons a l ih => simp [PyData.depthAll, PyData.depth]; omega
  simp only [PyData.depth]; omega
end
theorem cr_setLw {X : Cx} {wd : World} (hw : X.w = wd) (hc : X.calm = true) : CallR X (.type "set") (rSetL X.K wd) := by
  subst hw
  exact cr_setL hc
/-! ### webs beside one another; a row -/
def shiftT (n : Nat) (t : Tie) : Tie := (t.1 + n, t.2.1 + n, t.2.2)
def joinW (u v : Web) : Web := (u.1 ++ v.1, u.2 ++ v.2.map (shiftT u.1.length))
def rowW (u : Web) : Web := (u.1, (List.range (u.1.length - 1)).map fun j => (j, j + 1, 115))
theorem ties_few {ts : List Tie} {n : Nat} (s : ts.Pairwise tlt) (e : ∀ t ∈ ts, t.1 < n ∧ t.2.1 < n) : ts.length ≤ n * n := by
  have h := nodup_len (n * n) (ts.map fun t => t.1 * n + t.2.1) ?_ ?_
  · rw [List.length_map] at h; exact h
  · unfold List.Nodup
    rw [List.pairwise_map]
    refine s.imp_of_mem fun {x y} hx hy h z => ?_
    obtain ⟨a1, a2⟩ := e x hx
    obtain ⟨b1, b2⟩ := e y hy
    unfold tlt at h
    have e1 : (x.1 * n + x.2.1) / n = x.1 := by rw [Nat.add_comm, Nat.add_mul_div_right _ _ (by omega), Nat.div_eq_of_lt a2, Nat.zero_add]
    have e2 : (y.1 * n + y.2.1) / n = y.1 := by rw [Nat.add_comm, Nat.add_mul_div_right _ _ (by omega), Nat.div_eq_of_lt b2, Nat.zero_add]
    have : x.1 = y.1 := by rw [← e1, ← e2, z]
    rw [this] at z
    omega
  · intro x hx
    obtain ⟨t, ht, rfl⟩ := List.mem_map.mp hx
    obtain ⟨a1, a2⟩ := e t ht
    calc t.1 * n + t.2.1 < t.1 * n + n := by omega
      _ = (t.1 + 1) * n := by rw [Nat.add_mul, Nat.one_mul]
      _ ≤ n * n := Nat.mul_le_mul_right _ a1
theorem few_most {n m : Nat} (h : n ≤ 40) (k : m ≤ n * n) : m ≤ 1600 := Nat.le_trans k (Nat.le_trans (Nat.mul_le_mul h h) (by decide))
theorem joinW_ok {u v : Web} (U : WOk u) (V : WOk v) (h : u.1.length + v.1.length ≤ 40) : WOk (joinW u v) := by
  have en : ∀ t ∈ (joinW u v).2, t.1 < t.2.1 ∧ t.2.1 < (joinW u v).1.length ∧ Ltr t.2.2 := fun t ht => by
    unfold joinW at ht ⊢
    dsimp only at ht ⊢
    rw [List.length_append]
    rcases List.mem_append.mp ht with ht | ht
    · obtain ⟨a, b, c⟩ := U.ends t ht
      exact ⟨a, by omega, c⟩
    · obtain ⟨s, hs, rfl⟩ := List.mem_map.mp ht
      obtain ⟨a, b, c⟩ := V.ends s hs
      unfold shiftT
      exact ⟨by dsimp only; omega, by dsimp only; omega, c⟩
  have ri : (joinW u v).2.Pairwise tlt := by
    unfold joinW
    refine List.pairwise_append.mpr ⟨U.rise, ?_, fun x hx y hy => ?_⟩
    · rw [List.pairwise_map]
      refine V.rise.imp fun {x y} h => ?_
      unfold tlt shiftT at *
      dsimp only
      omega
    · obtain ⟨s, hs, rfl⟩ := List.mem_map.mp hy
      obtain ⟨a, b, c⟩ := U.ends x hx
      unfold tlt shiftT
      left
      dsimp only
      omega
  have le : (joinW u v).1.length ≤ 40 := by unfold joinW; rw [List.length_append]; exact h
  refine ⟨le, few_most le (ties_few ri fun t ht => ?_), fun c hc => ?_, ri, en⟩
  · obtain ⟨a, b, _⟩ := en t ht
    omega
  · unfold joinW at hc
    rcases List.mem_append.mp hc with hc | hc
    · exact U.kinds c hc
    · exact V.kinds c hc
theorem rowW_ok {u : Web} (U : WOk u) : WOk (rowW u) := by
  refine ⟨U.few, ?_, U.kinds, ?_, fun t ht => ?_⟩
  · unfold rowW
    rw [List.length_map, List.length_range]
    have := U.few
    omega
  · unfold rowW
    rw [List.pairwise_map]
    refine List.pairwise_lt_range.imp fun {x y} h => ?_
    unfold tlt
    left
    exact h
  · unfold rowW at ht ⊢
    obtain ⟨j, hj, rfl⟩ := List.mem_map.mp ht
    rw [List.mem_range] at hj
    exact ⟨Nat.lt_succ_self _, by dsimp only; omega, by unfold Ltr; dsimp only; omega⟩
theorem wok_nil : WOk ([], []) := ⟨by decide, by decide, by simp, .nil, by simp⟩
theorem partsL_nil : partsL ([], []) = [] := rfl
end Cw

namespace Cw
open PySem PySem.Spec PyProof.Rows L2
theorem d_dc {σ : L2.St} {H : Hp} {Q : VK} {wi : TI} {g : TG} {tt : TT} {tk tv : TE} {vs : List Nat} (h : wi σ H fun J H1 => ∀ D, H1 D = none → ∃ W : Nat → Nat → Hp → Prop, (∃ m, W 0 m (upd H1 D (.dK []))) ∧ ∀ i m H, W i m H →
  (J.stop i H ∧ Q (.ref D) H) ∨ (J.go i H ∧ ∃ Nx : Hp → Prop, (∀ H', Nx H' → ∃ m', m' < m ∧ W (i + 1) m' H') ∧ ∀ x H', J.yld i H x H' → g x (wipe σ vs) H' fun σ2 H2 => wipe σ2 vs = wipe σ vs ∧ tt σ2 H2 fun b H3 =>
    if b = true then tk σ2 H3 fun y H4 => tv σ2 H4 fun z H5 => ∃ kvs k, y = kV k ∧ H5 D = some (.dK kvs) ∧ kvs.length < sizeLine ∧ Nx (upd H5 D (.dK (putK kvs k z))) else Nx H3)) : tDc wi g tt tk tv vs σ H Q := h
/-- the dict made over what is walked -/
theorem dc_it {J : It} {n : Nat} {G : Hp → Prop} {Y : Nat → Hp → V → Hp → Prop} (w : Walk J n G Y) {g : TG} {tt : TT} {tk tv : TE} {vs : List Nat} {σ : L2.St} {H1 : Hp} {D : Addr} {Qd : Hp → Prop} (Pv : Nat → Hp → Prop) (h0 : Pv 0 (upd H1 D (.dK []))) (hG : ∀ i H, i ≤ n → Pv i H → G H)
    (hs : ∀ i x H H', i < n → Pv i H → Y i H x H' → g x (wipe σ vs) H' fun σ2 H2 => wipe σ2 vs = wipe σ vs ∧ tt σ2 H2 fun b H3 =>
      if b = true then tk σ2 H3 fun y H4 => tv σ2 H4 fun z H5 => ∃ kvs k, y = kV k ∧ H5 D = some (.dK kvs) ∧ kvs.length < sizeLine ∧ Pv (i + 1) (upd H5 D (.dK (putK kvs k z))) else Pv (i + 1) H3) (hd : ∀ H, Pv n H → Qd H) :
    ∃ W : Nat → Nat → Hp → Prop, (∃ m, W 0 m (upd H1 D (.dK []))) ∧ ∀ i m H, W i m H →
      (J.stop i H ∧ Qd H) ∨ (J.go i H ∧ ∃ Nx : Hp → Prop, (∀ H', Nx H' → ∃ m', m' < m ∧ W (i + 1) m' H') ∧ ∀ x H', J.yld i H x H' → g x (wipe σ vs) H' fun σ2 H2 => wipe σ2 vs = wipe σ vs ∧ tt σ2 H2 fun b H3 =>
        if b = true then tk σ2 H3 fun y H4 => tv σ2 H4 fun z H5 => ∃ kvs k, y = kV k ∧ H5 D = some (.dK kvs) ∧ kvs.length < sizeLine ∧ Nx (upd H5 D (.dK (putK kvs k z))) else Nx H3) := by
  refine ⟨fun i m H => m = n - i ∧ i ≤ n ∧ Pv i H, ⟨n, by simp, Nat.zero_le _, h0⟩, ?_⟩
  rintro i m H ⟨rfl, hi, p⟩
  have q := hG i H hi p
  by_cases hlt : i < n
  · refine .inr ⟨w.goes i H hlt q, fun H' => Pv (i + 1) H', fun H' h' => ⟨n - (i + 1), by omega, rfl, by omega, h'⟩, fun x H' hy => ?_⟩
    exact hs i x H H' hlt p (w.yields i H x H' hlt q hy)
  · have e : i = n := by omega
    subst e
    exact .inl ⟨w.stops H q, hd H p⟩
/-- where p stands among some places -/
def posOf (os : List Nat) (p : Nat) : Option Nat := os.findIdx? (· == p)
theorem posOf_snoc (os : List Nat) (q p : Nat) (h : q ∉ os) : posOf (os ++ [q]) p = if p = q then some os.length else posOf os p := by
  unfold posOf
  rw [List.findIdx?_append]
  by_cases e : p = q
  · subst e
    rw [if_pos rfl]
    have n : os.findIdx? (· == p) = none := List.findIdx?_eq_none_iff.mpr fun x hx => by
      simp only [beq_eq_false_iff_ne]
      exact fun z => h (z ▸ hx)
    rw [n]; simp
  · rw [if_neg e]
    have : [q].findIdx? (· == p) = none := by
      rw [List.findIdx?_eq_none_iff]
      intro x hx
      rw [List.mem_singleton.mp hx]
      simp only [beq_eq_false_iff_ne]
      exact fun z => e z.symm
    rw [this]; simp
def cutTie (os : List Nat) (t : Tie) : Option Tie := (posOf os t.1).bind fun a => (posOf os t.2.1).map fun b => (a, b, t.2.2)
/-- the web of some places alone, called by their order -/
def cutL (w : Web) (os : List Nat) : Web := (os.map fun p => w.1.getD p 0, w.2.filterMap (cutTie os))
/-! ### name = {k: v for ..} on one line -/
section
variable {X : Cx}
theorem sw_dict {kx vx : Expr} {gs : List Comprehension} {scope : Scope} {pos py : Pos} {y : Str} {l : Nat} {env : Env} (hk : env.scope.kind = .function) (hy : env.scope.names.lookup y = some .local) (hl : (py.line == pos.line) = true)
    (ha : (scope.names.any fun (n, k) => n == y && (k == .local || k == .cell)) = false) : swapsWith (.DictComp kx vx gs scope pos) (some (.Name y py)) l env = pure true := by
  have e1 : env.blockKind = .function := by rw [Env.blockKind, hk]; rfl
  have e2 : env.kindOf y = some .local := hy
  simp only [swapsWith, e1, e2, ha, Expr.pos, hl]
  rfl
theorem ps_setDc {i : Nat} {y : Str} {py : Pos} {kx vx tg iter : Expr} {ifs : List Expr} {scope : Scope} {own : List (Str × Nat)} {pos spos : Pos} {wi : TI} {g : TG} {tt : TT} {tk tv : TE} (hc : X.calm = true) (hN : X.N.Nodup) (hy : X.N[i]? = some y)
    (hyl : X.env.scope.names.lookup y = some .local) (hsw : swapsWith (.DictComp kx vx [⟨tg, iter, ifs, 0⟩] scope pos) (some (.Name y py)) spos.line X.env = pure true) (hi : PI X tg iter wi) (ok : BlkOk X.N X.env.scope scope own)
    (hg : ∀ (s : Shared) (H : Hp) (C : Addr) (cl : List (Str × Addr)) (fp : List Addr), PG (X.blk s H scope (compEnvC scope cl C X.env) fp) tg g)
    (ht : ∀ (s : Shared) (H : Hp) (C : Addr) (cl : List (Str × Addr)) (fp : List Addr), PTs (X.blk s H scope (compEnvC scope cl C X.env) fp) ifs tt)
    (hkx : ∀ (s : Shared) (H : Hp) (C : Addr) (cl : List (Str × Addr)) (fp : List Addr), PE (X.blk s H scope (compEnvC scope cl C X.env) fp) kx tk)
    (hvx : ∀ (s : Shared) (H : Hp) (C : Addr) (cl : List (Str × Addr)) (fp : List Addr), PE (X.blk s H scope (compEnvC scope cl C X.env) fp) vx tv) (hs : ∀ x, foldedSetIterable iter X.env x = pure x := by intro _; rfl) :
    PS X (.Assign [.Name y py] (.DictComp kx vx [⟨tg, iter, ifs, 0⟩] scope pos) spos) (tAsg (tDc wi g tt tk tv (own.map (·.2))) (gName i)) := by
  refine ⟨fun pins s σ H D I h => ?_⟩
  have h : tDc wi g tt tk tv (own.map (·.2)) σ H (fun x H1 => gName i x σ H1 D.nx) := h
  rw [exec_Assign_Name_used _ _ _ _ hsw]
  refine wpAny_bind (wpAny_standAt (wpAny_bind ?_))
  refine wpAny_bind (thn (dc_core (Qf := fun _ s' => SP X pins D .next s') hc hN I hi ok hg ht hkx hvx hs h fun L C s' m H' I' q hn f => ?_) fun _ s' hq => wpAny_pure (wpAny_pure hq))
  refine wpAny_assign_Name (store_ok2 (v := V.ref L) I' hN hy (.inl hyl) rfl (fun s2 I2 ⟨a, sb, ha⟩ => ?_) (.inr hyl))
  obtain ⟨f0, f1, f2, f3, f4, f5⟩ := f
  have ne : C ≠ a := ha.elim (fun z => z ▸ f1) fun z e => f4 y a z e.symm
  exact ⟨m, hn.sameBut sb ne, fun h3 sb3 => ⟨_, H', I2.turned (t' := s2.toks) (fun b o hb e => (sb3.2 b hb).trans e) f0 f1 f3 f4 f5, q⟩⟩
end
theorem nat_list {ns : List Int} {qs : List Nat} (pm : ns.Perm (zs qs)) : ∃ os : List Nat, ns = zs os ∧ os.Perm qs := by
  have h : ∀ n ∈ ns, ((n.toNat : Nat) : Int) = n := fun n hn => by
    obtain ⟨q, _, rfl⟩ := List.mem_map.mp (pm.mem_iff.mp hn)
    rfl
  have e : ns = zs (ns.map Int.toNat) := by
    unfold zs
    rw [List.map_map]
    exact (List.map_id ns).symm.trans (List.map_congr_left fun n hn => (h n hn).symm)
  refine ⟨ns.map Int.toNat, e, ?_⟩
  have z := pm.map Int.toNat
  have e2 : (zs qs).map Int.toNat = qs := by
    unfold zs
    rw [List.map_map]
    exact (List.map_congr_left fun n _ => (rfl : (Int.toNat ∘ fun o : Nat => (o : Int)) n = id n)).trans (List.map_id qs)
  rwa [e2] at z
theorem cutTie_snoc {os : List Nat} {ts : List Tie} {i : Nat} {t : Tie} (h : ts[i]? = some t) : (ts.take (i + 1)).filterMap (cutTie os) = (ts.take i).filterMap (cutTie os) ++ (cutTie os t).toList := by
  rw [take_snoc h, List.filterMap_append]
  cases e : cutTie os t with
  | none => rw [List.filterMap_cons_none e]; rfl
  | some x => rw [List.filterMap_cons_some e]; rfl
end Cw

/-! cuts: their ties, their neighbours, cuts of cuts -/
namespace Cw
open PySem PySem.Spec PyProof.Rows L2
theorem posOf_iff {os : List Nat} (nd : os.Nodup) {p i : Nat} : posOf os p = some i ↔ os[i]? = some p := by
  unfold posOf
  rw [List.findIdx?_eq_some_iff_getElem]
  constructor
  · rintro ⟨h, e, _⟩
    rw [List.getElem?_eq_getElem h, beq_iff_eq.mp e]
  · intro h
    obtain ⟨h1, h2⟩ := List.getElem?_eq_some_iff.mp h
    refine ⟨h1, beq_iff_eq.mpr h2, fun j hj => ?_⟩
    have : os[j] ≠ p := fun z => by
      have z2 : os[j] = os[i] := z.trans h2.symm
      have := (List.getElem_inj nd).mp z2
      omega
    simpa using this
theorem posOf_none {os : List Nat} {p : Nat} : posOf os p = none ↔ p ∉ os := by
  unfold posOf
  rw [List.findIdx?_eq_none_iff]
  constructor
  · intro h z
    have := h p z
    simp at this
  · intro h x hx
    simp only [beq_eq_false_iff_ne]
    exact fun z => h (z ▸ hx)
theorem rise_nodup {os : List Nat} (s : os.Pairwise (· < ·)) : os.Nodup := s.imp fun h => Nat.ne_of_lt h
theorem cutTie_some {os : List Nat} (nd : os.Nodup) {t s : Tie} : cutTie os t = some s ↔ os[s.1]? = some t.1 ∧ os[s.2.1]? = some t.2.1 ∧ s.2.2 = t.2.2 := by
  unfold cutTie
  rw [Option.bind_eq_some_iff]
  constructor
  · rintro ⟨a, h1, h2⟩
    obtain ⟨b, h3, h4⟩ := Option.map_eq_some_iff.mp h2
    subst h4
    exact ⟨(posOf_iff nd).mp h1, (posOf_iff nd).mp h3, rfl⟩
  · rintro ⟨h1, h2, h3⟩
    refine ⟨s.1, (posOf_iff nd).mpr h1, ?_⟩
    rw [(posOf_iff nd).mpr h2]
    show some (s.1, s.2.1, t.2.2) = some s
    rw [← h3]
theorem cutTie_at {os : List Nat} (nd : os.Nodup) {i j p q : Nat} (hi : os[i]? = some p) (hj : os[j]? = some q) (t : Tie) : ((cutTie os t).any (at2 i j)) = at2 p q t := by
  rw [Bool.eq_iff_iff, at2_iff]
  constructor
  · intro h
    obtain ⟨s, h1, h2⟩ := (Option.any_eq_true _ _).mp h
    obtain ⟨a, b, _⟩ := (cutTie_some nd).mp h1
    rcases at2_iff.mp h2 with ⟨e1, e2⟩ | ⟨e1, e2⟩
    · rw [e1, hi] at a; rw [e2, hj] at b
      exact .inl ⟨(Option.some.inj a).symm, (Option.some.inj b).symm⟩
    · rw [e1, hj] at a; rw [e2, hi] at b
      exact .inr ⟨(Option.some.inj a).symm, (Option.some.inj b).symm⟩
  · rintro (⟨e1, e2⟩ | ⟨e1, e2⟩)
    · exact (Option.any_eq_true _ _).mpr ⟨(i, j, t.2.2), (cutTie_some nd).mpr ⟨by rw [e1]; exact hi, by rw [e2]; exact hj, rfl⟩, at2_iff.mpr (.inl ⟨rfl, rfl⟩)⟩
    · exact (Option.any_eq_true _ _).mpr ⟨(j, i, t.2.2), (cutTie_some nd).mpr ⟨by rw [e1]; exact hj, by rw [e2]; exact hi, rfl⟩, at2_iff.mpr (.inr ⟨rfl, rfl⟩)⟩
theorem tieL_cut {u : Web} {os : List Nat} (nd : os.Nodup) {i j p q : Nat} (hi : os[i]? = some p) (hj : os[j]? = some q) : tieL (cutL u os).2 i j = tieL u.2 p q := by
  unfold tieL cutL
  dsimp only
  rw [List.find?_filterMap]
  have e : (fun a => (cutTie os a).any (at2 i j)) = at2 p q := funext fun t => cutTie_at nd hi hj t
  rw [e]
  cases h : u.2.find? (at2 p q) with
  | none => rfl
  | some t =>
    have h1 : at2 p q t = true := List.find?_some h
    rw [← cutTie_at nd hi hj] at h1
    obtain ⟨s, h2, _⟩ := (Option.any_eq_true _ _).mp h1
    show (cutTie os t).map (·.2.2) = some t.2.2
    rw [h2]
    exact congrArg some ((cutTie_some nd).mp h2).2.2
theorem at_rise {os : List Nat} (s : os.Pairwise (· < ·)) {i j p q : Nat} (hi : os[i]? = some p) (hj : os[j]? = some q) : i < j ↔ p < q := by
  obtain ⟨h1, rfl⟩ := List.getElem?_eq_some_iff.mp hi
  obtain ⟨h2, rfl⟩ := List.getElem?_eq_some_iff.mp hj
  have s' := List.pairwise_iff_getElem.mp s
  constructor
  · intro h
    exact s' i j h1 h2 h
  · intro h
    rcases Nat.lt_trichotomy i j with c | c | c
    · exact c
    · subst c; omega
    · have := s' j i h2 h1 c; omega
theorem cutL_ok {u : Web} (U : WOk u) {os : List Nat} (s : os.Pairwise (· < ·)) (b : ∀ p ∈ os, p < u.1.length) : WOk (cutL u os) := by
  have nd := rise_nodup s
  have lo : os.length ≤ u.1.length := nodup_len _ _ nd b
  have l40 := U.few
  refine ⟨by unfold cutL; rw [List.length_map]; omega, ?_, fun c hc => ?_, ?_, fun t ht => ?_⟩
  · have := List.length_filterMap_le (cutTie os) u.2
    have := U.most
    unfold cutL
    dsimp only
    omega
  · unfold cutL at hc
    obtain ⟨p, hp, rfl⟩ := List.mem_map.mp hc
    have := b p hp
    rw [List.getD_eq_getElem?_getD, List.getElem?_eq_getElem this]
    exact U.kinds _ (List.getElem_mem _)
  · unfold cutL
    dsimp only
    refine List.Pairwise.filterMap (cutTie os) (fun a a' h x hx y hy => ?_) U.rise
    obtain ⟨x1, x2, _⟩ := (cutTie_some nd).mp (Option.mem_def.mp hx)
    obtain ⟨y1, y2, _⟩ := (cutTie_some nd).mp (Option.mem_def.mp hy)
    unfold tlt at *
    rcases h with h | ⟨h1, h2⟩
    · exact .inl ((at_rise s x1 y1).mpr h)
    · right
      refine ⟨?_, (at_rise s x2 y2).mpr h2⟩
      rw [h1] at x1
      have e1 := (posOf_iff nd).mpr x1
      have e2 := (posOf_iff nd).mpr y1
      rw [e1] at e2
      exact Option.some.inj e2
  · unfold cutL at ht ⊢
    dsimp only at ht ⊢
    obtain ⟨t0, h0, h1⟩ := List.mem_filterMap.mp ht
    obtain ⟨a, b', c⟩ := (cutTie_some nd).mp h1
    obtain ⟨d, e, f⟩ := U.ends t0 h0
    refine ⟨(at_rise s a b').mpr d, ?_, by rw [c]; exact f⟩
    rw [List.length_map]
    exact (List.getElem?_eq_some_iff.mp b').1
theorem nb_cut {u : Web} (U : WOk u) {os : List Nat} (s : os.Pairwise (· < ·)) (b : ∀ p ∈ os, p < u.1.length) {i p : Nat} (hi : os[i]? = some p) :
    (nb (cutL u os).2 i).map (fun j => os.getD j 0) = (nb u.2 p).filter fun q => decide (q ∈ os) := by
  have nd := rise_nodup s
  have C := cutL_ok U s b
  have lc : (cutL u os).1.length = os.length := by unfold cutL; rw [List.length_map]
  have mem : ∀ j, j ∈ nb (cutL u os).2 i ↔ ∃ q, os[j]? = some q ∧ q ∈ nb u.2 p := fun j => by
    rw [nb_eq C, nb_eq U, List.mem_filter, List.mem_range, lc]
    constructor
    · rintro ⟨h1, h2⟩
      have hj := List.getElem?_eq_getElem h1
      refine ⟨_, hj, List.mem_filter.mpr ⟨List.mem_range.mpr (b _ (List.getElem_mem h1)), ?_⟩⟩
      rw [← tieL_cut nd hi hj]
      exact h2
    · rintro ⟨q, h1, h2⟩
      refine ⟨(List.getElem?_eq_some_iff.mp h1).1, ?_⟩
      rw [tieL_cut nd hi h1]
      exact (List.mem_filter.mp h2).2
  have getD : ∀ {j q}, os[j]? = some q → os.getD j 0 = q := fun {j q} h => by rw [List.getD_eq_getElem?_getD, h]; rfl
  refine sorted_ext ?_ ((nb_rise U.rise (fun t ht => (U.ends t ht).1) p).filter _) fun x => ?_
  · rw [List.pairwise_map]
    refine (nb_rise C.rise (fun t ht => (C.ends t ht).1) i).imp_of_mem fun {x y} hx hy h => ?_
    obtain ⟨q1, h1, _⟩ := (mem x).mp hx
    obtain ⟨q2, h2, _⟩ := (mem y).mp hy
    rw [getD h1, getD h2]
    exact (at_rise s h1 h2).mp h
  · rw [List.mem_map, List.mem_filter, decide_eq_true_eq]
    constructor
    · rintro ⟨j, h1, rfl⟩
      obtain ⟨q, h2, h3⟩ := (mem j).mp h1
      rw [getD h2]
      exact ⟨h3, List.mem_of_getElem? h2⟩
    · rintro ⟨h1, h2⟩
      obtain ⟨j, hj⟩ := List.getElem?_of_mem h2
      exact ⟨j, (mem j).mpr ⟨x, hj, h1⟩, getD hj⟩
theorem posOf_comp {os ls : List Nat} (no : os.Nodup) (nl : ls.Nodup) (b : ∀ k ∈ ls, k < os.length) (x : Nat) : posOf (ls.map fun k => os.getD k 0) x = (posOf os x).bind (posOf ls) := by
  have getD : ∀ {j}, (h : j < os.length) → os.getD j 0 = os[j] := fun {j} h => by rw [List.getD_eq_getElem?_getD, List.getElem?_eq_getElem h]; rfl
  have nm : (ls.map fun k => os.getD k 0).Nodup := by
    unfold List.Nodup
    rw [List.pairwise_map]
    refine nl.imp_of_mem fun {x y} hx hy h z => h ?_
    rw [getD (b x hx), getD (b y hy)] at z
    exact (List.getElem_inj no).mp z
  refine Option.ext fun i => ?_
  rw [posOf_iff nm, Option.bind_eq_some_iff, List.getElem?_map, Option.map_eq_some_iff]
  constructor
  · rintro ⟨k, h1, h2⟩
    have hk := b k (List.mem_of_getElem? h1)
    rw [getD hk] at h2
    refine ⟨k, (posOf_iff no).mpr (by rw [List.getElem?_eq_getElem hk, h2]), (posOf_iff nl).mpr h1⟩
  · rintro ⟨k, h1, h2⟩
    have h1 := (posOf_iff no).mp h1
    refine ⟨k, (posOf_iff nl).mp h2, ?_⟩
    rw [List.getD_eq_getElem?_getD, h1]; rfl
theorem cut_cut (u : Web) {os ls : List Nat} (no : os.Nodup) (nl : ls.Nodup) (b : ∀ k ∈ ls, k < os.length) : cutL (cutL u os) ls = cutL u (ls.map fun k => os.getD k 0) := by
  unfold cutL
  refine Prod.ext ?_ ?_
  · dsimp only
    rw [List.map_map]
    refine List.map_congr_left fun k hk => ?_
    have := b k hk
    simp [List.getD_eq_getElem?_getD, this]
  · dsimp only
    rw [List.filterMap_filterMap]
    congr 1
    funext t
    unfold cutTie
    rw [posOf_comp no nl b, posOf_comp no nl b]
    cases posOf os t.1 <;> cases posOf os t.2.1 <;> simp
end Cw

/-! parts of webs with a tie more, of webs without ties, of cuts -/
namespace Cw
open PySem PySem.Spec PyProof.Rows L2
theorem rch_nil {a b : Nat} : Rch [] a b ↔ a = b := by
  constructor
  · intro h
    induction h with
    | base => rfl
    | step _ m _ => simp [nb] at m
  · rintro rfl
    exact .base
theorem partsL_none (cs : List Nat) : partsL (cs, []) = (List.range cs.length).map fun a => [a] := by
  have l : ∀ a, Lst (cs, []) a := fun a b h => by
    have := rch_nil.mp h
    omega
  have e : leastsL (cs, []) cs.length = List.range cs.length := by
    unfold leastsL
    exact List.filter_eq_self.mpr fun a _ => dec_true (l a)
  unfold partsL partsN
  dsimp only
  rw [e]
  refine List.map_congr_left fun a ha => ?_
  have ha' := List.mem_range.mp ha
  refine sorted_ext (partL_rise _ _) (by simp) fun x => ?_
  unfold partL
  rw [List.mem_filter, dec_iff, List.mem_range, List.mem_singleton]
  constructor
  · rintro ⟨_, h⟩
    exact (rch_nil.mp h).symm
  · rintro rfl
    exact ⟨ha', .base⟩
/-- a tie more, between x and y -/
structure More (u u' : Web) (x y : Nat) : Prop where
  lt : x ≠ y
  same : u'.1.length = u.1.length
  adj : ∀ p q, q ∈ nb u'.2 p ↔ q ∈ nb u.2 p ∨ (p = x ∧ q = y) ∨ (p = y ∧ q = x)
section
variable {u u' : Web} {x y : Nat}
theorem More.swap (M : More u u' x y) : More u u' y x := ⟨M.lt.symm, M.same, fun p q => by rw [M.adj]; exact ⟨fun h => h.elim .inl fun h => .inr h.symm, fun h => h.elim .inl fun h => .inr h.symm⟩⟩
theorem More.up (M : More u u' x y) {a b : Nat} (h : Rch u.2 a b) : Rch u'.2 a b := by
  induction h with
  | base => exact .base
  | step _ m ih => exact ih.step ((M.adj _ _).mpr (.inl m))
theorem More.iff (M : More u u' x y) {a b : Nat} : Rch u'.2 a b ↔ Rch u.2 a b ∨ (Rch u.2 a x ∧ Rch u.2 y b) ∨ (Rch u.2 a y ∧ Rch u.2 x b) := by
  constructor
  · intro h
    induction h with
    | base => exact .inl .base
    | step _ m ih =>
      rcases (M.adj _ _).mp m with m | ⟨rfl, rfl⟩ | ⟨rfl, rfl⟩
      · rcases ih with h | ⟨h1, h2⟩ | ⟨h1, h2⟩
        · exact .inl (h.step m)
        · exact .inr (.inl ⟨h1, h2.step m⟩)
        · exact .inr (.inr ⟨h1, h2.step m⟩)
      · rcases ih with h | ⟨h1, h2⟩ | ⟨h1, h2⟩
        · exact .inr (.inl ⟨h, .base⟩)
        · exact .inr (.inl ⟨h1, .base⟩)
        · exact .inl h1
      · rcases ih with h | ⟨h1, h2⟩ | ⟨h1, h2⟩
        · exact .inr (.inr ⟨h, .base⟩)
        · exact .inl h1
        · exact .inr (.inr ⟨h1, .base⟩)
  · have s1 : Rch u'.2 x y := Rch.base.step ((M.adj _ _).mpr (.inr (.inl ⟨rfl, rfl⟩)))
    have s2 : Rch u'.2 y x := Rch.base.step ((M.adj _ _).mpr (.inr (.inr ⟨rfl, rfl⟩)))
    rintro (h | ⟨h1, h2⟩ | ⟨h1, h2⟩)
    · exact M.up h
    · exact ((M.up h1).trans s1).trans (M.up h2)
    · exact ((M.up h1).trans s2).trans (M.up h2)
/-- it lies within a part: nothing changes -/
theorem More.within (U : WOk u) (M : More u u' x y) (r : Rch u.2 x y) {a b : Nat} : Rch u'.2 a b ↔ Rch u.2 a b := by
  rw [M.iff]
  constructor
  · rintro (h | ⟨h1, h2⟩ | ⟨h1, h2⟩)
    · exact h
    · exact (h1.trans r).trans h2
    · exact (h1.trans (r.symm U)).trans h2
  · exact .inl
end
/-- each place has a least one -/
theorem least_of {u : Web} (U : WOk u) (a : Nat) : ∃ l, Rch u.2 a l ∧ Lst u l := by
  have h : ∀ n a, a ≤ n → ∃ l, Rch u.2 a l ∧ Lst u l := by
    intro n
    induction n with
    | zero =>
      intro a h
      exact ⟨a, .base, fun b _ => by omega⟩
    | succ n ih =>
      intro a h
      rcases Classical.em (Lst u a) with c | c
      · exact ⟨a, .base, c⟩
      · obtain ⟨b, h1, h2⟩ := (seen_iff U).mpr c
        obtain ⟨l, h3, h4⟩ := ih b (by omega)
        exact ⟨l, (h2.symm U).trans h3, h4⟩
  exact h a a (Nat.le_refl _)
section
variable {u u' : Web} {x y lx ly : Nat}
/-- it joins two parts: the greater of the least places is least no more -/
theorem More.least (U : WOk u) (M : More u u' x y) (h1 : Rch u.2 x lx) (h2 : Lst u lx) (h3 : Rch u.2 y ly) (h4 : Lst u ly) (lt : lx < ly) (a : Nat) : Lst u' a ↔ Lst u a ∧ a ≠ ly := by
  constructor
  · intro h
    refine ⟨fun b hb => h b (M.up hb), ?_⟩
    rintro rfl
    have := h lx (M.iff.mpr (.inr (.inr ⟨h3.symm U, h1⟩)))
    omega
  · rintro ⟨h, ne⟩ b hb
    rcases M.iff.mp hb with hb | ⟨b1, b2⟩ | ⟨b1, b2⟩
    · exact h b hb
    · have e : a = lx := lst_uniq U h h2 (b1.trans h1)
      have := h4 b ((h3.symm U).trans b2)
      omega
    · exact absurd (lst_uniq U h h4 (b1.trans h3)) ne
theorem leasts_filter (U : WOk u) (M : More u u' x y) (h1 : Rch u.2 x lx) (h2 : Lst u lx) (h3 : Rch u.2 y ly) (h4 : Lst u ly) (lt : lx < ly) (n : Nat) : leastsL u' n = (leastsL u n).filter fun a => decide (a ≠ ly) := by
  unfold leastsL
  rw [List.filter_filter]
  refine List.filter_congr fun a _ => ?_
  rw [Bool.eq_iff_iff, dec_iff, Bool.and_eq_true, dec_iff, decide_eq_true_eq, M.least U h1 h2 h3 h4 lt a]
  exact And.comm
theorem filter_one {l : List Nat} (s : l.Pairwise (· < ·)) {a : Nat} (h : a ∈ l) : (l.filter fun b => decide (b ≠ a)).length + 1 = l.length := by
  induction l with
  | nil => cases h
  | cons b r ih =>
    have sr := (List.pairwise_cons.mp s)
    by_cases c : b = a
    · subst c
      rw [List.filter_cons_of_neg (by simp)]
      rw [List.filter_eq_self.mpr fun z hz => by
        have := sr.1 z hz
        simp; omega]
      rfl
    · rw [List.filter_cons_of_pos (by simpa using c)]
      have := ih sr.2 (by
        rcases List.mem_cons.mp h with h | h
        · exact absurd h.symm c
        · exact h)
      simp only [List.length_cons]
      omega
/-- a tie more: as many parts, or one fewer -/
theorem More.count (U : WOk u) (M : More u u' x y) (hx : x < u.1.length) (hy : y < u.1.length) : (partsL u').length ≤ (partsL u).length ∧ (partsL u).length ≤ (partsL u').length + 1 := by
  have len : ∀ w : Web, (partsL w).length = (leastsL w w.1.length).length := fun w => by unfold partsL partsN; rw [List.length_map]
  rw [len, len, M.same]
  obtain ⟨lx, h1, h2⟩ := least_of U x
  obtain ⟨ly, h3, h4⟩ := least_of U y
  have go : ∀ {x y lx ly}, More u u' x y → y < u.1.length → Rch u.2 x lx → Lst u lx → Rch u.2 y ly → Lst u ly → lx < ly → (leastsL u' u.1.length).length + 1 = (leastsL u u.1.length).length := fun {x y lx ly} M hy h1 h2 h3 h4 lt => by
    rw [leasts_filter U M h1 h2 h3 h4 lt]
    refine filter_one (leasts_rise u _) ?_
    unfold leastsL
    exact List.mem_filter.mpr ⟨List.mem_range.mpr (h3.lt U hy), dec_true h4⟩
  rcases Nat.lt_trichotomy lx ly with c | c | c
  · have := go M hy h1 h2 h3 h4 c
    omega
  · subst c
    have r : Rch u.2 x y := h1.trans (h3.symm U)
    have e : leastsL u' u.1.length = leastsL u u.1.length := by
      unfold leastsL
      refine List.filter_congr fun a _ => dec_congr ?_
      unfold Lst
      exact ⟨fun h b hb => h b ((M.within U r).mpr hb), fun h b hb => h b ((M.within U r).mp hb)⟩
    rw [e]
    omega
  · have := go M.swap hx h3 h4 h1 h2 c
    omega
end
/-! ### without one place -/
theorem rch_cut {u : Web} (U : WOk u) {os : List Nat} (s : os.Pairwise (· < ·)) (b : ∀ p ∈ os, p < u.1.length) {i p : Nat} (hi : os[i]? = some p) {j : Nat} (h : Rch (cutL u os).2 i j) : ∃ q, os[j]? = some q ∧ Rch u.2 p q := by
  induction h with
  | base => exact ⟨p, hi, .base⟩
  | step _ m ih =>
    obtain ⟨q, h1, h2⟩ := ih
    have e := nb_cut U s b h1
    have m' := List.mem_map_of_mem (f := fun j => os.getD j 0) m
    rw [e, List.mem_filter, decide_eq_true_eq] at m'
    have C := cutL_ok U s b
    have lt := (nb_lt C m).2
    have lc : (cutL u os).1.length = os.length := by unfold cutL; rw [List.length_map]
    rw [lc] at lt
    rename_i r _ _
    have hr := List.getElem?_eq_getElem lt
    refine ⟨_, hr, h2.step ?_⟩
    have z := m'.1
    rw [List.getD_eq_getElem?_getD, hr] at z
    exact z
theorem rch_cut' {u : Web} (U : WOk u) {os : List Nat} (s : os.Pairwise (· < ·)) (b : ∀ p ∈ os, p < u.1.length) {i p : Nat} (hi : os[i]? = some p) (all : ∀ q, Rch u.2 p q → q ∈ os) {q : Nat} (h : Rch u.2 p q) : ∃ j, os[j]? = some q ∧ Rch (cutL u os).2 i j := by
  induction h with
  | base => exact ⟨i, hi, .base⟩
  | step h0 m ih =>
    obtain ⟨j, h1, h2⟩ := ih
    rename_i r z
    have hz := all _ (h0.step m)
    have e := nb_cut U s b h1
    have mz : z ∈ (nb u.2 r).filter fun q => decide (q ∈ os) := List.mem_filter.mpr ⟨m, decide_eq_true hz⟩
    rw [← e] at mz
    obtain ⟨k, h3, h4⟩ := List.mem_map.mp mz
    have C := cutL_ok U s b
    have lt := (nb_lt C h3).2
    have lc : (cutL u os).1.length = os.length := by unfold cutL; rw [List.length_map]
    rw [lc] at lt
    have hk := List.getElem?_eq_getElem lt
    refine ⟨k, ?_, h2.step h3⟩
    have h4' : os.getD k 0 = z := h4
    rw [List.getD_eq_getElem?_getD, hk] at h4'
    rw [hk]
    exact congrArg some h4'
/-- a part all of whose places stay is a part of the cut -/
theorem part_cut {u : Web} (U : WOk u) {os : List Nat} (s : os.Pairwise (· < ·)) (b : ∀ p ∈ os, p < u.1.length) {l : Nat} (hl : Lst u l) (ll : l < u.1.length) (all : ∀ q, Rch u.2 l q → q ∈ os) : partL u l ∈ (partsL (cutL u os)).map fun p => p.map fun j => os.getD j 0 := by
  obtain ⟨i, hi⟩ := List.getElem?_of_mem (all l .base)
  have C := cutL_ok U s b
  have lc : (cutL u os).1.length = os.length := by unfold cutL; rw [List.length_map]
  have ii := (List.getElem?_eq_some_iff.mp hi).1
  have li : Lst (cutL u os) i := fun j hj => by
    obtain ⟨q, h1, h2⟩ := rch_cut U s b hi hj
    have := hl q h2
    rcases Nat.lt_or_ge j i with c | c
    · have := (at_rise s h1 hi).mp c
      omega
    · exact c
  have getD : ∀ {j q}, os[j]? = some q → os.getD j 0 = q := fun {j q} h => by rw [List.getD_eq_getElem?_getD, h]; rfl
  refine List.mem_map.mpr ⟨partL (cutL u os) i, ?_, ?_⟩
  · unfold partsL partsN
    refine List.mem_map.mpr ⟨i, ?_, rfl⟩
    unfold leastsL
    exact List.mem_filter.mpr ⟨List.mem_range.mpr (by omega), dec_true li⟩
  · have mem : ∀ j, j ∈ partL (cutL u os) i ↔ Rch (cutL u os).2 i j := fun j => mem_partL C (by omega)
    refine sorted_ext ?_ (partL_rise u l) fun x => ?_
    · rw [List.pairwise_map]
      refine (partL_rise _ _).imp_of_mem fun {x y} hx hy h => ?_
      obtain ⟨q1, h1, _⟩ := rch_cut U s b hi ((mem x).mp hx)
      obtain ⟨q2, h2, _⟩ := rch_cut U s b hi ((mem y).mp hy)
      rw [getD h1, getD h2]
      exact (at_rise s h1 h2).mp h
    · rw [List.mem_map, mem_partL U ll]
      constructor
      · rintro ⟨j, h1, rfl⟩
        obtain ⟨q, h2, h3⟩ := rch_cut U s b hi ((mem j).mp h1)
        rw [getD h2]
        exact h3
      · intro h
        obtain ⟨j, h1, h2⟩ := rch_cut' U s b hi all h
        exact ⟨j, (mem j).mpr h2, getD h1⟩
end Cw

/-! webs that hang together; what one comes to, as a list that grows -/
namespace Cw
open PySem PySem.Spec PyProof.Rows L2
def Joined (w : Web) : Prop := ∀ a b, a < w.1.length → b < w.1.length → Rch w.2 a b
theorem partsL_len (w : Web) : (partsL w).length = (leastsL w w.1.length).length := by
  unfold partsL partsN
  rw [List.length_map]
theorem joined_iff {w : Web} (W : WOk w) : (partsL w).length < 2 ↔ Joined w := by
  rw [partsL_len]
  constructor
  · intro h a b ha hb
    obtain ⟨x, r1, l1⟩ := least_of W a
    obtain ⟨y, r2, l2⟩ := least_of W b
    have m1 : x ∈ leastsL w w.1.length := List.mem_filter.mpr ⟨List.mem_range.mpr (Rch.lt W r1 ha), dec_true l1⟩
    have m2 : y ∈ leastsL w w.1.length := List.mem_filter.mpr ⟨List.mem_range.mpr (Rch.lt W r2 hb), dec_true l2⟩
    have e : x = y := by
      match hl : leastsL w w.1.length, h with
      | [], _ => rw [hl] at m1; cases m1
      | [z], _ =>
        rw [hl] at m1 m2
        rw [List.mem_singleton.mp m1, List.mem_singleton.mp m2]
      | _ :: _ :: _, h => simp at h; omega
    exact r1.trans (e ▸ Rch.symm W r2)
  · intro h
    refine Decidable.byContradiction fun c => ?_
    have s := leasts_rise w w.1.length
    match hl : leastsL w w.1.length, c with
    | [], c => simp at c
    | [z], c => simp at c
    | x :: y :: r, _ =>
      have m1 := mem_leasts (w := w) (n := w.1.length) (x := x) (by rw [hl]; exact List.mem_cons_self)
      have m2 := mem_leasts (w := w) (n := w.1.length) (x := y) (by rw [hl]; exact List.mem_cons_of_mem _ List.mem_cons_self)
      have e := lst_uniq W m1.2 m2.2 (h x y m1.1 m2.1)
      rw [hl] at s
      have := (List.pairwise_cons.mp s).1 y List.mem_cons_self
      omega
theorem rch_map {X Y : Web} {f : Nat → Nat} (adj : ∀ a b, b ∈ nb X.2 a → f b ∈ nb Y.2 (f a)) {a b : Nat} (h : Rch X.2 a b) : Rch Y.2 (f a) (f b) := by
  induction h with
  | base => exact .base
  | step _ k ih => exact .step ih (adj _ _ k)
theorem joined_map {X Y : Web} (f : Nat → Nat) (adj : ∀ a b, b ∈ nb X.2 a → f b ∈ nb Y.2 (f a)) (onto : ∀ b, b < Y.1.length → ∃ a, a < X.1.length ∧ f a = b) (h : Joined X) : Joined Y := fun a b ha hb => by
  obtain ⟨a', la, rfl⟩ := onto a ha
  obtain ⟨b', lb, rfl⟩ := onto b hb
  exact rch_map adj (h a' b' la lb)
end Cw

/-! sorted() of a tuple of triples -/
namespace Cw
open PySem PySem.Spec PyProof.Rows L2 Srt SrtO
section
variable {prog : Program} {w : World} {A : Around} {E : Value → Shared → Prop} {s : Shared}
theorem sorted_ordT {l : Addr} {o : Obj} {n : Nat} {vs : List Value} {ltv : Value → Value → Bool} {Q : Value → Shared → Prop} (O : SrtO.Swo ltv) (ho : s.heap.get? l = some o) (hc : o.cls = .type "tuple") (hd : o.data = .seq vs.toArray n) (hz : vs.length ≤ sizeLine)
    (hS : 2 ≤ vs.length → ∀ (h₁ : Heap) (a : Addr), h₁.get? a = some (seqObj "list" vs.toArray 0) → (∀ b o, s.heap.get? b = some o → b ≠ a ∧ h₁.get? b = some o) → SrtO.SortableO prog w A.in1.in1 { s with heap := h₁ } a vs ltv)
    (h : ∀ (h1 h' : Heap) (out : List Value), SrtO.Srtd ltv out → SrtO.Stb ltv out vs → (∀ b o, s.heap.get? b = some o → h1.get? b = some o) → (∀ b o, h1.get? b = some o → h'.get? b = some o) → (∃ n, h'.get? h1.objs.size = some (seqObj "list" out.toArray n)) → Q (.ref h1.objs.size) { s with heap := h' }) :
    wpAny (model prog w) A (call (.builtin "sorted") [.ref l]) Q E s := by
  refine Calls.call_function_entry kind_sorted plain_sorted entry_sorted (args_sorted1 _) ?_
  unfold Builtin.«sorted»
  refine wpAny_bind (m := checkCount "sorted" 1 1 _) (wpAny_pure ?_)
  refine wpAny_bind (PySem.wpAny_collect_seq l (.inr rfl) ho hc hd (fun h1 k1 => ?_) (by simpa using hz))
  rw [show vs.toArray.toList = vs by simp]
  refine wpAny_bind (wpAny_newList ?_ hz)
  have hoL : (h1.push (seqObj "list" vs.toArray 0)).get? h1.objs.size = some (seqObj "list" vs.toArray 0) := Heap.get?_push_size _ rfl
  have keep : ∀ b o, s.heap.get? b = some o → b ≠ h1.objs.size ∧ (h1.push (seqObj "list" vs.toArray 0)).get? b = some o := fun b o q =>
    ⟨Nat.ne_of_lt (Heap.lt_size (k1 _ _ q)), Heap.get?_push_of_some _ (k1 _ _ q)⟩
  show wpAny _ _ _ _ _ { s with heap := h1.push (seqObj "list" vs.toArray 0) }
  refine wpAny_bind (wpAny_holding (wpAny_call_entry slot_list_sort ⟨_, hoL, rfl⟩ entry_list_sort (SrtO.list_sort_ord O hoL hz (fun h2 => hS h2 _ _ hoL keep) fun out hs hb => ⟨_, rfl, ?_⟩) (args_list_sort _)))
  refine wpAny_pure ⟨_, rfl, h h1 _ out hs hb k1 (fun b o q => ?_) (sortedHeap_at hoL)⟩
  rw [sortedHeap_old (Nat.ne_of_lt (Heap.lt_size q)) (by rw [size_push']; exact Nat.lt_succ_of_lt (Heap.lt_size q))]
  exact Heap.get?_push_of_some _ q
theorem sorted_trisT {l : Addr} {o : Obj} {n : Nat} {vs : List Value} {k : Value → Tri} {Q : Value → Shared → Prop} (ho : s.heap.get? l = some o) (hc : o.cls = .type "tuple") (hd : o.data = .seq vs.toArray n) (hz : vs.length ≤ sizeLine) (hp : ∀ v ∈ vs, IsTri s.heap v (k v))
    (h : ∀ (h1 h' : Heap) (out : List Value), SrtO.Srtd (fun v u => lexT (k v) (k u)) out → out.Perm vs → (∀ b o, s.heap.get? b = some o → h1.get? b = some o) → (∀ b o, h1.get? b = some o → h'.get? b = some o) → (∃ n, h'.get? h1.objs.size = some (seqObj "list" out.toArray n)) → Q (.ref h1.objs.size) { s with heap := h' }) :
    wpAny (model prog w) A (call (.builtin "sorted") [.ref l]) Q E s := by
  refine sorted_ordT (swo_T k) ho hc hd hz (fun h2 h₁ a ha kk => tri_sortable (s := { s with heap := h₁ }) (by omega) (fun v hm => (hp v hm).keeps fun b o e _ => (kk b o e).2) fun o e c => ?_) fun h1 h' out hs hb k1 kp at_ => h h1 h' out hs hb.perm k1 kp at_
  have e' : some o = some (seqObj "list" vs.toArray 0) := e.symm.trans ha
  cases e'
  exact absurd (Value.type.inj c) (by decide)
end
theorem triV_inj {p q : Tri} (h : triV p = triV q) : p = q := by
  unfold triV at h
  simp only [List.cons.injEq, V.int.injEq, V.str.injEq] at h
  obtain ⟨h1, h2, h3, _⟩ := h
  exact Prod.ext h1 (Prod.ext h2 (sg_inj.mp h3))
/-- sorted(ties) of a tuple -/
def rSorted3T (K : PySem.W.Frag) : List V → Hp → VK → Prop := fun vs H Q => ∃ (a : Addr) (es : List (Addr × Tri)), vs = [V.ref a] ∧ SqT K H a (es.map fun e => V.ref e.1) ∧ (∀ e ∈ es, SqT K H e.1 (triV e.2)) ∧
  ∀ (es' : List (Addr × Tri)) p, es'.Perm es → (es'.map (·.2)).Pairwise (fun x y => lexT y x = false) → H p = none → Q (.ref p) (upd H p (.lst (es'.map fun e => V.ref e.1)))
section
variable {X : Cx}
theorem cr_sorted3T : CallR X (.builtin "sorted") (rSorted3T X.K) := by
  intro pins s σ H vs us Q I r h
  obtain ⟨a, es, rfl, hs, hx, q⟩ := h
  obtain ⟨its, rv, ⟨o0, g0, c0, n0, d0⟩, hz⟩ := I.tuple hs
  obtain ⟨u, rfl, ru⟩ := vals1 r
  obtain rfl : u = Value.ref a := ru
  -- the items, by their addresses
  have eits : its = es.map fun e => Value.ref e.1 := by
    have : ∀ {xs : List (Addr × Tri)} {us : List Value}, Vals (xs.map fun e => V.ref e.1) us → us = xs.map fun e => Value.ref e.1 := by
      intro xs
      induction xs with
      | nil => intro us r; cases r; rfl
      | cons x xs ih =>
        intro us r
        cases r with
        | cons r1 r2 => rw [ih r2, (show _ = Value.ref x.1 from r1)]; rfl
    exact this rv
  -- the key, read off the heap
  let kA : Addr → Tri := fun b => ((es.find? fun e => e.1 == b).map (·.2)).getD (0, 0, 0)
  have kA_eq : ∀ e ∈ es, kA e.1 = e.2 := fun e he => by
    show ((es.find? fun e' => e'.1 == e.1).map (·.2)).getD (0, 0, 0) = e.2
    cases hf : es.find? fun e' => e'.1 == e.1 with
    | none => exact absurd (beq_self_eq_true e.1) (by simpa using List.find?_eq_none.mp hf e he)
    | some e' =>
      have h1 : e'.1 = e.1 := by simpa using List.find?_some hf
      have h2 := hx e' (List.mem_of_find?_eq_some hf)
      rw [h1] at h2
      exact triV_inj (I.tuple_inj h2 (hx e he))
  let kV' : Value → Tri := fun v => match v with
    | .ref b => kA b
    | _ => (0, 0, 0)
  refine sorted_trisT (k := kV') g0 c0 d0 (by rw [← rv.length]; exact hz) (fun v hv => ?_) fun h0 h' out h1 h2 kp1 kp hn => ?_
  · rw [eits] at hv
    obtain ⟨e, he, rfl⟩ := List.mem_map.mp hv
    obtain ⟨its2, r2, ⟨o, ho, hc, n, hd⟩, _⟩ := I.tuple (hx e he)
    have ek : kV' (Value.ref e.1) = e.2 := kA_eq e he
    rw [ek]
    cases r2 with
    | cons ra rr =>
      cases rr with
      | cons rb rr =>
        cases rr with
        | cons rc rr =>
          cases rr
          obtain ⟨t1, rfl⟩ := ra
          obtain ⟨t2, rfl⟩ := rb
          obtain ⟨t3, rfl⟩ := rc
          exact ⟨e.1, o, t1, t2, t3, n, rfl, ho, hc, hd⟩
  · obtain ⟨n, hn⟩ := hn
    rw [eits] at h2
    have hmem : ∀ v ∈ out, ∃ e ∈ es, v = Value.ref e.1 := fun v hv => by
      obtain ⟨e, he, e'⟩ := List.mem_map.mp (h2.mem_iff.mp hv)
      exact ⟨e, he, e'.symm⟩
    -- back to pairs
    let back : Value → Addr × Tri := fun v => match v with
      | .ref b => (b, kA b)
      | _ => (0, (0, 0, 0))
    have p1 : (out.map back).Perm es := by
      have z := h2.map back
      rw [List.map_map] at z
      have e2 : es.map (back ∘ fun e => Value.ref e.1) = es := by
        conv => rhs; rw [← List.map_id es]
        refine List.map_congr_left fun e he => ?_
        show (e.1, kA e.1) = e
        rw [kA_eq e he]
      rw [e2] at z
      exact z
    have e3 : (out.map back).map (fun e => V.ref e.1) = out.map backV := by
      rw [List.map_map]
      refine List.map_congr_left fun v hv => ?_
      obtain ⟨e, he, rfl⟩ := hmem v hv
      rfl
    have srt : ((out.map back).map (·.2)).Pairwise (fun x y => lexT y x = false) := by
      rw [List.map_map, List.pairwise_map]
      refine h1.imp_of_mem fun {x y} hx' hy' hxy => ?_
      obtain ⟨e, he, rfl⟩ := hmem x hx'
      obtain ⟨e', he', rfl⟩ := hmem y hy'
      exact hxy
    have I1 : Inv X pins σ H { s with heap := h0 } := I.kept (t' := s.toks) kp1
    have g := q (out.map back) h0.objs.size p1 srt (I1.hok.fresh (Nat.le_refl _))
    rw [e3] at g
    have hzo : (out.map backV).length ≤ sizeLine := by
      rw [List.length_map, h2.length_eq, List.length_map]
      rw [List.length_map] at hz
      exact hz
    have hvb : Vals (out.map backV) out := vals_back fun u hu => by
      obtain ⟨e, he, rfl⟩ := hmem u hu
      exact ⟨_, rfl⟩
    exact ⟨.ref h0.objs.size, upd H h0.objs.size (.lst (out.map backV)), I1.laid (t' := s.toks) kp (Nat.le_refl _) (show ObjOk X.prog X.w _ _ _ (.lst (out.map backV)) from ⟨hzo, out, n, hvb, hn⟩), rfl, g⟩

end
end Cw

/-! sorted() of a list of ties as they lie -/
namespace Cw
open PySem PySem.Spec PyProof.Rows L2 Srt SrtO
/-- sorted(ties) of a list, the ties as they lie -/
def rSorted3S (K : PySem.W.Frag) : List V → Hp → VK → Prop := fun vs H Q => ∃ (a : Addr) (es : List (Addr × Tri)), vs = [V.ref a] ∧ SqL K H a (es.map fun e => V.ref e.1) ∧ (∀ e ∈ es, SqT K H e.1 (triV e.2)) ∧
  ∀ (es' : List (Addr × Tri)) p, es'.Perm es → (es'.map (·.2)).Pairwise (fun x y => lexT y x = false) → H p = none → Q (.ref p) (upd H p (.lst (es'.map fun e => V.ref e.1)))
section
variable {X : Cx}
theorem cr_sorted3S : CallR X (.builtin "sorted") (rSorted3S X.K) := by
  intro pins s σ H vs us Q I r h
  obtain ⟨a, es, rfl, hs, hx, q⟩ := h
  obtain ⟨its, rv, hl, hz⟩ := I.list hs
  obtain ⟨u, rfl, ru⟩ := vals1 r
  obtain rfl : u = Value.ref a := ru
  -- the items, by their addresses
  have eits : its = es.map fun e => Value.ref e.1 := by
    have : ∀ {xs : List (Addr × Tri)} {us : List Value}, Vals (xs.map fun e => V.ref e.1) us → us = xs.map fun e => Value.ref e.1 := by
      intro xs
      induction xs with
      | nil => intro us r; cases r; rfl
      | cons x xs ih =>
        intro us r
        cases r with
        | cons r1 r2 => rw [ih r2, (show _ = Value.ref x.1 from r1)]; rfl
    exact this rv
  -- the key, read off the heap
  let kA : Addr → Tri := fun b => ((es.find? fun e => e.1 == b).map (·.2)).getD (0, 0, 0)
  have kA_eq : ∀ e ∈ es, kA e.1 = e.2 := fun e he => by
    show ((es.find? fun e' => e'.1 == e.1).map (·.2)).getD (0, 0, 0) = e.2
    cases hf : es.find? fun e' => e'.1 == e.1 with
    | none => exact absurd (beq_self_eq_true e.1) (by simpa using List.find?_eq_none.mp hf e he)
    | some e' =>
      have h1 : e'.1 = e.1 := by simpa using List.find?_some hf
      have h2 := hx e' (List.mem_of_find?_eq_some hf)
      rw [h1] at h2
      exact triV_inj (I.tuple_inj h2 (hx e he))
  let kV' : Value → Tri := fun v => match v with
    | .ref b => kA b
    | _ => (0, 0, 0)
  refine sorted_tris (k := kV') hl.isList (by rw [← rv.length]; exact hz) (fun v hv => ?_) fun h' d out h1 h2 kp hd hn => ?_
  · rw [eits] at hv
    obtain ⟨e, he, rfl⟩ := List.mem_map.mp hv
    obtain ⟨its2, r2, ⟨o, ho, hc, n, hd⟩, _⟩ := I.tuple (hx e he)
    have ek : kV' (Value.ref e.1) = e.2 := kA_eq e he
    rw [ek]
    cases r2 with
    | cons ra rr =>
      cases rr with
      | cons rb rr =>
        cases rr with
        | cons rc rr =>
          cases rr
          obtain ⟨t1, rfl⟩ := ra
          obtain ⟨t2, rfl⟩ := rb
          obtain ⟨t3, rfl⟩ := rc
          exact ⟨e.1, o, t1, t2, t3, n, rfl, ho, hc, hd⟩
  · obtain ⟨n, hn⟩ := hn
    rw [eits] at h2
    have hmem : ∀ v ∈ out, ∃ e ∈ es, v = Value.ref e.1 := fun v hv => by
      obtain ⟨e, he, e'⟩ := List.mem_map.mp (h2.mem_iff.mp hv)
      exact ⟨e, he, e'.symm⟩
    -- back to pairs
    let back : Value → Addr × Tri := fun v => match v with
      | .ref b => (b, kA b)
      | _ => (0, (0, 0, 0))
    have p1 : (out.map back).Perm es := by
      have z := h2.map back
      rw [List.map_map] at z
      have e2 : es.map (back ∘ fun e => Value.ref e.1) = es := by
        conv => rhs; rw [← List.map_id es]
        refine List.map_congr_left fun e he => ?_
        show (e.1, kA e.1) = e
        rw [kA_eq e he]
      rw [e2] at z
      exact z
    have e3 : (out.map back).map (fun e => V.ref e.1) = out.map backV := by
      rw [List.map_map]
      refine List.map_congr_left fun v hv => ?_
      obtain ⟨e, he, rfl⟩ := hmem v hv
      rfl
    have srt : ((out.map back).map (·.2)).Pairwise (fun x y => lexT y x = false) := by
      rw [List.map_map, List.pairwise_map]
      refine h1.imp_of_mem fun {x y} hx' hy' hxy => ?_
      obtain ⟨e, he, rfl⟩ := hmem x hx'
      obtain ⟨e', he', rfl⟩ := hmem y hy'
      exact hxy
    have g := q (out.map back) d p1 srt (I.hok.fresh hd)
    rw [e3] at g
    have hzo : (out.map backV).length ≤ sizeLine := by
      rw [List.length_map, h2.length_eq, List.length_map]
      rw [List.length_map] at hz
      exact hz
    have hvb : Vals (out.map backV) out := vals_back fun u hu => by
      obtain ⟨e, he, rfl⟩ := hmem u hu
      exact ⟨_, rfl⟩
    exact ⟨.ref d, upd H d (.lst (out.map backV)), I.laid (t' := s.toks) kp hd (show ObjOk X.prog X.w _ _ _ (.lst (out.map backV)) from ⟨hzo, out, n, hvb, hn⟩), rfl, g⟩
end
end Cw

/-! a statement that is never reached -/
namespace Cw
open PySem PySem.Spec PyProof.Rows L2
theorem ps_dead {X : Cx} {st : Stmt} : PS X st (fun _ _ _ => False) := ⟨fun _ _ _ _ _ _ h => h.elim⟩
end Cw

/-! how far one comes from a place; trees: each place but one has one place ahead of it -/
namespace Cw
open PySem PySem.Spec PyProof.Rows L2
/-- in so many steps -/
def Wk (ts : List Tie) (a : Nat) : Nat → Nat → Prop
  | 0, x => x = a
  | k + 1, x => ∃ y, Wk ts a k y ∧ x ∈ nb ts y
/-- in so many, and not in fewer -/
def Away (ts : List Tie) (a k x : Nat) : Prop := Wk ts a k x ∧ ∀ j, j < k → ¬ Wk ts a j x
section
variable {w : Web} {a : Nat}
theorem Wk.rch {ts : List Tie} : ∀ {k x : Nat}, Wk ts a k x → Rch ts a x
  | 0, _, h => by subst h; exact .base
  | k + 1, _, ⟨y, h, m⟩ => h.rch.step m
theorem rch_wk {ts : List Tie} {x : Nat} (h : Rch ts a x) : ∃ k, Wk ts a k x := by
  induction h with
  | base => exact ⟨0, rfl⟩
  | step _ m ih =>
    obtain ⟨k, h⟩ := ih
    exact ⟨k + 1, _, h, m⟩
theorem away_of {ts : List Tie} : ∀ {k x : Nat}, Wk ts a k x → ∃ j, j ≤ k ∧ Away ts a j x := fun {k} => by
  induction k using Nat.strongRecOn with
  | ind k ih =>
    intro x h
    by_cases c : ∃ j, j < k ∧ Wk ts a j x
    · obtain ⟨j, lt, hj⟩ := c
      obtain ⟨i, le, hi⟩ := ih j lt hj
      exact ⟨i, by omega, hi⟩
    · exact ⟨k, Nat.le_refl _, h, fun j lt hj => c ⟨j, lt, hj⟩⟩
theorem away_uniq {ts : List Tie} {j k x : Nat} (h : Away ts a j x) (g : Away ts a k x) : j = k := by
  rcases Nat.lt_trichotomy j k with c | c | c
  · exact absurd h.1 (g.2 j c)
  · exact c
  · exact absurd g.1 (h.2 k c)
theorem away_zero {ts : List Tie} {x : Nat} : Away ts a 0 x ↔ x = a := ⟨fun h => h.1, fun h => ⟨h, fun j lt => absurd lt (Nat.not_lt_zero _)⟩⟩
theorem away_back {ts : List Tie} {k x : Nat} (h : Away ts a (k + 1) x) : ∃ y, Away ts a k y ∧ x ∈ nb ts y := by
  obtain ⟨⟨y, hy, m⟩, hn⟩ := h
  refine ⟨y, ⟨hy, fun j lt hj => hn (j + 1) (by omega) ⟨y, hj, m⟩⟩, m⟩
theorem away_next {ts : List Tie} {k m x y : Nat} (h : Away ts a k y) (g : Away ts a m x) (n : x ∈ nb ts y) : m ≤ k + 1 := by
  refine Decidable.byContradiction fun c => ?_
  exact g.2 (k + 1) (by omega) ⟨y, h.1, n⟩
theorem away_all (J : Joined w) (ha : a < w.1.length) {x : Nat} (hx : x < w.1.length) : ∃ k, Away w.2 a k x := by
  obtain ⟨k, h⟩ := rch_wk (J a x ha hx)
  obtain ⟨j, _, hj⟩ := away_of h
  exact ⟨j, hj⟩
theorem away_lt (W : WOk w) (ha : a < w.1.length) {k x : Nat} (h : Away w.2 a k x) : x < w.1.length := h.1.rch.lt W ha
theorem away_many (W : WOk w) (ha : a < w.1.length) : ∀ {k x : Nat}, Away w.2 a k x → ∃ l : List Nat, l.length = k + 1 ∧ l.Nodup ∧ ∀ y ∈ l, y < w.1.length ∧ ∃ j, j ≤ k ∧ Away w.2 a j y
  | 0, x, h => ⟨[x], rfl, by simp, fun y hy => by rw [List.mem_singleton.mp hy]; exact ⟨away_lt W ha h, 0, Nat.le_refl _, h⟩⟩
  | k + 1, x, h => by
    obtain ⟨y, hy, _⟩ := away_back h
    obtain ⟨l, l1, l2, l3⟩ := away_many W ha hy
    refine ⟨x :: l, by rw [List.length_cons, l1], List.nodup_cons.mpr ⟨fun m => ?_, l2⟩, fun z hz => ?_⟩
    · obtain ⟨_, j, le, hj⟩ := l3 x m
      have := away_uniq hj h
      omega
    · rcases List.mem_cons.mp hz with rfl | hz
      · exact ⟨away_lt W ha h, k + 1, Nat.le_refl _, h⟩
      · obtain ⟨z1, j, le, hj⟩ := l3 z hz
        exact ⟨z1, j, by omega, hj⟩
theorem away_few (W : WOk w) (ha : a < w.1.length) {k x : Nat} (h : Away w.2 a k x) : k < w.1.length := by
  obtain ⟨l, l1, l2, l3⟩ := away_many W ha h
  have := nodup_len _ l l2 fun y hy => (l3 y hy).1
  omega
/-- as far as one comes -/
def Ecc (w : Web) (a k : Nat) : Prop := (∃ x, Away w.2 a k x) ∧ ¬ ∃ x, Away w.2 a (k + 1) x
theorem away_down {ts : List Tie} {j : Nat} : ∀ {k x : Nat}, j ≤ k → Away ts a k x → ∃ y, Away ts a j y
  | 0, x, le, h => by
    have : j = 0 := by omega
    subst this; exact ⟨x, h⟩
  | k + 1, x, le, h => by
    by_cases c : j = k + 1
    · subst c; exact ⟨x, h⟩
    · obtain ⟨y, hy, _⟩ := away_back h
      exact away_down (by omega) hy
theorem ecc_uniq {j k : Nat} (h : Ecc w a j) (g : Ecc w a k) : j = k := by
  rcases Nat.lt_trichotomy j k with c | c | c
  · obtain ⟨x, hx⟩ := g.1
    exact absurd (away_down (show j + 1 ≤ k by omega) hx) h.2
  · exact c
  · obtain ⟨x, hx⟩ := h.1
    exact absurd (away_down (show k + 1 ≤ j by omega) hx) g.2
noncomputable def ecc (w : Web) (a : Nat) : Nat := @dite _ (∃ k, Ecc w a k) (Classical.propDecidable _) (fun h => Classical.choose h) (fun _ => 0)
theorem ecc_eq {k : Nat} (h : Ecc w a k) : ecc w a = k := by
  have e : ∃ k, Ecc w a k := ⟨k, h⟩
  unfold ecc
  rw [dif_pos e]
  exact ecc_uniq (Classical.choose_spec e) h
/-! ### trees -/
theorem subset_len {α : Type} [DecidableEq α] : ∀ {l m : List α}, l.Nodup → (∀ x ∈ l, x ∈ m) → l.length ≤ m.length
  | [], _, _, _ => Nat.zero_le _
  | x :: l, m, nd, h => by
    have hx := h x List.mem_cons_self
    have := subset_len (l := l) (m := m.erase x) (List.nodup_cons.mp nd).2 fun y hy => by
      have ne : y ≠ x := fun z => (List.nodup_cons.mp nd).1 (z ▸ hy)
      exact (List.mem_erase_of_ne ne).mpr (h y (List.mem_cons_of_mem _ hy))
    rw [List.length_erase_of_mem hx] at this
    have p := List.length_pos_of_mem hx
    rw [List.length_cons]; omega
theorem onto_of {α : Type} [DecidableEq α] {l m : List α} (nl : l.Nodup) (h : ∀ x ∈ l, x ∈ m) (e : l.length = m.length) : ∀ y ∈ m, y ∈ l := fun y hy => by
  refine Decidable.byContradiction fun n => ?_
  have := subset_len (l := y :: l) (m := m) (List.nodup_cons.mpr ⟨n, nl⟩) fun x hx => by
    rcases List.mem_cons.mp hx with rfl | hx
    · exact hy
    · exact h x hx
  rw [List.length_cons] at this
  omega
structure Tree (w : Web) : Prop where
  ok : WOk w
  many : w.2.length + 1 = w.1.length
  joined : Joined w
/-- the place ahead of another -/
theorem parent (T : Tree w) (ha : a < w.1.length) : ∃ par : Nat → Nat, (∀ x k, Away w.2 a (k + 1) x → Away w.2 a k (par x) ∧ x ∈ nb w.2 (par x)) ∧ ∀ x y, y ∈ nb w.2 x → y = par x ∧ x ≠ a ∨ x = par y ∧ y ≠ a := by
  have W := T.ok
  have ex : ∀ x, ∃ y, ∀ k, Away w.2 a (k + 1) x → Away w.2 a k y ∧ x ∈ nb w.2 y := fun x => by
    by_cases c : ∃ k, Away w.2 a (k + 1) x
    · obtain ⟨k, h⟩ := c
      obtain ⟨y, h1, h2⟩ := away_back h
      refine ⟨y, fun j g => ?_⟩
      have := away_uniq g h
      have : j = k := by omega
      subst this
      exact ⟨h1, h2⟩
    · exact ⟨0, fun k h => absurd ⟨k, h⟩ c⟩
  let par : Nat → Nat := fun x => Classical.choose (ex x)
  have hpar : ∀ x k, Away w.2 a (k + 1) x → Away w.2 a k (par x) ∧ x ∈ nb w.2 (par x) := fun x k h => Classical.choose_spec (ex x) k h
  refine ⟨par, hpar, ?_⟩
  let vs := (List.range w.1.length).filter fun x => decide (x ≠ a)
  let key : Nat → Nat × Nat := fun x => (min x (par x), max x (par x))
  have hv : ∀ x, x ∈ vs ↔ x < w.1.length ∧ x ≠ a := fun x => by
    show x ∈ List.filter _ _ ↔ _
    rw [List.mem_filter, List.mem_range, decide_eq_true_iff]
  have far : ∀ x ∈ vs, ∃ k, Away w.2 a (k + 1) x := fun x hx => by
    obtain ⟨h1, h2⟩ := (hv x).mp hx
    obtain ⟨k, h⟩ := away_all T.joined ha h1
    cases k with
    | zero => exact absurd (away_zero.mp h) h2
    | succ k => exact ⟨k, h⟩
  have lv : vs.length + 1 = w.1.length := by
    have := filter_one (l := List.range w.1.length) List.pairwise_lt_range (a := a) (List.mem_range.mpr ha)
    rw [List.length_range] at this
    exact this
  have nk : (vs.map key).Nodup := by
    unfold List.Nodup
    rw [List.pairwise_map]
    refine List.Pairwise.imp_of_mem (fun {x y} hx hy ne e => ?_) (show vs.Nodup from (List.nodup_range.filter _))
    obtain ⟨k, h⟩ := far x hx
    obtain ⟨m, g⟩ := far y hy
    have p1 := (hpar x k h).1
    have p2 := (hpar y m g).1
    have e1 := congrArg (·.1) e
    have e2 := congrArg (·.2) e
    dsimp only [key] at e1 e2
    have cr : x = par y ∧ y = par x := by omega
    rw [← cr.1] at p2
    rw [← cr.2] at p1
    have := away_uniq p2 h
    have := away_uniq p1 g
    omega
  have inn : ∀ e ∈ vs.map key, e ∈ w.2.map ends := fun e he => by
    obtain ⟨x, hx, rfl⟩ := List.mem_map.mp he
    obtain ⟨k, h⟩ := far x hx
    obtain ⟨t, ht, ha2⟩ := (mem_nb W).mp (hpar x k h).2
    refine List.mem_map.mpr ⟨t, ht, ?_⟩
    have r := W.ends t ht
    have := at2_iff.mp ha2
    unfold ends
    show (t.1, t.2.1) = (min x (par x), max x (par x))
    rw [Prod.mk.injEq]
    omega
  have on := onto_of nk inn (by rw [List.length_map, List.length_map]; have := T.many; omega)
  intro x y hy
  obtain ⟨t, ht, h2⟩ := (mem_nb W).mp hy
  obtain ⟨z, hz, ez⟩ := List.mem_map.mp (on (ends t) (List.mem_map.mpr ⟨t, ht, rfl⟩))
  have r := W.ends t ht
  have := at2_iff.mp h2
  have e1 := congrArg (·.1) ez
  have e2 := congrArg (·.2) ez
  dsimp only [key, ends] at e1 e2
  have za := ((hv z).mp hz).2
  by_cases c : z = x
  · subst c
    exact .inl ⟨by omega, za⟩
  · have zy : z = y := by omega
    subst zy
    exact .inr ⟨by omega, za⟩
/-- a tie goes from one place to one a step further -/
theorem tree_tie (T : Tree w) (ha : a < w.1.length) {x y k m : Nat} (hx : Away w.2 a k x) (hy : Away w.2 a m y) (n : y ∈ nb w.2 x) : m = k + 1 ∨ k = m + 1 := by
  obtain ⟨par, h1, h2⟩ := parent T ha
  rcases h2 x y n with ⟨e, ne⟩ | ⟨e, ne⟩
  · cases k with
    | zero => exact absurd (away_zero.mp hx) ne
    | succ k =>
      have := (h1 x k hx).1
      rw [← e] at this
      have := away_uniq this hy
      omega
  · cases m with
    | zero => exact absurd (away_zero.mp hy) ne
    | succ m =>
      have := (h1 y m hy).1
      rw [← e] at this
      have := away_uniq this hx
      omega
theorem tree_one (T : Tree w) (ha : a < w.1.length) {x y z k : Nat} (hx : Away w.2 a (k + 1) x) (hy : Away w.2 a k y) (hz : Away w.2 a k z) (n1 : x ∈ nb w.2 y) (n2 : x ∈ nb w.2 z) : y = z := by
  obtain ⟨par, h1, h2⟩ := parent T ha
  have go : ∀ {y}, Away w.2 a k y → x ∈ nb w.2 y → y = par x := fun {y} hy n => by
    rcases h2 y x n with ⟨e, ne⟩ | ⟨e, ne⟩
    · cases k with
      | zero => exact absurd (away_zero.mp hy) ne
      | succ k =>
        have := (h1 y k hy).1
        rw [← e] at this
        have := away_uniq this hx
        omega
    · exact e
  rw [go hy n1, go hz n2]
/-! ### layer by layer, each place with the one it was reached from -/
structure Lay (w : Web) (a k : Nat) (rs : Lead) : Prop where
  nd : (rs.map (·.1)).Nodup
  own : ∀ r ∈ rs, Away w.2 a (k + 1) r.1 ∧ Away w.2 a k r.2 ∧ r.1 ∈ nb w.2 r.2
  all : ∀ x, Away w.2 a (k + 1) x → x ∈ rs.map (·.1)
def stepL (w : Web) (rs : Lead) : Lead := rs.flatMap fun r => ((nb w.2 r.1).filter fun z => decide (z ≠ r.2)).map fun z => (z, r.1)
theorem lay_first (W : WOk w) (ha : a < w.1.length) : Lay w a 0 ((nb w.2 a).map fun z => (z, a)) := by
  have own : ∀ z ∈ nb w.2 a, Away w.2 a 1 z := fun z hz => ⟨⟨a, rfl, hz⟩, fun j lt h => by
    have : j = 0 := by omega
    subst this
    have h : z = a := h
    subst h
    obtain ⟨t, ht, h2⟩ := (mem_nb W).mp hz
    have := at2_iff.mp h2
    have := W.ends t ht
    omega⟩
  refine ⟨?_, fun r hr => ?_, fun x hx => ?_⟩
  · rw [List.map_map]
    show ((nb w.2 a).map fun z => z).Nodup
    rw [List.map_id']
    exact rise_nodup (nb_rise W.rise (fun t ht => (W.ends t ht).1) a)
  · obtain ⟨z, hz, rfl⟩ := List.mem_map.mp hr
    exact ⟨own z hz, away_zero.mpr rfl, hz⟩
  · obtain ⟨y, hy, m⟩ := away_back hx
    have := away_zero.mp hy
    subst this
    rw [List.map_map]
    exact List.mem_map.mpr ⟨x, m, rfl⟩
theorem nodup_flat {α : Type} {f : α → Lead} {g : α → Nat} : ∀ {l : List α}, (l.map g).Nodup → (∀ r ∈ l, ((f r).map (·.1)).Nodup) → (∀ r ∈ l, ∀ s ∈ l, g r ≠ g s → ∀ x ∈ (f r).map (·.1), x ∉ (f s).map (·.1)) → ((l.flatMap f).map (·.1)).Nodup
  | [], _, _, _ => by simp
  | r :: l, nd, h1, h2 => by
    rw [List.flatMap_cons, List.map_append]
    have nd' := List.nodup_cons.mp (show (g r :: l.map g).Nodup from nd)
    refine List.nodup_append.mpr ⟨h1 r List.mem_cons_self, nodup_flat nd'.2 (fun s hs => h1 s (List.mem_cons_of_mem _ hs)) fun s hs t ht => h2 s (List.mem_cons_of_mem _ hs) t (List.mem_cons_of_mem _ ht), fun x hx y hy e => ?_⟩
    subst e
    obtain ⟨p, hp, rfl⟩ := List.mem_map.mp hy
    obtain ⟨s, hs, hps⟩ := List.mem_flatMap.mp hp
    have ne : g r ≠ g s := fun z => nd'.1 (List.mem_map.mpr ⟨s, hs, z.symm⟩)
    exact h2 r List.mem_cons_self s (List.mem_cons_of_mem _ hs) ne p.1 hx (List.mem_map.mpr ⟨p, hps, rfl⟩)
theorem Lay.next (T : Tree w) (ha : a < w.1.length) {k : Nat} {rs : Lead} (L : Lay w a k rs) : Lay w a (k + 1) (stepL w rs) := by
  have W := T.ok
  have mem : ∀ r ∈ rs, ∀ z, z ∈ nb w.2 r.1 → z ≠ r.2 → Away w.2 a (k + 2) z := fun r hr z hz ne => by
    obtain ⟨h1, h2, h3⟩ := L.own r hr
    have zl := (nb_lt W hz).2
    obtain ⟨m, hm⟩ := away_all T.joined ha zl
    rcases tree_tie T ha h1 hm hz with e | e
    · subst e; exact hm
    · have : m = k := by omega
      subst this
      exact absurd (tree_one T ha h1 hm h2 (nb_symm W hz) h3) ne
  refine ⟨nodup_flat L.nd (fun r hr => ?_) fun r hr s hs ne x hx hx' => ?_, fun p hp => ?_, fun x hx => ?_⟩
  · rw [List.map_map]
    show (((nb w.2 r.1).filter _).map fun z => z).Nodup
    rw [List.map_id']
    exact (rise_nodup (nb_rise W.rise (fun t ht => (W.ends t ht).1) r.1)).filter _
  · rw [List.map_map] at hx hx'
    obtain ⟨z, hz, rfl⟩ := List.mem_map.mp hx
    obtain ⟨z', hz', e⟩ := List.mem_map.mp hx'
    have e : z' = z := e
    subst e
    obtain ⟨m1, n1⟩ := List.mem_filter.mp hz
    obtain ⟨m2, n2⟩ := List.mem_filter.mp hz'
    exact ne (tree_one T ha (mem r hr z' m1 (of_decide_eq_true n1)) (L.own r hr).1 (L.own s hs).1 m1 m2)
  · obtain ⟨r, hr, h⟩ := List.mem_flatMap.mp hp
    obtain ⟨z, hz, rfl⟩ := List.mem_map.mp h
    obtain ⟨m, n⟩ := List.mem_filter.mp hz
    exact ⟨mem r hr z m (of_decide_eq_true n), (L.own r hr).1, m⟩
  · obtain ⟨y, hy, m⟩ := away_back hx
    obtain ⟨r, hr, e⟩ := List.mem_map.mp (L.all y hy)
    subst e
    refine List.mem_map.mpr ⟨(x, r.1), List.mem_flatMap.mpr ⟨r, hr, List.mem_map.mpr ⟨x, List.mem_filter.mpr ⟨m, decide_eq_true fun z => ?_⟩, rfl⟩⟩, rfl⟩
    have h2 := (L.own r hr).2.1
    rw [← z] at h2
    have := away_uniq h2 hx
    omega
theorem Lay.few (W : WOk w) (ha : a < w.1.length) {k : Nat} {rs : Lead} (L : Lay w a k rs) : rs.length ≤ w.1.length := by
  have := nodup_len w.1.length _ L.nd fun x hx => by
    obtain ⟨r, hr, rfl⟩ := List.mem_map.mp hx
    exact away_lt W ha (L.own r hr).1
  rw [List.length_map] at this
  exact this
end
end Cw

namespace Cw
open PySem PySem.Spec PyProof.Rows L2
local macro_rules | `(tactic| walk_at "rd1") => `(tactic| first
  | (with_reducible refine d_seq ?_) | (with_reducible refine d_asg ?_) | (with_reducible refine d_cons ?_) | (with_reducible refine d_nil ?_)
  | ((with_reducible refine' d_var ?e ?_); (case e => exact rfl))
  | (with_reducible refine d_c ?_) | (with_reducible refine d_op ?_) | (with_reducible refine d_un ?_) | (with_reducible refine d_cb ?_)
  | (with_reducible refine d_rI0 ?_) | (with_reducible refine d_rU ?_) | (with_reducible refine d_eqI ?_) | (with_reducible refine d_neI ?_)
  | ((with_reducible refine d_rI ?hc ?_); (case hc => first | assumption | decide | exact ⟨by decide, by decide⟩ | exact ⟨by omega, by omega⟩ | exact .inl ⟨by omega, by omega⟩ | exact .inr ⟨by omega, by omega⟩))
  | ((with_reducible refine' d_ixLm ?h ?e ?_); (case h => first | assumption | exact upd_same); (case e => rfl)) | ((with_reducible refine' d_ixTm ?h ?e ?_); (case h => first | assumption | exact upd_same); (case e => rfl))
  | (with_reducible refine d_test ?_) | (with_reducible refine d_tB ?_) | (with_reducible refine d_bl ?_) | (with_reducible refine d_not ?_) | (with_reducible refine d_notV ?_) | (with_reducible refine d_and ?_) | (with_reducible refine d_or ?_)
  | (with_reducible refine d_if ?_) | (with_reducible refine d_andV ?_) | (with_reducible refine d_ifS ?_) | (with_reducible refine iteT ?_) | (with_reducible refine iteF ?_) | (with_reducible refine iteNT ?_) | (with_reducible refine iteNF ?_)
  | (with_reducible refine d_ret ?_) | (with_reducible refine d_retN ?_) | (with_reducible refine d_drop ?_) | (with_reducible refine d_next ?_) | (with_reducible refine d_brk ?_) | (with_reducible refine d_ct ?_)
  | (with_reducible refine d_gname ?_) | (with_reducible refine d_gcons ?_) | (with_reducible refine d_gnil ?_) | (with_reducible refine d_gsub ?_)
  | (with_reducible refine d_call ?_) | (with_reducible refine d_tup ?_) | (with_reducible refine d_lst ?_)
  | (with_reducible refine d_sl ?_) | (with_reducible refine d_nop ?_) | (with_reducible refine d_part ?_) | (with_reducible refine d_in ?_)
  | (with_reducible refine d_bm ?_) | (with_reducible refine d_bm0 ?_) | (with_reducible refine d_m1 ?_) | (with_reducible refine d_exs ?_)
  | ((with_reducible refine' d_setL ?h ?e ?_); (case h => first | assumption | exact upd_same); (case e => rfl))
  | ((with_reducible refine' d_gtupm ?h ?e ?_); (case h => first | assumption | exact upd_same); (case e => rfl))
  | ((with_reducible refine' d_aug ?e ?_); (case e => exact rfl))
  | (with_reducible refine d_for ?_) | (with_reducible refine d_lc ?_) | (with_reducible refine d_dc ?_) | (with_reducible refine d_iR1 ?_) | (with_reducible refine d_iR2 ?_) | (with_reducible refine d_iL ?_) | (with_reducible refine d_iT ?_) | (with_reducible refine d_iS ?_) | (with_reducible refine d_iSe ?_) | (with_reducible refine d_yes ?_) | (with_reducible refine d_lsten ?_) | (with_reducible refine d_iEnS ?_) | (with_reducible refine d_iEnSe ?_) | (with_reducible refine d_iEn ?_) | (with_reducible refine d_dget1 ?_) | (with_reducible refine d_dget2 ?_) | (with_reducible refine d_iCmb ?_) | (with_reducible refine d_dget ?_) | (with_reducible refine d_dput ?_) | (with_reducible refine d_daug ?_) | (with_reducible refine d_par ?_) | (with_reducible refine d_par2 ?_) | (with_reducible refine d_din ?_) | (with_reducible refine d_dnewT ?_) | (with_reducible refine d_dnewK ?_) | ((with_reducible refine d_wipe ?e ?_); (case e => rfl)) | (with_reducible refine d_lrg ?_) | (with_reducible refine d_rg1 ?_)
  | ((with_reducible refine d_iR1e ?a ?b ?_); (case a => omega); (case b => omega)) | ((with_reducible refine d_iR2e ?a ?_); (case a => omega))
  | (with_reducible refine d_isN ?_))
local macro_rules | `(tactic| walk_at "rd") => `(tactic| (repeat walk_at "rd1"))

def topS (i : Nat) : Stmt := PySem.Challenge.pw_commonweb_k62_middles.main.body.getD i (.Pass ⟨0, 0, 0, 0⟩)
abbrev s_all_neighbours : Stmt := topS 4
abbrev s_parts : Stmt := topS 5
abbrev s_part_from : Stmt := topS 6
abbrev s_hangs : Stmt := topS 7
abbrev s_is_tree : Stmt := topS 9
abbrev s_middle : Stmt := topS 10
abbrev s_farthest_from : Stmt := topS 11
abbrev s_mixed : Stmt := topS 13
abbrev s_pot : Stmt := topS 14
abbrev s_take : Stmt := topS 15
abbrev s_letter : Stmt := topS 16
abbrev s_web : Stmt := topS 17
abbrev s_order : Stmt := topS 18
abbrev s_tree : Stmt := topS 19
abbrev s_neighbours : Stmt := topS 20
abbrev s_far : Stmt := topS 21
abbrev s_right : Stmt := topS 22
abbrev s_law : Stmt := topS 23
theorem sc_all_neighbours : FnScope ["web", "beside", "place", "other", "_"] ["web"] (defScope s_all_neighbours) := ⟨rfl, rfl, rfl, by decide +kernel, rfl, by decide +kernel, by decide +kernel⟩
theorem sc_parts : FnScope ["web", "beside", "told", "seen", "place", "part", "reached"] ["web"] (defScope s_parts) := ⟨rfl, rfl, rfl, by decide +kernel, rfl, by decide +kernel, by decide +kernel⟩
theorem sc_part_from : FnScope ["beside", "start", "seen", "waiting", "place", "other"] ["beside", "start"] (defScope s_part_from) := ⟨rfl, rfl, rfl, by decide +kernel, rfl, by decide +kernel, by decide +kernel⟩
theorem sc_hangs : FnScope ["web"] ["web"] (defScope s_hangs) := ⟨rfl, rfl, rfl, by decide +kernel, rfl, by decide +kernel, by decide +kernel⟩
theorem sc_is_tree : FnScope ["web"] ["web"] (defScope s_is_tree) := ⟨rfl, rfl, rfl, by decide +kernel, rfl, by decide +kernel, by decide +kernel⟩
theorem sc_middle : FnScope ["tree", "beside", "far", "place"] ["tree"] (defScope s_middle) := ⟨rfl, rfl, rfl, by decide +kernel, rfl, by decide +kernel, by decide +kernel⟩
theorem sc_farthest_from : FnScope ["beside", "start", "far", "reached", "further", "place", "last"] ["beside", "start"] (defScope s_farthest_from) := ⟨rfl, rfl, rfl, by decide +kernel, rfl, by decide +kernel, by decide +kernel⟩
theorem sc_mixed : FnScope ["cell", "k", "number"] ["cell", "k"] (defScope s_mixed) := ⟨rfl, rfl, rfl, by decide +kernel, rfl, by decide +kernel, by decide +kernel⟩
theorem sc_pot : FnScope ["cell"] ["cell"] (defScope s_pot) := ⟨rfl, rfl, rfl, by decide +kernel, rfl, by decide +kernel, by decide +kernel⟩
theorem sc_take : FnScope ["pot", "many", "told"] ["pot", "many"] (defScope s_take) := ⟨rfl, rfl, rfl, by decide +kernel, rfl, by decide +kernel, by decide +kernel⟩
theorem sc_letter : FnScope ["pot", "few", "letters"] ["pot", "few"] (defScope s_letter) := ⟨rfl, rfl, rfl, by decide +kernel, rfl, by decide +kernel, by decide +kernel⟩
theorem sc_web : FnScope ["kinds", "ties", "order", "letters", "place", "kind", "found", "beside", "one", "other"] ["kinds", "ties", "order"] (defScope s_web) := ⟨rfl, rfl, rfl, by decide +kernel, rfl, by decide +kernel, by decide +kernel⟩
theorem sc_order : FnScope ["pot", "many", "left", "k"] ["pot", "many"] (defScope s_order) := ⟨rfl, rfl, rfl, by decide +kernel, rfl, by decide +kernel, by decide +kernel⟩
theorem sc_tree : FnScope ["pot", "many", "few", "some", "shape", "kinds", "ties", "place", "ahead"] ["pot", "many", "few", "some"] (defScope s_tree) := ⟨rfl, rfl, rfl, by decide +kernel, rfl, by decide +kernel, by decide +kernel⟩
theorem sc_neighbours : FnScope ["web", "found", "place", "beside", "kind"] ["web"] (defScope s_neighbours) := ⟨rfl, rfl, rfl, by decide +kernel, rfl, by decide +kernel, by decide +kernel⟩
theorem sc_far : FnScope ["beside", "place", "layer", "there", "far", "further", "one", "other"] ["beside", "place"] (defScope s_far) := ⟨rfl, rfl, rfl, by decide +kernel, rfl, by decide +kernel, by decide +kernel⟩
theorem sc_right : FnScope ["web", "beside", "far", "due", "turn", "found", "place", "one"] ["web"] (defScope s_right) := ⟨rfl, rfl, rfl, by decide +kernel, rfl, by decide +kernel, by decide +kernel⟩
theorem sc_law : FnScope ["script", "k", "cell", "pot", "many", "row", "ties", "star", "webs", "web", "place"] ["script"] (defScope s_law) := ⟨rfl, rfl, rfl, by decide +kernel, rfl, by decide +kernel, by decide +kernel⟩
/-- what the top leaves -/
structure Tx (K : PySem.W.Frag) (mg : Str → Option Value) where
  all_neighbours : Df K mg "all_neighbours" s_all_neighbours ["web"]
  parts : Df K mg "parts" s_parts ["web"]
  part_from : Df K mg "part_from" s_part_from ["beside", "start"]
  hangs : Df K mg "hangs" s_hangs ["web"]
  is_tree : Df K mg "is_tree" s_is_tree ["web"]
  middle : Df K mg "middle" s_middle ["tree"]
  farthest_from : Df K mg "farthest_from" s_farthest_from ["beside", "start"]
  mixed : Df K mg "_law_mixed" s_mixed ["cell", "k"]
  pot : Df K mg "_law_pot" s_pot ["cell"]
  take : Df K mg "_law_take" s_take ["pot", "many"]
  letter : Df K mg "_law_letter" s_letter ["pot", "few"]
  web : Df K mg "_law_web" s_web ["kinds", "ties", "order"]
  order : Df K mg "_law_order" s_order ["pot", "many"]
  tree : Df K mg "_law_tree" s_tree ["pot", "many", "few", "some"]
  neighbours : Df K mg "_law_neighbours" s_neighbours ["web"]
  far : Df K mg "_law_far" s_far ["beside", "place"]
  right : Df K mg "_law_right" s_right ["web"]
  law : Df K mg "law" s_law ["script"]
  m_bool : mg "bool" = none
  m_enumerate : mg "enumerate" = none
  m_int : mg "int" = none
  m_isinstance : mg "isinstance" = none
  m_len : mg "len" = none
  m_list : mg "list" = none
  m_max : mg "max" = none
  m_min : mg "min" = none
  m_range : mg "range" = none
  m_set : mg "set" = none
  m_sorted : mg "sorted" = none
  m_tuple : mg "tuple" = none
section
variable {P : Program} {w : World} {K : PySem.W.Frag} {mg : Str → Option Value} {base : Heap}
/-- a pot of draws -/
def Pot (H : Hp) (h : Addr) : Prop := ∃ d c m : Int, H h = some (.lst [.int d, .int c, .int m]) ∧ 0 ≤ d
theorem Pot.same {H H' : Hp} {h : Addr} (x : Pot H h) (s : Same H H') : Pot H' h := by
  obtain ⟨d, c, m, e, r⟩ := x
  exact ⟨d, c, m, s _ _ e, r⟩
theorem Pot.ne {H : Hp} {h p : Addr} (x : Pot H h) (n : H p = none) : p ≠ h := by
  obtain ⟨d, c, m, e, r⟩ := x
  exact fun z => by subst z; rw [n] at e; cases e
theorem Pot.put {H : Hp} {h p : Addr} {o : HO} (x : Pot H h) (n : p ≠ h) : Pot (upd H p o) h := by
  obtain ⟨d, c, m, e, r⟩ := x
  exact ⟨d, c, m, by rw [upd_ne (Ne.symm n)]; exact e, r⟩
theorem Pot.lst {H : Hp} {h : Addr} (x : Pot H h) : ∃ ys, H h = some (.lst ys) := by
  obtain ⟨d, c, m, e, r⟩ := x
  exact ⟨_, e⟩
def spMixed : Sp := fun vs H Q _ => ∃ c k : Int, vs = [.int c, .int k] ∧ ∀ n : Int, Q (.int n) H
theorem ok_mixed (T : Tx K mg) : FnOk P w K mg base CX0 1 T.mixed.f T.mixed.fd ["cell", "k"] spMixed := by
  refine T.mixed.F.ok sc_mixed (fun vs H Q E h => ?_) (fun cdv A outer s H vs Q E hr h => ?_)
  · obtain ⟨c, k, rfl, _⟩ := h; rfl
  · obtain ⟨c, k, rfl, q⟩ := h
    refine ⟨_, (pss_cons (ps_set (i := 2) sc_mixed.nd rfl (.inl rfl) (pe_op op_mod (pe_op op_mul (pe_op op_add (pe_op op_add (pe_op op_mod (pv 0) pe_int) (pe_op op_mul pe_int (pv 1))) pe_int) pe_int) pe_int))
      (pss_cons (ps_set (i := 2) sc_mixed.nd rfl (.inl rfl) (pe_op op_mod (pe_op op_mul (pv 2) (pv 2)) pe_int))
      (pss_one (ps_ret (pe_op op_fdiv (pe_op op_mod (pe_op op_mul (pe_op op_add (pv 2) (pe_op op_mul pe_int (pe_op op_add (pv 1) pe_int))) pe_int) pe_int) pe_int))))), ?_⟩
    walk_at "rd"
    exact q _
def spPot : Sp := fun vs H Q _ => ∃ c : Int, vs = [.int c] ∧ ∀ H' h, Same H H' → H h = none → Pot H' h → Q (.ref h) H'
theorem ok_pot (T : Tx K mg) : FnOk P w K mg base CX0 1 T.pot.f T.pot.fd ["cell"] spPot := by
  refine T.pot.F.ok sc_pot (fun vs H Q E h => ?_) (fun cdv A outer s H vs Q E hr h => ?_)
  · obtain ⟨c, rfl, _⟩ := h; rfl
  · obtain ⟨c, rfl, q⟩ := h
    refine ⟨_, (pss_one (ps_ret (pe_lst (pa_cons (pe_op op_mul (pe_op op_mod (pv 0) (pe_op op_mulW (pe_op op_mulW (pe_op op_mulW (pe_op op_pow pe_int pe_int) (pe_op op_pow pe_int pe_int)) (pe_op op_pow pe_int pe_int)) (pe_op op_pow pe_int pe_int))) (pe_callTy call_int1 (by rfl) T.m_int (by decide +kernel) (pa_cons (pe_cmpR op_ge (pv 0) (pe_op op_pow pe_int pe_int) (nomark _)) pa_nil))) (pa_cons (pv 0) (pa_cons pe_int pa_nil)))))), ?_⟩
    walk_at "rd"
    refine ⟨_, _, rfl, rfl, wide_mul (a := 200) (b := 200) (by decide +kernel) (by decide +kernel) (by decide) (by decide) (by decide), ?_⟩
    walk_at "rd"
    refine ⟨_, _, rfl, rfl, wide_mul (a := 400) (b := 200) (by decide +kernel) (by decide +kernel) (by decide) (by decide) (by decide), ?_⟩
    walk_at "rd"
    refine ⟨_, _, rfl, rfl, wide_mul (a := 600) (b := 200) (by decide +kernel) (by decide +kernel) (by decide) (by decide) (by decide), ?_⟩
    walk_at "rd"
    refine .inr ⟨_, rfl, ?_⟩
    refine ⟨_, _, rfl, rfl, .inr (by split <;> decide), ?_⟩
    walk_at "rd"
    refine ⟨sz (by show 3 ≤ 100000; decide), fun p fp => ?_⟩
    exact q _ p (same_new fp) fp ⟨_, _, _, upd_same, Int.mul_nonneg (Int.emod_nonneg _ (by decide +kernel)) (by split <;> decide)⟩
def spTake : Sp := fun vs H Q _ => ∃ (h : Addr) (n : Int), vs = [.ref h, .int n] ∧ 0 < n ∧ n ≤ 1000 ∧ Pot H h ∧ ∀ H' (g : Int), Keep h H H' → Pot H' h → 0 ≤ g → g < n → Q (.int g) H'
theorem ok_take (T : Tx K mg) : FnOk P w K mg base CX0 2 T.take.f T.take.fd ["pot", "many"] spTake := by
  refine T.take.F.ok sc_take (fun vs H Q E h => ?_) (fun cdv A outer s H vs Q E hr h => ?_)
  · obtain ⟨c, k, rfl, _⟩ := h; rfl
  · obtain ⟨h, n, rfl, n0, n1, ⟨d, c, m, hH, d0⟩, q⟩ := h
    refine ⟨_, (pss_cons (ps_asg (pe_op op_add (pe_ix ix_list (pv 0) pe_int (fun _ _ => rfl)) pe_int) (pg_sub (pv 0) pe_int set_list))
      (pss_cons (ps_if (pt_cmpR op_gt (pe_ix ix_list (pv 0) pe_int (fun _ _ => rfl)) pe_int (nomark _))
        (pss_cons (ps_set (i := 2) sc_take.nd rfl (.inl rfl) (pe_op op_mod (pe_ix ix_list (pv 0) pe_int (fun _ _ => rfl)) (pv 1)))
        (pss_cons (ps_asg (pe_op op_fdiv (pe_ix ix_list (pv 0) pe_int (fun _ _ => rfl)) (pv 1)) (pg_sub (pv 0) pe_int set_list))
        (pss_one (ps_ret (pv 2)))))
        pss_nil)
      (pss_one (ps_ret (pe_op op_mod (pe_call (ok_mixed T) (hr.mono (by decide)) (by rfl) T.mixed.g T.mixed.F.kp T.mixed.b .nil pass0 (pa_cons (pe_ix ix_list (pv 0) pe_int (fun _ _ => rfl)) (pa_cons (pe_ix ix_list (pv 0) pe_int (fun _ _ => rfl)) pa_nil))) (pv 1)))))), ?_⟩
    walk_at "rd"
    refine ite2 (fun e => ?_) (fun e => ?_)
    · have e1 := of_decide_eq_true e
      walk_at "rd"
      exact q _ _ (Keep.trans Keep.put Keep.put) ⟨d / n, c, m + 1, upd_same, Int.ediv_nonneg d0 (by omega)⟩ (Int.emod_nonneg _ (by omega)) (Int.emod_lt_of_pos _ n0)
    · walk_at "rd"
      refine ⟨_, _, rfl, fun z => ?_⟩
      walk_at "rd"
      exact q _ _ Keep.put ⟨d, c, m + 1, upd_same, d0⟩ (Int.emod_nonneg _ (by omega)) (Int.emod_lt_of_pos _ n0)
theorem abc_at : (Str.ofString "abcdefghijklmnopqrstuvwxyz").cps.toList = (List.range 26).map (97 + ·) := by decide +kernel
def spLetter : Sp := fun vs H Q _ => ∃ (h : Addr) (n : Int), vs = [.ref h, .int n] ∧ 0 < n ∧ n ≤ 26 ∧ Pot H h ∧ ∀ H' (c : Nat), Keep h H H' → Pot H' h → Ltr c → Q (.str (sg c)) H'
theorem ok_letter (T : Tx K mg) : FnOk P w K mg base CX0 3 T.letter.f T.letter.fd ["pot", "few"] spLetter := by
  refine T.letter.F.ok sc_letter (fun vs H Q E h => ?_) (fun cdv A outer s H vs Q E hr h => ?_)
  · obtain ⟨c, k, rfl, _⟩ := h; rfl
  · obtain ⟨h, n, rfl, n0, n1, hp, q⟩ := h
    refine ⟨_, (pss_cons (ps_set (i := 2) sc_letter.nd rfl (.inl rfl) pe_str)
      (pss_one (ps_ret (pe_ix ix_str (pv 2) (pe_call (ok_take T) (hr.mono (by decide)) (by rfl) T.take.g T.take.F.kp T.take.b .nil pass0 (pa_cons (pv 0) (pa_cons (pe_ix ix_list (pe_lst (pa_cons (pv 1) (pa_cons (pv 1) (pa_cons (pv 1) (pa_cons (pv 1) (pa_cons (pv 1) (pa_cons pe_int pa_nil))))))) (pe_call (ok_take T) (hr.mono (by decide)) (by rfl) T.take.g T.take.F.kp T.take.b .nil pass0 (pa_cons (pv 0) (pa_cons pe_int pa_nil))) (fun _ _ => rfl)) pa_nil))) (fun _ _ => rfl))))), ?_⟩
    walk_at "rd"
    refine ⟨sz (by show 6 ≤ 100000; decide), fun p fp => ?_⟩
    have np := hp.ne fp
    walk_at "rd"
    refine ⟨h, 6, rfl, by decide, by decide, hp.put np, fun H1 g k1 hp1 g0 g1 => ?_⟩
    have ep := k1 p _ np upd_same
    have kk : Keep h H H1 := Keep.trans (Same.keep (same_new fp)) k1
    obtain ⟨x, hx, x0, x1⟩ : ∃ x : Int, atI [V.int n, V.int n, V.int n, V.int n, V.int n, V.int 26] g = some (.int x) ∧ 0 < x ∧ x ≤ 26 := by
      have e : g = 0 ∨ g = 1 ∨ g = 2 ∨ g = 3 ∨ g = 4 ∨ g = 5 := by omega
      rcases e with rfl | rfl | rfl | rfl | rfl | rfl
      · exact ⟨n, rfl, n0, n1⟩
      · exact ⟨n, rfl, n0, n1⟩
      · exact ⟨n, rfl, n0, n1⟩
      · exact ⟨n, rfl, n0, n1⟩
      · exact ⟨n, rfl, n0, n1⟩
      · exact ⟨26, rfl, by decide, by decide⟩
    refine d_ixLm ep hx ?_
    walk_at "rd"
    refine ⟨h, x, rfl, x0, by omega, hp1, fun H2 z k2 hp2 z0 z1 => ?_⟩
    obtain ⟨m, rfl⟩ : ∃ m : Nat, z = (m : Int) := ⟨z.toNat, by omega⟩
    refine ⟨_, _, 97 + m, rfl, rfl, by decide +kernel, ?_, ?_⟩
    · rw [abc_at]
      exact atI_nat (by rw [List.getElem?_map, List.getElem?_range (by omega)]; rfl)
    · exact q _ _ (Keep.trans kk k2) hp2 (by unfold Ltr; omega)
/-- a web whose ties stand in any order -/
structure Loose (w : Web) : Prop where
  few : w.1.length ≤ 40
  most : w.2.length ≤ 1600
  kinds : ∀ c ∈ w.1, Ltr c
  diff : w.2.Pairwise (fun x y => ends x ≠ ends y)
  ends : ∀ t ∈ w.2, t.1 < t.2.1 ∧ t.2.1 < w.1.length ∧ Ltr t.2.2
theorem loose_ends {w : Web} {qs : List Nat} (W : Loose w) (o : Ord qs w.1.length) : (w.2.map (mapTie qs)).Pairwise (fun x y => Cw.ends x ≠ Cw.ends y) := by
  rw [List.pairwise_map]
  refine List.Pairwise.imp_of_mem (fun {t u} ht hu lt e => ?_) W.diff
  have r1 := W.ends t ht
  have r2 := W.ends u hu
  have lt : ¬ (t.1 = u.1 ∧ t.2.1 = u.2.1) := fun z => lt (by unfold Cw.ends; rw [z.1, z.2])
  unfold Cw.ends mapTie at e
  simp only [Prod.mk.injEq] at e
  obtain ⟨e1, e2⟩ := e
  by_cases c : qa qs t.1 = qa qs u.1
  · have a := o.inj (by omega) (by omega) c
    have c2 : qa qs t.2.1 = qa qs u.2.1 := by omega
    have b := o.inj (by omega) (by omega) c2
    omega
  · have c1 : qa qs t.1 = qa qs u.2.1 := by omega
    have c2 : qa qs t.2.1 = qa qs u.1 := by omega
    have a := o.inj (by omega) (by omega) c1
    have b := o.inj (by omega) (by omega) c2
    omega
theorem loose_ok {w w' : Web} {qs : List Nat} (W : Loose w) (o : Ord qs w.1.length) (N : Named w qs w') (s : w'.2.Pairwise (fun x y => lexT ((y.1 : Int), (y.2.1 : Int), y.2.2) ((x.1 : Int), (x.2.1 : Int), x.2.2) = false)) : WOk w' := by
  refine ⟨by rw [N.len]; exact W.few, by rw [N.ties.length_eq, List.length_map]; exact W.most, fun c hc => ?_, rise_of s ?_, fun t ht => ?_⟩
  · obtain ⟨j, hj⟩ := List.mem_iff_getElem?.mp hc
    have hj' : j < w.1.length := by rw [← N.len]; exact (List.getElem?_eq_some_iff.mp hj).1
    obtain ⟨p, hp, rfl⟩ := o.onto hj'
    rw [N.kinds p hp] at hj
    exact W.kinds c (List.mem_of_getElem? hj)
  · exact (List.Perm.pairwise_iff (fun {x y} h => h.symm) N.ties).mpr (loose_ends W o)
  · obtain ⟨u, hu, rfl⟩ := List.mem_map.mp (N.ties.mem_iff.mp ht)
    have r := W.ends u hu
    have a := o.lt' (p := u.1) (by omega)
    have b := o.lt' (p := u.2.1) (by omega)
    have n : qa qs u.1 ≠ qa qs u.2.1 := fun z => by
      have := o.inj (by omega) (by omega) z
      omega
    refine ⟨?_, ?_, r.2.2⟩
    · show min _ _ < max _ _; omega
    · show max _ _ < w'.1.length; rw [N.len]; omega
theorem two_sorted {ns : List Int} {a b : Nat} (pm : ns.Perm [(a : Int), (b : Int)]) (s : ns.Pairwise (· ≤ ·)) : ns = [((min a b : Nat) : Int), ((max a b : Nat) : Int)] := by
  have l := pm.length_eq
  match ns, l, pm, s with
  | [x, y], _, pm, s =>
    have le : x ≤ y := (List.pairwise_cons.mp s).1 y List.mem_cons_self
    have mx := pm.mem_iff.mp (List.mem_cons_self : x ∈ [x, y])
    have my := pm.mem_iff.mp (List.mem_cons_of_mem _ List.mem_cons_self : y ∈ [x, y])
    have ma := pm.mem_iff.mpr (List.mem_cons_self : (a : Int) ∈ [(a : Int), (b : Int)])
    have mb := pm.mem_iff.mpr (List.mem_cons_of_mem _ List.mem_cons_self : (b : Int) ∈ [(a : Int), (b : Int)])
    simp only [List.mem_cons, List.not_mem_nil, or_false] at mx my ma mb
    rw [List.cons.injEq, List.cons.injEq]
    refine ⟨by omega, by omega, rfl⟩
/-- a web out of kinds and ties, its places called by an order -/
def spWebN (K : PySem.W.Frag) : Sp := fun vs H Q _ => ∃ (k t o : Addr) (w : Web) (tvs : List V) (qs : List Nat), vs = [.ref k, .ref t, .ref o] ∧ H k = some (.lst (w.1.map fun c => V.str (sg c))) ∧ H t = some (.lst tvs) ∧ Ties K H tvs w.2 ∧ Loose w ∧ H o = some (.lst (natsV qs)) ∧ Ord qs w.1.length ∧
  ∀ H' v' w', Same H H' → WebAt K H' v' w' → WOk w' → Named w qs w' → Q v' H'
theorem ok_web (T : Tx K mg) : FnOk P w K mg base CX0 1 T.web.f T.web.fd ["kinds", "ties", "order"] (spWebN K) := by
  refine T.web.F.ok sc_web (fun vs H Q E h => ?_) (fun cdv A outer s H vs Q E hr h => ?_)
  · obtain ⟨_, _, _, _, _, _, rfl, _⟩ := h; rfl
  · obtain ⟨k, t, o, w, tvs, qs, rfl, eK0, eT0, pT, W, eO, oo, q⟩ := h
    have lt : tvs.length = w.2.length := Paired.length pT
    have l16 := W.most
    have l40 := W.few
    have lq := oo.len
    refine ⟨_, (pss_cons (ps_set (i := 3) sc_web.nd rfl (.inl rfl) (pe_op op_rep (pe_lst (pa_cons pe_str pa_nil)) (pe_callB call_len_seq (by rfl) T.m_len (by decide +kernel) (pa_cons (pv 0) pa_nil))))
      (pss_cons (ps_for PassesOwn.never rfl (pi_enum (by rfl) T.m_enumerate (pa_cons (pv 0) pa_nil)) (pg_tup rfl (pgs_cons (pg_name (i := 4) sc_web.nd rfl (.inl rfl)) (pgs_cons (pg_name (i := 5) sc_web.nd rfl (.inl rfl)) pgs_nil)))
        (pss_one (ps_asg (pv 5) (pg_sub (pv 3) (pe_ix ix_list (pv 2) (pv 4) (fun _ _ => rfl)) set_list))))
      (pss_cons (ps_set (i := 6) sc_web.nd rfl (.inl rfl) (pe_lst pa_nil))
      (pss_cons (ps_for PassesOwn.never rfl (pi_list (pv 1)) (pg_tup rfl (pgs_cons (pg_name (i := 4) sc_web.nd rfl (.inl rfl)) (pgs_cons (pg_name (i := 7) sc_web.nd rfl (.inl rfl)) (pgs_cons (pg_name (i := 5) sc_web.nd rfl (.inl rfl)) pgs_nil))))
        (pss_cons (ps_asg (pe_callB cr_sortedI (by rfl) T.m_sorted (by decide +kernel) (pa_cons (pe_lst (pa_cons (pe_ix ix_list (pv 2) (pv 4) (fun _ _ => rfl)) (pa_cons (pe_ix ix_list (pv 2) (pv 7) (fun _ _ => rfl)) pa_nil))) pa_nil)) (pg_unl rfl (pgs_cons (pg_name (i := 8) sc_web.nd rfl (.inl rfl)) (pgs_cons (pg_name (i := 9) sc_web.nd rfl (.inl rfl)) pgs_nil))))
        (pss_one (ps_expr (pe_bm PySem.F.plainAttrs_list PySem.F.slot_list_append PySem.F.type_list_append mt_append (pv 6) (pa_cons (pe_tup (pa_cons (pv 8) (pa_cons (pv 9) (pa_cons (pv 5) pa_nil)))) pa_nil))))))
      (pss_one (ps_ret (pe_tup (pa_cons (pe_join pe_str (pv 3)) (pa_cons (pe_callTy call_tuple_of (by rfl) T.m_tuple (by decide +kernel) (pa_cons (pe_callB cr_sorted3 (by rfl) T.m_sorted (by decide +kernel) (pa_cons (pv 6) pa_nil)) pa_nil)) pa_nil))))))))), ?_⟩
    walk_at "rd"
    refine ⟨sz (by decide), fun p1 f1 => ?_⟩
    have s1 := same_new (o := .lst [V.str (Str.ofString "")]) f1
    walk_at "rd"
    refine d_lenL (SqL.of (s1 _ _ eK0)) ?_
    rw [List.length_map]
    walk_at "rd"
    refine ⟨p1, (w.1.length : Nat), _, rfl, rfl, upd_same, by omega, by omega, sz (by simp; omega), fun P fP => ?_⟩
    rw [show ((w.1.length : Nat) : Int).toNat = w.1.length from rfl, flat_rep]
    have s2 := Same.trans s1 (same_new (o := .lst (List.replicate w.1.length (V.str (Str.ofString "")))) fP)
    have eP := upd_same (H := upd H p1 (.lst [V.str (Str.ofString "")])) (a := P) (o := .lst (List.replicate w.1.length (V.str (Str.ofString ""))))
    have fP0 := Same.free s1 fP
    generalize upd (upd H p1 (.lst [V.str (Str.ofString "")])) P (.lst (List.replicate w.1.length (V.str (Str.ofString "")))) = H2 at s2 eP ⊢
    walk_at "rd"
    refine ⟨k, _, rfl, SqL.of (s2 _ _ eK0), ?_⟩
    refine for_it (walk_enum (K := K) (a := k) (xs := w.1.map fun c => V.str (sg c))) (fun i σ H3 => ∃ y4 y5 y6 y7 y8 y9 ks, σ = [some (.ref k), some (.ref t), some (.ref o), some (.ref P), y4, y5, y6, y7, y8, y9] ∧ Same H H3 ∧ H3 P = some (.lst ks) ∧ ks.length = w.1.length ∧ ∀ p, p < i → ∀ c, w.1[p]? = some c → ks[qa qs p]? = some (V.str (sg c)))
      ⟨_, _, _, _, _, _, _, rfl, s2, eP, List.length_replicate, fun p hp => absurd hp (Nat.not_lt_zero _)⟩ (fun i σ H3 _ hP => ?_) (fun i x σ H3' H3 hi hP hy => ?_) (fun σ H3 hP => ?_)
    · obtain ⟨_, _, _, _, _, _, _, _, s3, _⟩ := hP
      exact SqL.of (s3 _ _ eK0)
    · obtain ⟨y4, y5, y6, y7, y8, y9, ks, rfl, s3, eK, lk, hk⟩ := hP
      obtain ⟨T', x', y', rfl, fT, rfl, ex, ey⟩ := hy
      have hi' : i < w.1.length := by simpa using hi
      have ex' : x' = V.int (i : Nat) := (Option.some.inj ex).symm
      subst ex'
      have ey' : y' = V.str (sg w.1[i]) := by
        have z : (w.1.map fun c => V.str (sg c))[i]? = some y' := ey
        rw [List.getElem?_map, List.getElem?_eq_getElem hi'] at z
        exact (Option.some.inj z).symm
      subst ey'
      refine d_gtupm upd_same rfl ?_
      walk_at "rd"
      have eO3 := at_upd (u := .tup [V.int (i : Nat), V.str (sg w.1[i])]) (s3 _ _ eO) fT
      refine d_ixLm eO3 (atI_nat (by unfold natsV; rw [List.getElem?_map, qa_at (by omega)]; rfl)) ?_
      have hq := oo.lt' hi'
      have eK3 := at_upd (u := .tup [V.int (i : Nat), V.str (sg w.1[i])]) eK fT
      refine d_setL eK3 (j := qa qs i) (by unfold ixN; rw [if_pos (by omega), if_pos (by omega)]; simp) ?_
      refine ⟨_, _, _, _, _, _, _, rfl, same_upd (same_upd s3 (Same.free s3 fT)) fP0, upd_same, by rw [List.length_set]; exact lk, fun p hp c hc => ?_⟩
      by_cases e : p = i
      · subst e
        rw [List.getElem?_set_self (by omega)]
        rw [List.getElem?_eq_getElem hi'] at hc
        cases hc; rfl
      · have hp' : p < i := by omega
        have ne : qa qs i ≠ qa qs p := fun z => e (oo.inj (by omega) hi' z.symm)
        rw [List.getElem?_set_ne ne]
        exact hk p hp' c hc
    obtain ⟨y4, y5, y6, y7, y8, y9, ks, rfl, s3, eK, lk, hk⟩ := hP
    let cs : List Nat := ks.map fun v => match v with | .str z => z.cps.toList.headD 0 | _ => 0
    have kat : ∀ p, p < w.1.length → ∃ c, w.1[p]? = some c ∧ ks[qa qs p]? = some (V.str (sg c)) := fun p hp => ⟨_, List.getElem?_eq_getElem hp, hk p (by rw [List.length_map]; exact hp) _ (List.getElem?_eq_getElem hp)⟩
    have ecs : ks = cs.map fun c => V.str (sg c) := by
      refine List.ext_getElem? fun j => ?_
      show ks[j]? = ((ks.map _).map _)[j]?
      rw [List.getElem?_map, List.getElem?_map]
      by_cases hj : j < w.1.length
      · obtain ⟨p, hp, rfl⟩ := oo.onto hj
        obtain ⟨c, _, e⟩ := kat p hp
        rw [e]; rfl
      · rw [List.getElem?_eq_none (by omega)]; rfl
    have lcs : cs.length = w.1.length := by show (ks.map _).length = _; rw [List.length_map]; exact lk
    have hcs : ∀ p, p < w.1.length → cs[qa qs p]? = w.1[p]? := fun p hp => by
      obtain ⟨c, e1, e2⟩ := kat p hp
      show (ks.map _)[qa qs p]? = _
      rw [List.getElem?_map, e2, e1]; rfl
    walk_at "rd"
    refine ⟨sz (by decide), fun L fL => ?_⟩
    walk_at "rd"
    have s4 := same_upd (o := .lst []) s3 (Same.free s3 fL)
    refine d_iLe (SqL.of (s4 _ _ eT0)) ?_
    refine for_it (walk_list (K := K) (xs := tvs)) (fun i σ H5 => ∃ y4 y5 y7 y8 y9, ∃ es : List (Addr × Tie), σ = [some (.ref k), some (.ref t), some (.ref o), some (.ref P), y4, y5, some (.ref L), y7, y8, y9] ∧ Same H H5 ∧ H5 P = some (.lst ks) ∧ H5 L = some (.lst (es.map fun e => V.ref e.1)) ∧ es.map (·.2) = (w.2.take i).map (mapTie qs) ∧ ∀ e ∈ es, H5 e.1 = some (.tup (triV ((e.2.1 : Int), (e.2.2.1 : Int), e.2.2.2))))
      ⟨_, _, _, _, _, [], rfl, s4, at_upd eK fL, upd_same, rfl, by simp⟩ (fun i σ H5 hi hP => ?_) (fun i x σ H5' H5 hi hP hy => ?_) (fun σ H5 hP => ?_)
    · obtain ⟨_, _, _, _, _, _, _, s5, _⟩ := hP
      exact SqL.of (s5 _ _ eT0)
    · obtain ⟨z4, z5, z7, z8, z9, es, rfl, s5, eP5, eL5, ees, hes⟩ := hP
      obtain ⟨rfl, hx⟩ := hy
      obtain ⟨t0, ht, a', rfl, qt⟩ := Paired.at pT hx
      have rt := W.ends t0 (List.mem_of_getElem? ht)
      refine d_gtup (Same.sqt s5 qt) rfl ?_
      walk_at "rd"
      have eO5 := s5 _ _ eO
      have g1 : atI (natsV qs) (t0.1 : Nat) = some (.int (qa qs t0.1 : Nat)) := atI_nat (by unfold natsV; rw [List.getElem?_map, qa_at (by omega)]; rfl)
      have g2 : atI (natsV qs) (t0.2.1 : Nat) = some (.int (qa qs t0.2.1 : Nat)) := atI_nat (by unfold natsV; rw [List.getElem?_map, qa_at (by omega)]; rfl)
      refine d_ixLm eO5 g1 ?_
      walk_at "rd"
      refine d_ixLm eO5 g2 ?_
      walk_at "rd"
      refine ⟨sz (by show 2 ≤ 100000; decide), fun p2 f2 => ?_⟩
      walk_at "rd"
      refine ⟨p2, [((qa qs t0.1 : Nat) : Int), ((qa qs t0.2.1 : Nat) : Int)], rfl, SqL.of upd_same, fun ns o2 pm srt fo2 => ?_⟩
      have ens := two_sorted pm srt
      subst ens
      have s6 := Same.trans (same_new (H := H5) (o := .lst [V.int (qa qs t0.1 : Nat), V.int (qa qs t0.2.1 : Nat)]) f2) (same_new (o := .lst ([((min (qa qs t0.1) (qa qs t0.2.1) : Nat) : Int), ((max (qa qs t0.1) (qa qs t0.2.1) : Nat) : Int)].map V.int)) fo2)
      have e6 := upd_same (H := upd H5 p2 (.lst [V.int (qa qs t0.1 : Nat), V.int (qa qs t0.2.1 : Nat)])) (a := o2) (o := .lst ([((min (qa qs t0.1) (qa qs t0.2.1) : Nat) : Int), ((max (qa qs t0.1) (qa qs t0.2.1) : Nat) : Int)].map V.int))
      refine ⟨o2, _, rfl, SqL.of e6, rfl, ?_⟩
      generalize (upd (upd H5 p2 _) o2 _) = H6 at s6 e6 ⊢
      have eP6 := s6 _ _ eP5
      have eL6 := s6 _ _ eL5
      have s56 := Same.trans s5 s6
      simp only [List.map_cons, List.map_nil]
      walk_at "rd"
      refine d_app eL6 ?_
      walk_at "rd"
      refine ⟨sz (by show 3 ≤ 100000; decide), fun p fp => ?_⟩
      have les : es.length ≤ 1600 := by
        have z := congrArg List.length ees
        rw [List.length_map, List.length_map] at z
        have := List.length_take_le i w.2
        omega
      walk_at "rd"
      refine d_append (at_upd eL6 fp) (szl (by rw [List.length_map]; omega)) ?_
      have npL : p ≠ L := fun z => by rw [z, eL6] at fp; cases fp
      refine ⟨_, _, _, _, _, es ++ [(p, mapTie qs t0)], rfl, ?_, ?_, ?_, ?_, ?_⟩
      · exact same_upd (same_upd s56 (Same.free s56 fp)) (Same.free s3 fL)
      · rw [upd_ne (ne_of_none eK fL), at_upd eP6 fp]
      · rw [upd_same, List.map_append]; rfl
      · rw [take_snoc ht, List.map_append, List.map_append, ees]; rfl
      · intro e he
        rcases List.mem_append.mp he with he | he
        · have h1 := s6 _ _ (hes e he)
          have h2 : e.1 ≠ L := fun z => by rw [z, eL6] at h1; cases h1
          rw [upd_ne h2]
          exact at_upd h1 fp
        · rw [List.mem_singleton.mp he]
          show (upd _ L _) p = _
          rw [upd_ne npL, upd_same]; rfl
    · obtain ⟨z4, z5, z7, z8, z9, es, rfl, s5, eP5, eL5, ees, hes⟩ := hP
      rw [lt, List.take_length] at ees
      walk_at "rd"
      refine ⟨_, P, cs.map sg, rfl, rfl, .inl (SqL.of (by rw [List.map_map]; rw [eP5, ecs]; rfl)), ?_, ?_⟩
      · rw [sum_const _ 1 _ (by intro x hx; obtain ⟨c, _, rfl⟩ := List.mem_map.mp hx; rfl), List.length_map]
        have e0 : (Str.ofString "").length = 0 := by decide +kernel
        rw [e0]; omega
      rw [join_signs]
      walk_at "rd"
      let es3 : List (Addr × Tri) := es.map fun e => (e.1, ((e.2.1 : Int), (e.2.2.1 : Int), e.2.2.2))
      refine ⟨L, es3, rfl, SqL.of (by rw [eL5]; show _ = some (HO.lst ((es.map _).map _)); rw [List.map_map]; rfl), fun e he => ?_, fun es' S pm srt fS => ?_⟩
      · obtain ⟨e0, he0, rfl⟩ := List.mem_map.mp he
        exact hes e0 he0
      walk_at "rd"
      refine ⟨S, _, rfl, .inl ⟨SqL.of upd_same, fun R fR => ?_⟩⟩
      walk_at "rd"
      refine ⟨sz (by show 2 ≤ 100000; decide), fun W' fW => ?_⟩
      let ts' : List Tie := es'.map fun e => (e.2.1.toNat, e.2.2.1.toNat, e.2.2.2)
      have back : ∀ e ∈ es', ∃ e0 ∈ es, e = (e0.1, ((e0.2.1 : Int), (e0.2.2.1 : Int), e0.2.2.2)) := fun e he => by
        obtain ⟨e0, he0, e1⟩ := List.mem_map.mp (pm.mem_iff.mp he)
        exact ⟨e0, he0, e1.symm⟩
      have pts : ts'.Perm (w.2.map (mapTie qs)) := by
        have z := pm.map fun e => ((e.2.1.toNat, e.2.2.1.toNat, e.2.2.2) : Tie)
        rw [← ees]
        have e2 : (es.map (fun e => (e.1, ((e.2.1 : Int), (e.2.2.1 : Int), e.2.2.2)))).map (fun e => ((e.2.1.toNat, e.2.2.1.toNat, e.2.2.2) : Tie)) = es.map (·.2) := by
          rw [List.map_map]; rfl
        rw [← e2]
        exact z
      have N : Named w qs (cs, ts') := ⟨lcs, hcs, pts⟩
      have srt' : ts'.Pairwise (fun x y => lexT ((y.1 : Int), (y.2.1 : Int), y.2.2) ((x.1 : Int), (x.2.1 : Int), x.2.2) = false) := by
        rw [List.pairwise_map] at srt
        show (es'.map _).Pairwise _
        rw [List.pairwise_map]
        refine srt.imp_of_mem fun {x y} hx hy hxy => ?_
        obtain ⟨e0, _, rfl⟩ := back x hx
        obtain ⟨e1, _, rfl⟩ := back y hy
        exact hxy
      have sf : Same H5 (upd (upd (upd H5 S (.lst (es'.map fun e => V.ref e.1))) R (.tup (es'.map fun e => V.ref e.1))) W' (.tup [V.str ⟨cs.toArray⟩, V.ref R])) := Same.trans (same_new fS) (Same.trans (same_new fR) (same_new fW))
      refine q _ _ (cs, ts') (Same.trans s5 sf) ⟨W', R, _, rfl, SqT.of upd_same, SqT.of (at_upd upd_same fW), ?_⟩ (loose_ok W oo N srt') N
      have go : ∀ l : List (Addr × Tri), (∀ e ∈ l, ∃ e0 ∈ es, e = (e0.1, ((e0.2.1 : Int), (e0.2.2.1 : Int), e0.2.2.2))) → Paired (TieAt K (upd (upd (upd H5 S (.lst (es'.map fun e => V.ref e.1))) R (.tup (es'.map fun e => V.ref e.1))) W' (.tup [V.str ⟨cs.toArray⟩, V.ref R]))) (l.map fun e => V.ref e.1) (l.map fun e => ((e.2.1.toNat, e.2.2.1.toNat, e.2.2.2) : Tie)) := by
        intro l
        induction l with
        | nil => intro _; exact .nil
        | cons x l ih =>
          intro hl
          obtain ⟨e0, he0, rfl⟩ := hl x List.mem_cons_self
          exact .cons ⟨e0.1, rfl, SqT.of (sf _ _ (hes e0 he0))⟩ (ih fun e he => hl e (List.mem_cons_of_mem _ he))
      exact go es' back
/-- the places in a drawn order -/
def spOrder : Sp := fun vs H Q _ => ∃ (h : Addr) (n : Int), vs = [.ref h, .int n] ∧ 0 ≤ n ∧ n ≤ 1000 ∧ Pot H h ∧ ∀ H' (p : Addr) (qs : List Nat), Keep h H H' → Pot H' h → H p = none → H' p = some (.lst (qs.map fun q => V.int (q : Nat))) → qs.Perm (List.range n.toNat) → Q (.ref p) H'
theorem ok_order (T : Tx K mg) : FnOk P w K mg base CX0 3 T.order.f T.order.fd ["pot", "many"] spOrder := by
  refine T.order.F.ok sc_order (fun vs H Q E h => ?_) (fun cdv A outer s H vs Q E hr h => ?_)
  · obtain ⟨h, n, rfl, _⟩ := h; rfl
  · obtain ⟨h, n, rfl, n0, n1, hh, q⟩ := h
    refine ⟨_, (pss_cons (ps_set (i := 2) sc_order.nd rfl (.inr rfl) (pe_listRg rfl (by rfl) T.m_list (prg_1 (by rfl) T.m_range (pv 1))))
      (pss_one (ps_ret (pe_lc (own := [("k", 3)]) (g := gName 3) (tt := tYes) (te := tBM K "list" rPopAt (tVar 2) (tCons (tCall spTake [] E0 (tCons (tVar 0) (tCons (tCB (Evl.rLenS K) (tCons (tVar 2) tNil)) tNil))) tNil)) rfl sc_order.nd (pi_range1 (by rfl) T.m_range (pa_cons (pv 1) pa_nil)) (blkOk_by (N := ["pot", "many", "left", "k"]) (sc := defScope s_order) (by decide +kernel)) (fun _ _ _ _ _ => (pg_name (i := 3) sc_order.nd rfl (.inl rfl))) (fun _ _ _ _ _ => pts_nil) (fun _ _ _ _ _ => (pe_bm PySem.F.plainAttrs_list PySem.F.slot_list_pop PySem.F.type_list_pop mt_popAt (pv 2) (pa_cons (pe_call (ok_take T) (hr.mono (by decide)) (by rfl) T.take.g T.take.F.kp T.take.b .nil pass0 (pa_cons (pv 0) (pa_cons (pe_callB call_len_seq (by rfl) T.m_len (by decide +kernel) (pa_cons (pv 2) pa_nil)) pa_nil))) pa_nil))))))), ?_⟩
    walk_at "rd"
    refine ⟨RgOk.of_le (by omega) (by omega) (by omega) (by omega), fun L fL => ?_⟩
    walk_at "rd"
    have nL := hh.ne fL
    have hh1 := hh.put (o := .lst (rgV 0 n)) nL
    have eL := upd_same (H := H) (a := L) (o := .lst (rgV 0 n))
    rw [rgV_nats] at eL hh1
    have s1 := same_new (o := .lst ((List.range n.toNat).map fun q => V.int (q : Nat))) fL
    intro D fD
    have nD := (show Pot _ h from by rw [rgV_nats]; exact hh1).ne fD
    have nLD : L ≠ D := ne_of_none (upd_same (H := H) (a := L) (o := .lst (rgV 0 n))) fD
    rw [rgV_nats] at fD ⊢
    refine lc_range (fun i H' => ∃ gs ls : List Nat, gs.length = i ∧ (gs ++ ls).Perm (List.range n.toNat) ∧ H' D = some (.lst (gs.map fun q => V.int (q : Nat))) ∧ H' L = some (.lst (ls.map fun q => V.int (q : Nat))) ∧ Keep h H H' ∧ Pot H' h)
      ⟨[], List.range n.toNat, rfl, List.Perm.refl _, upd_same, at_upd eL fD, Keep.new (Same.keep s1) (Same.free s1 fD), hh1.put nD⟩ (fun i H' hi hP => ?_) (fun H' hP => ?_)
    · obtain ⟨gs, ls, lg, pm, eD, eL', kk, hh'⟩ := hP
      have lsum := pm.length_eq
      rw [List.length_append, List.length_range] at lsum
      have hi' : i < n.toNat := by omega
      walk_at "rd"
      refine ⟨.inl ⟨rfl, _, SqL.of eL'⟩, ?_⟩
      walk_at "rd"
      refine d_lenL (SqL.of eL') ?_
      rw [List.length_map]
      walk_at "rd"
      refine ⟨h, (ls.length : Nat), rfl, by omega, by omega, hh', fun H2 g k2 hh2 g0 g1 => ?_⟩
      walk_at "rd"
      obtain ⟨m, rfl⟩ := Int.eq_ofNat_of_zero_le g0
      have hm : m < ls.length := by omega
      have eL2 := k2 L _ nL eL'
      refine ⟨L, _, (m : Nat), m, .int (ls[m] : Nat), rfl, rfl, eL2, by omega, by omega, by rw [List.length_map]; exact seqIndex_of (by omega) (by omega), by rw [List.getElem?_map, List.getElem?_eq_getElem hm]; rfl, ?_⟩
      have eD2 := k2 D _ nD eD
      have nh := nL
      refine ⟨_, by rw [upd_ne nLD.symm]; exact eD2, szl (by rw [List.length_map]; omega), gs ++ [ls[m]], ls.eraseIdx m, by rw [List.length_append, lg]; rfl, ?_, by rw [upd_same, List.map_append]; rfl, ?_, ?_, ?_⟩
      · rw [List.append_assoc]
        exact (List.Perm.append_left gs (erase_perm ls m hm)).trans pm
      · rw [upd_ne nLD, upd_same]
        congr 2
        exact erase_map _ _ _
      · exact Keep.new (Keep.new (Keep.trans kk k2) fL) (Same.free s1 fD)
      · exact (hh2.put nL).put nD
    · obtain ⟨gs, ls, lg, pm, eD, eL', kk, hh'⟩ := hP
      have lsum := pm.length_eq
      rw [List.length_append, List.length_range] at lsum
      have e0 : ls = [] := List.eq_nil_of_length_eq_zero (by omega)
      subst e0
      rw [List.append_nil] at pm
      exact q H' D gs kk hh' (Same.free s1 fD) eD pm
/-- each place but the first has a tie with one ahead of it -/
def Grown (ts : List Tie) : Prop := ∀ i t, ts[i]? = some t → t.2.1 = i + 1 ∧ t.1 ≤ i ∧ Ltr t.2.2
theorem grown_joined {w0 w : Web} {qs : List Nat} (oo : Ord qs w0.1.length) (N : Named w0 qs w) (W : WOk w) (len : w0.2.length + 1 = w0.1.length) (G : Grown w0.2) : Joined w := by
  have far : ∀ p, p < w0.1.length → Rch w.2 (qa qs 0) (qa qs p) := fun p => by
    induction p using Nat.strongRecOn with
    | ind p ih =>
      intro hp
      match p, ih, hp with
      | 0, _, _ => exact .base
      | m + 1, ih, hp =>
        have lm : m < w0.2.length := by omega
        have gt := List.getElem?_eq_getElem lm
        obtain ⟨g1, g2, _⟩ := G m _ gt
        refine (ih (w0.2[m]).1 (by omega) (by omega)).step (q := qa qs (m + 1)) ?_
        rw [mem_nb W]
        refine ⟨mapTie qs w0.2[m], N.ties.mem_iff.mpr (List.mem_map.mpr ⟨_, List.getElem_mem lm, rfl⟩), ?_⟩
        unfold mapTie
        rw [at2_iff, g1]
        dsimp only
        omega
  intro a b ha hb
  rw [N.len] at ha hb
  obtain ⟨p, hp, rfl⟩ := oo.onto ha
  obtain ⟨r, hr, rfl⟩ := oo.onto hb
  exact ((far p hp).symm W).trans (far r hr)
theorem grown_loose {w0 : Web} (few : w0.1.length ≤ 40) (kinds : ∀ c ∈ w0.1, Ltr c) (len : w0.2.length + 1 = w0.1.length) (G : Grown w0.2) : Loose w0 := by
  refine ⟨few, by omega, kinds, ?_, fun t ht => ?_⟩
  · rw [List.pairwise_iff_getElem]
    intro i j hi hj lt e
    have g1 := (G i _ (List.getElem?_eq_getElem hi)).1
    have g2 := (G j _ (List.getElem?_eq_getElem hj)).1
    have := congrArg (·.2) e
    unfold ends at this
    dsimp only at this
    omega
  · obtain ⟨i, hi, rfl⟩ := List.getElem_of_mem ht
    obtain ⟨g1, g2, g3⟩ := G i _ (List.getElem?_eq_getElem hi)
    exact ⟨by omega, by omega, g3⟩
/-- a tree that grows place by place -/
def spTree (K : PySem.W.Frag) : Sp := fun vs H Q _ => ∃ (h : Addr) (n f s : Int), vs = [.ref h, .int n, .int f, .int s] ∧ 1 ≤ n ∧ n ≤ 40 ∧ 0 < f ∧ f ≤ 26 ∧ 0 < s ∧ s ≤ 26 ∧ Pot H h ∧
  ∀ H' v w, Keep h H H' → Pot H' h → WebAt K H' v w → WOk w → w.1.length = n.toNat → w.2.length + 1 = w.1.length → Joined w → Q v H'
theorem ok_tree (T : Tx K mg) : FnOk P w K mg base CX0 4 T.tree.f T.tree.fd ["pot", "many", "few", "some"] (spTree K) := by
  refine T.tree.F.ok sc_tree (fun vs H Q E h => ?_) (fun cdv A outer s H vs Q E hr h => ?_)
  · obtain ⟨_, _, _, _, rfl, _⟩ := h; rfl
  · obtain ⟨h, n, f, s, rfl, n1, n40, f0, f26, s0, s26, hp, q⟩ := h
    refine ⟨_, (pss_cons (ps_set (i := 4) sc_tree.nd rfl (.inl rfl) (pe_call (ok_take T) (hr.mono (by decide)) (by rfl) T.take.g T.take.F.kp T.take.b .nil pass0 (pa_cons (pv 0) (pa_cons pe_int pa_nil))))
      (pss_cons (ps_setLc (i := 5) (own := [("place", 7)]) (g := gName 7) (tt := tYes) rfl sc_tree.nd rfl rfl (sw_true rfl rfl rfl (by decide +kernel)) (pi_range1 (by rfl) T.m_range (pa_cons (pv 1) pa_nil)) (blkOk_by (N := ["pot", "many", "few", "some", "shape", "kinds", "ties", "place", "ahead"]) (sc := defScope s_tree) (by decide +kernel)) (fun _ _ _ _ _ => (pg_name (i := 7) sc_tree.nd rfl (.inl rfl))) (fun _ _ _ _ _ => pts_nil) (fun _ _ _ _ _ => (pe_call (ok_letter T) (hr.mono (by decide)) (by rfl) T.letter.g T.letter.F.kp T.letter.b .nil pass0 (pa_cons (pv 0) (pa_cons (pv 2) pa_nil)))))
      (pss_cons (ps_set (i := 6) sc_tree.nd rfl (.inl rfl) (pe_lst pa_nil))
      (pss_cons (ps_for PassesOwn.never rfl (pi_range2 (by rfl) T.m_range (pa_cons pe_int (pa_cons (pv 1) pa_nil))) (pg_name (i := 7) sc_tree.nd rfl (.inl rfl))
        (pss_cons (ps_set (i := 8) sc_tree.nd rfl (.inl rfl) (pe_ix ix_list (pe_lst (pa_cons (pe_call (ok_take T) (hr.mono (by decide)) (by rfl) T.take.g T.take.F.kp T.take.b .nil pass0 (pa_cons (pv 0) (pa_cons (pv 7) pa_nil))) (pa_cons (pe_op op_sub (pv 7) pe_int) (pa_cons pe_int (pa_cons (pe_callB (call_max2 rfl) (by rfl) T.m_max (by decide +kernel) (pa_cons pe_int (pa_cons (pe_op op_sub (pe_op op_sub (pv 7) pe_int) (pe_call (ok_take T) (hr.mono (by decide)) (by rfl) T.take.g T.take.F.kp T.take.b .nil pass0 (pa_cons (pv 0) (pa_cons pe_int pa_nil)))) pa_nil))) pa_nil))))) (pv 4) (fun _ _ => rfl)))
        (pss_one (ps_expr (pe_bm PySem.F.plainAttrs_list PySem.F.slot_list_append PySem.F.type_list_append mt_append (pv 6) (pa_cons (pe_tup (pa_cons (pv 8) (pa_cons (pv 7) (pa_cons (pe_call (ok_letter T) (hr.mono (by decide)) (by rfl) T.letter.g T.letter.F.kp T.letter.b .nil pass0 (pa_cons (pv 0) (pa_cons (pv 3) pa_nil))) pa_nil)))) pa_nil))))))
      (pss_one (ps_ret (pe_call (ok_web T) (hr.mono (by decide)) (by rfl) T.web.g T.web.F.kp T.web.b .nil pass0 (pa_cons (pv 5) (pa_cons (pv 6) (pa_cons (pe_call (ok_order T) (hr.mono (by decide)) (by rfl) T.order.g T.order.F.kp T.order.b .nil pass0 (pa_cons (pv 0) (pa_cons (pv 1) pa_nil))) pa_nil)))))))))), ?_⟩
    walk_at "rd"
    refine ⟨h, 4, rfl, by decide, by decide, hp, fun H1 sh k1 hp1 sh0 sh4 => ?_⟩
    walk_at "rd"
    intro D fD
    have nD := hp1.ne fD
    refine lc_range (fun i H' => ∃ cs : List Nat, cs.length = i ∧ (∀ c ∈ cs, Ltr c) ∧ H' D = some (.lst (cs.map fun c => V.str (sg c))) ∧ Keep h H1 H' ∧ Pot H' h)
      ⟨[], rfl, by simp, upd_same, Same.keep (same_new fD), hp1.put nD⟩ (fun i H' hi hP => ?_) (fun H' hP => ?_)
    · obtain ⟨cs, lc, bc, eD, kk, hp'⟩ := hP
      walk_at "rd"
      refine ⟨h, f, rfl, f0, f26, hp', fun H2 c k2 hp2 hc => ?_⟩
      refine ⟨_, k2 _ _ nD eD, szl (by rw [List.length_map]; omega), cs ++ [c], by rw [List.length_append, lc]; rfl, fun y hy => ?_, by rw [upd_same, List.map_append]; rfl, Keep.new (Keep.trans kk k2) fD, hp2.put nD⟩
      rcases List.mem_append.mp hy with hy | hy
      · exact bc y hy
      · rw [List.mem_singleton.mp hy]; exact hc
    obtain ⟨cs, lc, bc, eD, kk, hp'⟩ := hP
    have k1D := Keep.trans k1 kk
    walk_at "rd"
    refine ⟨sz (by decide), fun L fL => ?_⟩
    have nL := hp'.ne fL
    have nDL : D ≠ L := ne_of_none eD fL
    walk_at "rd"
    refine for_range (fun j σ H2 => ∃ y7 y8 ts tvs, σ = [some (.ref h), some (.int n), some (.int f), some (.int s), some (.int sh), some (.ref D), some (.ref L), y7, y8] ∧ H2 L = some (.lst tvs) ∧ Ties K H2 tvs ts ∧ ts.length = j ∧ Grown ts ∧ Keep h H' H2 ∧ Pot H2 h)
      ⟨_, _, [], [], rfl, upd_same, .nil, rfl, fun i t ht => by simp at ht, Same.keep (same_new fL), hp'.put nL⟩ (fun j σ H2 hj hP => ?_) (fun σ H2 hP => ?_)
    · obtain ⟨y7, y8, ts, tvs, rfl, eL, pT, lts, G, k2, hp2⟩ := hP
      have hj' : j < 40 := by omega
      walk_at "rd"
      refine ⟨h, 1 + (j : Nat), rfl, by omega, by omega, hp2, fun H3 g k3 hp3 g0 g1 => ?_⟩
      walk_at "rd"
      refine ⟨h, 3, rfl, by decide, by decide, hp3, fun H4 g' k4 hp4 a0 a1 => ?_⟩
      walk_at "rd"
      refine ⟨_, _, rfl, ?_⟩
      walk_at "rd"
      refine ⟨sz (by show 4 ≤ 100000; decide), fun p4 f4 => ?_⟩
      walk_at "rd"
      have np4 := hp4.ne f4
      obtain ⟨x, hx, lx⟩ : ∃ x : Nat, atI [V.int g, V.int (1 + (j : Int) - 1), V.int 0, V.int (if 1 + (j : Int) - 1 - g' > 0 then 1 + (j : Int) - 1 - g' else 0)] sh = some (.int (x : Nat)) ∧ x ≤ j := by
        have e : sh = 0 ∨ sh = 1 ∨ sh = 2 ∨ sh = 3 := by omega
        rcases e with rfl | rfl | rfl | rfl
        · exact ⟨g.toNat, by rw [show ((g.toNat : Nat) : Int) = g by omega]; rfl, by omega⟩
        · exact ⟨j, by show some (V.int (1 + (j : Int) - 1)) = _; rw [show 1 + (j : Int) - 1 = (j : Int) by omega], Nat.le_refl _⟩
        · exact ⟨0, rfl, by omega⟩
        · by_cases c : 1 + (j : Int) - 1 - g' > 0
          · exact ⟨(1 + (j : Int) - 1 - g').toNat, by rw [if_pos c, show (((1 + (j : Int) - 1 - g').toNat : Nat) : Int) = 1 + (j : Int) - 1 - g' by omega]; rfl, by omega⟩
          · exact ⟨0, by rw [if_neg c]; rfl, by omega⟩
      refine d_ixLm upd_same hx ?_
      have k24 := Keep.trans k3 k4
      have k5 : Keep h H2 (upd H4 p4 (.lst [V.int g, V.int (1 + (j : Int) - 1), V.int 0, V.int (if 1 + (j : Int) - 1 - g' > 0 then 1 + (j : Int) - 1 - g' else 0)])) := Keep.trans k24 (Same.keep (same_new f4))
      have hp5 := hp4.put (o := .lst [V.int g, V.int (1 + (j : Int) - 1), V.int 0, V.int (if 1 + (j : Int) - 1 - g' > 0 then 1 + (j : Int) - 1 - g' else 0)]) np4
      generalize upd H4 p4 _ = H5 at k5 hp5 ⊢
      have eL5 := k5 _ _ nL eL
      walk_at "rd"
      refine d_app eL5 ?_
      walk_at "rd"
      refine ⟨h, s, rfl, s0, s26, hp5, fun H6 c k6 hp6 hc => ?_⟩
      walk_at "rd"
      refine ⟨sz (by show 3 ≤ 100000; decide), fun p6 f6 => ?_⟩
      have eL6 := k6 _ _ nL eL5
      have np6 := hp6.ne f6
      obtain ⟨ys2, el2⟩ := hp2.lst
      have pT6 : Ties K H6 tvs ts := pT.keep (Keep.trans k5 k6) el2
      walk_at "rd"
      have ltv := pT.len
      refine d_append (at_upd eL6 f6) (szl (by omega)) ?_
      refine ⟨_, _, ts ++ [(x, j + 1, c)], tvs ++ [.ref p6], rfl, upd_same, ?_, by rw [List.length_append, lts]; rfl, fun i t ht => ?_, ?_, (hp6.put np6).put nL⟩
      · have z := pT6.more (t := (x, j + 1, c)) (l := L) (zs := tvs ++ [.ref p6]) eL6 f6
        rw [show ((j + 1 : Nat) : Int) = 1 + (j : Int) by omega] at z
        exact z
      · by_cases ci : i < ts.length
        · rw [List.getElem?_append_left ci] at ht
          exact G i t ht
        · rw [List.getElem?_append_right (by omega)] at ht
          have : i - ts.length = 0 := by
            have := (List.getElem?_eq_some_iff.mp ht).1
            simp at this; omega
          rw [this] at ht
          have ht : (x, j + 1, c) = t := Option.some.inj ht
          subst ht
          exact ⟨by show j + 1 = i + 1; omega, by show x ≤ i; omega, hc⟩
      · exact Keep.new (Keep.new (Keep.trans k2 (Keep.trans k5 k6)) (Keep.free (Keep.trans k2 (Keep.trans k5 k6)) np6 f6)) fL
    · obtain ⟨y7, y8, ts, tvs, rfl, eL, pT, lts, G, k2, hp2⟩ := hP
      walk_at "rd"
      refine ⟨h, n, rfl, by omega, by omega, hp2, fun H3 o qs k3 hp3 fo eo pm => ?_⟩
      walk_at "rd"
      obtain ⟨ys2, el2⟩ := hp2.lst
      have ln : ts.length + 1 = cs.length := by rw [lts, lc]; omega
      have oo : Ord qs cs.length := by rw [lc]; exact Ord.of pm
      have LW : Loose (cs, ts) := grown_loose (w0 := (cs, ts)) (by show cs.length ≤ 40; omega) bc ln G
      refine ⟨D, L, o, (cs, ts), tvs, qs, rfl, k3 _ _ nD (k2 _ _ nD eD), k3 _ _ nL eL, pT.keep k3 el2, LW, eo, oo, fun H4 v w' s4 wa W N => ?_⟩
      refine q H4 v w' (Keep.same (Keep.trans k1D (Keep.trans k2 k3)) s4) (hp3.same s4) wa W (by rw [N.len]; exact lc) ?_ (grown_joined (w0 := (cs, ts)) oo N W ln G)
      rw [N.ties.length_eq, List.length_map, N.len]
      exact ln
/-- the keys of a dict, whole numbers, in their order -/
def KL (kvs : List (Key × V)) (ms : List Nat) : Prop := kvs.map (·.1) = ms.map fun q : Nat => (.inl (q : Int) : Key)
theorem KL.len {kvs : List (Key × V)} {ms : List Nat} (x : KL kvs ms) : kvs.length = ms.length := by
  have := congrArg List.length x
  rw [List.length_map, List.length_map] at this
  exact this
theorem KL.mem {kvs : List (Key × V)} {ms : List Nat} (x : KL kvs ms) (q : Nat) : (kvs.any fun kv => decide (kv.1 = (.inl (q : Int) : Key))) = decide (q ∈ ms) := by
  rw [Bool.eq_iff_iff, List.any_eq_true, decide_eq_true_iff]
  constructor
  · rintro ⟨kv, hk, e⟩
    rw [decide_eq_true_iff] at e
    have m : kv.1 ∈ kvs.map (·.1) := List.mem_map.mpr ⟨kv, hk, rfl⟩
    rw [show kvs.map (·.1) = _ from x] at m
    obtain ⟨y, hy, ey⟩ := List.mem_map.mp m
    rw [e] at ey
    have := Sum.inl.inj ey
    have : y = q := by omega
    exact this ▸ hy
  · intro h
    have m : (.inl (q : Int) : Key) ∈ kvs.map (·.1) := by rw [show kvs.map (·.1) = _ from x]; exact List.mem_map.mpr ⟨q, h, rfl⟩
    obtain ⟨kv, hk, e⟩ := List.mem_map.mp m
    exact ⟨kv, hk, decide_eq_true e⟩
theorem KL.has {kvs : List (Key × V)} {ms : List Nat} (x : KL kvs ms) (q : Nat) : (valV kvs (.inl (q : Int) : Key)).isSome = decide (q ∈ ms) := by
  rw [← x.mem q]
  unfold valV
  rw [Option.isSome_map, Bool.eq_iff_iff, List.find?_isSome, List.any_eq_true]
theorem KL.put {kvs : List (Key × V)} {ms : List Nat} (x : KL kvs ms) {q : Nat} (n : q ∉ ms) (v : V) : KL (putK kvs (.inl (q : Int) : Key) v) (ms ++ [q]) := by
  unfold putK
  rw [x.mem q, decide_eq_false n, if_neg (by decide)]
  unfold KL
  rw [List.map_append, List.map_append, show kvs.map (·.1) = _ from x]
  rfl
theorem KL.at_ {kvs : List (Key × V)} {ms : List Nat} (x : KL kvs ms) {i : Nat} {k : Key} {v : V} (h : kvs[i]? = some (k, v)) : ∃ q : Nat, ms[i]? = some q ∧ k = .inl (q : Int) := by
  have m : (kvs.map (·.1))[i]? = some k := by rw [List.getElem?_map, h]; rfl
  rw [show kvs.map (·.1) = _ from x, List.getElem?_map] at m
  obtain ⟨q, hq, e⟩ := Option.map_eq_some_iff.mp m
  exact ⟨q, hq, e.symm⟩
theorem nb_new {w : Web} (W : WOk w) {i : Nat} {t : Tie} (ht : w.2[i]? = some t) : t.2.1 ∉ nb (w.2.take i) t.1 ∧ t.1 ∉ nb (w.2.take i) t.2.1 := by
  have et := W.ends t (List.mem_of_getElem? ht)
  have r : ∀ p, (nb (w.2.take (i + 1)) p).Pairwise (· < ·) := fun p => nb_rise (W.rise.sublist (List.take_sublist _ _)) (fun s hs => (W.ends s (List.mem_of_mem_take hs)).1) p
  rw [take_snoc ht] at r
  constructor
  · intro h
    have z := r t.1
    rw [nb_snoc, if_pos rfl] at z
    have := (List.pairwise_append.mp z).2.2 _ h _ (List.mem_singleton.mpr rfl)
    omega
  · intro h
    have z := r t.2.1
    rw [nb_snoc, if_neg (by omega), if_pos rfl] at z
    have := (List.pairwise_append.mp z).2.2 _ h _ (List.mem_singleton.mpr rfl)
    omega
/-- for each place the dict of its neighbours -/
def DnAt (H : Hp) (D : Addr) (u : Web) : Prop := ∃ as : List Addr, H D = some (.lst (as.map V.ref)) ∧ as.length = u.1.length ∧ ∀ (j : Nat) (a : Addr), as[j]? = some a → ∃ kvs, H a = some (.dK kvs) ∧ KL kvs (nb u.2 j)
def spLawN (K : PySem.W.Frag) : Sp := fun vs H Q _ => ∃ v w, vs = [v] ∧ WebAt K H v w ∧ WOk w ∧ ∀ H' (D : Addr), Same H H' → H D = none → DnAt H' D w → Q (.ref D) H'
theorem ok_neighbours (T : Tx K mg) : FnOk P w K mg base CX0 1 T.neighbours.f T.neighbours.fd ["web"] (spLawN K) := by
  refine T.neighbours.F.ok sc_neighbours (fun vs H Q E h => ?_) (fun cdv A outer s H vs Q E hr h => ?_)
  · obtain ⟨v, w, rfl, _⟩ := h; rfl
  · obtain ⟨v, w, rfl, ⟨a, b, tvs, rfl, q1, q2, pT⟩, W, q⟩ := h
    have lt : tvs.length = w.2.length := Paired.length pT
    have l16 := W.most
    have l40 := W.few
    refine ⟨_, (pss_cons (ps_setLc (i := 1) (own := [("kind", 4)]) (g := gName 4) (tt := tYes) rfl sc_neighbours.nd rfl rfl (sw_true rfl rfl rfl (by decide +kernel)) (pi_str (pe_ix ix_tup (pv 0) pe_int (fun _ _ => rfl))) (blkOk_by (N := ["web", "found", "place", "beside", "kind"]) (sc := defScope s_neighbours) (by decide +kernel)) (fun _ _ _ _ _ => (pg_name (i := 4) sc_neighbours.nd rfl (.inl rfl))) (fun _ _ _ _ _ => pts_nil) (fun _ _ _ _ _ => pe_dnewK))
      (pss_cons (ps_for PassesOwn.never rfl (pi_tup (pe_ix ix_tup (pv 0) pe_int (fun _ _ => rfl))) (pg_tup rfl (pgs_cons (pg_name (i := 2) sc_neighbours.nd rfl (.inl rfl)) (pgs_cons (pg_name (i := 3) sc_neighbours.nd rfl (.inl rfl)) (pgs_cons (pg_name (i := 4) sc_neighbours.nd rfl (.inl rfl)) pgs_nil))))
        (pss_cons (ps_dput (hu_of hr) (pe_ix ix_list (pv 1) (pv 2) (fun _ _ => rfl)) (pv 3) (pv 4) rfl)
        (pss_one (ps_dput (hu_of hr) (pe_ix ix_list (pv 1) (pv 3) (fun _ _ => rfl)) (pv 2) (pv 4) rfl))))
      (pss_one (ps_ret (pv 1))))), ?_⟩
    walk_at "rd"
    refine d_ixT q1 rfl ?_
    walk_at "rd"
    intro D fD
    refine lc_it (walk_str (z := ⟨w.1.toArray⟩)) (fun i H1 => ∃ as : List Addr, as.length = i ∧ as.Nodup ∧ D ∉ as ∧ H1 D = some (.lst (as.map V.ref)) ∧ (∀ a ∈ as, H a = none) ∧ (∀ a ∈ as, H1 a = some (.dK [])) ∧ Same H H1)
      ⟨[], rfl, .nil, by simp, upd_same, by simp, by simp, same_new fD⟩ (fun _ _ _ _ => trivial) (fun i x H0 H1 hi hP hy => ?_) (fun H1 hP => ?_)
    · obtain ⟨as, la, nd, nD, eD, fa, ea, sm⟩ := hP
      obtain ⟨rfl, c, hc, rfl⟩ := hy
      have hi' : i < 40 := by
        have : i < w.1.length := by simpa using hi
        omega
      walk_at "rd"
      intro p fp
      have pD : p ≠ D := fun z => by rw [z, eD] at fp; cases fp
      have pas : p ∉ as := fun z => by rw [ea p z] at fp; cases fp
      refine ⟨_, at_upd eD fp, szl (by rw [List.length_map]; omega), as ++ [p], by rw [List.length_append, la]; rfl, ?_, ?_, ?_, ?_, ?_, ?_⟩
      · exact List.nodup_append.mpr ⟨nd, by simp, fun x hx y hy => by rw [List.mem_singleton.mp hy]; exact fun z => pas (z ▸ hx)⟩
      · intro z
        rcases List.mem_append.mp z with z | z
        · exact nD z
        · exact pD (List.mem_singleton.mp z).symm
      · rw [upd_same, List.map_append]; rfl
      · intro x hx
        rcases List.mem_append.mp hx with hx | hx
        · exact fa x hx
        · rw [List.mem_singleton.mp hx]; exact Same.free sm fp
      · intro x hx
        have xD : x ≠ D := fun z => by
          rcases List.mem_append.mp hx with hx | hx
          · exact nD (z ▸ hx)
          · exact pD ((List.mem_singleton.mp hx).symm.trans z)
        rw [upd_ne xD]
        rcases List.mem_append.mp hx with hx | hx
        · exact at_upd (ea x hx) fp
        · rw [List.mem_singleton.mp hx, upd_same]
      · exact same_upd (same_upd sm (Same.free sm fp)) fD
    obtain ⟨as, la, nd, nD, eD, fa, ea, sm⟩ := hP
    have la' : as.length = w.1.length := by simpa using la
    walk_at "rd"
    refine d_ixT (Same.sqt sm q1) rfl ?_
    refine d_iTe (Same.sqt sm q2) ?_
    refine for_it (walk_tup (xs := tvs)) (fun i σ H2 => ∃ y2 y3 y4, σ = [some (.ref a), some (.ref D), y2, y3, y4] ∧ H2 D = some (.lst (as.map V.ref)) ∧ Same H H2 ∧ ∀ (j : Nat) (x : Addr), as[j]? = some x → ∃ kvs, H2 x = some (.dK kvs) ∧ KL kvs (nb (w.2.take i) j))
      ⟨_, _, _, rfl, eD, sm, fun j x hx => ⟨[], ea x (List.mem_of_getElem? hx), rfl⟩⟩ (fun i σ H2 hi hP => ?_) (fun i x σ H0 H2 hi hP hy => ?_) (fun σ H2 hP => ?_)
    · obtain ⟨_, _, _, _, _, sm2, _⟩ := hP
      exact Same.sqt sm2 q2
    · obtain ⟨y2, y3, y4, rfl, eD2, sm2, hN⟩ := hP
      obtain ⟨rfl, hx⟩ := hy
      obtain ⟨t, ht, a', rfl, qt⟩ := Paired.at pT hx
      have et := W.ends t (List.mem_of_getElem? ht)
      have lti : (w.2.take i).length ≤ 1600 := Nat.le_trans (List.length_take_le _ _) (by omega)
      obtain ⟨new1, new2⟩ := nb_new W ht
      refine d_gtup (Same.sqt sm2 qt) rfl ?_
      walk_at "rd"
      have h1 : t.1 < as.length := by omega
      have h2 : t.2.1 < as.length := by omega
      have g1 : as[t.1]? = some as[t.1] := List.getElem?_eq_getElem h1
      have g2 : as[t.2.1]? = some as[t.2.1] := List.getElem?_eq_getElem h2
      have n12 : as[t.1] ≠ as[t.2.1] := fun z => by
        have := (List.getElem_inj nd).mp z
        omega
      have nd1 : as[t.1] ≠ D := fun z => nD (z ▸ List.getElem_mem h1)
      have nd2 : as[t.2.1] ≠ D := fun z => nD (z ▸ List.getElem_mem h2)
      refine d_ixLm eD2 (atI_nat (by rw [List.getElem?_map, g1]; rfl)) ?_
      obtain ⟨kv1, e1, l1⟩ := hN _ _ g1
      obtain ⟨kv2, e2, l2⟩ := hN _ _ g2
      have b1 := nb_len (w.2.take i) t.1
      have b2 := nb_len (w.2.take i) t.2.1
      have ll1 := l1.len
      have ll2 := l2.len
      walk_at "rd"
      refine ⟨as[t.1], _, rfl, DPut.k (k := .inl (t.2.1 : Int)) e1 (szl (by omega)), ?_⟩
      walk_at "rd"
      refine d_ixLm (by rw [upd_ne nd1.symm]; exact eD2) (atI_nat (by rw [List.getElem?_map, g2]; rfl)) ?_
      walk_at "rd"
      have e2' : (upd H2 as[t.1] (.dK (putK kv1 (.inl (t.2.1 : Int)) (.str (sg t.2.2))))) as[t.2.1] = some (.dK kv2) := by rw [upd_ne n12.symm]; exact e2
      refine ⟨as[t.2.1], _, rfl, DPut.k (k := .inl (t.1 : Int)) e2' (szl (by omega)), ?_⟩
      refine ⟨_, _, _, rfl, by rw [upd_ne nd2.symm, upd_ne nd1.symm]; exact eD2, same_upd (same_upd sm2 (fa _ (List.getElem_mem h1))) (fa _ (List.getElem_mem h2)), fun j x hx => ?_⟩
      rw [take_snoc ht, nb_snoc]
      have inj : ∀ {m : Nat} (hm : m < as.length), x = as[m] → j = m := fun {m} hm z => by
        obtain ⟨hj, ej⟩ := List.getElem?_eq_some_iff.mp hx
        exact (List.getElem_inj nd).mp (ej.trans z)
      by_cases c2 : x = as[t.2.1]
      · have := inj h2 c2
        subst this
        rw [c2, upd_same, if_neg (by omega), if_pos rfl]
        exact ⟨_, rfl, l2.put new2 _⟩
      · rw [upd_ne c2]
        by_cases c1 : x = as[t.1]
        · have := inj h1 c1
          subst this
          rw [c1, upd_same, if_pos rfl]
          exact ⟨_, rfl, l1.put new1 _⟩
        · have f1 : ¬ t.1 = j := fun z => c1 (by
            subst z
            exact Option.some.inj (hx.symm.trans g1))
          have f2 : ¬ t.2.1 = j := fun z => c2 (by
            subst z
            exact Option.some.inj (hx.symm.trans g2))
          rw [upd_ne c1, if_neg f1, if_neg f2, List.append_nil]
          exact hN j x hx
    · obtain ⟨y2, y3, y4, rfl, eD2, sm2, hN⟩ := hP
      walk_at "rd"
      rw [lt, List.take_length] at hN
      exact q H2 D sm2 fD ⟨as, eD2, la', hN⟩
/-- for each place the list of its neighbours -/
def spAllN (K : PySem.W.Frag) : Sp := fun vs H Q _ => ∃ v w, vs = [v] ∧ WebAt K H v w ∧ WOk w ∧ ∀ H' (D : Addr) (as : List Addr), Same H H' → H D = none → H' D = some (.lst (as.map V.ref)) → as.length = w.1.length → as.Nodup → D ∉ as → (∀ a ∈ as, H a = none) →
  (∀ (j : Nat) (a : Addr), as[j]? = some a → H' a = some (.lst ((nb w.2 j).map fun o => V.int (o : Nat)))) → Q (.ref D) H'
theorem ok_all_neighbours (T : Tx K mg) : FnOk P w K mg base CX0 1 T.all_neighbours.f T.all_neighbours.fd ["web"] (spAllN K) := by
  refine T.all_neighbours.F.ok sc_all_neighbours (fun vs H Q E h => ?_) (fun cdv A outer s H vs Q E hr h => ?_)
  · obtain ⟨v, w, rfl, _⟩ := h; rfl
  · obtain ⟨v, w, rfl, ⟨a, b, tvs, rfl, q1, q2, pT⟩, W, q⟩ := h
    have lt : tvs.length = w.2.length := Paired.length pT
    have l16 := W.most
    have l40 := W.few
    refine ⟨_, (pss_cons (ps_setLc (i := 1) (own := [("_", 4)]) (g := gName 4) (tt := tYes) rfl sc_all_neighbours.nd rfl rfl (sw_true rfl rfl rfl (by decide +kernel)) (pi_str (pe_ix ix_tup (pv 0) pe_int (fun _ _ => rfl))) (blkOk_by (N := ["web", "beside", "place", "other", "_"]) (sc := defScope s_all_neighbours) (by decide +kernel)) (fun _ _ _ _ _ => (pg_name (i := 4) sc_all_neighbours.nd rfl (.inl rfl))) (fun _ _ _ _ _ => pts_nil) (fun _ _ _ _ _ => (pe_lst pa_nil)))
      (pss_cons (ps_for PassesOwn.never rfl (pi_tup (pe_ix ix_tup (pv 0) pe_int (fun _ _ => rfl))) (pg_tup rfl (pgs_cons (pg_name (i := 2) sc_all_neighbours.nd rfl (.inl rfl)) (pgs_cons (pg_name (i := 3) sc_all_neighbours.nd rfl (.inl rfl)) (pgs_cons (pg_name (i := 4) sc_all_neighbours.nd rfl (.inl rfl)) pgs_nil))))
        (pss_cons (ps_expr (pe_bm PySem.F.plainAttrs_list PySem.F.slot_list_append PySem.F.type_list_append mt_append (pe_ix ix_list (pv 1) (pv 2) (fun _ _ => rfl)) (pa_cons (pv 3) pa_nil)))
        (pss_one (ps_expr (pe_bm PySem.F.plainAttrs_list PySem.F.slot_list_append PySem.F.type_list_append mt_append (pe_ix ix_list (pv 1) (pv 3) (fun _ _ => rfl)) (pa_cons (pv 2) pa_nil))))))
      (pss_one (ps_ret (pv 1))))), ?_⟩
    walk_at "rd"
    refine d_ixT q1 rfl ?_
    walk_at "rd"
    intro D fD
    refine lc_it (walk_str (z := ⟨w.1.toArray⟩)) (fun i H1 => ∃ as : List Addr, as.length = i ∧ as.Nodup ∧ D ∉ as ∧ H1 D = some (.lst (as.map V.ref)) ∧ (∀ a ∈ as, H a = none) ∧ (∀ a ∈ as, H1 a = some (.lst [])) ∧ Same H H1)
      ⟨[], rfl, .nil, by simp, upd_same, by simp, by simp, same_new fD⟩ (fun _ _ _ _ => trivial) (fun i x H0 H1 hi hP hy => ?_) (fun H1 hP => ?_)
    · obtain ⟨as, la, nd, nD, eD, fa, ea, sm⟩ := hP
      obtain ⟨rfl, c, hc, rfl⟩ := hy
      have hi' : i < 40 := by
        have : i < w.1.length := by simpa using hi
        omega
      walk_at "rd"
      refine ⟨sz (by decide), fun p fp => ?_⟩
      have pD : p ≠ D := fun z => by rw [z, eD] at fp; cases fp
      have pas : p ∉ as := fun z => by rw [ea p z] at fp; cases fp
      refine ⟨_, at_upd eD fp, szl (by rw [List.length_map]; omega), as ++ [p], by rw [List.length_append, la]; rfl, ?_, ?_, ?_, ?_, ?_, ?_⟩
      · exact List.nodup_append.mpr ⟨nd, by simp, fun x hx y hy => by rw [List.mem_singleton.mp hy]; exact fun z => pas (z ▸ hx)⟩
      · intro z
        rcases List.mem_append.mp z with z | z
        · exact nD z
        · exact pD (List.mem_singleton.mp z).symm
      · rw [upd_same, List.map_append]; rfl
      · intro x hx
        rcases List.mem_append.mp hx with hx | hx
        · exact fa x hx
        · rw [List.mem_singleton.mp hx]; exact Same.free sm fp
      · intro x hx
        have xD : x ≠ D := fun z => by
          rcases List.mem_append.mp hx with hx | hx
          · exact nD (z ▸ hx)
          · exact pD ((List.mem_singleton.mp hx).symm.trans z)
        rw [upd_ne xD]
        rcases List.mem_append.mp hx with hx | hx
        · exact at_upd (ea x hx) fp
        · rw [List.mem_singleton.mp hx, upd_same]
      · exact same_upd (same_upd sm (Same.free sm fp)) fD
    obtain ⟨as, la, nd, nD, eD, fa, ea, sm⟩ := hP
    have la' : as.length = w.1.length := by simpa using la
    walk_at "rd"
    refine d_ixT (Same.sqt sm q1) rfl ?_
    refine d_iTe (Same.sqt sm q2) ?_
    refine for_it (walk_tup (xs := tvs)) (fun i σ H2 => ∃ y2 y3 y4, σ = [some (.ref a), some (.ref D), y2, y3, y4] ∧ H2 D = some (.lst (as.map V.ref)) ∧ Same H H2 ∧ ∀ (j : Nat) (x : Addr), as[j]? = some x → H2 x = some (.lst ((nb (w.2.take i) j).map fun o => V.int (o : Nat))))
      ⟨_, _, _, rfl, eD, sm, fun j x hx => ea x (List.mem_of_getElem? hx)⟩ (fun i σ H2 hi hP => ?_) (fun i x σ H0 H2 hi hP hy => ?_) (fun σ H2 hP => ?_)
    · obtain ⟨_, _, _, _, _, sm2, _⟩ := hP
      exact Same.sqt sm2 q2
    · obtain ⟨y2, y3, y4, rfl, eD2, sm2, hN⟩ := hP
      obtain ⟨rfl, hx⟩ := hy
      obtain ⟨t, ht, a', rfl, qt⟩ := Paired.at pT hx
      have et := W.ends t (List.mem_of_getElem? ht)
      have lti : (w.2.take i).length ≤ 1600 := Nat.le_trans (List.length_take_le _ _) (by omega)
      refine d_gtup (Same.sqt sm2 qt) rfl ?_
      walk_at "rd"
      have h1 : t.1 < as.length := by omega
      have h2 : t.2.1 < as.length := by omega
      have g1 : as[t.1]? = some as[t.1] := List.getElem?_eq_getElem h1
      have g2 : as[t.2.1]? = some as[t.2.1] := List.getElem?_eq_getElem h2
      have n12 : as[t.1] ≠ as[t.2.1] := fun z => by
        have := (List.getElem_inj nd).mp z
        omega
      have nd1 : as[t.1] ≠ D := fun z => nD (z ▸ List.getElem_mem h1)
      have nd2 : as[t.2.1] ≠ D := fun z => nD (z ▸ List.getElem_mem h2)
      refine d_ixLm eD2 (atI_nat (by rw [List.getElem?_map, g1]; rfl)) ?_
      have e1 := hN _ _ g1
      refine d_app e1 ?_
      walk_at "rd"
      have b1 := nb_len (w.2.take i) t.1
      have b2 := nb_len (w.2.take i) t.2.1
      refine d_append e1 (szl (by rw [List.length_map]; omega)) ?_
      walk_at "rd"
      refine d_ixLm (by rw [upd_ne nd1.symm]; exact eD2) (atI_nat (by rw [List.getElem?_map, g2]; rfl)) ?_
      have e2 := hN _ _ g2
      have e2' : (upd H2 as[t.1] (.lst (((nb (w.2.take i) t.1).map fun o => V.int (o : Nat)) ++ [V.int (t.2.1 : Nat)]))) as[t.2.1] = some (.lst ((nb (w.2.take i) t.2.1).map fun o => V.int (o : Nat))) := by rw [upd_ne n12.symm]; exact e2
      refine d_app e2' ?_
      walk_at "rd"
      refine d_append e2' (szl (by rw [List.length_map]; omega)) ?_
      refine ⟨_, _, _, rfl, by rw [upd_ne nd2.symm, upd_ne nd1.symm]; exact eD2, same_upd (same_upd sm2 (fa _ (List.getElem_mem h1))) (fa _ (List.getElem_mem h2)), fun j x hx => ?_⟩
      rw [take_snoc ht, nb_snoc]
      have inj : ∀ {m : Nat} (hm : m < as.length), x = as[m] → j = m := fun {m} hm z => by
        obtain ⟨hj, ej⟩ := List.getElem?_eq_some_iff.mp hx
        exact (List.getElem_inj nd).mp (ej.trans z)
      by_cases c2 : x = as[t.2.1]
      · have := inj h2 c2
        subst this
        rw [c2, upd_same, if_neg (by omega), if_pos rfl, List.map_append]; rfl
      · rw [upd_ne c2]
        by_cases c1 : x = as[t.1]
        · have := inj h1 c1
          subst this
          rw [c1, upd_same, if_pos rfl, List.map_append]; rfl
        · have f1 : ¬ t.1 = j := fun z => c1 (by
            subst z
            exact Option.some.inj (hx.symm.trans g1))
          have f2 : ¬ t.2.1 = j := fun z => c2 (by
            subst z
            exact Option.some.inj (hx.symm.trans g2))
          rw [upd_ne c1, if_neg f1, if_neg f2, List.append_nil]
          exact hN j x hx
    · obtain ⟨y2, y3, y4, rfl, eD2, sm2, hN⟩ := hP
      walk_at "rd"
      rw [lt, List.take_length] at hN
      exact q _ D as sm2 fD eD2 la' nd nD fa hN
/-- for each place the list of its neighbours, as it lies there -/
def NbAt (H : Hp) (D : Addr) (u : Web) : Prop := ∃ as : List Addr, H D = some (.lst (as.map V.ref)) ∧ as.length = u.1.length ∧ ∀ (j : Nat) (a : Addr), as[j]? = some a → H a = some (.lst (natsV (nb u.2 j)))
theorem NbAt.same {H H' : Hp} {D : Addr} {u : Web} (x : NbAt H D u) (s : Same H H') : NbAt H' D u := by
  obtain ⟨as, e, l, h⟩ := x
  exact ⟨as, s _ _ e, l, fun j a z => s _ _ (h j a z)⟩
def spFrom : Sp := fun vs H Q _ => ∃ (D : Addr) (u : Web) (a : Nat), vs = [.ref D, .int (a : Nat)] ∧ NbAt H D u ∧ WOk u ∧ a < u.1.length ∧ ∀ H' (p : Addr), Same H H' → H p = none → H' p = some (.lst (natsV (partL u a))) → Q (.ref p) H'
/-- what one comes to so far: seen and waiting -/
structure Fr (u : Web) (a : Nat) (ms ws : List Nat) : Prop where
  nd : ms.Nodup
  own : ∀ x ∈ ms, Rch u.2 a x
  start : a ∈ ms
  wait : ∀ x ∈ ws, x ∈ ms
  closed : ∀ x ∈ ms, x ∈ ws ∨ ∀ y ∈ nb u.2 x, y ∈ ms
theorem Fr.len {u : Web} (U : WOk u) {a : Nat} {ms ws : List Nat} (x : Fr u a ms ws) (ha : a < u.1.length) : ms.length ≤ u.1.length := nodup_len _ _ x.nd fun y hy => (x.own y hy).lt U ha
theorem Fr.all {u : Web} {a : Nat} {ms : List Nat} (x : Fr u a ms []) {y : Nat} (h : Rch u.2 a y) : y ∈ ms := by
  induction h with
  | base => exact x.start
  | step _ m ih =>
    rcases x.closed _ ih with z | z
    · cases z
    · exact z _ m
/-- while the neighbours of x are looked at -/
structure Fr2 (u : Web) (a x : Nat) (ms ws : List Nat) (i : Nat) : Prop where
  nd : ms.Nodup
  own : ∀ y ∈ ms, Rch u.2 a y
  start : a ∈ ms
  here : x ∈ ms
  wait : ∀ y ∈ ws, y ∈ ms
  closed : ∀ y ∈ ms, y = x ∨ y ∈ ws ∨ ∀ z ∈ nb u.2 y, z ∈ ms
  done : ∀ z ∈ (nb u.2 x).take i, z ∈ ms
theorem Fr.pop {u : Web} {a x : Nat} {ms ws : List Nat} (F : Fr u a ms (ws ++ [x])) : Fr2 u a x ms ws 0 :=
  ⟨F.nd, F.own, F.start, F.wait x (List.mem_append_right _ (List.mem_singleton.mpr rfl)), fun y hy => F.wait y (List.mem_append_left _ hy), fun y hy => by
    rcases F.closed y hy with z | z
    · rcases List.mem_append.mp z with z | z
      · exact .inr (.inl z)
      · exact .inl (List.mem_singleton.mp z)
    · exact .inr (.inr z), fun z hz => by simp at hz⟩
theorem Fr2.skip {u : Web} {a x z i : Nat} {ms ws : List Nat} (F : Fr2 u a x ms ws i) (hz : (nb u.2 x)[i]? = some z) (h : z ∈ ms) : Fr2 u a x ms ws (i + 1) :=
  ⟨F.nd, F.own, F.start, F.here, F.wait, F.closed, fun y hy => by
    rw [take_snoc hz] at hy
    rcases List.mem_append.mp hy with hy | hy
    · exact F.done y hy
    · rw [List.mem_singleton.mp hy]; exact h⟩
theorem Fr2.add {u : Web} {a x z i : Nat} {ms ws : List Nat} (F : Fr2 u a x ms ws i) (hz : (nb u.2 x)[i]? = some z) (h : z ∉ ms) : Fr2 u a x (ms ++ [z]) (ws ++ [z]) (i + 1) := by
  have l : ∀ {y}, y ∈ ms → y ∈ ms ++ [z] := fun h => List.mem_append_left _ h
  have r : z ∈ ms ++ [z] := List.mem_append_right _ (List.mem_singleton.mpr rfl)
  refine ⟨List.nodup_append.mpr ⟨F.nd, by simp, fun p hp y hy => by rw [List.mem_singleton.mp hy]; exact fun e => h (e ▸ hp)⟩, fun y hy => ?_, l F.start, l F.here, fun y hy => ?_, fun y hy => ?_, fun y hy => ?_⟩
  · rcases List.mem_append.mp hy with hy | hy
    · exact F.own y hy
    · rw [List.mem_singleton.mp hy]; exact (F.own x F.here).step (List.mem_of_getElem? hz)
  · rcases List.mem_append.mp hy with hy | hy
    · exact l (F.wait y hy)
    · rw [List.mem_singleton.mp hy]; exact r
  · rcases List.mem_append.mp hy with hy | hy
    · rcases F.closed y hy with e | e | e
      · exact .inl e
      · exact .inr (.inl (List.mem_append_left _ e))
      · exact .inr (.inr fun q hq => l (e q hq))
    · rw [List.mem_singleton.mp hy]
      exact .inr (.inl (List.mem_append_right _ (List.mem_singleton.mpr rfl)))
  · rw [take_snoc hz] at hy
    rcases List.mem_append.mp hy with hy | hy
    · exact l (F.done y hy)
    · rw [List.mem_singleton.mp hy]; exact r
theorem Fr2.end_ {u : Web} {a x i : Nat} {ms ws : List Nat} (F : Fr2 u a x ms ws i) (h : (nb u.2 x).length ≤ i) : Fr u a ms ws :=
  ⟨F.nd, F.own, F.start, F.wait, fun y hy => by
    rcases F.closed y hy with e | e | e
    · subst e
      exact .inr fun z hz => F.done z (by rw [List.take_of_length_le h]; exact hz)
    · exact .inl e
    · exact .inr e⟩
theorem ok_part_from (T : Tx K mg) : FnOk P w K mg base CX0 1 T.part_from.f T.part_from.fd ["beside", "start"] spFrom := by
  refine funOkC T.part_from.F sc_part_from (fun vs H Q E h => ?_) (fun cdv hcd A outer s H vs Q E hr h => ?_)
  · obtain ⟨_, _, _, rfl, _⟩ := h; rfl
  · obtain ⟨D, u, a, rfl, ⟨as, eD, la, hA⟩, U, ha, q⟩ := h
    have l40 := U.few
    have l16 := U.most
    refine ⟨_, (pss_cons (ps_set (i := 2) sc_part_from.nd rfl (.inl rfl) (pe_set1 (wd := w) rfl hcd (pv 1)))
      (pss_cons (ps_set (i := 3) sc_part_from.nd rfl (.inl rfl) (pe_lst (pa_cons (pv 1) pa_nil)))
      (pss_cons (ps_while PassesOwn.never (pt_truth (pv 3) (by intro _; rfl))
        (pss_cons (ps_set (i := 4) sc_part_from.nd rfl (.inl rfl) (pe_bm0 PySem.F.plainAttrs_list PySem.F.slot_list_pop PySem.F.type_list_pop mt_pop (pv 3)))
        (pss_one (ps_for PassesOwn.never rfl (pi_list (pe_ix ix_list (pv 0) (pv 4) (fun _ _ => rfl))) (pg_name (i := 5) sc_part_from.nd rfl (.inl rfl))
          (pss_one (ps_if (pt_cmpR or_snotin (pv 5) (pv 2) (by rfl))
            (pss_cons (ps_expr (pe_sadd (pv 2) (pa_cons (pv 5) pa_nil)))
            (pss_one (ps_expr (pe_bm PySem.F.plainAttrs_list PySem.F.slot_list_append PySem.F.type_list_append mt_append (pv 3) (pa_cons (pv 5) pa_nil)))))
            pss_nil))))))
      (pss_one (ps_ret (pe_callB (cr_sortedSet rfl) (by rfl) T.m_sorted (by decide +kernel) (pa_cons (pv 2) pa_nil))))))), ?_⟩
    walk_at "rd"
    intro S fS
    walk_at "rd"
    refine ⟨upd_same, ?_⟩
    have hS : SetN w (upd (upd H S (SetO w S (fun _ => false) 0)) S (SetO w S (fun j => false || decide (j = (a : Int))) 1)) S [a] := by
      refine ⟨_, 1, upd_same, Nat.le_refl _, fun _ => rfl, fun k => ?_⟩
      rw [Bool.false_or, decide_eq_true_eq]
      constructor
      · intro h
        exact ⟨a, h, List.mem_singleton.mpr rfl⟩
      · rintro ⟨y, h1, h2⟩
        rw [h1, List.mem_singleton.mp h2]
    have s1 : Same H (upd (upd H S (SetO w S (fun _ => false) 0)) S (SetO w S (fun j => false || decide (j = (a : Int))) 1)) := same_upd (same_new fS) fS
    generalize (upd (upd H S (SetO w S (fun _ => false) 0)) S (SetO w S (fun j => false || decide (j = (a : Int))) 1)) = H1 at hS s1 ⊢
    walk_at "rd"
    refine ⟨sz (by show 1 ≤ 100000; decide), fun L fL => ?_⟩
    walk_at "rd"
    refine ⟨fun m σ H' => ∃ ms ws y4 y5, m = 2 * (u.1.length - ms.length) + ws.length ∧ σ = [some (.ref D), some (.int (a : Nat)), some (.ref S), some (.ref L), y4, y5] ∧ Same H H' ∧ SetN w H' S ms ∧ H' L = some (.lst (natsV ws)) ∧ Fr u a ms ws ∧ ws.length ≤ ms.length,
      ⟨_, [a], [a], _, _, rfl, rfl, same_upd s1 (Same.free s1 fL), hS.at_ (by
        obtain ⟨_, _, e, _⟩ := id hS
        exact (ne_of_none e fL).symm), upd_same, ⟨by simp, fun x hx => by rw [List.mem_singleton.mp hx]; exact .base, List.mem_singleton.mpr rfl, fun x hx => hx, fun x hx => .inl hx⟩, Nat.le_refl _⟩, ?_⟩
    have nLS : ∀ {H' : Hp} {ys ms : List _}, H' L = some (.lst ys) → SetN w H' S ms → L ≠ S := fun e x => x.ne e
    have fL0 := Same.free s1 fL
    rintro m σ H' ⟨ms, ws, y4, y5, rfl, rfl, sm, hS', eL, F, lws⟩
    have lms := F.len U ha
    walk_at "rd"
    refine ⟨!(natsV ws).isEmpty, .inl ⟨_, SqL.of eL, rfl⟩, ?_⟩
    refine ite2 (fun c => ?_) (fun c => ?_)
    · have ne0 : ws ≠ [] := fun z => by subst z; simp at c
      obtain ⟨ws', x, rfl⟩ : ∃ ws' x, ws = ws' ++ [x] := ⟨ws.dropLast, ws.getLast ne0, (List.dropLast_concat_getLast ne0).symm⟩
      refine ⟨fun σ' H'' => ∃ ms1 ws1 y4 y5, σ' = [some (.ref D), some (.int (a : Nat)), some (.ref S), some (.ref L), y4, y5] ∧ Same H H'' ∧ SetN w H'' S ms1 ∧ H'' L = some (.lst (natsV ws1)) ∧ Fr u a ms1 ws1 ∧ ws1.length ≤ ms1.length ∧ 2 * (u.1.length - ms1.length) + ws1.length < 2 * (u.1.length - ms.length) + (ws' ++ [x]).length,
        fun σ' H'' ⟨ms1, ws1, z4, z5, e, sm1, hS1, eL1, F1, lw1, lt⟩ => ⟨_, lt, ms1, ws1, z4, z5, rfl, e, sm1, hS1, eL1, F1, lw1⟩, ?_⟩
      walk_at "rd"
      refine ⟨.inl ⟨rfl, _, SqL.of eL⟩, ?_⟩
      refine ⟨L, _, .int (x : Nat), rfl, rfl, eL, by simp [natsV], ?_⟩
      have e1 : (natsV (ws' ++ [x])).dropLast = natsV ws' := by simp [natsV]
      rw [e1]
      have lws' : ws'.length + 1 ≤ ms.length := by rw [List.length_append] at lws; exact lws
      have hx : x ∈ ms := F.wait x (List.mem_append_right _ (List.mem_singleton.mpr rfl))
      have hxl : x < u.1.length := (F.own x hx).lt U ha
      have sm1 : Same H (upd H' L (.lst (natsV ws'))) := same_upd sm fL0
      have eL1 := upd_same (H := H') (a := L) (o := .lst (natsV ws'))
      have hS1 : SetN w (upd H' L (.lst (natsV ws'))) S ms := hS'.at_ (hS'.ne eL)
      generalize upd H' L (.lst (natsV ws')) = H1' at sm1 eL1 hS1 ⊢
      walk_at "rd"
      have gx : as[x]? = some as[x] := List.getElem?_eq_getElem (by omega)
      refine d_ixLm (sm1 _ _ eD) (atI_nat (by rw [List.getElem?_map, gx]; rfl)) ?_
      have eA := hA x _ gx
      refine d_iLe (SqL.of (sm1 _ _ eA)) ?_
      have bn := nb_len u.2 x
      refine for_it (walk_list (K := K) (xs := natsV (nb u.2 x))) (fun i σ H2 => ∃ ms1 ws1 y5, σ = [some (.ref D), some (.int (a : Nat)), some (.ref S), some (.ref L), some (.int (x : Nat)), y5] ∧ Same H H2 ∧ SetN w H2 S ms1 ∧ H2 L = some (.lst (natsV ws1)) ∧ Fr2 u a x ms1 ws1 i ∧ ms1.length + ws'.length = ms.length + ws1.length ∧ ms.length ≤ ms1.length)
        ⟨ms, ws', _, rfl, sm1, hS1, eL1, F.pop, rfl, Nat.le_refl _⟩ (fun i σ H2 hi hP => ?_) (fun i y σ H0 H2 hi hP hy => ?_) (fun σ H2 hP => ?_)
      · obtain ⟨_, _, _, _, sm2, _⟩ := hP
        exact SqL.of (sm2 _ _ eA)
      · obtain ⟨ms1, ws1, y5', rfl, sm2, hS2, eL2, F2, lms1, le1⟩ := hP
        obtain ⟨rfl, hx2⟩ := hy
        rw [List.getElem?_map] at hx2
        obtain ⟨z, hz, rfl⟩ := Option.map_eq_some_iff.mp hx2
        have l1 : ms1.length ≤ u.1.length := nodup_len _ _ F2.nd fun y hy => (F2.own y hy).lt U ha
        walk_at "rd"
        refine d_snotin hS2 ?_
        walk_at "rd"
        refine ite2 (fun c => ?_) (fun c => ?_)
        · have nz : z ∉ ms1 := by simpa using c
          walk_at "rd"
          refine d_tsadd ?_
          walk_at "rd"
          refine d_sadd0 hS2 ?_
          walk_at "rd"
          refine d_sadd hS2 (by omega) fun o ms2 hS3 _ _ e2 => ?_
          have e2 := e2 nz
          subst e2
          have eL3 : (upd H2 S o) L = some (.lst (natsV ws1)) := by rw [upd_ne (hS2.ne eL2)]; exact eL2
          have sm3 : Same H (upd H2 S o) := same_upd sm2 fS
          generalize upd H2 S o = H3 at hS3 eL3 sm3 ⊢
          walk_at "rd"
          refine d_app eL3 ?_
          walk_at "rd"
          refine d_append eL3 (szl (by rw [List.length_map]; omega)) ?_
          exact ⟨ms1 ++ [z], ws1 ++ [z], _, rfl, same_upd sm3 fL0, hS3.at_ (hS3.ne eL3), by rw [upd_same, natsV, natsV, List.map_append]; rfl, F2.add hz nz, by rw [List.length_append, List.length_append]; show ms1.length + 1 + _ = _ + (ws1.length + 1); omega, by rw [List.length_append]; omega⟩
        · have nz : z ∈ ms1 := by simpa using c
          walk_at "rd"
          exact ⟨ms1, ws1, _, rfl, sm2, hS2, eL2, F2.skip hz nz, lms1, le1⟩
      · obtain ⟨ms1, ws1, y5', rfl, sm2, hS2, eL2, F2, lms1, le1⟩ := hP
        rw [List.length_map] at F2
        have l1 : ms1.length ≤ u.1.length := nodup_len _ _ F2.nd fun y hy => (F2.own y hy).lt U ha
        walk_at "rd"
        exact ⟨ms1, ws1, _, _, rfl, sm2, hS2, eL2, F2.end_ (Nat.le_refl _), by omega, by rw [List.length_append]; show _ < _ + (_ + 1); omega⟩
    · have e0 : ws = [] := by
        cases ws with
        | nil => rfl
        | cons a b => simp at c
      subst e0
      walk_at "rd"
      refine d_ssort hS' F.nd (by omega) (partL_rise u a) (fun y => ?_) fun p fp => ?_
      · rw [mem_partL U ha]
        exact ⟨F.own y, F.all⟩
      · exact q _ p (same_upd sm (Same.free sm fp)) (Same.free sm fp) upd_same
/-- while the parts are found: the list M of the parts rs, the set S of the places ms -/
structure PI (wd : World) (H H3 : Hp) (M S : Addr) (rs : List Addr) (ps : List (List Nat)) (ms : List Nat) (H' : Hp) : Prop where
  sm : Same H H'
  two : ∀ b o, b ≠ M → b ≠ S → H3 b = some o → H' b = some o
  set : SetN wd H' S ms
  lst : H' M = some (.lst (rs.map V.ref))
  at_ : PartsAt H' rs ps
  free : ∀ r ∈ rs, H r = none
  nM : M ∉ rs
  nS : S ∉ rs
section
variable {wd : World} {H H3 H' H'' : Hp} {M S : Addr} {rs : List Addr} {ps : List (List Nat)} {ms : List Nat}
theorem PI.same (x : PI wd H H3 M S rs ps ms H') (s : Same H' H'') : PI wd H H3 M S rs ps ms H'' :=
  ⟨Same.trans x.sm s, fun b o h1 h2 e => s _ _ (x.two b o h1 h2 e), x.set.same s, s _ _ x.lst, x.at_.same s, x.free, x.nM, x.nS⟩
theorem PI.add (x : PI wd H H3 M S rs ps ms H') (fS : H S = none) {o : HO} {ms' : List Nat} (h : SetN wd (upd H' S o) S ms') : PI wd H H3 M S rs ps ms' (upd H' S o) :=
  ⟨same_upd x.sm fS, fun b u h1 h2 e => by rw [upd_ne h2]; exact x.two b u h1 h2 e, h, by rw [upd_ne (x.set.ne x.lst)]; exact x.lst, x.at_.keep (h := S) Keep.put x.nS, x.free, x.nM, x.nS⟩
theorem PI.app (x : PI wd H H3 M S rs ps ms H') (fM : H M = none) {p : Addr} {pl : List Nat} (e : H' p = some (.lst (natsV pl))) (fp : H p = none) (nM : p ≠ M) (nS : p ≠ S) : PI wd H H3 M S (rs ++ [p]) (ps ++ [pl]) ms (upd H' M (.lst (rs.map V.ref ++ [V.ref p]))) :=
  ⟨same_upd x.sm fM, fun b u h1 h2 e => by rw [upd_ne h1]; exact x.two b u h1 h2 e, x.set.at_ (x.set.ne x.lst), by rw [upd_same, List.map_append]; rfl,
    Paired.snoc (x.at_.keep (h := M) Keep.put x.nM) (by rw [upd_ne nM]; exact e),
    fun r hr => by
      rcases List.mem_append.mp hr with hr | hr
      · exact x.free r hr
      · rw [List.mem_singleton.mp hr]; exact fp,
    fun z => by
      rcases List.mem_append.mp z with z | z
      · exact x.nM z
      · exact nM (List.mem_singleton.mp z).symm,
    fun z => by
      rcases List.mem_append.mp z with z | z
      · exact x.nS z
      · exact nS (List.mem_singleton.mp z).symm⟩
end
/-- the parts, by their least places -/
def spParts (K : PySem.W.Frag) : Sp := fun vs H Q _ => ∃ v u, vs = [v] ∧ WebAt K H v u ∧ WOk u ∧ ∀ H' (T : Addr) (rs : List Addr), Same H H' → H T = none → (∀ r ∈ rs, H r = none) → T ∉ rs → H' T = some (.lst (rs.map V.ref)) → PartsAt H' rs (partsL u) → Q (.ref T) H'
theorem ok_parts (T : Tx K mg) : FnOk P w K mg base CX0 2 T.parts.f T.parts.fd ["web"] (spParts K) := by
  refine T.parts.F.ok sc_parts (fun vs H Q E h => ?_) (fun cdv A outer s H vs Q E hr h => ?_)
  · obtain ⟨_, _, rfl, _⟩ := h; rfl
  · obtain ⟨v, u, rfl, hw, U, q⟩ := h
    have l40 := U.few
    refine ⟨_, (pss_cons (ps_set (i := 1) sc_parts.nd rfl (.inl rfl) (pe_call (ok_all_neighbours T) (hr.mono (by decide)) (by rfl) T.all_neighbours.g T.all_neighbours.F.kp T.all_neighbours.b .nil pass0 (pa_cons (pv 0) pa_nil)))
      (pss_cons (ps_set (i := 2) sc_parts.nd rfl (.inl rfl) (pe_lst pa_nil))
      (pss_cons (ps_set (i := 3) sc_parts.nd rfl (.inl rfl) (pe_callTy0 (cr_set0w (wd := w) rfl) (by rfl) T.m_set (by decide +kernel)))
      (pss_cons (ps_for PassesOwn.never rfl (pi_range1 (by rfl) T.m_range (pa_cons (pe_callB call_len_seq (by rfl) T.m_len (by decide +kernel) (pa_cons (pv 1) pa_nil)) pa_nil)) (pg_name (i := 4) sc_parts.nd rfl (.inl rfl))
        (pss_one (ps_if (pt_cmpR or_snotin (pv 4) (pv 3) (by rfl))
          (pss_cons (ps_set (i := 5) sc_parts.nd rfl (.inl rfl) (pe_call (ok_part_from T) (hr.mono (by decide)) (by rfl) T.part_from.g T.part_from.F.kp T.part_from.b .nil pass0 (pa_cons (pv 1) (pa_cons (pv 4) pa_nil))))
          (pss_cons (ps_expr (pe_bm PySem.F.plainAttrs_list PySem.F.slot_list_append PySem.F.type_list_append mt_append (pv 2) (pa_cons (pv 5) pa_nil)))
          (pss_one (ps_for PassesOwn.never rfl (pi_list (pv 5)) (pg_name (i := 6) sc_parts.nd rfl (.inl rfl))
            (pss_one (ps_expr (pe_sadd (pv 3) (pa_cons (pv 6) pa_nil))))))))
          pss_nil)))
      (pss_one (ps_ret (pv 2))))))), ?_⟩
    walk_at "rd"
    refine ⟨v, u, rfl, hw, U, fun H1 D as s1 fD eD la nd nD fa hN => ?_⟩
    walk_at "rd"
    refine ⟨sz (by decide), fun M fM => ?_⟩
    walk_at "rd"
    have sM := same_new (o := .lst []) fM
    have sM' := sM
    have eM := upd_same (H := H1) (a := M) (o := .lst [])
    have eD1 := sM _ _ eD
    have nb1 : NbAt (upd H1 M (.lst [])) D u := ⟨as, eD1, la, fun j a h => sM _ _ (hN j a h)⟩
    have fM0 := Same.free s1 fM
    have s2 := Same.trans s1 sM
    generalize upd H1 M (.lst []) = H2 at eM eD1 nb1 s2 sM' ⊢
    refine ⟨rfl, fun S fS => ?_⟩
    walk_at "rd"
    have sS := same_new (o := SetO w S (fun _ => false) 0) fS
    have hS : SetN w (upd H2 S (SetO w S (fun _ => false) 0)) S [] := SetN.new upd_same
    have eM2 := sS _ _ eM
    have nb2 := nb1.same sS
    have eD2 := sS _ _ eD1
    have fS0 := Same.free s2 fS
    have s3 := Same.trans s2 sS
    have nMS : M ≠ S := hS.ne eM2
    have fM1 : H1 M = none := fM
    have fS1 : H1 S = none := Same.free sM' fS
    have nDM : D ≠ M := ne_of_none eD fM1
    have nDS : D ≠ S := ne_of_none eD fS1
    have P0 : PI w H (upd H2 S (SetO w S (fun _ => false) 0)) M S [] (partsN u 0) [] (upd H2 S (SetO w S (fun _ => false) 0)) := ⟨s3, fun _ _ _ _ e => e, hS, eM2, .nil, by simp, by simp, by simp⟩
    have nb3 : ∀ {H' : Hp} {rs ps ms}, PI w H (upd H2 S (SetO w S (fun _ => false) 0)) M S rs ps ms H' → NbAt H' D u := fun x => ⟨as, x.two _ _ nDM nDS eD2, la, fun j a h => x.two _ _ (ne_of_none (hN j a h) fM1) (ne_of_none (hN j a h) fS1) (sS _ _ (sM' _ _ (hN j a h)))⟩
    generalize upd H2 S (SetO w S (fun _ => false) 0) = H3 at hS eM2 nb2 eD2 s3 P0 nb3 ⊢
    refine d_lenL (SqL.of eD2) ?_
    rw [List.length_map, la]
    walk_at "rd"
    refine for_range (fun i σ H' => ∃ y4 y5 y6 rs ms, σ = [some v, some (.ref D), some (.ref M), some (.ref S), y4, y5, y6] ∧ PI w H H3 M S rs (partsN u i) ms H' ∧ (∀ y, y ∈ ms ↔ ∃ a, a < i ∧ Rch u.2 a y) ∧ ms.length ≤ 40 * i)
      ⟨_, _, _, [], [], rfl, P0, fun y => by simp, by simp⟩ (fun i σ H' hi hP => ?_) (fun σ H' hP => ?_)
    · obtain ⟨y4, y5, y6, rs, ms, rfl, X, mem, lms⟩ := hP
      have hi' : i < u.1.length := hi
      walk_at "rd"
      simp only [Int.zero_add]
      refine d_snotin X.set ?_
      walk_at "rd"
      refine ite2 (fun c => ?_) (fun c => ?_)
      · have nz : i ∉ ms := by simpa using c
        have li : Lst u i := Classical.byContradiction fun z => nz ((mem i).mpr ((seen_iff U).mpr z))
        walk_at "rd"
        refine ⟨D, u, i, rfl, nb3 X, U, hi', fun H4 p s4 fp ep => ?_⟩
        have X4 := X.same s4
        have fp0 := Same.free X.sm fp
        have npM : p ≠ M := (ne_of_none X.lst fp).symm
        have npS : p ≠ S := fun z => by
          obtain ⟨_, _, e, _⟩ := id X.set
          rw [z, e] at fp; cases fp
        walk_at "rd"
        refine d_app X4.lst ?_
        walk_at "rd"
        have lrs : rs.length ≤ 40 := by
          have := Paired.length X.at_
          have := partsN_len u i
          omega
        refine d_append X4.lst (szl (by rw [List.length_map]; omega)) ?_
        have X5 := X4.app fM0 ep fp0 npM npS
        have ep5 : (upd H4 M (.lst (rs.map V.ref ++ [V.ref p]))) p = some (.lst (natsV (partL u i))) := by rw [upd_ne npM]; exact ep
        generalize upd H4 M (.lst (rs.map V.ref ++ [V.ref p])) = H5 at X5 ep5 ⊢
        have lp := partL_len u i
        walk_at "rd"
        refine d_iLe (SqL.of ep5) ?_
        refine for_it (walk_list (K := K) (xs := natsV (partL u i))) (fun j σ H6 => ∃ y6 ms1, σ = [some v, some (.ref D), some (.ref M), some (.ref S), some (.int (i : Nat)), some (.ref p), y6] ∧ PI w H H3 M S (rs ++ [p]) (partsN u i ++ [partL u i]) ms1 H6 ∧ H6 p = some (.lst (natsV (partL u i))) ∧ (∀ y, y ∈ ms1 ↔ y ∈ ms ∨ y ∈ (partL u i).take j) ∧ ms1.length ≤ ms.length + j)
          ⟨_, ms, rfl, X5, ep5, fun y => by simp, Nat.le_refl _⟩ (fun j σ H6 hj hP => ?_) (fun j y σ H0 H6 hj hP hy => ?_) (fun σ H6 hP => ?_)
        · obtain ⟨_, _, _, _, e, _⟩ := hP
          exact SqL.of e
        · obtain ⟨z6, ms1, rfl, X6, ep6, mem6, l6⟩ := hP
          obtain ⟨rfl, hy⟩ := hy
          rw [List.getElem?_map] at hy
          obtain ⟨z, hz, rfl⟩ := Option.map_eq_some_iff.mp hy
          rw [List.length_map] at hj
          walk_at "rd"
          refine d_tsadd ?_
          walk_at "rd"
          refine d_sadd0 X6.set ?_
          walk_at "rd"
          refine d_sadd X6.set (by omega) fun o ms2 hS7 mem7 l7 _ => ?_
          walk_at "rd"
          refine ⟨_, ms2, rfl, X6.add fS0 hS7, by rw [upd_ne npS]; exact ep6, fun y => ?_, by omega⟩
          rw [mem7, mem6, take_snoc hz, List.mem_append, List.mem_singleton, or_assoc]
        · obtain ⟨z6, ms1, rfl, X6, ep6, mem6, l6⟩ := hP
          rw [List.length_map] at mem6 l6
          walk_at "rd"
          refine ⟨_, _, _, rs ++ [p], ms1, rfl, ?_, fun y => ?_, by omega⟩
          · rw [partsN_succ, if_pos (dec_true li)]
            exact X6
          · rw [mem6, List.take_length, mem_partL U hi', mem]
            constructor
            · rintro (⟨a, h1, h2⟩ | h)
              · exact ⟨a, by omega, h2⟩
              · exact ⟨i, by omega, h⟩
            · rintro ⟨a, h1, h2⟩
              rcases Nat.lt_or_ge a i with c1 | c1
              · exact .inl ⟨a, c1, h2⟩
              · have : a = i := by omega
                subst this
                exact .inr h2
      · have nz : i ∈ ms := by simpa using c
        have sn := (mem i).mp nz
        have nl := (seen_iff U).mp sn
        walk_at "rd"
        refine ⟨_, _, _, rs, ms, rfl, by rw [partsN_succ, if_neg (by rw [dec_false nl]; decide), List.append_nil]; exact X, fun y => ?_, by omega⟩
        rw [mem]
        constructor
        · rintro ⟨a, h1, h2⟩
          exact ⟨a, by omega, h2⟩
        · rintro ⟨a, h1, h2⟩
          rcases Nat.lt_or_ge a i with c1 | c1
          · exact ⟨a, c1, h2⟩
          · have : a = i := by omega
            subst this
            obtain ⟨b, h3, h4⟩ := sn
            exact ⟨b, h3, h4.trans h2⟩
    · obtain ⟨y4, y5, y6, rs, ms, rfl, X, mem, lms⟩ := hP
      walk_at "rd"
      exact q H' M rs X.sm fM0 X.free X.nM X.lst X.at_
/-- whether it hangs together -/
def spHangs (K : PySem.W.Frag) : Sp := fun vs H Q _ => ∃ v u, vs = [v] ∧ WebAt K H v u ∧ WOk u ∧ ∀ H', Same H H' → Q (.bl (decide ((partsL u).length < 2))) H'
theorem ok_hangs (T : Tx K mg) : FnOk P w K mg base CX0 3 T.hangs.f T.hangs.fd ["web"] (spHangs K) := by
  refine T.hangs.F.ok sc_hangs (fun vs H Q E h => ?_) (fun cdv A outer s H vs Q E hr h => ?_)
  · obtain ⟨_, _, rfl, _⟩ := h; rfl
  · obtain ⟨v, u, rfl, hw, U, q⟩ := h
    refine ⟨_, (pss_one (ps_ret (pe_cmpR op_lt (pe_callB call_len_seq (by rfl) T.m_len (by decide +kernel) (pa_cons (pe_call (ok_parts T) (hr.mono (by decide)) (by rfl) T.parts.g T.parts.F.kp T.parts.b .nil pass0 (pa_cons (pv 0) pa_nil)) pa_nil)) pe_int (nomark _)))), ?_⟩
    walk_at "rd"
    refine ⟨v, u, rfl, hw, U, fun H1 M rs s1 fM fr nM eM pa => ?_⟩
    walk_at "rd"
    refine d_lenL (SqL.of eM) ?_
    walk_at "rd"
    have e : decide (((rs.map V.ref).length : Int) < 2) = decide ((partsL u).length < 2) := by
      rw [List.length_map, Paired.length pa]
      exact decide_eq_decide.mpr (by omega)
    rw [e]
    exact q H1 s1
theorem joined_zero {w : Web} (W : WOk w) (h0 : 0 < w.1.length) : Joined w ↔ ∀ y, y < w.1.length → Rch w.2 0 y :=
  ⟨fun J y hy => J 0 y h0 hy, fun h a b ha hb => ((h a ha).symm W).trans (h b hb)⟩
theorem Fr.full {u : Web} (U : WOk u) {ms : List Nat} (h0 : 0 < u.1.length) (x : Fr u 0 ms []) : ms.length = u.1.length ↔ Joined u := by
  rw [joined_zero U h0]
  have lt : ∀ y ∈ ms, y < u.1.length := fun y hy => (x.own y hy).lt U h0
  constructor
  · intro e y hy
    refine x.own y (Decidable.byContradiction fun n => ?_)
    have nd : (ms ++ [y]).Nodup := List.nodup_append.mpr ⟨x.nd, by simp, fun p hp z hz => by rw [List.mem_singleton.mp hz]; exact fun e => n (e ▸ hp)⟩
    have := nodup_len u.1.length _ nd fun z hz => by
      rcases List.mem_append.mp hz with hz | hz
      · exact lt z hz
      · rw [List.mem_singleton.mp hz]; exact hy
    rw [List.length_append] at this
    simp at this
    omega
  · intro h
    have p : ms.Perm (List.range u.1.length) := (List.perm_ext_iff_of_nodup x.nd List.nodup_range).mpr fun y => ⟨fun hy => List.mem_range.mpr (lt y hy), fun hy => x.all (h y (List.mem_range.mp hy))⟩
    rw [p.length_eq, List.length_range]
theorem d_dnin {ta tb : TE} {σ : L2.St} {H : Hp} {Q : VK} (h : ta σ H fun y H1 => tb σ H1 fun x H2 => ∃ a o, x = .ref a ∧ DGet H2 a y o ∧ Q (.bl (!o.isSome)) H2) : tDNotIn ta tb σ H Q := h
theorem d_iK {td : TE} {σ : L2.St} {H : Hp} {R : It → Hp → Prop} (h : td σ H fun x H1 => ∃ d o, x = .ref d ∧ ((∃ kvs, H1 d = some (.frz o (.dK kvs)) ∧ R (Itk d o kvs) H1) ∨ ∃ kvs, H1 d = some (.frz o (.dT kvs)) ∧ R (Itkt d o kvs) H1)) : iKeys td σ H R := h
noncomputable def treeB (w : Web) : Bool := decide (w.1.length = w.2.length + 1) && decide ((partsL w).length < 2)
theorem str_nil (cs : List Nat) : decide (V.str ⟨cs.toArray⟩ = V.str (Str.ofString "")) = decide (cs = []) := by
  have e : Str.ofString "" = (⟨#[]⟩ : Str) := by decide +kernel
  rw [e]
  refine decide_eq_decide.mpr ⟨fun h => ?_, fun h => by rw [h]⟩
  have h := V.str.inj h
  have h := congrArg (fun s : Str => s.cps.toList) h
  simpa using h
def spTreeB (K : PySem.W.Frag) : Sp := fun vs H Q _ => ∃ v w, vs = [v] ∧ WebAt K H v w ∧ WOk w ∧ ∀ H', Same H H' → Q (.bl (treeB w)) H'
theorem ok_is_tree (T : Tx K mg) : FnOk P w K mg base CX0 4 T.is_tree.f T.is_tree.fd ["web"] (spTreeB K) := by
  refine T.is_tree.F.ok sc_is_tree (fun vs H Q E h => ?_) (fun cdv A outer s H vs Q E hr h => ?_)
  · obtain ⟨v, w, rfl, _⟩ := h; rfl
  · obtain ⟨v, w, rfl, hw, W, q⟩ := h
    obtain ⟨a, b, tvs, rfl, q1, q2, pT⟩ := id hw
    have lt : tvs.length = w.2.length := Paired.length pT
    have l16 := W.most
    have l40 := W.few
    have hl : (⟨w.1.toArray⟩ : Str).length = w.1.length := by show w.1.toArray.size = _; simp
    refine ⟨_, (pss_one (ps_ret (pe_and (pe_cmpR op_eq (pe_callB call_len_str (by rfl) T.m_len (by decide +kernel) (pa_cons (pe_ix ix_tup (pv 0) pe_int (fun _ _ => rfl)) pa_nil)) (pe_op op_add (pe_callB call_len_seq (by rfl) T.m_len (by decide +kernel) (pa_cons (pe_ix ix_tup (pv 0) pe_int (fun _ _ => rfl)) pa_nil)) pe_int) (nomark _)) (pe_one (pe_call (ok_hangs T) (hr.mono (by decide)) (by rfl) T.hangs.g T.hangs.F.kp T.hangs.b .nil pass0 (pa_cons (pv 0) pa_nil)))))), ?_⟩
    walk_at "rd"
    refine d_ixT q1 rfl ?_
    refine d_lenS (z := ⟨w.1.toArray⟩) (sz (by omega)) ?_
    rw [hl]
    walk_at "rd"
    refine d_ixT q1 rfl ?_
    refine d_lenT q2 ?_
    rw [lt]
    walk_at "rd"
    refine ite2 (fun c => ?_) (fun c => ?_)
    · have c1 : w.1.length = w.2.length + 1 := by have := of_decide_eq_true c; omega
      walk_at "rd"
      refine ⟨_, w, rfl, hw, W, fun H1 s1 => ?_⟩
      have z := q H1 s1
      unfold treeB at z
      rw [decide_eq_true c1, Bool.true_and] at z
      exact z
    · have c1 : ¬ w.1.length = w.2.length + 1 := fun z => c (decide_eq_true (by omega))
      have z := q H (Same.refl _)
      unfold treeB at z
      rw [decide_eq_false c1, Bool.false_and] at z
      exact z
/-- how many steps the farthest place is away -/
def spFar : Sp := fun vs H Q _ => ∃ (D : Addr) (u : Web) (a : Nat), vs = [.ref D, .int (a : Nat)] ∧ NbAt H D u ∧ Tree u ∧ a < u.1.length ∧ ∀ H', Same H H' → Q (.int (ecc u a : Nat)) H'
theorem d_lc2 {wi : TI} {g : TG} {tt : TT} {wi1 : TI} {g1 : TG} {tt1 : TT} {te : TE} {vs vs1 : List Nat} {σ : L2.St} {H : Hp} {Q : VK} (h : wi σ H fun J H1 => ∀ D, H1 D = none → ∃ W : Nat → Nat → Hp → Prop, (∃ m, W 0 m (upd H1 D (.lst []))) ∧ ∀ i m H, W i m H →
  (J.stop i H ∧ Q (.ref D) H) ∨ (J.go i H ∧ ∃ Nx : Hp → Prop, (∀ H', Nx H' → ∃ m', m' < m ∧ W (i + 1) m' H') ∧ ∀ x H', J.yld i H x H' → g x (wipe σ vs) H' fun σ2 H2 => wipe σ2 vs = wipe σ vs ∧ tt σ2 H2 fun b H3 =>
    if b = true then wi1 σ2 H3 fun J1 H4 => ∃ W1 : Nat → Nat → Hp → Prop, (∃ m, W1 0 m H4) ∧ ∀ j k H, W1 j k H →
      (J1.stop j H ∧ Nx H) ∨ (J1.go j H ∧ ∃ Nx1 : Hp → Prop, (∀ H', Nx1 H' → ∃ k', k' < k ∧ W1 (j + 1) k' H') ∧ ∀ x H', J1.yld j H x H' → g1 x (wipe σ2 vs1) H' fun σ3 H5 => wipe σ3 vs1 = wipe σ2 vs1 ∧ tt1 σ3 H5 fun b H6 =>
        if b = true then te σ3 H6 fun y H7 => ∃ acc, H7 D = some (.lst acc) ∧ acc.length < sizeLine ∧ Nx1 (upd H7 D (.lst (acc ++ [y]))) else Nx1 H6)
    else Nx H3)) : tLc2 wi g tt wi1 g1 tt1 te vs vs1 σ H Q := h
def lcIn (g1 : TG) (tt1 : TT) (te : TE) (vs1 : List Nat) (D : Addr) (σ0 : L2.St) (Done : Hp → Prop) (J1 : It) (H4 : Hp) : Prop := ∃ W1 : Nat → Nat → Hp → Prop, (∃ m, W1 0 m H4) ∧ ∀ j k H, W1 j k H →
      (J1.stop j H ∧ Done H) ∨ (J1.go j H ∧ ∃ Nx1 : Hp → Prop, (∀ H', Nx1 H' → ∃ k', k' < k ∧ W1 (j + 1) k' H') ∧ ∀ x H', J1.yld j H x H' → g1 x σ0 H' fun σ3 H5 => wipe σ3 vs1 = σ0 ∧ tt1 σ3 H5 fun b H6 =>
        if b = true then te σ3 H6 fun y H7 => ∃ acc, H7 D = some (.lst acc) ∧ acc.length < sizeLine ∧ Nx1 (upd H7 D (.lst (acc ++ [y]))) else Nx1 H6)
theorem lcIn_it {J : It} {n : Nat} {G : Hp → Prop} {Y : Nat → Hp → V → Hp → Prop} (wk : Walk J n G Y) {g1 : TG} {tt1 : TT} {te : TE} {vs1 : List Nat} {D : Addr} {σ0 : L2.St} {H0 : Hp} {Done : Hp → Prop} (Pv : Nat → Hp → Prop) (h0 : Pv 0 H0) (hG : ∀ i H, i ≤ n → Pv i H → G H)
    (step : ∀ i x H H', i < n → Pv i H → Y i H x H' → g1 x σ0 H' fun σ3 H5 => wipe σ3 vs1 = σ0 ∧ tt1 σ3 H5 fun b H6 => if b = true then te σ3 H6 fun y H7 => ∃ acc, H7 D = some (.lst acc) ∧ acc.length < sizeLine ∧ Pv (i + 1) (upd H7 D (.lst (acc ++ [y]))) else Pv (i + 1) H6) (fin : ∀ H, Pv n H → Done H) : lcIn g1 tt1 te vs1 D σ0 Done J H0 := by
  refine ⟨fun i m H => m = n - i ∧ i ≤ n ∧ Pv i H, ⟨n, by simp, Nat.zero_le _, h0⟩, ?_⟩
  rintro i m H ⟨rfl, hi, p⟩
  have gg := hG i H hi p
  rcases Nat.lt_or_eq_of_le hi with lt | rfl
  · exact .inr ⟨wk.goes i H lt gg, Pv (i + 1), fun H' z => ⟨n - (i + 1), by omega, rfl, lt, z⟩, fun x H' y => step i x H H' lt p (wk.yields i H x H' lt gg y)⟩
  · exact .inl ⟨wk.stops H gg, fin H p⟩
theorem lc2_it {J : It} {n : Nat} {G : Hp → Prop} {Y : Nat → Hp → V → Hp → Prop} (wk : Walk J n G Y) {g : TG} {tt : TT} {wi1 : TI} {g1 : TG} {tt1 : TT} {te : TE} {vs vs1 : List Nat} {D : Addr} {σ : L2.St} {H0 : Hp} {Q : Hp → Prop} (Pv : Nat → Hp → Prop) (h0 : Pv 0 H0) (hG : ∀ i H, i ≤ n → Pv i H → G H)
    (step : ∀ i x H H', i < n → Pv i H → Y i H x H' → g x (wipe σ vs) H' fun σ2 H2 => wipe σ2 vs = wipe σ vs ∧ tt σ2 H2 fun b H3 => if b = true then wi1 σ2 H3 (lcIn g1 tt1 te vs1 D (wipe σ2 vs1) (Pv (i + 1))) else Pv (i + 1) H3) (fin : ∀ H, Pv n H → Q H) :
    ∃ W : Nat → Nat → Hp → Prop, (∃ m, W 0 m H0) ∧ ∀ i m H, W i m H →
  (J.stop i H ∧ Q H) ∨ (J.go i H ∧ ∃ Nx : Hp → Prop, (∀ H', Nx H' → ∃ m', m' < m ∧ W (i + 1) m' H') ∧ ∀ x H', J.yld i H x H' → g x (wipe σ vs) H' fun σ2 H2 => wipe σ2 vs = wipe σ vs ∧ tt σ2 H2 fun b H3 =>
    if b = true then wi1 σ2 H3 fun J1 H4 => ∃ W1 : Nat → Nat → Hp → Prop, (∃ m, W1 0 m H4) ∧ ∀ j k H, W1 j k H →
      (J1.stop j H ∧ Nx H) ∨ (J1.go j H ∧ ∃ Nx1 : Hp → Prop, (∀ H', Nx1 H' → ∃ k', k' < k ∧ W1 (j + 1) k' H') ∧ ∀ x H', J1.yld j H x H' → g1 x (wipe σ2 vs1) H' fun σ3 H5 => wipe σ3 vs1 = wipe σ2 vs1 ∧ tt1 σ3 H5 fun b H6 =>
        if b = true then te σ3 H6 fun y H7 => ∃ acc, H7 D = some (.lst acc) ∧ acc.length < sizeLine ∧ Nx1 (upd H7 D (.lst (acc ++ [y]))) else Nx1 H6)
    else Nx H3) := by
  refine ⟨fun i m H => m = n - i ∧ i ≤ n ∧ Pv i H, ⟨n, by simp, Nat.zero_le _, h0⟩, ?_⟩
  rintro i m H ⟨rfl, hi, p⟩
  have gg := hG i H hi p
  rcases Nat.lt_or_eq_of_le hi with lt | rfl
  · exact .inr ⟨wk.goes i H lt gg, Pv (i + 1), fun H' z => ⟨n - (i + 1), by omega, rfl, lt, z⟩, fun x H' y => step i x H H' lt p (wk.yields i H x H' lt gg y)⟩
  · exact .inl ⟨wk.stops H gg, fin H p⟩
theorem ok_farthest_from (T : Tx K mg) : FnOk P w K mg base CX0 1 T.farthest_from.f T.farthest_from.fd ["beside", "start"] spFar := by
  refine T.farthest_from.F.ok sc_farthest_from (fun vs H Q E h => ?_) (fun cdv A outer s H vs Q E hr h => ?_)
  · obtain ⟨_, _, _, rfl, _⟩ := h; rfl
  · obtain ⟨D, u, a, rfl, ⟨as, eD, la, hA⟩, TR, ha, q⟩ := h
    have U := TR.ok
    have l40 := U.few
    have l16 := U.most
    have ga : as[a]? = some as[a] := List.getElem?_eq_getElem (by omega)
    refine ⟨_, (pss_cons (ps_set (i := 2) sc_farthest_from.nd rfl (.inl rfl) pe_int)
      (pss_cons (ps_setLc (i := 3) (own := [("further", 4)]) (g := gName 4) (tt := tYes) (te := tTup (tCons (tVar 4) (tCons (tVar 1) tNil))) rfl sc_farthest_from.nd rfl rfl (sw_true rfl rfl rfl (by decide +kernel)) (pi_list (pe_ix ix_list (pv 0) (pv 1) (fun _ _ => rfl))) (blkOk_by (N := ["beside", "start", "far", "reached", "further", "place", "last"]) (sc := defScope s_farthest_from) (by decide +kernel)) (fun _ _ _ _ _ => (pg_name (i := 4) sc_farthest_from.nd rfl (.inl rfl))) (fun _ _ _ _ _ => pts_nil) (fun _ _ _ _ _ => (pe_tup (pa_cons (pv 4) (pa_cons (pv 1) pa_nil)))))
      (pss_cons (ps_while PassesOwn.never (pt_truth (pv 3) (by intro _; rfl))
        (pss_cons (ps_aug (i := 2) sc_farthest_from.nd rfl (.inl rfl) pe_int ip_add)
        (pss_one (ps_setLc2 (i := 3) (own := [("place", 5), ("last", 6), ("further", 4)]) (vs1 := [4]) (g := gTup K 2 (gCons (gName 5) (gCons (gName 6) gNil))) (tt := tYes) (wi1 := iList K (tOp (rIxL K) (tVar 0) (tVar 5))) (g1 := gName 4) (tt1 := tTest (tOp rNe (tVar 4) (tVar 6))) (te := tTup (tCons (tVar 4) (tCons (tVar 5) tNil))) rfl sc_farthest_from.nd rfl rfl (sw_true rfl rfl rfl (by decide +kernel)) (pi_list (pv 3)) (blkOk_by (N := ["beside", "start", "far", "reached", "further", "place", "last"]) (sc := defScope s_farthest_from) (by decide +kernel)) (by decide) (fun _ _ _ _ _ => ((pg_tup rfl (pgs_cons (pg_name (i := 5) sc_farthest_from.nd rfl (.inl rfl)) (pgs_cons (pg_name (i := 6) sc_farthest_from.nd rfl (.inl rfl)) pgs_nil))))) (fun _ _ _ _ _ => (pts_nil)) (fun _ _ _ _ _ => (pi_list (pe_ix ix_list (pv 0) (pv 5) (fun _ _ => rfl)))) (fun _ _ _ _ _ => ((pg_name (i := 4) sc_farthest_from.nd rfl (.inl rfl)))) (fun _ _ _ _ _ => (pts_one (pt_cmpR op_ne (pv 4) (pv 6) (nomark _)))) (fun _ _ _ _ _ => ((pe_tup (pa_cons (pv 4) (pa_cons (pv 5) pa_nil)))))))))
      (pss_one (ps_ret (pv 2)))))), ?_⟩
    walk_at "rd"
    refine d_ixLm eD (atI_nat (by rw [List.getElem?_map, ga]; rfl)) ?_
    refine d_iLe (SqL.of (hA a _ ga)) ?_
    intro L fL
    have bn := nb_len u.2 a
    refine lc_list (K := K) (a := as[a]) (xs := natsV (nb u.2 a)) (fun m H3 => ∃ vs1, H3 L = some (.lst vs1) ∧ Pairs K H3 vs1 (((nb u.2 a).take m).map fun z => (z, a)) ∧ Same H H3)
      ⟨[], upd_same, .nil, same_new fL⟩ (fun m H3 _ hP => by obtain ⟨_, _, _, s3⟩ := hP; exact SqL.of (s3 _ _ (hA a _ ga))) (fun m x H3 hx hP => ?_) (fun H3 hP => ?_)
    · obtain ⟨vs1, eL, pL, s3⟩ := hP
      rw [List.getElem?_map] at hx
      obtain ⟨z, hz, rfl⟩ := Option.map_eq_some_iff.mp hx
      have lp := pL.len
      rw [List.length_map] at lp
      have lt := List.length_take_le' m (nb u.2 a)
      walk_at "rd"
      refine ⟨sz (by show 2 ≤ 100000; decide), fun p fp => ?_⟩
      refine ⟨_, at_upd eL fp, szl (by omega), vs1 ++ [.ref p], upd_same, ?_, same_upd (same_upd s3 (Same.free s3 fp)) fL⟩
      rw [take_snoc hz, List.map_append]
      exact pL.more eL fp
    obtain ⟨vs1, eL, pL, s3⟩ := hP
    rw [show (natsV (nb u.2 a)).length = (nb u.2 a).length by rw [List.length_map], List.take_length] at pL
    have La := lay_first U ha
    walk_at "rd"
    refine ⟨fun m σ H' => ∃ f L vs1 rs y4 y5 y6, m + f = u.1.length ∧ σ = [some (.ref D), some (.int (a : Nat)), some (.int (f : Nat)), some (.ref L), y4, y5, y6] ∧ Same H H' ∧ H' L = some (.lst vs1) ∧ Pairs K H' vs1 rs ∧ Lay u a f rs ∧ ∃ x, Away u.2 a f x,
      ⟨u.1.length, 0, L, vs1, _, _, _, _, rfl, rfl, s3, eL, pL, La, a, away_zero.mpr rfl⟩, ?_⟩
    rintro m σ H' ⟨f, L, vs1, rs, y4, y5, y6, em, rfl, sm, eL, pL, LA, x0, hx0⟩
    have lfew := LA.few U ha
    have llv := pL.len
    have lf := away_few U ha hx0
    walk_at "rd"
    refine ⟨!vs1.isEmpty, .inl ⟨_, SqL.of eL, rfl⟩, ?_⟩
    refine ite2 (fun c => ?_) (fun c => ?_)
    · have n0 : 0 < rs.length := by
        rcases Nat.eq_zero_or_pos rs.length with z | z
        · have : vs1 = [] := List.eq_nil_of_length_eq_zero (by omega)
          subst this; cases c
        · exact z
      have hn : ∃ x, Away u.2 a (f + 1) x := ⟨_, (LA.own _ (List.getElem_mem n0)).1⟩
      have lf1 : f + 1 < u.1.length := by
        obtain ⟨x, hx⟩ := hn
        exact away_few U ha hx
      have LN := LA.next TR ha
      refine ⟨fun σ' H'' => ∃ L2 vs2 y4 y5 y6, σ' = [some (.ref D), some (.int (a : Nat)), some (.int ((f + 1 : Nat) : Int)), some (.ref L2), y4, y5, y6] ∧ Same H H'' ∧ H'' L2 = some (.lst vs2) ∧ Pairs K H'' vs2 (stepL u rs),
        fun σ' H'' ⟨L2, vs2, z4, z5, z6, e, sm1, eL1, pL1⟩ => ⟨m - 1, by omega, f + 1, L2, vs2, stepL u rs, z4, z5, z6, by omega, e, sm1, eL1, pL1, LN, hn⟩, ?_⟩
      walk_at "rd"
      refine ⟨_, _, rfl, rfl, ?_⟩
      walk_at "rd"
      refine d_lc2 ?_
      walk_at "rd"
      refine d_iLe (SqL.of eL) ?_
      intro D2 fD2
      have fD20 := Same.free sm fD2
      refine lc2_it (walk_list (K := K) (a := L) (xs := vs1)) (fun i H3 => ∃ ws, H3 D2 = some (.lst ws) ∧ Pairs K H3 ws (stepL u (rs.take i)) ∧ Same H' H3)
        ⟨[], upd_same, .nil, same_new fD2⟩ (fun i H3 _ hP => by obtain ⟨_, _, _, s3⟩ := hP; exact SqL.of (s3 _ _ eL)) (fun i x H3 H3' hi hP hy => ?_) (fun H3 hP => ?_)
      · obtain ⟨ws, eD2, pD, s3⟩ := hP
        obtain ⟨rfl, hx⟩ := hy
        obtain ⟨r, hr', ra, rfl, qr⟩ := Paired.at pL hx
        have r1 := away_lt U ha (LA.own r (List.mem_of_getElem? hr')).1
        have gr : as[r.1]? = some as[r.1] := List.getElem?_eq_getElem (by omega)
        have s0 := Same.trans sm s3
        have lay := Lay.few U ha (LA.next TR ha)
        have lmore : ∀ k, (stepL u (rs.take i)).length + ((((nb u.2 r.1).take k).filter fun z => decide (z ≠ r.2)).length) ≤ 40 := fun k => by
          have e : (stepL u (rs.take (i + 1))).length ≤ (stepL u rs).length := by
            unfold stepL
            conv => rhs; rw [← List.take_append_drop (i + 1) rs]
            rw [List.flatMap_append, List.length_append]; omega
          have e2 : (stepL u (rs.take (i + 1))).length = (stepL u (rs.take i)).length + ((nb u.2 r.1).filter fun z => decide (z ≠ r.2)).length := by
            unfold stepL
            rw [take_snoc hr', List.flatMap_append, List.length_append]
            simp
          have e3 : (((nb u.2 r.1).take k).filter fun z => decide (z ≠ r.2)).length ≤ ((nb u.2 r.1).filter fun z => decide (z ≠ r.2)).length := by
            conv => rhs; rw [← List.take_append_drop k (nb u.2 r.1)]
            rw [List.filter_append, List.length_append]; omega
          omega
        refine d_gtup (Same.sqt s3 qr) rfl ?_
        walk_at "rd"
        refine d_ixLm (s0 _ _ eD) (atI_nat (by rw [List.getElem?_map, gr]; rfl)) ?_
        have eN := s0 _ _ (hA r.1 _ gr)
        refine d_iLe (SqL.of eN) ?_
        refine lcIn_it (walk_list (K := K) (a := as[r.1]) (xs := natsV (nb u.2 r.1))) (fun k H5 => ∃ ws2, H5 D2 = some (.lst ws2) ∧ Pairs K H5 ws2 (stepL u (rs.take i) ++ (((nb u.2 r.1).take k).filter fun z => decide (z ≠ r.2)).map fun z => (z, r.1)) ∧ Same H' H5)
          ⟨ws, eD2, by simpa using pD, s3⟩ (fun k H5 _ hP => by obtain ⟨_, _, _, s5⟩ := hP; exact SqL.of (Same.trans sm s5 _ _ (hA r.1 _ gr))) (fun k x H5 H5' hk hP hy => ?_) (fun H5 hP => ?_)
        · obtain ⟨ws2, eW, pW, s5⟩ := hP
          obtain ⟨rfl, hx2⟩ := hy
          rw [List.getElem?_map] at hx2
          obtain ⟨z, hz, rfl⟩ := Option.map_eq_some_iff.mp hx2
          have lw := pW.len
          rw [List.length_append, List.length_map] at lw
          have lm := lmore k
          walk_at "rd"
          refine ite2 (fun c2 => ?_) (fun c2 => ?_)
          · have nz : z ≠ r.2 := fun e => by subst e; simp at c2
            walk_at "rd"
            refine ⟨sz (by show 2 ≤ 100000; decide), fun p fp => ?_⟩
            refine ⟨_, at_upd eW fp, szl (by omega), ws2 ++ [.ref p], upd_same, ?_, same_upd (same_upd s5 (Same.free s5 fp)) fD2⟩
            rw [take_snoc hz, List.filter_append, show [z].filter (fun z => decide (z ≠ r.2)) = [z] by rw [List.filter_cons_of_pos (p := fun z => decide (z ≠ r.2)) (decide_eq_true nz)]; rfl, List.map_append, ← List.append_assoc]
            exact pW.more eW fp
          · have ez : z = r.2 := Decidable.byContradiction fun e => c2 (by simpa using fun q : (z : Int) = (r.2 : Int) => e (by omega))
            refine ⟨ws2, eW, ?_, s5⟩
            rw [take_snoc hz, List.filter_append, show [z].filter (fun z => decide (z ≠ r.2)) = [] by rw [List.filter_cons_of_neg (p := fun z => decide (z ≠ r.2)) (by rw [ez]; simp)]; rfl, List.append_nil]
            exact pW
        · obtain ⟨ws2, eW, pW, s5⟩ := hP
          rw [show (natsV (nb u.2 r.1)).length = (nb u.2 r.1).length by rw [List.length_map], List.take_length] at pW
          refine ⟨ws2, eW, ?_, s5⟩
          have e : stepL u (rs.take (i + 1)) = stepL u (rs.take i) ++ ((nb u.2 r.1).filter fun z => decide (z ≠ r.2)).map fun z => (z, r.1) := by
            unfold stepL
            rw [take_snoc hr', List.flatMap_append]
            simp
          rw [e]
          exact pW
      · obtain ⟨ws, eD2, pD, s3⟩ := hP
        rw [llv, List.take_length] at pD
        walk_at "rd"
        exact ⟨D2, ws, _, _, _, by rw [show ((f + 1 : Nat) : Int) = (f : Int) + 1 by omega]; rfl, Same.trans sm s3, eD2, pD⟩
    · have e0 : rs = [] := by
        have : vs1.length = 0 := by
          cases vs1 with
          | nil => rfl
          | cons x y => exact absurd rfl c
        exact List.eq_nil_of_length_eq_zero (by omega)
      subst e0
      walk_at "rd"
      have E0 : Ecc u a f := ⟨⟨x0, hx0⟩, fun ⟨x, hx⟩ => by
        have := LA.all x hx
        cases this⟩
      have z := q H' sm
      rw [ecc_eq E0] at z
      exact z
structure Lv (w : Web) (a k : Nat) (ls ms : List Nat) : Prop where
  nd : ms.Nodup
  lnd : ls.Nodup
  lay : ∀ x, x ∈ ls ↔ Away w.2 a k x
  met : ∀ x, x ∈ ms ↔ ∃ j, j ≤ k ∧ Away w.2 a j x
structure Lv2 (w : Web) (a k : Nat) (ls ms fs : List Nat) (i : Nat) : Prop where
  nd : (ms ++ fs).Nodup
  own : ∀ x ∈ fs, Away w.2 a (k + 1) x
  done : ∀ y ∈ ls.take i, ∀ z ∈ nb w.2 y, z ∈ ms ++ fs
structure Lv3 (w : Web) (a k : Nat) (ls ms fs : List Nat) (i x j : Nat) : Prop where
  two : Lv2 w a k ls ms fs i
  part : ∀ z ∈ (nb w.2 x).take j, z ∈ ms ++ fs
section
variable {u : Web} {a k i j x z : Nat} {ls ms fs : List Nat}
theorem lv_start (u : Web) (a : Nat) : Lv u a 0 [a] [a] :=
  ⟨by simp, by simp, fun x => by rw [List.mem_singleton, away_zero], fun x => by
    rw [List.mem_singleton]
    exact ⟨fun h => ⟨0, Nat.le_refl _, away_zero.mpr h⟩, fun ⟨j, le, h⟩ => by
      have : j = 0 := by omega
      subst this
      exact away_zero.mp h⟩⟩
theorem Lv2.go (V : Lv2 u a k ls ms fs i) : Lv3 u a k ls ms fs i x 0 := ⟨V, fun z hz => by simp at hz⟩
theorem Lv3.skip (V : Lv3 u a k ls ms fs i x j) (hz : (nb u.2 x)[j]? = some z) (h : z ∈ ms ++ fs) : Lv3 u a k ls ms fs i x (j + 1) := ⟨V.two, fun y hy => by
  rw [take_snoc hz] at hy
  rcases List.mem_append.mp hy with hy | hy
  · exact V.part y hy
  · rw [List.mem_singleton.mp hy]; exact h⟩
theorem Lv3.add (L : Lv u a k ls ms) (hx : x ∈ ls) (V : Lv3 u a k ls ms fs i x j) (hz : (nb u.2 x)[j]? = some z) (h : z ∉ ms ++ fs) : Lv3 u a k ls ms (fs ++ [z]) i x (j + 1) := by
  have up : ∀ {y}, y ∈ ms ++ fs → y ∈ ms ++ (fs ++ [z]) := fun h => by rw [← List.append_assoc]; exact List.mem_append_left _ h
  refine ⟨⟨?_, fun y hy => ?_, fun y hy q hq => up (V.two.done y hy q hq)⟩, fun y hy => ?_⟩
  · rw [← List.append_assoc]
    exact List.nodup_append.mpr ⟨V.two.nd, by simp, fun p hp q hq e => by rw [List.mem_singleton.mp hq] at e; exact h (e ▸ hp)⟩
  · rcases List.mem_append.mp hy with hy | hy
    · exact V.two.own y hy
    · rw [List.mem_singleton.mp hy]
      have ax := (L.lay x).mp hx
      refine ⟨⟨x, ax.1, List.mem_of_getElem? hz⟩, fun m lt hm => ?_⟩
      obtain ⟨j', le, hj⟩ := away_of hm
      exact h (List.mem_append_left _ ((L.met z).mpr ⟨j', by omega, hj⟩))
  · rw [take_snoc hz] at hy
    rcases List.mem_append.mp hy with hy | hy
    · exact up (V.part y hy)
    · rw [List.mem_singleton.mp hy]
      exact List.mem_append_right _ (List.mem_append_right _ (List.mem_singleton.mpr rfl))
theorem Lv3.end_ (V : Lv3 u a k ls ms fs i x j) (hx : ls[i]? = some x) (h : (nb u.2 x).length ≤ j) : Lv2 u a k ls ms fs (i + 1) := ⟨V.two.nd, V.two.own, fun y hy q hq => by
  rw [take_snoc hx] at hy
  rcases List.mem_append.mp hy with hy | hy
  · exact V.two.done y hy q hq
  · rw [List.mem_singleton.mp hy] at hq
    exact V.part q (by rw [List.take_of_length_le h]; exact hq)⟩
theorem Lv2.end_ (L : Lv u a k ls ms) (V : Lv2 u a k ls ms fs i) (h : ls.length ≤ i) : Lv u a (k + 1) fs (ms ++ fs) := by
  have lay : ∀ x, x ∈ fs ↔ Away u.2 a (k + 1) x := fun x => by
    refine ⟨V.own x, fun hx => ?_⟩
    obtain ⟨y, hy, n⟩ := away_back hx
    have := V.done y (by rw [List.take_of_length_le h]; exact (L.lay y).mpr hy) x n
    rcases List.mem_append.mp this with m | m
    · obtain ⟨j, le, hj⟩ := (L.met x).mp m
      have := away_uniq hj hx
      omega
    · exact m
  refine ⟨V.nd, (List.nodup_append.mp V.nd).2.1, lay, fun x => ?_⟩
  rw [List.mem_append]
  constructor
  · rintro (h | h)
    · obtain ⟨j, le, hj⟩ := (L.met x).mp h
      exact ⟨j, by omega, hj⟩
    · exact ⟨k + 1, Nat.le_refl _, V.own x h⟩
  · rintro ⟨j, le, hj⟩
    by_cases c : j = k + 1
    · subst c; exact .inr ((lay x).mpr hj)
    · exact .inl ((L.met x).mpr ⟨j, by omega, hj⟩)
end
def spLawFar : Sp := fun vs H Q _ => ∃ (D : Addr) (u : Web) (a : Nat), vs = [.ref D, .int (a : Nat)] ∧ DnAt H D u ∧ WOk u ∧ a < u.1.length ∧ ∀ H', Same H H' → Q (.int (ecc u a : Nat)) H'
theorem ok_far (T : Tx K mg) : FnOk P w K mg base CX0 1 T.far.f T.far.fd ["beside", "place"] spLawFar := by
  refine T.far.F.ok sc_far (fun vs H Q E h => ?_) (fun cdv A outer s H vs Q E hr h => ?_)
  · obtain ⟨_, _, _, rfl, _⟩ := h; rfl
  · obtain ⟨D, u, a, rfl, ⟨as, eD, la, hA⟩, U, ha, q⟩ := h
    have l40 := U.few
    have l16 := U.most
    refine ⟨_, (pss_cons (ps_set (i := 2) sc_far.nd rfl (.inl rfl) (pe_lst (pa_cons (pv 1) pa_nil)))
      (pss_cons (ps_set (i := 3) sc_far.nd rfl (.inl rfl) (pe_disp (pps_cons (pv 1) pe_bl pps_nil) rfl rfl (by decide) (by decide)))
      (pss_cons (ps_set (i := 4) sc_far.nd rfl (.inl rfl) (pe_un un_neg pe_int))
      (pss_cons (ps_while PassesOwn.never (pt_cmpR (op_neD (hr.units)) (pv 2) (pe_lst pa_nil) (nomark _))
        (pss_cons (ps_set (i := 4) sc_far.nd rfl (.inl rfl) (pe_op op_add (pv 4) pe_int))
        (pss_cons (ps_set (i := 5) sc_far.nd rfl (.inl rfl) (pe_lst pa_nil))
        (pss_cons (ps_for PassesOwn.never rfl (pi_list (pv 2)) (pg_name (i := 6) sc_far.nd rfl (.inl rfl))
          (pss_one (ps_lock (ps_for PassesOwn.never rfl (pi_keys (pe_ix ix_list (pv 0) (pv 6) (fun _ _ => rfl))) (pg_name (i := 7) sc_far.nd rfl (.inl rfl))
            (pss_one (ps_if (pt_cmp (pc_dnotin (hu_of hr) (pv 7) (pv 3)))
              (pss_cons (ps_dput (hu_of hr) (pv 3) (pv 7) pe_bl rfl)
              (pss_one (ps_expr (pe_bm PySem.F.plainAttrs_list PySem.F.slot_list_append PySem.F.type_list_append mt_append (pv 5) (pa_cons (pv 7) pa_nil)))))
              pss_nil))))))
        (pss_one (ps_set (i := 2) sc_far.nd rfl (.inl rfl) (pv 5)))))))
      (pss_one (ps_ret (pv 4))))))), ?_⟩
    walk_at "rd"
    refine ⟨sz (by show 1 ≤ 100000; decide), fun L0 fL0 => ?_⟩
    have s1 := same_new (o := .lst [V.int (a : Nat)]) fL0
    have eL0 := upd_same (H := H) (a := L0) (o := .lst [V.int (a : Nat)])
    generalize upd H L0 (.lst [V.int (a : Nat)]) = H1 at s1 eL0 ⊢
    walk_at "rd"
    intro M fM
    refine ⟨V.int (a : Nat), rfl, ?_⟩
    refine ⟨upd_same, [((.inl (a : Int) : Key), V.bl true)], rfl, by simp, ?_⟩
    have kl : KL (mergeK [] [((.inl (a : Int) : Key), V.bl true)]) [a] := rfl
    have s2 : Same H1 (upd (upd H1 M (.dK [])) M (.dK (mergeK [] [((.inl (a : Int) : Key), V.bl true)]))) := same_upd (same_new fM) fM
    have eM := upd_same (H := upd H1 M (.dK [])) (a := M) (o := .dK (mergeK [] [((.inl (a : Int) : Key), V.bl true)]))
    generalize mergeK [] [((.inl (a : Int) : Key), V.bl true)] = kv0 at kl s2 eM ⊢
    generalize upd (upd H1 M (.dK [])) M (.dK kv0) = H2 at s2 eM ⊢
    have fM0 := Same.free s1 fM
    walk_at "rd"
    refine ⟨fun m σ H' => ∃ k ls ms kvs L y5 y6 y7, m + k = u.1.length + 1 ∧ σ = [some (.ref D), some (.int (a : Nat)), some (.ref L), some (.ref M), some (.int ((k : Nat) - 1)), y5, y6, y7] ∧ Same H H' ∧ H' M = some (.dK kvs) ∧ KL kvs ms ∧ H' L = some (.lst (natsV ls)) ∧ H L = none ∧ Lv u a k ls ms ∧ (k = 0 ∨ ∃ j x, k = j + 1 ∧ Away u.2 a j x),
      ⟨u.1.length + 1, 0, [a], [a], kv0, L0, _, _, _, rfl, rfl, Same.trans s1 s2, eM, kl, s2 _ _ eL0, fL0, lv_start u a, .inl rfl⟩, ?_⟩
    rintro m σ H' ⟨k, ls, ms, kvs, L, y5, y6, y7, em, rfl, sm, eM', KM, eL, fL, LV, pre⟩
    walk_at "rd"
    refine ⟨sz (by decide), fun p0 f0 => ?_⟩
    refine ⟨_, _, dp_nats (at_upd eL f0), .lst (SqL.of upd_same) .nil, shaped_ints _, by decide, ?_⟩
    rw [eqv_nil]
    have sm0 := same_upd (o := .lst []) sm (Same.free sm f0)
    have eM0 := at_upd (u := .lst []) eM' f0
    have eL0' := at_upd (u := .lst []) eL f0
    generalize upd H' p0 (.lst []) = HA at sm0 eM0 eL0' ⊢
    have llen : ls.length ≤ u.1.length := nodup_len _ _ LV.lnd fun y hy => away_lt U ha ((LV.lay y).mp hy)
    walk_at "rd"
    refine ite2 (fun c => ?_) (fun c => ?_)
    · have ne0 : 0 < ls.length := by
        cases ls with
        | nil => simp [zs] at c
        | cons x r => rw [List.length_cons]; omega
      have hn : ∃ x, Away u.2 a k x := ⟨_, (LV.lay _).mp (List.getElem_mem ne0)⟩
      have lk : k < u.1.length := by
        obtain ⟨x, hx⟩ := hn
        exact away_few U ha hx
      refine ⟨fun σ' H'' => ∃ fs kvs1 F y5 y6 y7, σ' = [some (.ref D), some (.int (a : Nat)), some (.ref F), some (.ref M), some (.int (((k + 1 : Nat) : Int) - 1)), y5, y6, y7] ∧ Same H H'' ∧ H'' M = some (.dK kvs1) ∧ KL kvs1 (ms ++ fs) ∧ H'' F = some (.lst (natsV fs)) ∧ H F = none ∧ Lv u a (k + 1) fs (ms ++ fs),
        fun σ' H'' ⟨fs, kvs1, F, z5, z6, z7, e, sm1, eM1, KM1, eF1, fF1, LV1⟩ => ⟨m - 1, by omega, k + 1, fs, ms ++ fs, kvs1, F, z5, z6, z7, by omega, e, sm1, eM1, KM1, eF1, fF1, LV1, .inr (by obtain ⟨x, hx⟩ := hn; exact ⟨k, x, rfl, hx⟩)⟩, ?_⟩
      walk_at "rd"
      refine ⟨sz (by decide), fun F fF => ?_⟩
      have fF0 := Same.free sm0 fF
      have eF := upd_same (H := HA) (a := F) (o := .lst [])
      have smB := same_upd (o := .lst []) sm0 fF0
      have eMB := at_upd (u := .lst []) eM0 fF
      have eLB := at_upd (u := .lst []) eL0' fF
      have nMF : M ≠ F := ne_of_none eM0 fF
      have nLF : L ≠ F := ne_of_none eL0' fF
      have nLM : L ≠ M := ne_of eL0' eM0 (by intro z; cases z)
      generalize upd HA F (.lst []) = HB at eF smB eMB eLB ⊢
      walk_at "rd"
      refine d_iLe (SqL.of eLB) ?_
      refine for_it (walk_list (K := K) (xs := natsV ls)) (fun i σ H3 => ∃ fs kvs1 y6 y7, σ = [some (.ref D), some (.int (a : Nat)), some (.ref L), some (.ref M), some (.int ((k : Nat) - 1 + 1)), some (.ref F), y6, y7] ∧ Same H H3 ∧ H3 L = some (.lst (natsV ls)) ∧ H3 M = some (.dK kvs1) ∧ KL kvs1 (ms ++ fs) ∧ H3 F = some (.lst (natsV fs)) ∧ Lv2 u a k ls ms fs i)
        ⟨[], kvs, _, _, rfl, smB, eLB, eMB, by rw [List.append_nil]; exact KM, eF, ⟨by rw [List.append_nil]; exact LV.nd, by simp, by simp⟩⟩ (fun i σ H3 hi hP => ?_) (fun i y σ H0 H3 hi hP hy => ?_) (fun σ H3 hP => ?_)
      · obtain ⟨_, _, _, _, _, _, e3, _⟩ := hP
        exact SqL.of e3
      · obtain ⟨fs, kvs1, y6', y7', rfl, sm3, eL3, eM3, KM3, eF3, V2⟩ := hP
        obtain ⟨rfl, hx⟩ := hy
        rw [List.getElem?_map] at hx
        obtain ⟨x, hxx, rfl⟩ := Option.map_eq_some_iff.mp hx
        have hxl := List.mem_of_getElem? hxx
        have xlt := away_lt U ha ((LV.lay x).mp hxl)
        have gx : as[x]? = some as[x] := List.getElem?_eq_getElem (by omega)
        obtain ⟨kvx, ex, KX⟩ := hA x _ gx
        have nxM : as[x] ≠ M := ne_of_none ex fM0
        have nxF : as[x] ≠ F := ne_of_none ex fF0
        have nxL : as[x] ≠ L := ne_of_none ex fL
        have nxD : as[x] ≠ D := ne_of ex eD (by intro z; cases z)
        walk_at "rd"
        refine ⟨as[x], _, sm3 _ _ ex, trivial, fun od => ?_⟩
        have eDF : (upd H3 as[x] (.frz od (.dK kvx))) D = some (.lst (as.map V.ref)) := by rw [upd_ne nxD.symm]; exact sm3 _ _ eD
        have eMF : (upd H3 as[x] (.frz od (.dK kvx))) M = some (.dK kvs1) := by rw [upd_ne nxM.symm]; exact eM3
        have eLF : (upd H3 as[x] (.frz od (.dK kvx))) L = some (.lst (natsV ls)) := by rw [upd_ne nxL.symm]; exact eL3
        have eFF : (upd H3 as[x] (.frz od (.dK kvx))) F = some (.lst (natsV fs)) := by rw [upd_ne nxF.symm]; exact eF3
        have exF := upd_same (H := H3) (a := as[x]) (o := .frz od (.dK kvx))
        have smF : ∀ b o, b ≠ as[x] → H b = some o → (upd H3 as[x] (.frz od (.dK kvx))) b = some o := fun b o n e => by rw [upd_ne n]; exact sm3 _ _ e
        generalize upd H3 as[x] (.frz od (.dK kvx)) = HF at eDF eMF eLF eFF exF smF ⊢
        walk_at "rd"
        refine d_iK ?_
        walk_at "rd"
        refine d_ixLm eDF (atI_nat (by rw [List.getElem?_map, gx]; rfl)) ?_
        refine ⟨as[x], od, rfl, .inl ⟨kvx, exF, ?_⟩⟩
        have lkx := KX.len
        refine for_it (walk_keys (d := as[x]) (o := od) (kvs := kvx)) (fun j σ H4 => ∃ fs1 kvs2 y7, σ = [some (.ref D), some (.int (a : Nat)), some (.ref L), some (.ref M), some (.int ((k : Nat) - 1 + 1)), some (.ref F), some (.int (x : Nat)), y7] ∧ (∀ b o, b ≠ as[x] → H b = some o → H4 b = some o) ∧ H4 as[x] = some (.frz od (.dK kvx)) ∧ H4 L = some (.lst (natsV ls)) ∧ H4 M = some (.dK kvs2) ∧ KL kvs2 (ms ++ fs1) ∧ H4 F = some (.lst (natsV fs1)) ∧ Lv3 u a k ls ms fs1 i x j)
          ⟨fs, kvs1, _, rfl, smF, exF, eLF, eMF, KM3, eFF, V2.go⟩ (fun j σ H4 hj hP => ?_) (fun j y σ H0' H4 hj hP hy => ?_) (fun σ H4 hP => ?_)
        · obtain ⟨_, _, _, _, _, e4, _⟩ := hP
          exact e4
        · obtain ⟨fs1, kvs2, y7', rfl, sm4, ex4, eL4, eM4, KM4, eF4, V3⟩ := hP
          obtain ⟨rfl, k0, v0, hk0, rfl⟩ := hy
          obtain ⟨z, hz, rfl⟩ := KX.at_ hk0
          have lk1 := KM4.len
          have lms : (ms ++ fs1).length ≤ u.1.length := nodup_len _ _ V3.two.nd fun y hy => by
            rcases List.mem_append.mp hy with hy | hy
            · obtain ⟨j', _, hj'⟩ := (LV.met y).mp hy
              exact away_lt U ha hj'
            · exact away_lt U ha (V3.two.own y hy)
          have lfs : fs1.length ≤ 40 := by rw [List.length_append] at lms; omega
          walk_at "rd"
          refine d_dnin ?_
          walk_at "rd"
          refine ⟨M, _, rfl, DGet.k (k := .inl (z : Int)) eM4, ?_⟩
          walk_at "rd"
          rw [KM4.has]
          refine ite2 (fun c2 => ?_) (fun c2 => ?_)
          · have nz : z ∉ ms ++ fs1 := of_decide_eq_false (by cases h : decide (z ∈ ms ++ fs1) with | false => rfl | true => rw [h] at c2; cases c2)
            walk_at "rd"
            refine ⟨M, _, rfl, DPut.k (k := .inl (z : Int)) eM4 (szl (by omega)), ?_⟩
            walk_at "rd"
            have eF5 : (upd H4 M (.dK (putK kvs2 (.inl (z : Int)) (.bl true)))) F = some (.lst (natsV fs1)) := by rw [upd_ne nMF.symm]; exact eF4
            refine d_app eF5 ?_
            walk_at "rd"
            refine d_append eF5 (szl (by rw [List.length_map]; omega)) ?_
            refine ⟨fs1 ++ [z], _, _, rfl, fun b o n e => ?_, ?_, by rw [upd_ne nLF, upd_ne nLM]; exact eL4, by rw [upd_ne nMF, upd_same], by rw [← List.append_assoc]; exact KM4.put nz _, by rw [upd_same, natsV, natsV, List.map_append]; rfl, V3.add LV hxl hz nz⟩
            · rw [upd_ne (ne_of_none e fF0), upd_ne (ne_of_none e fM0)]; exact sm4 b o n e
            · rw [upd_ne nxF, upd_ne nxM]; exact ex4
          · have nz : z ∈ ms ++ fs1 := of_decide_eq_true (by cases h : decide (z ∈ ms ++ fs1) with | true => rfl | false => rw [h] at c2; exact absurd rfl c2)
            walk_at "rd"
            exact ⟨fs1, kvs2, _, rfl, sm4, ex4, eL4, eM4, KM4, eF4, V3.skip hz nz⟩
        · obtain ⟨fs1, kvs2, y7', rfl, sm4, ex4, eL4, eM4, KM4, eF4, V3⟩ := hP
          rw [lkx] at V3
          walk_at "rd"
          refine ⟨ex4, fs1, kvs2, _, _, rfl, fun b o e => ?_, by rw [upd_ne nxL.symm]; exact eL4, by rw [upd_ne nxM.symm]; exact eM4, KM4, by rw [upd_ne nxF.symm]; exact eF4, V3.end_ hxx (Nat.le_refl _)⟩
          by_cases n : b = as[x]
          · subst n; rw [upd_same]; rw [ex] at e; exact e
          · rw [upd_ne n]; exact sm4 b o n e
      · obtain ⟨fs, kvs1, y6', y7', rfl, sm3, eL3, eM3, KM3, eF3, V2⟩ := hP
        rw [List.length_map] at V2
        walk_at "rd"
        exact ⟨fs, kvs1, F, _, _, _, by rw [show (((k + 1 : Nat) : Int) - 1) = ((k : Nat) : Int) - 1 + 1 by omega]; rfl, sm3, eM3, KM3, eF3, fF0, V2.end_ LV (Nat.le_refl _)⟩
    · have e0 : ls = [] := by
        cases ls with
        | nil => rfl
        | cons x r => simp [zs] at c
      subst e0
      walk_at "rd"
      have z := q HA sm0
      rcases pre with rfl | ⟨j, x, rfl, hx⟩
      · have := (LV.lay a).mpr (away_zero.mpr rfl)
        cases this
      · have E0 : Ecc u a j := ⟨⟨x, hx⟩, fun ⟨y, hy⟩ => by
          have := (LV.lay y).mpr hy
          cases this⟩
        rw [ecc_eq E0] at z
        rw [show (((j + 1 : Nat) : Int) - 1) = (j : Int) by omega]
        exact z
theorem tree_of {w : Web} (W : WOk w) (h : w.2.length + 1 = w.1.length) (J : Joined w) : treeB w = true := by
  unfold treeB
  rw [decide_eq_true h.symm, decide_eq_true ((joined_iff W).mpr J)]; rfl
noncomputable def eccL (u : Web) : List Nat := (List.range u.1.length).map (ecc u)
def Least (u : Web) (m : Nat) : Prop := m ∈ eccL u ∧ ∀ y ∈ eccL u, m ≤ y
noncomputable def mids (u : Web) (m : Nat) : List Nat := (List.range u.1.length).filter fun p => decide (ecc u p = m)
theorem least_uniq {u : Web} {m k : Nat} (h : Least u m) (g : Least u k) : m = k := Nat.le_antisymm (h.2 k g.1) (g.2 m h.1)
theorem eccL_len (u : Web) : (eccL u).length = u.1.length := by unfold eccL; rw [List.length_map, List.length_range]
theorem eccL_at {u : Web} {p : Nat} (h : p < u.1.length) : (eccL u)[p]? = some (ecc u p) := by
  unfold eccL
  rw [List.getElem?_map, List.getElem?_range h]; rfl
theorem mids_len (u : Web) (m : Nat) : (mids u m).length ≤ u.1.length := by
  have := List.length_filter_le (fun p => decide (ecc u p = m)) (List.range u.1.length)
  rw [List.length_range] at this
  exact this
theorem min_ex : ∀ {l : List Nat}, 0 < l.length → ∃ m ∈ l, ∀ y ∈ l, m ≤ y
  | [x], _ => ⟨x, List.mem_cons_self, fun y hy => by rw [List.mem_singleton.mp hy]; exact Nat.le_refl _⟩
  | x :: z :: r, _ => by
    obtain ⟨m, hm, h⟩ := min_ex (l := z :: r) (by simp)
    by_cases c : x ≤ m
    · refine ⟨x, List.mem_cons_self, fun y hy => ?_⟩
      rcases List.mem_cons.mp hy with rfl | hy
      · exact Nat.le_refl _
      · exact Nat.le_trans c (h y hy)
    · refine ⟨m, List.mem_cons_of_mem _ hm, fun y hy => ?_⟩
      rcases List.mem_cons.mp hy with rfl | hy
      · omega
      · exact h y hy
theorem least_ex {u : Web} (T : Tree u) : ∃ m, Least u m := by
  obtain ⟨m, h1, h2⟩ := min_ex (l := eccL u) (by rw [eccL_len, ← T.many]; omega)
  exact ⟨m, h1, h2⟩
/-- min(far) -/
theorem d_min {K : PySem.W.Frag} {H : Hp} {F : Addr} {u : Web} {Q : VK} (T : Tree u) (e : H F = some (.lst (natsV (eccL u)))) (k : ∀ m : Nat, Least u m → Q (.int (m : Nat)) H) : rMin K [.ref F] H Q := by
  refine ⟨F, zs (eccL u), rfl, SqL.of (by rw [← ints_map]; exact e), ?_, fun m hm hl => ?_⟩
  · unfold zs
    rw [List.length_map, eccL_len, ← T.many]; omega
  · obtain ⟨y, hy, rfl⟩ := List.mem_map.mp hm
    refine k y ⟨hy, fun z hz => ?_⟩
    have := hl _ (List.mem_map.mpr ⟨z, hz, rfl⟩)
    omega
def spMiddle (K : PySem.W.Frag) : Sp := fun vs H Q _ => ∃ (v : V) (u : Web), vs = [v] ∧ WebAt K H v u ∧ Tree u ∧ ∀ H' (T F : Addr) (m : Nat), Same H H' → H T = none → H F = none → T ≠ F → H' T = some (.tup [.ref F, .int (m : Nat)]) → H' F = some (.lst (natsV (mids u m))) → Least u m → Q (.ref T) H'
theorem ok_middle (T : Tx K mg) : FnOk P w K mg base CX0 5 T.middle.f T.middle.fd ["tree"] (spMiddle K) := by
  refine T.middle.F.ok sc_middle (fun vs H Q E h => ?_) (fun cdv A outer s H vs Q E hr h => ?_)
  · obtain ⟨_, _, rfl, _⟩ := h; rfl
  · obtain ⟨v, u, rfl, hw, TR, q⟩ := h
    have U := TR.ok
    have l40 := U.few
    refine ⟨_, (pss_cons (ps_if (pt_not (pt_val (pe_call (ok_is_tree T) (hr.mono (by decide)) (by rfl) T.is_tree.g T.is_tree.F.kp T.is_tree.b .nil pass0 (pa_cons (pv 0) pa_nil))))
        (pss_one ps_dead)
        pss_nil)
      (pss_cons (ps_set (i := 1) sc_middle.nd rfl (.inr rfl) (pe_call (ok_all_neighbours T) (hr.mono (by decide)) (by rfl) T.all_neighbours.g T.all_neighbours.F.kp T.all_neighbours.b .nil pass0 (pa_cons (pv 0) pa_nil)))
      (pss_cons (ps_set (i := 2) sc_middle.nd rfl (.inr rfl) (pe_lc (own := [("place", 3)]) (g := gName 3) (tt := tYes) (te := tCall spFar [] E0 (tCons (tVar 1) (tCons (tVar 3) tNil))) rfl sc_middle.nd (pi_range1 (by rfl) T.m_range (pa_cons (pe_callB call_len_seq (by rfl) T.m_len (by decide +kernel) (pa_cons (pv 1) pa_nil)) pa_nil)) (blkOk_by (N := ["tree", "beside", "far", "place"]) (sc := defScope s_middle) (by decide +kernel)) (fun _ _ _ _ _ => (pg_name (i := 3) sc_middle.nd rfl (.inl rfl))) (fun _ _ _ _ _ => pts_nil) (fun _ _ _ _ _ => (pe_call (ok_farthest_from T) (hr.mono (by decide)) (by rfl) T.farthest_from.g T.farthest_from.F.kp T.farthest_from.b .nil pass0 (pa_cons (pv 1) (pa_cons (pv 3) pa_nil))))))
      (pss_one (ps_ret (pe_tup (pa_cons (pe_lc (own := [("place", 3)]) (g := gName 3) (tt := tTest (tOp rEq (tOp (rIxL K) (tVar 2) (tVar 3)) (tCB (rMin K) (tCons (tVar 2) tNil)))) rfl sc_middle.nd (pi_range1 (by rfl) T.m_range (pa_cons (pe_callB call_len_seq (by rfl) T.m_len (by decide +kernel) (pa_cons (pv 2) pa_nil)) pa_nil)) (blkOk_by (N := ["tree", "beside", "far", "place"]) (sc := defScope s_middle) (by decide +kernel)) (fun _ _ _ _ _ => (pg_name (i := 3) sc_middle.nd rfl (.inl rfl))) (fun _ _ _ _ _ => pts_one (pt_cmpR op_eq (pe_ix ix_list (pv 2) (pv 3) (fun _ _ => rfl)) (pe_callB (cr_min rfl) (by rfl) T.m_min (by decide +kernel) (pa_cons (pv 2) pa_nil)) (nomark _))) (fun _ _ _ _ _ => (pv 3))) (pa_cons (pe_callB (cr_min rfl) (by rfl) T.m_min (by decide +kernel) (pa_cons (pv 2) pa_nil)) pa_nil)))))))), ?_⟩
    walk_at "rd"
    refine ⟨v, u, rfl, hw, U, fun H1 s1 => ?_⟩
    rw [tree_of U TR.many TR.joined]
    walk_at "rd"
    refine ⟨v, u, rfl, hw.same s1, U, fun H2 D as s2 fD eD la nd nD fa hA => ?_⟩
    have s12 := Same.trans s1 s2
    have nbat : NbAt H2 D u := ⟨as, eD, la, hA⟩
    walk_at "rd"
    refine d_lenL (SqL.of eD) ?_
    rw [List.length_map, la]
    walk_at "rd"
    intro F fF
    refine lc_range (fun i H3 => H3 F = some (.lst (natsV ((eccL u).take i))) ∧ Same H2 H3) ⟨upd_same, same_new fF⟩ (fun i H3 hi hP => ?_) (fun H3 hP => ?_)
    · obtain ⟨eF, s3⟩ := hP
      have hi' : i < u.1.length := by omega
      walk_at "rd"
      refine ⟨D, u, i, by show [V.ref D, V.int (0 + (i : Int))] = _; rw [Int.zero_add], nbat.same s3, TR, hi', fun H4 s4 => ?_⟩
      refine ⟨_, s4 _ _ eF, szl (by rw [List.length_map, List.length_take]; omega), ?_, same_upd (Same.trans s3 s4) fF⟩
      rw [upd_same, take_snoc (eccL_at hi')]
      unfold natsV
      rw [List.map_append]
      rfl
    · obtain ⟨eF, s3⟩ := hP
      rw [show ((u.1.length : Nat) : Int).toNat = (eccL u).length by rw [eccL_len]; omega, List.take_length] at eF
      have s13 := Same.trans s12 s3
      walk_at "rd"
      refine d_lenL (SqL.of eF) ?_
      rw [List.length_map, eccL_len]
      walk_at "rd"
      intro G fG
      obtain ⟨m, lm⟩ := least_ex TR
      refine lc_range (fun i H4 => H4 G = some (.lst (natsV ((List.range i).filter fun p => decide (ecc u p = m)))) ∧ Same H3 H4) ⟨upd_same, same_new fG⟩ (fun i H4 hi hP => ?_) (fun H4 hP => ?_)
      · obtain ⟨eG, s4⟩ := hP
        have hi' : i < u.1.length := by omega
        have lf := List.length_filter_le (fun p => decide (ecc u p = m)) (List.range i)
        rw [List.length_range] at lf
        walk_at "rd"
        refine d_ixLm (s4 _ _ eF) (by rw [Int.zero_add]; exact atI_nat (by rw [List.getElem?_map, eccL_at hi']; rfl)) ?_
        walk_at "rd"
        refine d_min TR (s4 _ _ eF) fun m' lm' => ?_
        have em := least_uniq lm' lm
        subst em
        refine ⟨rfl, ?_⟩
        rw [show decide (V.int (ecc u i : Nat) = V.int (m' : Nat)) = decide (ecc u i = m') from decide_eq_decide.mpr (by rw [V.int.injEq]; omega)]
        walk_at "rd"
        refine ite2 (fun c => ?_) (fun c => ?_)
        · walk_at "rd"
          refine ⟨_, eG, szl (by rw [List.length_map]; omega), ?_, same_upd s4 fG⟩
          rw [upd_same, Int.zero_add, List.range_succ, List.filter_append, show [i].filter (fun p => decide (ecc u p = m')) = [i] by rw [List.filter_cons_of_pos (p := fun p => decide (ecc u p = m')) c]; rfl]
          unfold natsV
          rw [List.map_append]
          rfl
        · refine ⟨?_, s4⟩
          rw [List.range_succ, List.filter_append, show [i].filter (fun p => decide (ecc u p = m')) = [] by rw [List.filter_cons_of_neg (p := fun p => decide (ecc u p = m')) c]; rfl, List.append_nil]
          exact eG
      · obtain ⟨eG, s4⟩ := hP
        walk_at "rd"
        refine d_min TR (s4 _ _ eF) fun m' lm' => ?_
        have em := least_uniq lm' lm
        subst em
        walk_at "rd"
        refine ⟨sz (by show 2 ≤ 100000; decide), fun p fp => ?_⟩
        have s14 := Same.trans s13 s4
        refine q _ p G m' (Same.trans s14 (same_new fp)) (Same.free s14 fp) (Same.free s13 fG) (ne_of_none eG fp).symm upd_same ?_ lm
        rw [upd_ne (ne_of_none eG fp)]
        rw [show ((u.1.length : Nat) : Int).toNat = u.1.length by omega] at eG
        exact eG
theorem mid_good (ns : List Int) (m : Int) : SeqAt.shaped (.tuple [.list (ns.map PyData.int), .int m]) = true := by
  obtain ⟨h1, h2⟩ := lay_all (ds := ns.map PyData.int) (k := 0) fun d hd => by
    obtain ⟨t, _, rfl⟩ := List.mem_map.mp hd
    simp [PyData.canLay0, PyData.depth]
  simp [SeqAt.shaped, PyData.canLay0, PyData.canLayAll0, PyData.depth, PyData.depthAll, h1]
  omega
def spRight (K : PySem.W.Frag) : Sp := fun vs H Q _ => ∃ v w, vs = [v] ∧ WebAt K H v w ∧ Tree w ∧ ∀ H', Same H H' → Q (.bl true) H'
theorem ok_right (T : Tx K mg) : FnOk P w K mg base CX0 6 T.right.f T.right.fd ["web"] (spRight K) := by
  refine T.right.F.ok sc_right (fun vs H Q E h => ?_) (fun cdv A outer s H vs Q E hr h => ?_)
  · obtain ⟨v, w, rfl, _⟩ := h; rfl
  · obtain ⟨v, u, rfl, hw, TR, q⟩ := h
    have U := TR.ok
    have l40 := U.few
    obtain ⟨a, b, tvs, rfl, q1, q2, pT⟩ := id hw
    have hl : (⟨u.1.toArray⟩ : Str).length = u.1.length := by show u.1.toArray.size = _; simp
    refine ⟨_, (pss_cons (ps_set (i := 1) sc_right.nd rfl (.inr rfl) (pe_call (ok_neighbours T) (hr.mono (by decide)) (by rfl) T.neighbours.g T.neighbours.F.kp T.neighbours.b .nil pass0 (pa_cons (pv 0) pa_nil)))
      (pss_cons (ps_set (i := 2) sc_right.nd rfl (.inr rfl) (pe_lc (own := [("place", 6)]) (g := gName 6) (tt := tYes) (te := tCall spLawFar [] E0 (tCons (tVar 1) (tCons (tVar 6) tNil))) rfl sc_right.nd (pi_range1 (by rfl) T.m_range (pa_cons (pe_callB call_len_str (by rfl) T.m_len (by decide +kernel) (pa_cons (pe_ix ix_tup (pv 0) pe_int (fun _ _ => rfl)) pa_nil)) pa_nil)) (blkOk_by (N := ["web", "beside", "far", "due", "turn", "found", "place", "one"]) (sc := defScope s_right) (by decide +kernel)) (fun _ _ _ _ _ => (pg_name (i := 6) sc_right.nd rfl (.inl rfl))) (fun _ _ _ _ _ => pts_nil) (fun _ _ _ _ _ => (pe_call (ok_far T) (hr.mono (by decide)) (by rfl) T.far.g T.far.F.kp T.far.b .nil pass0 (pa_cons (pv 1) (pa_cons (pv 6) pa_nil))))))
      (pss_cons (ps_setLc (i := 3) (own := [("place", 6)]) (g := gName 6) (tt := tTest (tOp rEq (tOp (rIxL K) (tVar 2) (tVar 6)) (tCB (rMin K) (tCons (tVar 2) tNil)))) rfl sc_right.nd rfl rfl (sw_true rfl rfl rfl (by decide +kernel)) (pi_range1 (by rfl) T.m_range (pa_cons (pe_callB call_len_seq (by rfl) T.m_len (by decide +kernel) (pa_cons (pv 2) pa_nil)) pa_nil)) (blkOk_by (N := ["web", "beside", "far", "due", "turn", "found", "place", "one"]) (sc := defScope s_right) (by decide +kernel)) (fun _ _ _ _ _ => (pg_name (i := 6) sc_right.nd rfl (.inl rfl))) (fun _ _ _ _ _ => pts_one (pt_cmpR op_eq (pe_ix ix_list (pv 2) (pv 6) (fun _ _ => rfl)) (pe_callB (cr_min rfl) (by rfl) T.m_min (by decide +kernel) (pa_cons (pv 2) pa_nil)) (nomark _))) (fun _ _ _ _ _ => (pv 6)))
      (pss_cons (ps_for PassesOwn.never rfl (pi_range1 (by rfl) T.m_range (pa_cons pe_int pa_nil)) (pg_name (i := 4) sc_right.nd rfl (.inl rfl))
        (pss_cons (ps_set (i := 5) sc_right.nd rfl (.inl rfl) (pe_call (ok_middle T) (hr.mono (by decide)) (by rfl) T.middle.g T.middle.F.kp T.middle.b .nil pass0 (pa_cons (pv 0) pa_nil)))
        (pss_cons (ps_if (PW.pt (pw_or (pt_not (pt_val (pe_callB call_isi (by rfl) T.m_isinstance (by decide +kernel) (pa_cons (pv 5) (pa_cons (pe_bltn (by rfl) T.m_tuple (by decide +kernel) (v := .ty "tuple") rfl) pa_nil))))) (pw_or (pt_cmpR op_ne (pe_callB call_len_seq (by rfl) T.m_len (by decide +kernel) (pa_cons (pv 5) pa_nil)) pe_int (nomark _)) (pw_or1 (pt_not (pt_val (pe_callB call_isi (by rfl) T.m_isinstance (by decide +kernel) (pa_cons (pe_ix ix_tup (pv 5) pe_int (fun _ _ => rfl)) (pa_cons (pe_bltn (by rfl) T.m_list (by decide +kernel) (v := .ty "list") rfl) pa_nil)))))))))
          (pss_one (ps_ret pe_bl))
          pss_nil)
        (pss_cons (ps_if (PW.pt (pw_or (pt_cmpR (op_neD (hr.units)) (pv 5) (pe_tup (pa_cons (pv 3) (pa_cons (pe_callB (cr_min rfl) (by rfl) T.m_min (by decide +kernel) (pa_cons (pv 2) pa_nil)) pa_nil))) (nomark _)) (pw_or1 (pt_cmpR (op_neD (hr.units)) (pe_lc (own := [("one", 7)]) (g := gName 7) (tt := tB (tCB (rIsi K) (tCons (tVar 7) (tCons (tC (.ty "bool")) tNil)))) rfl sc_right.nd (pi_list (pe_op op_cat (pe_ix ix_tup (pv 5) pe_int (fun _ _ => rfl)) (pe_lst (pa_cons (pe_ix ix_tup (pv 5) pe_int (fun _ _ => rfl)) pa_nil)))) (blkOk_by (N := ["web", "beside", "far", "due", "turn", "found", "place", "one"]) (sc := defScope s_right) (by decide +kernel)) (fun _ _ _ _ _ => (pg_name (i := 7) sc_right.nd rfl (.inl rfl))) (fun _ _ _ _ _ => pts_one (pt_val (pe_callB call_isi (by rfl) T.m_isinstance (by decide +kernel) (pa_cons (pv 7) (pa_cons (pe_bltn (by rfl) T.m_bool (by decide +kernel) (v := .ty "bool") rfl) pa_nil))))) (fun _ _ _ _ _ => (pv 7))) (pe_lst pa_nil) (nomark _)))))
          (pss_one (ps_ret pe_bl))
          pss_nil)
        (pss_one (ps_expr (pe_bm PySem.F.plainAttrs_list PySem.F.slot_list_append PySem.F.type_list_append mt_append (pe_ix ix_tup (pv 5) pe_int (fun _ _ => rfl)) (pa_cons pe_int pa_nil))))))))
      (pss_one (ps_ret pe_bl)))))), ?_⟩
    walk_at "rd"
    refine ⟨_, u, rfl, hw, U, fun H2 D s2 fD dn => ?_⟩
    have nbat : ∀ {H'}, Same H2 H' → DnAt H' D u := fun s => by
      obtain ⟨as, e, l, h⟩ := dn
      refine ⟨as, s _ _ e, l, fun j x z => ?_⟩
      obtain ⟨kvs, e1, e2⟩ := h j x z
      exact ⟨kvs, s _ _ e1, e2⟩
    walk_at "rd"
    refine d_ixT (Same.sqt s2 q1) rfl ?_
    refine d_lenS (z := ⟨u.1.toArray⟩) (sz (by omega)) ?_
    rw [hl]
    walk_at "rd"
    intro F fF
    refine lc_range (fun i H3 => H3 F = some (.lst (natsV ((eccL u).take i))) ∧ Same H2 H3) ⟨upd_same, same_new fF⟩ (fun i H3 hi hP => ?_) (fun H3 hP => ?_)
    · obtain ⟨eF, s3⟩ := hP
      have hi' : i < u.1.length := by omega
      walk_at "rd"
      refine ⟨D, u, i, by show [V.ref D, V.int (0 + (i : Int))] = _; rw [Int.zero_add], nbat s3, U, hi', fun H4 s4 => ?_⟩
      refine ⟨_, s4 _ _ eF, szl (by rw [List.length_map, List.length_take]; omega), ?_, same_upd (Same.trans s3 s4) fF⟩
      rw [upd_same, take_snoc (eccL_at hi')]
      unfold natsV
      rw [List.map_append]
      rfl
    · obtain ⟨eF, s3⟩ := hP
      rw [show ((u.1.length : Nat) : Int).toNat = (eccL u).length by rw [eccL_len]; omega, List.take_length] at eF
      have s13 := Same.trans s2 s3
      walk_at "rd"
      refine d_lenL (SqL.of eF) ?_
      rw [List.length_map, eccL_len]
      walk_at "rd"
      intro G fG
      obtain ⟨m, lm⟩ := least_ex TR
      refine lc_range (fun i H4 => H4 G = some (.lst (natsV ((List.range i).filter fun p => decide (ecc u p = m)))) ∧ Same H3 H4) ⟨upd_same, same_new fG⟩ (fun i H4 hi hP => ?_) (fun H4 hP => ?_)
      · obtain ⟨eG, s4⟩ := hP
        have hi' : i < u.1.length := by omega
        have lf := List.length_filter_le (fun p => decide (ecc u p = m)) (List.range i)
        rw [List.length_range] at lf
        walk_at "rd"
        refine d_ixLm (s4 _ _ eF) (by rw [Int.zero_add]; exact atI_nat (by rw [List.getElem?_map, eccL_at hi']; rfl)) ?_
        walk_at "rd"
        refine d_min TR (s4 _ _ eF) fun m' lm' => ?_
        have em := least_uniq lm' lm
        subst em
        refine ⟨rfl, ?_⟩
        rw [show decide (V.int (ecc u i : Nat) = V.int (m' : Nat)) = decide (ecc u i = m') from decide_eq_decide.mpr (by rw [V.int.injEq]; omega)]
        walk_at "rd"
        refine ite2 (fun c => ?_) (fun c => ?_)
        · walk_at "rd"
          refine ⟨_, eG, szl (by rw [List.length_map]; omega), ?_, same_upd s4 fG⟩
          rw [upd_same, Int.zero_add, List.range_succ, List.filter_append, show [i].filter (fun p => decide (ecc u p = m')) = [i] by rw [List.filter_cons_of_pos (p := fun p => decide (ecc u p = m')) c]; rfl]
          unfold natsV
          rw [List.map_append]
          rfl
        · refine ⟨?_, s4⟩
          rw [List.range_succ, List.filter_append, show [i].filter (fun p => decide (ecc u p = m')) = [] by rw [List.filter_cons_of_neg (p := fun p => decide (ecc u p = m')) c]; rfl, List.append_nil]
          exact eG
      · obtain ⟨eG, s4⟩ := hP
        rw [show (List.range ((u.1.length : Nat) : Int).toNat).filter (fun p => decide (ecc u p = m)) = mids u m by unfold mids; rw [show ((u.1.length : Nat) : Int).toNat = u.1.length by omega]] at eG
        have s04 := Same.trans s13 s4
        have eF4 := s4 _ _ eF
        walk_at "rd"
        refine for_range (fun j σ H5 => ∃ y4 y5 y6 y7, σ = [some (.ref a), some (.ref D), some (.ref F), some (.ref G), y4, y5, y6, y7] ∧ Same H4 H5)
          ⟨_, _, _, _, rfl, Same.refl _⟩ (fun j σ H5 hj hP => ?_) (fun σ H5 hP => ?_)
        · obtain ⟨y4, y5, y6, y7, rfl, s5⟩ := hP
          walk_at "rd"
          refine ⟨_, u, rfl, hw.same (Same.trans s04 s5), TR, fun H6 T6 F6 m6 s6 fT fF6 nTF eT eF6 lm6 => ?_⟩
          have em := least_uniq lm6 lm
          subst em
          have s46 := Same.trans s5 s6
          walk_at "rd"
          refine ⟨_, _, _, _, true, rfl, .ty "tuple", .base (.tup eT), kit_ty (by decide +kernel), ?_⟩
          walk_at "rd"
          refine d_lenT (SqT.of eT) ?_
          walk_at "rd"
          rw [show (!decide ((([V.ref F6, V.int (m6 : Nat)] : List V).length : Int) = 2)) = false from rfl]
          walk_at "rd"
          refine ⟨_, _, _, _, true, rfl, .ty "list", .base (.lst eF6), kit_ty (by decide +kernel), ?_⟩
          walk_at "rd"
          refine d_min TR (s46 _ _ eF4) fun m7 lm7 => ?_
          have em := least_uniq lm7 lm6
          subst em
          walk_at "rd"
          refine ⟨sz (by show 2 ≤ 100000; decide), fun p fp => ?_⟩
          have s7 := same_new (o := .tup [V.ref G, V.int (m7 : Nat)]) fp
          have e7 := upd_same (H := H6) (a := p) (o := .tup [V.ref G, V.int (m7 : Nat)])
          have eG7 := s7 _ _ (s46 _ _ eG)
          have eT7 := s7 _ _ eT
          have eF7 := s7 _ _ eF6
          generalize upd H6 p _ = H7 at s7 e7 eG7 eT7 eF7 ⊢
          refine ⟨.tuple [.list ((zs (mids u m7)).map PyData.int), .int (m7 : Nat)], .tuple [.list ((zs (mids u m7)).map PyData.int), .int (m7 : Nat)], .tup (SqT.of eT7) (.cons (dp_nats eF7) (.cons (.int _) .nil)), .tup (SqT.of e7) (.cons (dp_nats eG7) (.cons (.int _) .nil)), mid_good _ _, mid_good _ _, ?_⟩
          rw [good_eqv (mid_good _ _)]
          walk_at "rd"
          refine ⟨sz (by show 1 ≤ 100000; decide), fun p2 f2 => ?_⟩
          have s8 := same_new (o := .lst [V.int (m7 : Nat)]) f2
          have e8 := upd_same (H := H7) (a := p2) (o := .lst [V.int (m7 : Nat)])
          have eF8 := s8 _ _ eF7
          have eT8 := s8 _ _ eT7
          generalize upd H7 p2 _ = H8 at s8 e8 eF8 eT8 ⊢
          have lmid := mids_len u m7
          refine ⟨F6, p2, _, _, rfl, rfl, eF8, e8, sz (by show (natsV (mids u m7)).length + 1 ≤ 100000; rw [List.length_map]; omega), fun p3 f3 => ?_⟩
          have s9 := same_new (o := .lst (natsV (mids u m7) ++ [V.int (m7 : Nat)])) f3
          have e9 := upd_same (H := H8) (a := p3) (o := .lst (natsV (mids u m7) ++ [V.int (m7 : Nat)]))
          have eF9 := s9 _ _ eF8
          have eT9 := s9 _ _ eT8
          generalize upd H8 p3 _ = H9 at s9 e9 eF9 eT9 ⊢
          have allInt : ∀ x ∈ natsV (mids u m7) ++ [V.int (m7 : Nat)], ∃ n : Int, x = V.int n := fun x hx => by
            rcases List.mem_append.mp hx with hx | hx
            · obtain ⟨n, _, rfl⟩ := List.mem_map.mp hx; exact ⟨_, rfl⟩
            · rw [List.mem_singleton.mp hx]; exact ⟨_, rfl⟩
          refine d_iLe (SqL.of e9) ?_
          intro N fN
          refine lc_list (K := K) (a := p3) (xs := natsV (mids u m7) ++ [V.int (m7 : Nat)]) (fun k H10 => H10 N = some (.lst []) ∧ Same H9 H10)
            ⟨upd_same, same_new fN⟩ (fun k H10 _ hP => SqL.of (hP.2 _ _ e9)) (fun k x H10 hx hP => ?_) (fun H10 hP => ?_)
          · obtain ⟨eN, s10⟩ := hP
            obtain ⟨n, rfl⟩ := allInt x (List.mem_of_getElem? hx)
            walk_at "rd"
            refine ⟨_, _, _, _, false, rfl, .ty "bool", .base (.int _), kit_ty (by decide +kernel), ?_⟩
            walk_at "rd"
            exact ⟨eN, s10⟩
          · obtain ⟨eN, s10⟩ := hP
            walk_at "rd"
            refine ⟨sz (by decide), fun p4 f4 => ?_⟩
            refine ⟨.list [], .list [], .lst (SqL.of (at_upd eN f4)) .nil, .lst (SqL.of upd_same) .nil, by decide, by decide, ?_⟩
            rw [eqv_nil, show (!([] : List PyData).isEmpty) = false from rfl]
            have s11 := Same.trans s10 (same_new (o := .lst []) f4)
            generalize upd H10 p4 _ = H11 at s11 ⊢
            have eT11 := s11 _ _ eT9
            have eF11 := s11 _ _ eF9
            have s6B := Same.trans s6 (Same.trans s7 (Same.trans s8 (Same.trans s9 s11)))
            walk_at "rd"
            refine d_app eF11 ?_
            walk_at "rd"
            refine d_append eF11 (szl (by rw [List.length_map]; omega)) ?_
            exact ⟨_, _, _, _, rfl, same_upd (Same.trans s5 s6B) (Same.free s5 fF6)⟩
        · obtain ⟨y4, y5, y6, y7, rfl, s5⟩ := hP
          walk_at "rd"
          exact q _ (Same.trans s04 s5)
theorem cut_ints (ns : List Int) (lo hi : Option Int) : ∀ x ∈ cutV (ns.map V.int) lo hi, ∃ c : Int, x = V.int c := fun x hx => by
  unfold cutV at hx
  have m := List.mem_of_mem_drop (List.mem_of_mem_take hx)
  obtain ⟨c, _, rfl⟩ := List.mem_map.mp m
  exact ⟨c, rfl⟩
def rowT (n : Nat) : List Tie := (List.range n).map fun j => (j, j + 1, 120)
def starT (n : Nat) : List Tie := (List.range n).map fun j => (0, j + 1, 121)
theorem rowT_succ (n : Nat) : rowT (n + 1) = rowT n ++ [(n, n + 1, 120)] := by unfold rowT; rw [List.range_succ, List.map_append]; rfl
theorem starT_succ (n : Nat) : starT (n + 1) = starT n ++ [(0, n + 1, 121)] := by unfold starT; rw [List.range_succ, List.map_append]; rfl
theorem rowT_len (n : Nat) : (rowT n).length = n := by unfold rowT; rw [List.length_map, List.length_range]
theorem starT_len (n : Nat) : (starT n).length = n := by unfold starT; rw [List.length_map, List.length_range]
theorem rowT_grown (n : Nat) : Grown (rowT n) := fun i t h => by
  unfold rowT at h
  rw [List.getElem?_map] at h
  obtain ⟨j, hj, rfl⟩ := Option.map_eq_some_iff.mp h
  have hi := (List.getElem?_eq_some_iff.mp hj).1
  rw [List.length_range] at hi
  rw [List.getElem?_range hi] at hj
  cases hj
  exact ⟨rfl, Nat.le_refl _, by show Ltr 120; unfold Ltr; omega⟩
theorem starT_grown (n : Nat) : Grown (starT n) := fun i t h => by
  unfold starT at h
  rw [List.getElem?_map] at h
  obtain ⟨j, hj, rfl⟩ := Option.map_eq_some_iff.mp h
  have hi := (List.getElem?_eq_some_iff.mp hj).1
  rw [List.length_range] at hi
  rw [List.getElem?_range hi] at hj
  cases hj
  exact ⟨rfl, Nat.zero_le _, by show Ltr 121; unfold Ltr; omega⟩
theorem more_tie {K : PySem.W.Frag} {H : Hp} {xs ys zs : List V} {ts : List Tie} {t : Tie} {l b : Addr} {x y : Int} {z : Str} (p : Ties K H xs ts) (e : H l = some (.lst ys)) (f : H b = none) (hx : x = (t.1 : Nat)) (hy : y = (t.2.1 : Nat)) (hz : z = sg t.2.2) : Ties K (upd (upd H b (.tup [.int x, .int y, .str z])) l (.lst zs)) (xs ++ [.ref b]) (ts ++ [t]) := by
  subst hx hy hz
  exact p.more e f
theorem tree_named {w0 w : Web} {qs : List Nat} (oo : Ord qs w0.1.length) (N : Named w0 qs w) (W : WOk w) (len : w0.2.length + 1 = w0.1.length) (G : Grown w0.2) : Tree w :=
  ⟨W, by rw [N.ties.length_eq, List.length_map, N.len]; exact len, grown_joined oo N W len G⟩
theorem rep_kinds (n c : Nat) : ((List.replicate n c).map fun c => V.str (sg c)) = List.replicate n (V.str (sg c)) := by rw [List.map_replicate]
theorem one_ecc : ecc ([122], []) 0 = 0 := ecc_eq ⟨⟨0, away_zero.mpr rfl⟩, fun ⟨x, hx⟩ => by
  obtain ⟨y, _, m⟩ := away_back hx
  exact absurd m (by simp [nb])⟩
def w2z : Web := ([122, 122], [(0, 1, 97)])
theorem nb0 : nb w2z.2 0 = [1] := by decide
theorem nb1 : nb w2z.2 1 = [0] := by decide
theorem two_ecc0 : ecc w2z 0 = 1 := ecc_eq ⟨⟨1, ⟨0, rfl, by rw [nb0]; simp⟩, fun j lt h => by
    have : j = 0 := by omega
    subst this
    have h : (1 : Nat) = 0 := h
    omega⟩, fun ⟨x, hx⟩ => by
  obtain ⟨y, ⟨⟨z, hz, m1⟩, _⟩, m⟩ := away_back hx
  have hz : z = 0 := hz
  subst hz
  rw [nb0] at m1
  have e1 := List.mem_singleton.mp m1
  subst e1
  rw [nb1] at m
  have e2 := List.mem_singleton.mp m
  subst e2
  have := away_uniq hx (away_zero.mpr rfl)
  omega⟩
theorem two_ecc1 : ecc w2z 1 = 1 := ecc_eq ⟨⟨0, ⟨1, rfl, by rw [nb1]; simp⟩, fun j lt h => by
    have : j = 0 := by omega
    subst this
    have h : (0 : Nat) = 1 := h
    omega⟩, fun ⟨x, hx⟩ => by
  obtain ⟨y, ⟨⟨z, hz, m1⟩, _⟩, m⟩ := away_back hx
  have hz : z = 1 := hz
  subst hz
  rw [nb1] at m1
  have e1 := List.mem_singleton.mp m1
  subst e1
  rw [nb0] at m
  have e2 := List.mem_singleton.mp m
  subst e2
  have := away_uniq hx (away_zero.mpr rfl)
  omega⟩
theorem one_mid {m : Nat} (h : Least ([122], []) m) : m = 0 ∧ mids ([122], []) m = [0] := by
  have e : eccL ([122], []) = [0] := by
    show [ecc ([122], []) 0] = [0]
    rw [one_ecc]
  have h1 := h.1
  rw [e] at h1
  have := List.mem_singleton.mp h1
  subst this
  refine ⟨rfl, ?_⟩
  show List.filter (fun p => decide (ecc ([122], []) p = 0)) [0] = [0]
  rw [List.filter_cons_of_pos (p := fun p => decide (ecc ([122], []) p = 0)) (decide_eq_true one_ecc)]; rfl
theorem two_mid {m : Nat} (h : Least w2z m) : m = 1 ∧ mids w2z m = [0, 1] := by
  have e : eccL w2z = [1, 1] := by
    show [ecc w2z 0, ecc w2z 1] = [1, 1]
    rw [two_ecc0, two_ecc1]
  have h1 := h.1
  rw [e] at h1
  have : m = 1 := by simpa using h1
  subst this
  refine ⟨rfl, ?_⟩
  show List.filter (fun p => decide (ecc w2z p = 1)) [0, 1] = [0, 1]
  rw [List.filter_cons_of_pos (p := fun p => decide (ecc w2z p = 1)) (decide_eq_true two_ecc0), List.filter_cons_of_pos (p := fun p => decide (ecc w2z p = 1)) (decide_eq_true two_ecc1)]; rfl
theorem one_tree : Tree ([122], []) := ⟨⟨by decide, by decide, fun c hc => by rw [List.mem_singleton.mp hc]; unfold Ltr; omega, .nil, by simp⟩, rfl, fun a b ha hb => by
  have ha : a < 1 := ha
  have hb : b < 1 := hb
  have : a = b := by omega
  subst this; exact .base⟩
theorem two_wok : WOk w2z := ⟨by decide, by decide, fun c hc => by
  have : c = 122 := by simpa [w2z] using hc
  rw [this]; unfold Ltr; omega, by unfold w2z; simp, fun t ht => by
  have : t = (0, 1, 97) := by simpa [w2z] using ht
  subst this
  exact ⟨by decide, by decide, by unfold Ltr; decide⟩⟩
theorem two_tree : Tree w2z := ⟨two_wok, rfl, (joined_zero two_wok (by decide)).mpr fun y hy => by
  have hy : y < 2 := hy
  have : y = 0 ∨ y = 1 := by omega
  rcases this with rfl | rfl
  · exact .base
  · exact Rch.base.step (by rw [nb0]; simp)⟩
def spLaw (K : PySem.W.Frag) : Sp := fun vs H Q _ => ∃ (a : Addr) (ns : List Int), vs = [.ref a] ∧ SqL K H a (ns.map V.int) ∧ ns.length ≤ 63 ∧ ∀ H', Q (.bl true) H'
theorem ok_law (T : Tx K mg) : FnOk P w K mg base CX0 7 T.law.f T.law.fd ["script"] (spLaw K) := by
  refine T.law.F.ok sc_law (fun vs H Q E h => ?_) (fun cdv A outer s H vs Q E hr h => ?_)
  · obtain ⟨_, _, rfl, _⟩ := h; rfl
  · obtain ⟨a, ns, rfl, hS, hl, q⟩ := h
    refine ⟨_, (pss_cons (ps_for PassesOwn.never rfl (pi_enum (by rfl) T.m_enumerate (pa_cons (pe_op op_cat (pe_slice sl_list (pv 0) po_none (po_some pe_int)) (pe_lst (pa_cons (pe_callB call_len_seq (by rfl) T.m_len (by decide +kernel) (pa_cons (pv 0) pa_nil)) pa_nil))) pa_nil)) (pg_tup rfl (pgs_cons (pg_name (i := 1) sc_law.nd rfl (.inl rfl)) (pgs_cons (pg_name (i := 2) sc_law.nd rfl (.inl rfl)) pgs_nil)))
        (pss_cons (ps_set (i := 3) sc_law.nd rfl (.inl rfl) (pe_call (ok_pot T) (hr.mono (by decide)) (by rfl) T.pot.g T.pot.F.kp T.pot.b .nil pass0 (pa_cons (pv 2) pa_nil)))
        (pss_cons (ps_set (i := 4) sc_law.nd rfl (.inl rfl) (pe_op op_add pe_int (pe_call (ok_take T) (hr.mono (by decide)) (by rfl) T.take.g T.take.F.kp T.take.b .nil pass0 (pa_cons (pv 3) (pa_cons pe_int pa_nil)))))
        (Evl.pss_cut (ps_if (PW.pt (pw_and (pt_cmpR op_eq (pv 1) pe_int (nomark _)) (pw_and1 (pt_cmpR op_eq (pe_call (ok_take T) (hr.mono (by decide)) (by rfl) T.take.g T.take.F.kp T.take.b .nil pass0 (pa_cons (pv 3) (pa_cons pe_int pa_nil))) pe_int (nomark _)))))
          (pss_one (ps_set (i := 4) sc_law.nd rfl (.inl rfl) pe_int))
          pss_nil)
        (pss_cons (ps_set (i := 5) sc_law.nd rfl (.inl rfl) (pe_op op_add pe_int (pe_call (ok_take T) (hr.mono (by decide)) (by rfl) T.take.g T.take.F.kp T.take.b .nil pass0 (pa_cons (pv 3) (pa_cons pe_int pa_nil)))))
        (pss_cons (ps_setLc (i := 6) (own := [("place", 10)]) (g := gName 10) (tt := tYes) rfl sc_law.nd rfl rfl (sw_true rfl rfl rfl (by decide +kernel)) (pi_range1 (by rfl) T.m_range (pa_cons (pe_op op_sub (pv 5) pe_int) pa_nil)) (blkOk_by (N := ["script", "k", "cell", "pot", "many", "row", "ties", "star", "webs", "web", "place"]) (sc := defScope s_law) (by decide +kernel)) (fun _ _ _ _ _ => (pg_name (i := 10) sc_law.nd rfl (.inl rfl))) (fun _ _ _ _ _ => pts_nil) (fun _ _ _ _ _ => (pe_tup (pa_cons (pv 10) (pa_cons (pe_op op_add (pv 10) pe_int) (pa_cons pe_str pa_nil))))))
        (pss_cons (ps_setLc (i := 7) (own := [("place", 10)]) (g := gName 10) (tt := tYes) rfl sc_law.nd rfl rfl (sw_true rfl rfl rfl (by decide +kernel)) (pi_range2 (by rfl) T.m_range (pa_cons pe_int (pa_cons (pv 4) pa_nil))) (blkOk_by (N := ["script", "k", "cell", "pot", "many", "row", "ties", "star", "webs", "web", "place"]) (sc := defScope s_law) (by decide +kernel)) (fun _ _ _ _ _ => (pg_name (i := 10) sc_law.nd rfl (.inl rfl))) (fun _ _ _ _ _ => pts_nil) (fun _ _ _ _ _ => (pe_tup (pa_cons pe_int (pa_cons (pv 10) (pa_cons pe_str pa_nil))))))
        (pss_cons (ps_set (i := 8) sc_law.nd rfl (.inl rfl) (pe_lst (pa_cons (pe_call (ok_tree T) (hr.mono (by decide)) (by rfl) T.tree.g T.tree.F.kp T.tree.b .nil pass0 (pa_cons (pv 3) (pa_cons (pv 4) (pa_cons pe_int (pa_cons pe_int pa_nil))))) (pa_cons (pe_call (ok_web T) (hr.mono (by decide)) (by rfl) T.web.g T.web.F.kp T.web.b .nil pass0 (pa_cons (pe_op op_rep (pe_lst (pa_cons pe_str pa_nil)) (pv 5)) (pa_cons (pv 6) (pa_cons (pe_call (ok_order T) (hr.mono (by decide)) (by rfl) T.order.g T.order.F.kp T.order.b .nil pass0 (pa_cons (pv 3) (pa_cons (pv 5) pa_nil))) pa_nil)))) pa_nil))))
        (pss_one (ps_for PassesOwn.never rfl (pi_list (pe_op op_cat (pv 8) (pe_lst (pa_cons (pe_call (ok_web T) (hr.mono (by decide)) (by rfl) T.web.g T.web.F.kp T.web.b .nil pass0 (pa_cons (pe_op op_rep (pe_lst (pa_cons pe_str pa_nil)) (pv 4)) (pa_cons (pv 7) (pa_cons (pe_call (ok_order T) (hr.mono (by decide)) (by rfl) T.order.g T.order.F.kp T.order.b .nil pass0 (pa_cons (pv 3) (pa_cons (pv 4) pa_nil))) pa_nil)))) pa_nil)))) (pg_name (i := 9) sc_law.nd rfl (.inl rfl))
          (pss_one (ps_if (pt_not (pt_val (pe_call (ok_right T) (hr.mono (by decide)) (by rfl) T.right.g T.right.F.kp T.right.b .nil pass0 (pa_cons (pv 9) pa_nil))))
            (pss_one (ps_ret pe_bl))
            pss_nil))))))))))))
      (pss_one (ps_ret (pe_and (pe_cmpR (op_eqD (hr.units)) (pe_call (ok_middle T) (hr.mono (by decide)) (by rfl) T.middle.g T.middle.F.kp T.middle.b .nil pass0 (pa_cons (pe_tup (pa_cons pe_str (pa_cons (pe_tup pa_nil) pa_nil))) pa_nil)) (pe_tup (pa_cons (pe_lst (pa_cons pe_int pa_nil)) (pa_cons pe_int pa_nil))) (nomark _)) (pe_one (pe_cmpR (op_eqD (hr.units)) (pe_call (ok_middle T) (hr.mono (by decide)) (by rfl) T.middle.g T.middle.F.kp T.middle.b .nil pass0 (pa_cons (pe_tup (pa_cons pe_str (pa_cons (pe_tup (pa_cons (pe_tup (pa_cons pe_int (pa_cons pe_int (pa_cons pe_str pa_nil)))) pa_nil)) pa_nil))) pa_nil)) (pe_tup (pa_cons (pe_lst (pa_cons pe_int (pa_cons pe_int pa_nil))) (pa_cons pe_int pa_nil))) (nomark _))))))), ?_⟩
    walk_at "rd"
    refine d_slL hS (fun a1 fa1 => ?_)
    have s1 := same_new (o := .lst (cutV (ns.map V.int) none (some 6))) fa1
    have e1 := upd_same (H := H) (a := a1) (o := .lst (cutV (ns.map V.int) none (some 6)))
    have ci := cut_ints ns none (some 6)
    have lci := cutV_length (ns.map V.int) none (some 6)
    rw [List.length_map] at lci
    generalize hcs : cutV (ns.map V.int) none (some 6) = cs at s1 e1 ci lci ⊢
    generalize upd H a1 (.lst cs) = H1 at s1 e1 ⊢
    walk_at "rd"
    refine d_lenL (Same.seq s1 hS) ?_
    rw [List.length_map]
    walk_at "rd"
    refine ⟨sz (by show 1 ≤ 100000; decide), fun a2 fa2 => ?_⟩
    have s2 := same_new (o := .lst [V.int (ns.length : Nat)]) fa2
    have e2 := upd_same (H := H1) (a := a2) (o := .lst [V.int (ns.length : Nat)])
    have e12 := s2 _ _ e1
    generalize upd H1 a2 (.lst [V.int (ns.length : Nat)]) = H2 at s2 e2 e12 ⊢
    refine ⟨a1, a2, _, _, rfl, rfl, e12, e2, sz (by show cs.length + 1 ≤ 100000; omega), fun a3 fa3 => ?_⟩
    have s3 := same_new (o := .lst (cs ++ [V.int (ns.length : Nat)])) fa3
    have e3 := upd_same (H := H2) (a := a3) (o := .lst (cs ++ [V.int (ns.length : Nat)]))
    generalize upd H2 a3 (.lst (cs ++ [V.int (ns.length : Nat)])) = H3 at s3 e3 ⊢
    have all : ∀ x ∈ cs ++ [V.int (ns.length : Nat)], ∃ c : Int, x = V.int c := fun x hx => by
      rcases List.mem_append.mp hx with hx | hx
      · exact ci x hx
      · rw [List.mem_singleton.mp hx]; exact ⟨_, rfl⟩
    generalize cs ++ [V.int (ns.length : Nat)] = ds at e3 all ⊢
    walk_at "rd"
    refine ⟨a3, ds, rfl, SqL.of e3, ?_⟩
    refine for_it (walk_enum (K := K) (a := a3) (xs := ds)) (fun i σ H4 => ∃ y1 y2 y3 y4 y5 y6 y7 y8 y9 y10, σ = [some (.ref a), y1, y2, y3, y4, y5, y6, y7, y8, y9, y10] ∧ Same H3 H4)
      ⟨_, _, _, _, _, _, _, _, _, _, rfl, Same.refl _⟩ (fun i σ H4 _ hP => ?_) (fun i x σ H4' H4 hi hP hy => ?_) (fun σ H4 hP => ?_)
    · obtain ⟨_, _, _, _, _, _, _, _, _, _, _, s4⟩ := hP
      exact SqL.of (s4 _ _ e3)
    · obtain ⟨y1, y2, y3, y4, y5, y6, y7, y8, y9, y10, rfl, s4⟩ := hP
      obtain ⟨T', x', y', rfl, fT, rfl, ex, ey⟩ := hy
      have ex' : x' = V.int (i : Nat) := (Option.some.inj ex).symm
      subst ex'
      obtain ⟨c, rfl⟩ := all y' (List.mem_of_getElem? ey)
      have s5 := Same.trans s4 (same_new (o := .tup [V.int (i : Nat), V.int c]) fT)
      refine d_gtupm upd_same rfl ?_
      generalize upd H4' T' (.tup [V.int (i : Nat), V.int c]) = H5 at s5 ⊢
      walk_at "rd"
      refine ⟨c, rfl, fun H6 h s6 fh hp => ?_⟩
      have s36 := Same.trans s5 s6
      have fh0 := Same.free s5 fh
      walk_at "rd"
      refine ⟨h, 14, rfl, by decide, by decide, hp, fun H7 g k7 hp7 g0 g1 => ?_⟩
      have s37 := Keep.out s36 k7 fh0
      walk_at "rd"
      refine d_cut (fun σ' H' => ∃ n : Nat, σ' = [some (.ref a), some (.int (i : Nat)), some (.int c), some (.ref h), some (.int (n : Nat)), y5, y6, y7, y8, y9, y10] ∧ 1 ≤ n ∧ n ≤ 40 ∧ Same H3 H' ∧ Pot H' h) ?_ (fun σ' H' hM => ?_)
      · walk_at "rd"
        refine ite2 (fun e0 => ?_) (fun e0 => ?_)
        · walk_at "rd"
          refine ⟨h, 8, rfl, by decide, by decide, hp7, fun H8 g8 k8 hp8 a8 b8 => ?_⟩
          have s38 := Keep.out s37 k8 fh0
          walk_at "rd"
          refine ite2 (fun e1 => ?_) (fun e1 => ?_)
          · walk_at "rd"
            exact ⟨40, rfl, by decide, by decide, s38, hp8⟩
          · walk_at "rd"
            exact ⟨(1 + g).toNat, by rw [show (((1 + g).toNat : Nat) : Int) = 1 + g by omega]; rfl, by omega, by omega, s38, hp8⟩
        · walk_at "rd"
          exact ⟨(1 + g).toNat, by rw [show (((1 + g).toNat : Nat) : Int) = 1 + g by omega]; rfl, by omega, by omega, s37, hp7⟩
      obtain ⟨n, rfl, n1, n40, s3', hp'⟩ := hM
      walk_at "rd"
      refine ⟨h, 40, rfl, by decide, by decide, hp', fun Ha gr ka hpa r0 r1 => ?_⟩
      have s3a := Keep.out s3' ka fh0
      obtain ⟨R, rfl⟩ : ∃ R : Nat, gr = (R : Int) := ⟨gr.toNat, by omega⟩
      walk_at "rd"
      intro D fD
      refine lc_range (fun m H8 => ∃ tvs, H8 D = some (.lst tvs) ∧ Ties K H8 tvs (rowT m) ∧ Same Ha H8) ⟨[], upd_same, .nil, same_new fD⟩ (fun m H8 hm hP => ?_) (fun H8 hP => ?_)
      · obtain ⟨tvs, eD, pT, s8⟩ := hP
        have lt := pT.len
        rw [rowT_len] at lt
        have hm' : m < 40 := by omega
        walk_at "rd"
        refine ⟨sz (by show 3 ≤ 100000; decide), fun p fp => ?_⟩
        refine ⟨_, at_upd eD fp, szl (by omega), tvs ++ [.ref p], upd_same, ?_, same_upd (same_upd s8 (Same.free s8 fp)) fD⟩
        rw [rowT_succ]
        exact more_tie pT eD fp (by show (0 + (m : Int)) = (m : Int); omega) (by show (0 + (m : Int) + 1) = ((m + 1 : Nat) : Int); omega) (by show Str.ofString "x" = sg 120; decide +kernel)
      obtain ⟨rvs, eD, pR, s8⟩ := hP
      rw [show (1 + (R : Int) - 1).toNat = R by omega] at pR
      walk_at "rd"
      intro S fS
      refine lc_range (fun m H9 => ∃ tvs, H9 S = some (.lst tvs) ∧ Ties K H9 tvs (starT m) ∧ Same H8 H9) ⟨[], upd_same, .nil, same_new fS⟩ (fun m H9 hm hP => ?_) (fun H9 hP => ?_)
      · obtain ⟨tvs, eS, pT, s9⟩ := hP
        have lt := pT.len
        rw [starT_len] at lt
        have hm' : m < 40 := by omega
        walk_at "rd"
        refine ⟨sz (by show 3 ≤ 100000; decide), fun p fp => ?_⟩
        refine ⟨_, at_upd eS fp, szl (by omega), tvs ++ [.ref p], upd_same, ?_, same_upd (same_upd s9 (Same.free s9 fp)) fS⟩
        rw [starT_succ]
        exact more_tie pT eS fp (by show (0 : Int) = ((0 : Nat) : Int); omega) (by show (1 + (m : Int)) = ((m + 1 : Nat) : Int); omega) (by show Str.ofString "y" = sg 121; decide +kernel)
      obtain ⟨svs, eS, pS, s9⟩ := hP
      rw [show ((n : Int) - 1).toNat = n - 1 by omega] at pS
      have sa9 := Same.trans s8 s9
      have s39 := Same.trans s3a sa9
      have hp9 := hpa.same sa9
      have eD9 := s9 _ _ eD
      have pR9 := pR.same s9
      have nDh : D ≠ h := hpa.ne fD
      have nSh : S ≠ h := (hpa.same s8).ne fS
      walk_at "rd"
      refine ⟨h, n, 2, 2, rfl, by omega, by omega, by decide, by decide, by decide, by decide, hp9, fun Hb v1 w1 kb hpb hw1 W1 lw1 ct1 J1 => ?_⟩
      have T1 : Tree w1 := ⟨W1, ct1, J1⟩
      have s3b := Keep.out s39 kb fh0
      have eDb := kb _ _ nDh eD9
      have eSb := kb _ _ nSh eS
      obtain ⟨yh, eh9⟩ := hp9.lst
      have pRb := pR9.keep kb eh9
      have pSb := pS.keep kb eh9
      walk_at "rd"
      refine ⟨sz (by decide), fun a4 fa4 => ?_⟩
      walk_at "rd"
      refine ⟨a4, 1 + (R : Int), _, rfl, rfl, upd_same, by omega, by omega, sz (by simp; omega), fun a5 fa5 => ?_⟩
      rw [show (1 + (R : Int)).toNat = R + 1 by omega, flat_rep]
      have t1 := Same.trans (same_new (H := Hb) (o := .lst [V.str (Str.ofString "a")]) fa4) (same_new (o := .lst (List.replicate (R + 1) (V.str (Str.ofString "a")))) fa5)
      have e5 := upd_same (H := upd Hb a4 (.lst [V.str (Str.ofString "a")])) (a := a5) (o := .lst (List.replicate (R + 1) (V.str (Str.ofString "a"))))
      generalize upd (upd Hb a4 (.lst [V.str (Str.ofString "a")])) a5 (.lst (List.replicate (R + 1) (V.str (Str.ofString "a")))) = Hc at t1 e5 ⊢
      have n5h : a5 ≠ h := by
        have := (hpb.same (same_new (o := .lst [V.str (Str.ofString "a")]) fa4)).ne fa5
        exact this
      walk_at "rd"
      refine ⟨h, 1 + (R : Int), rfl, by omega, by omega, hpb.same t1, fun Hd o qs kd hpd fo eo pm => ?_⟩
      walk_at "rd"
      obtain ⟨yh2, ehc⟩ := (hpb.same t1).lst
      have ew : Str.ofString "a" = sg 97 := by decide +kernel
      have LW : Loose (List.replicate (R + 1) 97, rowT R) := grown_loose (w0 := (List.replicate (R + 1) 97, rowT R)) (by show (List.replicate (R + 1) 97).length ≤ 40; rw [List.length_replicate]; omega) (fun c hc => by rw [List.eq_of_mem_replicate hc]; unfold Ltr; omega) (by show (rowT R).length + 1 = (List.replicate (R + 1) 97).length; rw [rowT_len, List.length_replicate]) (rowT_grown R)
      have OO : Ord qs (List.replicate (R + 1) 97, rowT R).1.length := by
        rw [show (1 + (R : Int)).toNat = R + 1 by omega] at pm
        show Ord qs (List.replicate (R + 1) 97).length
        rw [List.length_replicate]; exact Ord.of pm
      refine ⟨a5, D, o, (List.replicate (R + 1) 97, rowT R), rvs, qs, rfl, ?_, kd _ _ nDh (t1 _ _ eDb), (pRb.same t1).keep kd ehc, LW, eo, OO, fun He v2 w2 se hw2 W2 N2 => ?_⟩
      · show Hd a5 = some (.lst ((List.replicate (R + 1) 97).map fun c => V.str (sg c)))
        rw [rep_kinds, ← ew]
        exact kd _ _ n5h e5
      have T2 : Tree w2 := tree_named OO N2 W2 (by show (rowT R).length + 1 = (List.replicate (R + 1) 97).length; rw [rowT_len, List.length_replicate]) (rowT_grown R)
      have kbe : Keep h Hb He := Keep.same (Keep.trans (Same.keep t1) kd) se
      obtain ⟨yh3, ehb⟩ := hpb.lst
      have hw1e := hw1.keep kbe ehb
      have hpe := hpd.same se
      have s3e := Keep.out s3b kbe fh0
      have eSe := kbe _ _ nSh eSb
      have pSe := pSb.keep kbe ehb
      walk_at "rd"
      refine ⟨sz (by show 2 ≤ 100000; decide), fun B fB => ?_⟩
      have t2 := same_new (H := He) (o := .lst [v1, v2]) fB
      have eB := upd_same (H := He) (a := B) (o := .lst [v1, v2])
      have nBh : B ≠ h := hpe.ne fB
      generalize upd He B (.lst [v1, v2]) = Hf at t2 eB ⊢
      have hpf := hpe.same t2
      walk_at "rd"
      refine ⟨sz (by decide), fun a6 fa6 => ?_⟩
      walk_at "rd"
      refine ⟨a6, (n : Int), _, rfl, rfl, upd_same, by omega, by omega, sz (by simp; omega), fun a7 fa7 => ?_⟩
      rw [show ((n : Nat) : Int).toNat = n by omega, flat_rep]
      have t3 := Same.trans (same_new (H := Hf) (o := .lst [V.str (Str.ofString "b")]) fa6) (same_new (o := .lst (List.replicate n (V.str (Str.ofString "b")))) fa7)
      have e7 := upd_same (H := upd Hf a6 (.lst [V.str (Str.ofString "b")])) (a := a7) (o := .lst (List.replicate n (V.str (Str.ofString "b"))))
      have n7h : a7 ≠ h := (hpf.same (same_new (o := .lst [V.str (Str.ofString "b")]) fa6)).ne fa7
      generalize upd (upd Hf a6 (.lst [V.str (Str.ofString "b")])) a7 (.lst (List.replicate n (V.str (Str.ofString "b")))) = Hg at t3 e7 ⊢
      have t23 := Same.trans t2 t3
      have hpg := hpf.same t3
      walk_at "rd"
      refine ⟨h, (n : Int), rfl, by omega, by omega, hpg, fun Hh o2 qs2 kh hph fo2 eo2 pm2 => ?_⟩
      walk_at "rd"
      obtain ⟨yh4, ehg⟩ := hpg.lst
      have eb : Str.ofString "b" = sg 98 := by decide +kernel
      have nlen : (starT (n - 1)).length + 1 = (List.replicate n 98).length := by rw [starT_len, List.length_replicate]; omega
      have LW2 : Loose (List.replicate n 98, starT (n - 1)) := grown_loose (w0 := (List.replicate n 98, starT (n - 1))) (by show (List.replicate n 98).length ≤ 40; rw [List.length_replicate]; omega) (fun c hc => by rw [List.eq_of_mem_replicate hc]; unfold Ltr; omega) nlen (starT_grown _)
      have OO2 : Ord qs2 (List.replicate n 98, starT (n - 1)).1.length := by
        rw [show ((n : Nat) : Int).toNat = n by omega] at pm2
        show Ord qs2 (List.replicate n 98).length
        rw [List.length_replicate]; exact Ord.of pm2
      refine ⟨a7, S, o2, (List.replicate n 98, starT (n - 1)), svs, qs2, rfl, ?_, kh _ _ nSh (t23 _ _ eSe), (pSe.same t23).keep kh ehg, LW2, eo2, OO2, fun Hi v3 w3 si hw3 W3 N3 => ?_⟩
      · show Hh a7 = some (.lst ((List.replicate n 98).map fun c => V.str (sg c)))
        rw [rep_kinds, ← eb]
        exact kh _ _ n7h e7
      have T3 : Tree w3 := tree_named OO2 N3 W3 nlen (starT_grown _)
      have kei : Keep h He Hi := Keep.same (Keep.trans (Same.keep t23) kh) si
      obtain ⟨yh5, ehe⟩ := hpe.lst
      have hw1i := hw1e.keep kei ehe
      have hw2i := hw2.keep kei ehe
      have s3i := Keep.out s3e kei fh0
      have eBi : Hi B = some (.lst [v1, v2]) := si _ _ (kh _ _ nBh (t3 _ _ eB))
      walk_at "rd"
      refine ⟨sz (by show 1 ≤ 100000; decide), fun C fC => ?_⟩
      have t4 := same_new (H := Hi) (o := .lst [v3]) fC
      have eC := upd_same (H := Hi) (a := C) (o := .lst [v3])
      have eBj := t4 _ _ eBi
      generalize upd Hi C (.lst [v3]) = Hj at t4 eC eBj ⊢
      refine ⟨B, C, _, _, rfl, rfl, eBj, eC, sz (by show 3 ≤ 100000; decide), fun L fL => ?_⟩
      have t5 := Same.trans t4 (same_new (o := .lst ([v1, v2] ++ [v3])) fL)
      have eL := upd_same (H := Hj) (a := L) (o := .lst ([v1, v2] ++ [v3]))
      generalize upd Hj L (.lst ([v1, v2] ++ [v3])) = Hk at t5 eL ⊢
      have each : ∀ x ∈ [v1, v2] ++ [v3], ∃ w, WebAt K Hk x w ∧ Tree w := fun x hx => by
        simp only [List.cons_append, List.nil_append, List.mem_cons, List.not_mem_nil, or_false] at hx
        rcases hx with rfl | rfl | rfl
        · exact ⟨w1, hw1i.same t5, T1⟩
        · exact ⟨w2, hw2i.same t5, T2⟩
        · exact ⟨w3, hw3.same t5, T3⟩
      have s3k := Same.trans s3i t5
      refine d_iLe (SqL.of eL) ?_
      refine for_it (walk_list (K := K) (xs := [v1, v2] ++ [v3])) (fun m σ Hx => ∃ y9, σ = [some (.ref a), some (.int (i : Nat)), some (.int c), some (.ref h), some (.int (n : Nat)), some (.int (1 + (R : Int))), some (.ref D), some (.ref S), some (.ref B), y9, y10] ∧ Same Hk Hx)
        ⟨_, rfl, Same.refl _⟩ (fun m σ Hx _ hP => ?_) (fun m x σ Hx' Hx hm hP hy => ?_) (fun σ Hx hP => ?_)
      · obtain ⟨_, _, sx⟩ := hP
        exact SqL.of (sx _ _ eL)
      · obtain ⟨y9', rfl, sx⟩ := hP
        obtain ⟨rfl, hx⟩ := hy
        obtain ⟨wx, hwx, Wx⟩ := each x (List.mem_of_getElem? hx)
        walk_at "rd"
        refine ⟨x, wx, rfl, hwx.same sx, Wx, fun Hy sy => ?_⟩
        walk_at "rd"
        exact ⟨_, rfl, Same.trans sx sy⟩
      · obtain ⟨y9', rfl, sx⟩ := hP
        walk_at "rd"
        exact ⟨_, _, _, _, _, _, _, _, _, _, rfl, Same.trans s3k sx⟩
    · obtain ⟨y1, y2, y3, y4, y5, y6, y7, y8, y9, y10, rfl, s4⟩ := hP
      walk_at "rd"
      have ez : Str.ofString "z" = (⟨[122].toArray⟩ : Str) := by decide +kernel
      have ezz : Str.ofString "zz" = (⟨[122, 122].toArray⟩ : Str) := by decide +kernel
      have ea : Str.ofString "a" = sg 97 := by decide +kernel
      refine ⟨sz (by decide), fun p1 f1 => ?_⟩
      walk_at "rd"
      refine ⟨sz (by show 2 ≤ 100000; decide), fun p2 f2 => ?_⟩
      walk_at "rd"
      refine ⟨_, ([122], []), rfl, ⟨p2, p1, [], rfl, by rw [← ez]; exact SqT.of upd_same, SqT.of (at_upd upd_same f2), .nil⟩, one_tree, fun Ha T1 F1 m1 sa fT fF nTF eT eF lm => ?_⟩
      obtain ⟨em, es⟩ := one_mid lm
      rw [es] at eF
      subst em
      walk_at "rd"
      refine ⟨sz (by show 1 ≤ 100000; decide), fun p3 f3 => ?_⟩
      walk_at "rd"
      refine ⟨sz (by show 2 ≤ 100000; decide), fun p4 f4 => ?_⟩
      refine ⟨.tuple [.list ((zs [0]).map PyData.int), .int 0], .tuple [.list ((zs [0]).map PyData.int), .int 0], .tup (SqT.of (at_upd (at_upd eT f3) f4)) (.cons (dp_nats (at_upd (at_upd eF f3) f4)) (.cons (.int _) .nil)), .tup (SqT.of upd_same) (.cons (dp_nats (l := [0]) (at_upd upd_same f4)) (.cons (.int _) .nil)), mid_good _ _, mid_good _ _, ?_⟩
      rw [good_eqv (mid_good _ _)]
      refine ⟨true, rfl, ?_⟩
      walk_at "rd"
      refine ⟨sz (by show 3 ≤ 100000; decide), fun p5 f5 => ?_⟩
      have e5 := fun (X : Hp) => upd_same (H := X) (a := p5) (o := .tup [V.int 0, V.int 1, V.str (Str.ofString "a")])
      generalize hX : (upd _ p5 (.tup [V.int 0, V.int 1, V.str (Str.ofString "a")])) = X5
      have e5 : X5 p5 = some (.tup [V.int 0, V.int 1, V.str (Str.ofString "a")]) := by rw [← hX]; exact upd_same
      clear hX
      walk_at "rd"
      refine ⟨sz (by show 1 ≤ 100000; decide), fun p6 f6 => ?_⟩
      walk_at "rd"
      refine ⟨sz (by show 2 ≤ 100000; decide), fun p7 f7 => ?_⟩
      walk_at "rd"
      refine ⟨_, w2z, rfl, ⟨p7, p6, [V.ref p5], rfl, by rw [show (⟨w2z.1.toArray⟩ : Str) = Str.ofString "zz" from ezz.symm]; exact SqT.of upd_same, SqT.of (at_upd upd_same f7), .cons ⟨p5, rfl, SqT.of (by rw [← ea]; exact at_upd (at_upd e5 f6) f7)⟩ .nil⟩, two_tree, fun Hb T2 F2 m2 sb gT gF nTF2 eT2 eF2 lm2 => ?_⟩
      obtain ⟨em, es⟩ := two_mid lm2
      rw [es] at eF2
      subst em
      walk_at "rd"
      refine ⟨sz (by show 2 ≤ 100000; decide), fun p8 f8 => ?_⟩
      walk_at "rd"
      refine ⟨sz (by show 2 ≤ 100000; decide), fun p9 f9 => ?_⟩
      refine ⟨.tuple [.list ((zs [0, 1]).map PyData.int), .int 1], .tuple [.list ((zs [0, 1]).map PyData.int), .int 1], .tup (SqT.of (at_upd (at_upd eT2 f8) f9)) (.cons (dp_nats (at_upd (at_upd eF2 f8) f9)) (.cons (.int _) .nil)), .tup (SqT.of upd_same) (.cons (dp_nats (l := [0, 1]) (at_upd upd_same f9)) (.cons (.int _) .nil)), mid_good _ _, mid_good _ _, ?_⟩
      rw [good_eqv (mid_good _ _)]
      exact q _

end
theorem all_mk {l : PySem.W.OpenLaw} {w : World} {K : PySem.W.Frag} {h : Heap} {mg : Str → Option Value} {fa f_4 f_5 f_6 f_7 f_9 f_10 f_11 f_13 f_14 f_15 f_16 f_17 f_18 f_19 f_20 f_21 f_22 f_23 : Addr} (X : K.In h) (G : h.Ns mainGlobals mg) (hfa : mg "law" = some (.ref fa))
    {od4 an4 od5 an5 od6 an6 od7 an7 od9 an9 od10 an10 od11 an11 od13 an13 od14 an14 od15 an15 od16 an16 od17 an17 od18 an18 od19 an19 od20 an20 od21 an21 od22 an22 od23 an23 : Option Addr} {sl4 sl5 sl6 sl7 sl9 sl10 sl11 sl13 sl14 sl15 sl16 sl17 sl18 sl19 sl20 sl21 sl22 sl23 : Array (Option Value)} {oc4 kV4 dc4 pm4 ct4 cd4 oc5 kV5 dc5 pm5 ct5 cd5 oc6 kV6 dc6 pm6 ct6 cd6 oc7 kV7 dc7 pm7 ct7 cd7 oc9 kV9 dc9 pm9 ct9 cd9 oc10 kV10 dc10 pm10 ct10 cd10 oc11 kV11 dc11 pm11 ct11 cd11 oc13 kV13 dc13 pm13 ct13 cd13 oc14 kV14 dc14 pm14 ct14 cd14 oc15 kV15 dc15 pm15 ct15 cd15 oc16 kV16 dc16 pm16 ct16 cd16 oc17 kV17 dc17 pm17 ct17 cd17 oc18 kV18 dc18 pm18 ct18 cd18 oc19 kV19 dc19 pm19 ct19 cd19 oc20 kV20 dc20 pm20 ct20 cd20 oc21 kV21 dc21 pm21 ct21 cd21 oc22 kV22 dc22 pm22 ct22 cd22 oc23 kV23 dc23 pm23 ct23 cd23 : Value}
    (a4 : PySem.W.nsIn K mainGlobals "all_neighbours" = some (some (.ref f_4))) (l4 : K.lookup f_4 = some ⟨oc4, od4, .func (PySem.W.fnOf "all_neighbours" "all_neighbours" (defArgs s_all_neighbours) (defBody s_all_neighbours) (defScope s_all_neighbours) .none kV4 dc4 pm4 an4 cd4 ct4), sl4⟩) (c4 : PySem.W.codeIn K cd4 "all_neighbours" = true) (k4 : PySem.W.keepIn K (.ref f_4) = true)
    (a5 : PySem.W.nsIn K mainGlobals "parts" = some (some (.ref f_5))) (l5 : K.lookup f_5 = some ⟨oc5, od5, .func (PySem.W.fnOf "parts" "parts" (defArgs s_parts) (defBody s_parts) (defScope s_parts) .none kV5 dc5 pm5 an5 cd5 ct5), sl5⟩) (c5 : PySem.W.codeIn K cd5 "parts" = true) (k5 : PySem.W.keepIn K (.ref f_5) = true)
    (a6 : PySem.W.nsIn K mainGlobals "part_from" = some (some (.ref f_6))) (l6 : K.lookup f_6 = some ⟨oc6, od6, .func (PySem.W.fnOf "part_from" "part_from" (defArgs s_part_from) (defBody s_part_from) (defScope s_part_from) .none kV6 dc6 pm6 an6 cd6 ct6), sl6⟩) (c6 : PySem.W.codeIn K cd6 "part_from" = true) (k6 : PySem.W.keepIn K (.ref f_6) = true)
    (a7 : PySem.W.nsIn K mainGlobals "hangs" = some (some (.ref f_7))) (l7 : K.lookup f_7 = some ⟨oc7, od7, .func (PySem.W.fnOf "hangs" "hangs" (defArgs s_hangs) (defBody s_hangs) (defScope s_hangs) .none kV7 dc7 pm7 an7 cd7 ct7), sl7⟩) (c7 : PySem.W.codeIn K cd7 "hangs" = true) (k7 : PySem.W.keepIn K (.ref f_7) = true)
    (a9 : PySem.W.nsIn K mainGlobals "is_tree" = some (some (.ref f_9))) (l9 : K.lookup f_9 = some ⟨oc9, od9, .func (PySem.W.fnOf "is_tree" "is_tree" (defArgs s_is_tree) (defBody s_is_tree) (defScope s_is_tree) .none kV9 dc9 pm9 an9 cd9 ct9), sl9⟩) (c9 : PySem.W.codeIn K cd9 "is_tree" = true) (k9 : PySem.W.keepIn K (.ref f_9) = true)
    (a10 : PySem.W.nsIn K mainGlobals "middle" = some (some (.ref f_10))) (l10 : K.lookup f_10 = some ⟨oc10, od10, .func (PySem.W.fnOf "middle" "middle" (defArgs s_middle) (defBody s_middle) (defScope s_middle) .none kV10 dc10 pm10 an10 cd10 ct10), sl10⟩) (c10 : PySem.W.codeIn K cd10 "middle" = true) (k10 : PySem.W.keepIn K (.ref f_10) = true)
    (a11 : PySem.W.nsIn K mainGlobals "farthest_from" = some (some (.ref f_11))) (l11 : K.lookup f_11 = some ⟨oc11, od11, .func (PySem.W.fnOf "farthest_from" "farthest_from" (defArgs s_farthest_from) (defBody s_farthest_from) (defScope s_farthest_from) .none kV11 dc11 pm11 an11 cd11 ct11), sl11⟩) (c11 : PySem.W.codeIn K cd11 "farthest_from" = true) (k11 : PySem.W.keepIn K (.ref f_11) = true)
    (a13 : PySem.W.nsIn K mainGlobals "_law_mixed" = some (some (.ref f_13))) (l13 : K.lookup f_13 = some ⟨oc13, od13, .func (PySem.W.fnOf "_law_mixed" "_law_mixed" (defArgs s_mixed) (defBody s_mixed) (defScope s_mixed) .none kV13 dc13 pm13 an13 cd13 ct13), sl13⟩) (c13 : PySem.W.codeIn K cd13 "_law_mixed" = true) (k13 : PySem.W.keepIn K (.ref f_13) = true)
    (a14 : PySem.W.nsIn K mainGlobals "_law_pot" = some (some (.ref f_14))) (l14 : K.lookup f_14 = some ⟨oc14, od14, .func (PySem.W.fnOf "_law_pot" "_law_pot" (defArgs s_pot) (defBody s_pot) (defScope s_pot) .none kV14 dc14 pm14 an14 cd14 ct14), sl14⟩) (c14 : PySem.W.codeIn K cd14 "_law_pot" = true) (k14 : PySem.W.keepIn K (.ref f_14) = true)
    (a15 : PySem.W.nsIn K mainGlobals "_law_take" = some (some (.ref f_15))) (l15 : K.lookup f_15 = some ⟨oc15, od15, .func (PySem.W.fnOf "_law_take" "_law_take" (defArgs s_take) (defBody s_take) (defScope s_take) .none kV15 dc15 pm15 an15 cd15 ct15), sl15⟩) (c15 : PySem.W.codeIn K cd15 "_law_take" = true) (k15 : PySem.W.keepIn K (.ref f_15) = true)
    (a16 : PySem.W.nsIn K mainGlobals "_law_letter" = some (some (.ref f_16))) (l16 : K.lookup f_16 = some ⟨oc16, od16, .func (PySem.W.fnOf "_law_letter" "_law_letter" (defArgs s_letter) (defBody s_letter) (defScope s_letter) .none kV16 dc16 pm16 an16 cd16 ct16), sl16⟩) (c16 : PySem.W.codeIn K cd16 "_law_letter" = true) (k16 : PySem.W.keepIn K (.ref f_16) = true)
    (a17 : PySem.W.nsIn K mainGlobals "_law_web" = some (some (.ref f_17))) (l17 : K.lookup f_17 = some ⟨oc17, od17, .func (PySem.W.fnOf "_law_web" "_law_web" (defArgs s_web) (defBody s_web) (defScope s_web) .none kV17 dc17 pm17 an17 cd17 ct17), sl17⟩) (c17 : PySem.W.codeIn K cd17 "_law_web" = true) (k17 : PySem.W.keepIn K (.ref f_17) = true)
    (a18 : PySem.W.nsIn K mainGlobals "_law_order" = some (some (.ref f_18))) (l18 : K.lookup f_18 = some ⟨oc18, od18, .func (PySem.W.fnOf "_law_order" "_law_order" (defArgs s_order) (defBody s_order) (defScope s_order) .none kV18 dc18 pm18 an18 cd18 ct18), sl18⟩) (c18 : PySem.W.codeIn K cd18 "_law_order" = true) (k18 : PySem.W.keepIn K (.ref f_18) = true)
    (a19 : PySem.W.nsIn K mainGlobals "_law_tree" = some (some (.ref f_19))) (l19 : K.lookup f_19 = some ⟨oc19, od19, .func (PySem.W.fnOf "_law_tree" "_law_tree" (defArgs s_tree) (defBody s_tree) (defScope s_tree) .none kV19 dc19 pm19 an19 cd19 ct19), sl19⟩) (c19 : PySem.W.codeIn K cd19 "_law_tree" = true) (k19 : PySem.W.keepIn K (.ref f_19) = true)
    (a20 : PySem.W.nsIn K mainGlobals "_law_neighbours" = some (some (.ref f_20))) (l20 : K.lookup f_20 = some ⟨oc20, od20, .func (PySem.W.fnOf "_law_neighbours" "_law_neighbours" (defArgs s_neighbours) (defBody s_neighbours) (defScope s_neighbours) .none kV20 dc20 pm20 an20 cd20 ct20), sl20⟩) (c20 : PySem.W.codeIn K cd20 "_law_neighbours" = true) (k20 : PySem.W.keepIn K (.ref f_20) = true)
    (a21 : PySem.W.nsIn K mainGlobals "_law_far" = some (some (.ref f_21))) (l21 : K.lookup f_21 = some ⟨oc21, od21, .func (PySem.W.fnOf "_law_far" "_law_far" (defArgs s_far) (defBody s_far) (defScope s_far) .none kV21 dc21 pm21 an21 cd21 ct21), sl21⟩) (c21 : PySem.W.codeIn K cd21 "_law_far" = true) (k21 : PySem.W.keepIn K (.ref f_21) = true)
    (a22 : PySem.W.nsIn K mainGlobals "_law_right" = some (some (.ref f_22))) (l22 : K.lookup f_22 = some ⟨oc22, od22, .func (PySem.W.fnOf "_law_right" "_law_right" (defArgs s_right) (defBody s_right) (defScope s_right) .none kV22 dc22 pm22 an22 cd22 ct22), sl22⟩) (c22 : PySem.W.codeIn K cd22 "_law_right" = true) (k22 : PySem.W.keepIn K (.ref f_22) = true)
    (a23 : PySem.W.nsIn K mainGlobals "law" = some (some (.ref f_23))) (l23 : K.lookup f_23 = some ⟨oc23, od23, .func (PySem.W.fnOf "law" "law" (defArgs s_law) (defBody s_law) (defScope s_law) .none kV23 dc23 pm23 an23 cd23 ct23), sl23⟩) (c23 : PySem.W.codeIn K cd23 "law" = true) (k23 : PySem.W.keepIn K (.ref f_23) = true)
    (z0 : PySem.W.nsIn K mainGlobals "bool" = some none)
    (z1 : PySem.W.nsIn K mainGlobals "enumerate" = some none)
    (z2 : PySem.W.nsIn K mainGlobals "int" = some none)
    (z3 : PySem.W.nsIn K mainGlobals "isinstance" = some none)
    (z4 : PySem.W.nsIn K mainGlobals "len" = some none)
    (z5 : PySem.W.nsIn K mainGlobals "list" = some none)
    (z6 : PySem.W.nsIn K mainGlobals "max" = some none)
    (z7 : PySem.W.nsIn K mainGlobals "min" = some none)
    (z8 : PySem.W.nsIn K mainGlobals "range" = some none)
    (z9 : PySem.W.nsIn K mainGlobals "set" = some none)
    (z10 : PySem.W.nsIn K mainGlobals "sorted" = some none)
    (z11 : PySem.W.nsIn K mainGlobals "tuple" = some none) :
    ∃ fd : FuncData, (∀ (s : Shared) (v : Value), BindsTo s fd ⟨[v], []⟩ [("script", v)]) ∧ ∀ base : Heap, K.In base → base.Ns mainGlobals mg → FnOk l.prog w K mg base CX0 7 fa fd ["script"] (spLaw K) := by
  have e := hfa.symm.trans (PySem.W.mg_of X G a23)
  cases e
  have F4 := fun_mk (st := s_all_neighbours) l4 c4 k4
  have b4 := F4.binds (ps := ["web"]) fun _ _ _ _ _ _ us hl => match us, hl with | [_], _ => rfl
  have F5 := fun_mk (st := s_parts) l5 c5 k5
  have b5 := F5.binds (ps := ["web"]) fun _ _ _ _ _ _ us hl => match us, hl with | [_], _ => rfl
  have F6 := fun_mk (st := s_part_from) l6 c6 k6
  have b6 := F6.binds (ps := ["beside", "start"]) fun _ _ _ _ _ _ us hl => match us, hl with | [_, _], _ => rfl
  have F7 := fun_mk (st := s_hangs) l7 c7 k7
  have b7 := F7.binds (ps := ["web"]) fun _ _ _ _ _ _ us hl => match us, hl with | [_], _ => rfl
  have F9 := fun_mk (st := s_is_tree) l9 c9 k9
  have b9 := F9.binds (ps := ["web"]) fun _ _ _ _ _ _ us hl => match us, hl with | [_], _ => rfl
  have F10 := fun_mk (st := s_middle) l10 c10 k10
  have b10 := F10.binds (ps := ["tree"]) fun _ _ _ _ _ _ us hl => match us, hl with | [_], _ => rfl
  have F11 := fun_mk (st := s_farthest_from) l11 c11 k11
  have b11 := F11.binds (ps := ["beside", "start"]) fun _ _ _ _ _ _ us hl => match us, hl with | [_, _], _ => rfl
  have F13 := fun_mk (st := s_mixed) l13 c13 k13
  have b13 := F13.binds (ps := ["cell", "k"]) fun _ _ _ _ _ _ us hl => match us, hl with | [_, _], _ => rfl
  have F14 := fun_mk (st := s_pot) l14 c14 k14
  have b14 := F14.binds (ps := ["cell"]) fun _ _ _ _ _ _ us hl => match us, hl with | [_], _ => rfl
  have F15 := fun_mk (st := s_take) l15 c15 k15
  have b15 := F15.binds (ps := ["pot", "many"]) fun _ _ _ _ _ _ us hl => match us, hl with | [_, _], _ => rfl
  have F16 := fun_mk (st := s_letter) l16 c16 k16
  have b16 := F16.binds (ps := ["pot", "few"]) fun _ _ _ _ _ _ us hl => match us, hl with | [_, _], _ => rfl
  have F17 := fun_mk (st := s_web) l17 c17 k17
  have b17 := F17.binds (ps := ["kinds", "ties", "order"]) fun _ _ _ _ _ _ us hl => match us, hl with | [_, _, _], _ => rfl
  have F18 := fun_mk (st := s_order) l18 c18 k18
  have b18 := F18.binds (ps := ["pot", "many"]) fun _ _ _ _ _ _ us hl => match us, hl with | [_, _], _ => rfl
  have F19 := fun_mk (st := s_tree) l19 c19 k19
  have b19 := F19.binds (ps := ["pot", "many", "few", "some"]) fun _ _ _ _ _ _ us hl => match us, hl with | [_, _, _, _], _ => rfl
  have F20 := fun_mk (st := s_neighbours) l20 c20 k20
  have b20 := F20.binds (ps := ["web"]) fun _ _ _ _ _ _ us hl => match us, hl with | [_], _ => rfl
  have F21 := fun_mk (st := s_far) l21 c21 k21
  have b21 := F21.binds (ps := ["beside", "place"]) fun _ _ _ _ _ _ us hl => match us, hl with | [_, _], _ => rfl
  have F22 := fun_mk (st := s_right) l22 c22 k22
  have b22 := F22.binds (ps := ["web"]) fun _ _ _ _ _ _ us hl => match us, hl with | [_], _ => rfl
  have F23 := fun_mk (st := s_law) l23 c23 k23
  have b23 := F23.binds (ps := ["script"]) fun _ _ _ _ _ _ us hl => match us, hl with | [_], _ => rfl
  let T : Tx K mg := ⟨⟨_, _, F4, b4, PySem.W.mg_of X G a4⟩, ⟨_, _, F5, b5, PySem.W.mg_of X G a5⟩, ⟨_, _, F6, b6, PySem.W.mg_of X G a6⟩, ⟨_, _, F7, b7, PySem.W.mg_of X G a7⟩, ⟨_, _, F9, b9, PySem.W.mg_of X G a9⟩, ⟨_, _, F10, b10, PySem.W.mg_of X G a10⟩, ⟨_, _, F11, b11, PySem.W.mg_of X G a11⟩, ⟨_, _, F13, b13, PySem.W.mg_of X G a13⟩, ⟨_, _, F14, b14, PySem.W.mg_of X G a14⟩, ⟨_, _, F15, b15, PySem.W.mg_of X G a15⟩, ⟨_, _, F16, b16, PySem.W.mg_of X G a16⟩, ⟨_, _, F17, b17, PySem.W.mg_of X G a17⟩, ⟨_, _, F18, b18, PySem.W.mg_of X G a18⟩, ⟨_, _, F19, b19, PySem.W.mg_of X G a19⟩, ⟨_, _, F20, b20, PySem.W.mg_of X G a20⟩, ⟨_, _, F21, b21, PySem.W.mg_of X G a21⟩, ⟨_, _, F22, b22, PySem.W.mg_of X G a22⟩, ⟨_, _, F23, b23, PySem.W.mg_of X G a23⟩, PySem.W.mg_none_of X G z0, PySem.W.mg_none_of X G z1, PySem.W.mg_none_of X G z2, PySem.W.mg_none_of X G z3, PySem.W.mg_none_of X G z4, PySem.W.mg_none_of X G z5, PySem.W.mg_none_of X G z6, PySem.W.mg_none_of X G z7, PySem.W.mg_none_of X G z8, PySem.W.mg_none_of X G z9, PySem.W.mg_none_of X G z10, PySem.W.mg_none_of X G z11⟩
  exact ⟨T.law.fd, fun s v => .of_eq rfl, fun base _ _ => ok_law T⟩
end Cw
open PySem PySem.W PyProof.Rows
set_option maxHeartbeats 0 in
theorem PySem.Challenge.cw_commonweb_k62_middles_holds : PySem.Challenge.rw_commonweb_k62_middles.Holds := by
  w_on; o_law; k_head; (case hw => w_witness2)
  k_fill
  refine L2.walk_of (l := PySem.Challenge.rw_commonweb_k62_middles) (n := 63) (k := 7) (x := "script") (CX := fun _ => L2.CX0) (sp := fun w => Cw.spLaw _) rfl (by decide) rfl ⟨rfl, by decide, by decide⟩ (fun w h Y => PySem.W.kIn_of Y) ?F (fun _ _ a ns hl _ hS => ⟨a, ns, rfl, hS, hl, fun _ => rfl⟩) (fun _ _ _ _ _ h => h)
  case F =>
    intro w mg fa h KX G hmg
    refine' Cw.all_mk KX G hmg ?a4 ?l4 ?c4 ?k4 ?a5 ?l5 ?c5 ?k5 ?a6 ?l6 ?c6 ?k6 ?a7 ?l7 ?c7 ?k7 ?a9 ?l9 ?c9 ?k9 ?a10 ?l10 ?c10 ?k10 ?a11 ?l11 ?c11 ?k11 ?a13 ?l13 ?c13 ?k13 ?a14 ?l14 ?c14 ?k14 ?a15 ?l15 ?c15 ?k15 ?a16 ?l16 ?c16 ?k16 ?a17 ?l17 ?c17 ?k17 ?a18 ?l18 ?c18 ?k18 ?a19 ?l19 ?c19 ?k19 ?a20 ?l20 ?c20 ?k20 ?a21 ?l21 ?c21 ?k21 ?a22 ?l22 ?c22 ?k22 ?a23 ?l23 ?c23 ?k23 ?z0 ?z1 ?z2 ?z3 ?z4 ?z5 ?z6 ?z7 ?z8 ?z9 ?z10 ?z11
    (case a4 => k_is); (case l4 => k_is); (case c4 => k_is); (case k4 => k_is); (case a5 => k_is); (case l5 => k_is); (case c5 => k_is); (case k5 => k_is); (case a6 => k_is); (case l6 => k_is); (case c6 => k_is); (case k6 => k_is); (case a7 => k_is); (case l7 => k_is); (case c7 => k_is); (case k7 => k_is); (case a9 => k_is); (case l9 => k_is); (case c9 => k_is); (case k9 => k_is); (case a10 => k_is); (case l10 => k_is); (case c10 => k_is); (case k10 => k_is); (case a11 => k_is); (case l11 => k_is); (case c11 => k_is); (case k11 => k_is); (case a13 => k_is); (case l13 => k_is); (case c13 => k_is); (case k13 => k_is); (case a14 => k_is); (case l14 => k_is); (case c14 => k_is); (case k14 => k_is); (case a15 => k_is); (case l15 => k_is); (case c15 => k_is); (case k15 => k_is); (case a16 => k_is); (case l16 => k_is); (case c16 => k_is); (case k16 => k_is); (case a17 => k_is); (case l17 => k_is); (case c17 => k_is); (case k17 => k_is); (case a18 => k_is); (case l18 => k_is); (case c18 => k_is); (case k18 => k_is); (case a19 => k_is); (case l19 => k_is); (case c19 => k_is); (case k19 => k_is); (case a20 => k_is); (case l20 => k_is); (case c20 => k_is); (case k20 => k_is); (case a21 => k_is); (case l21 => k_is); (case c21 => k_is); (case k21 => k_is); (case a22 => k_is); (case l22 => k_is); (case c22 => k_is); (case k22 => k_is); (case a23 => k_is); (case l23 => k_is); (case c23 => k_is); (case k23 => k_is); (case z0 => k_is); (case z1 => k_is); (case z2 => k_is); (case z3 => k_is); (case z4 => k_is); (case z5 => k_is); (case z6 => k_is); (case z7 => k_is); (case z8 => k_is); (case z9 => k_is); (case z10 => k_is); (case z11 => k_is)
