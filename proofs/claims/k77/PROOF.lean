import PyProof.Rows.All
import Wide.All
import OpenK.AllK
import Wide.FinOn
import PySem.Challenge.RW_commonweb_k77_distances
import HandS.ForMost
import HandS.Conv
import KE.KItemsList
import KE.KDictZip
import HandS.Deep
import HandS.Evl
import HandS.IsInst
import HandS.Zip
import HandS.Walk
import KE.KEqSeq
import KE.KEqDeep
import HandS.WideBits
import HandS.SortRule
import HandS.DictTup
import KE.KDictSum
import PyProof.Draws
import HandS.SetFor
import PyProof.P3Eq
import HandS.NoneIn
import HandS.DictComp
import HandS.SortInts
import HandS.TupAny
import HandS.Rev
import HandS.RevTup
import HandS.Replace
import HandS.AnyAll
import HandS.GenOver
import PyProof.ConsumeWalk
import HandS.EndTab
import KE.KeyNested
import HandS.Nested
import HandS.SortKw
import KE.DataMinKey
import KE.DataMinMax
import KE.SortData
import HandS.Strs
import KE.KSetDisp
import PyProof.StrWalks
import HandS.SetKeys
import PyProof.Rows.SortShellAny
import KE.DataFind
import PyProof.WalkInts
import PyProof.PureStr
import HandS.Style
import HandS.Wide
import HandS.WordsDict
import KE.GoesMore
import KE.GoesZip
import HandS.Gcd
import KE.KDictKeyed
set_option Elab.async false
set_option linter.all false
set_option maxRecDepth 100000
set_option maxHeartbeats 4000000
/-! list(enumerate(xs)) -/
namespace Cw
open PySem PySem.Spec PySem.Calls PyProof.Rows L2

theorem en_nolen : typeLookup (.type "enumerate") "__len__" = pure none := am_miss_of_fast (by decide +kernel)
theorem en_nohint : typeLookup (.type "enumerate") "__length_hint__" = pure none := am_miss_of_fast (by decide +kernel)

/-- how the iterator stands ahead of turn i -/
def EnSt (h : Heap) (e it l S : Addr) (items : Array Value) (i : Nat) : Prop :=
  h.IsListIter it l i ∧ h.IsList l items ∧ ((∃ old, IsEnum h e it i old) ∨ ∃ old T f oT, IsEnumHeld h e it i old T f ∧ h.get? T = some oT ∧ T ≠ e ∧ T ≠ it ∧ T ≠ S)

theorem EnSt.keep {h h' : Heap} {e it l S : Addr} {items : Array Value} {i : Nat} (x : EnSt h e it l S items i) (hk : ∀ b o, b ≠ S → h.get? b = some o → h'.get? b = some o) (h1 : e ≠ S) (h2 : it ≠ S) (h3 : l ≠ S) : EnSt h' e it l S items i := by
  obtain ⟨a, b, c⟩ := x
  refine ⟨a.at fun o q => hk it o h2 q, b.at fun o q => hk l o h3 q, ?_⟩
  rcases c with ⟨old, c⟩ | ⟨old, T, f, oT, c, hT, r1, r2, r3⟩
  · exact .inl ⟨old, hk _ _ h1 c⟩
  · exact .inr ⟨old, T, f, oT, hk _ _ h1 c, hk _ _ r3 hT, r1, r2, r3⟩

section
variable {prog : Program} {w : World} {A : Around} {E : Value → Shared → Prop} {s : Shared} {e it l S : Addr} {items : Array Value}

theorem en_item {i : Nat} {x : Value} {Q : Option Value → Shared → Prop} (st : EnSt s.heap e it l S items i) (hei : e ≠ it) (hle : l ≠ e) (hli : l ≠ it) (hS : S < s.heap.objs.size) (hx : items[i]? = some x)
    (hQ : ∀ h' t, EnSt h' e it l S items (i + 1) → h'.get? s.heap.objs.size = some { cls := .type "tuple", data := .seq #[.int i t, x] } → h'.objs.size = s.heap.objs.size + 1 →
      (∀ b o, b ≠ e → b ≠ it → s.heap.get? b = some o → h'.get? b = some o) → ∀ tk, Q (some (.ref s.heap.objs.size)) { s with heap := h', toks := tk }) : wpAny (model prog w) A (pyNext (.ref e)) Q E s := by
  obtain ⟨a, b, c⟩ := st
  have ec : ((i + 1 : Nat) : Int) = (i : Int) + 1 := by omega
  have nit : s.heap.objs.size ≠ it := let ⟨_, q, _⟩ := a; Nat.ne_of_gt (Heap.lt_size q)
  rcases c with ⟨old, c⟩ | ⟨old, T, f, oT, c, hT, r1, r2, r3⟩
  · refine wpAny_pyNext_enum_item c a b hx hei fun h' ho hit' hT hsz hk => hQ h' _ ⟨hit', b.at fun o q => hk l o hle hli q, .inr ⟨_, s.heap.objs.size, false, _, (by rw [ec]; exact ho), hT, Nat.ne_of_gt (Heap.lt_size c), nit, Nat.ne_of_gt hS⟩⟩ hT hsz hk _
  · refine wpAny_pyNext_enum_item_held c hT r1 r2 a b hx hei fun h' ho hit' hT' hsz hk => hQ h' _ ⟨hit', b.at fun o q => hk l o hle hli q, .inr ⟨old, T, true, oT, (by rw [ec]; exact ho), hk _ _ r1 r2 hT, r1, r2, r3⟩⟩ hT' hsz hk _

theorem en_done {i : Nat} {Q : Option Value → Shared → Prop} (hh : A.handled = none) (st : EnSt s.heap e it l S items i) (hx : items[i]? = none)
    (hQ : ∀ h', Heap.ExtBut it s.heap h' → Q none { s with heap := h' }) : wpAny (model prog w) A (pyNext (.ref e)) Q E s := by
  obtain ⟨a, b, c⟩ := st
  rcases c with ⟨old, c⟩ | ⟨old, T, f, oT, c, hT, r1, r2, r3⟩
  · exact wpAny_pyNext_enum_end hh c a b hx hQ
  · exact wpAny_pyNext_enum_end_held hh c a b hx hQ

/-- the tuples made so far -/
structure EnG (items : Array Value) (lo : Addr) (h : Heap) (as : List Addr) : Prop where
  rise : as.Pairwise (· < ·)
  above : ∀ a ∈ as, lo < a
  pairs : ∀ (j : Nat) (a : Addr), as[j]? = some a → ∃ t x, items[j]? = some x ∧ h.get? a = some { cls := .type "tuple", data := .seq #[.int j t, x] }
theorem EnG.there {lo : Addr} {h : Heap} {as : List Addr} (g : EnG items lo h as) {a : Addr} (ha : a ∈ as) : a < h.objs.size := by
  obtain ⟨j, hj⟩ := List.mem_iff_getElem?.mp ha
  obtain ⟨_, _, _, z⟩ := g.pairs j a hj
  exact Heap.lt_size z

theorem en_loop {R : Result → Shared → Prop} (hh : A.handled = none) (hei : e ≠ it) (hle : l ≠ e) (hli : l ≠ it) (heS : e < S) (hiS : it < S) (hlS : l < S) (hn : items.size ≤ sizeLine) (res : Value) {h₁ : Heap}
    (hR : ∀ h' tk acc c as, (∀ b o, b ≠ S → b ≠ e → b ≠ it → h₁.get? b = some o → h'.get? b = some o) → h'.get? S = some { cls := .type "list", dict := none, data := .seq acc c, slots := #[] } → as.length = items.size → EnG items S h' as →
      acc.toList = as.map Value.ref → R (.ok (.ret res)) { s with heap := h', toks := tk }) :
    ∀ (k i : Nat) (h : Heap) (tk c : Nat) (acc : Array Value) (as : List Addr), items.size - i = k → i ≤ items.size → EnSt h e it l S items i → (∀ b o, b ≠ S → b ≠ e → b ≠ it → h₁.get? b = some o → h.get? b = some o) →
      h.get? S = some { cls := .type "list", dict := none, data := .seq acc c, slots := #[] } → acc.toList = as.map Value.ref → as.length = i → EnG items S h as →
      codeAny (model prog w) A (.builtin "list.extend.loop" ⟨[.ref S, .ref e, res], []⟩) R { s with heap := h, toks := tk } := by
  have neS : e ≠ S := Nat.ne_of_lt heS
  have niS : it ≠ S := Nat.ne_of_lt hiS
  have nlS : l ≠ S := Nat.ne_of_lt hlS
  intro k
  induction k with
  | zero =>
    intro i h tk c acc as hk hi hst hkeep hS hacc hal hG
    refine codeAny_builtin (prog := prog) (w := w) PySem.F.entry_extend_loop ?_
    rw [Around.under_plainId (A := A) PySem.F.plain_extend_loop _]
    show wpAny _ A.in1 (pyNext (.ref e) >>= _) _ _ _
    refine wpAny_bind (en_done (s := { s with heap := h, toks := tk }) (A := A.in1) hh hst (Array.getElem?_eq_none (by omega)) fun h' he => ?_)
    refine wpAny_pure (hR h' tk acc c as (fun b o h1 h2 h3 q => he b o h3 (hkeep b o h1 h2 h3 q)) (he S _ niS.symm hS) (by omega) ⟨hG.rise, hG.above, fun j a hj => ?_⟩ hacc)
    obtain ⟨t, x, z1, z2⟩ := hG.pairs j a hj
    exact ⟨t, x, z1, he a _ (Nat.ne_of_gt (Nat.lt_trans hiS (hG.above a (List.mem_of_getElem? hj)))) z2⟩
  | succ k ih =>
    intro i h tk c acc as hk hi hst hkeep hS hacc hal hG
    have hlt : i < items.size := by omega
    have hx : items[i]? = some items[i] := Array.getElem?_eq_getElem hlt
    have hsz : acc.size = i := by rw [← Array.length_toList, hacc, List.length_map, hal]
    refine codeAny_builtin (prog := prog) (w := w) PySem.F.entry_extend_loop ?_
    rw [Around.under_plainId (A := A) PySem.F.plain_extend_loop _]
    show wpAny _ A.in1 (pyNext (.ref e) >>= _) _ _ _
    refine wpAny_bind (en_item (s := { s with heap := h, toks := tk }) (S := S) hst hei hle hli (Heap.lt_size hS) hx fun h' t hst' ht hz hkp tk' => ?_)
    dsimp only at ht hz hkp ⊢
    have hS' := hkp S _ neS.symm niS.symm hS
    have up : ∀ b o, b ≠ S → h'.get? b = some o → (h'.update S (Obj.mapSeq (·.push (Value.ref h.objs.size)))).get? b = some o := fun b o hb q => (Heap.get?_update_other _ _ (Ne.symm hb)).trans q
    have hSl : S < h.objs.size := Heap.lt_size hS
    show wpAny _ A.in1 (updateSeq S (·.push (Value.ref h.objs.size)) >>= _) _ _ _
    refine wpAny_bind (wpAny_updateSeq hS' rfl (wpAny_pure ⟨plainId_quiet PySem.F.plain_extend_loop _, ih (i + 1) _ tk' _ (acc.push (Value.ref h.objs.size)) (as ++ [h.objs.size]) (by omega) hlt (hst'.keep up neS niS nlS)
      (fun b o h1 h2 h3 q => up b o h1 (hkp b o h2 h3 (hkeep b o h1 h2 h3 q))) (Heap.get?_update_self _ hS' rfl) (by rw [Array.toList_push, hacc, List.map_append]; rfl) (by rw [List.length_append, hal]; rfl) ⟨?_, ?_, ?_⟩⟩) (by rw [hsz]; omega) (by show (acc.push (Value.ref h.objs.size)).size ≤ sizeLine + 1; rw [Array.size_push, hsz]; omega))
    · refine List.pairwise_append.mpr ⟨hG.rise, List.pairwise_singleton _ _, fun a ha b hb => ?_⟩
      rw [List.mem_singleton.mp hb]; exact hG.there ha
    · intro a ha
      rcases List.mem_append.mp ha with ha | ha
      · exact hG.above a ha
      · rw [List.mem_singleton.mp ha]; exact hSl
    · intro j b hj
      rcases Nat.lt_trichotomy j as.length with h1 | h1 | h1
      · rw [List.getElem?_append_left h1] at hj
        obtain ⟨t', x', z1, z2⟩ := hG.pairs j b hj
        have hb := hG.above b (List.mem_of_getElem? hj)
        exact ⟨t', x', z1, up b _ (Nat.ne_of_gt hb) (hkp b _ (Nat.ne_of_gt (Nat.lt_trans heS hb)) (Nat.ne_of_gt (Nat.lt_trans hiS hb)) z2)⟩
      · subst h1
        have hb : h.objs.size = b := by simpa using hj
        subst hb
        exact ⟨t, _, by rw [hal]; exact hx, by rw [hal]; exact up _ _ (Nat.ne_of_gt hSl) ht⟩
      · have hnone : (as ++ [h.objs.size])[j]? = none := List.getElem?_eq_none (by rw [List.length_append, List.length_singleton]; omega)
        rw [hnone] at hj; cases hj

theorem en_hint (hT : s.TypeIs (.ref e) "enumerate") {Q : Bool → Shared → Prop} (h : Q true s) : wpAny (model prog w) A (Builtin.List.listLengthHint (.ref e)) Q E s := by
  unfold Builtin.List.listLengthHint
  refine wpAny_bind (wpAny_specialOf hT en_nolen ?_)
  show wpAny _ _ (specialOf (Value.ref e) (Str.ofString "__length_hint__") >>= _) _ _ _
  refine wpAny_bind (wpAny_specialOf hT en_nohint ?_)
  exact wpAny_pure h

theorem en_extend {R : Result → Shared → Prop} (hh : A.handled = none) (he : IsEnum s.heap e it 0 .none) (hit : s.heap.IsListIter it l 0) (hl : s.heap.IsList l items) (hei : e ≠ it) (hle : l ≠ e) (hli : l ≠ it) (heS : e < S) (hiS : it < S) (hlS : l < S) (res : Value) (c₀ : Nat) (hS : s.heap.get? S = some { cls := .type "list", data := .seq #[] c₀ })
    (hR : ∀ h' tk acc c as, (∀ b o, b ≠ S → b ≠ e → b ≠ it → s.heap.get? b = some o → h'.get? b = some o) → h'.get? S = some { cls := .type "list", dict := none, data := .seq acc c, slots := #[] } → as.length = items.size → EnG items S h' as →
      acc.toList = as.map Value.ref → R (.ok (.ret res)) { s with heap := h', toks := tk }) (hn : items.size ≤ sizeLine) :
    wpAny (model prog w) A.in1 (Builtin.List.listExtendWith (.ref S) (.ref e) res)
      (fun fin s' => match fin with | .done f => R (.ok f) s' | .again c' => c'.quiet = true ∧ codeAny (model prog w) A c' R s') (fun e s' => R (.error e) s') s := by
  have hSr : S ≠ e := Nat.ne_of_gt heS
  have hTy : s.TypeIs (.ref e) "enumerate" := ⟨_, he, rfl⟩
  have key : ∀ (h : Heap) (c₁ tk : Nat), (∀ b o, b ≠ S → s.heap.get? b = some o → h.get? b = some o) → h.get? S = some { cls := .type "list", data := .seq #[] c₁ } → codeAny (model prog w) A (.builtin "list.extend.loop" ⟨[.ref S, .ref e, res], []⟩) R { s with heap := h, toks := tk } := by
    intro h c₁ tk hk hS₁
    refine en_loop (s := s) (h₁ := s.heap) hh hei hle hli heS hiS hlS hn res hR items.size 0 h tk c₁ #[] [] (Nat.sub_zero _) (Nat.zero_le _) ⟨hit.at fun o q => hk it o (Nat.ne_of_lt hiS) q, hl.at fun o q => hk l o (Nat.ne_of_lt hlS) q, .inl ⟨_, hk _ _ (Nat.ne_of_lt heS) he⟩⟩
      (fun b o h1 _ _ q => hk b o h1 q) hS₁ rfl rfl ⟨List.Pairwise.nil, (fun _ ha => nomatch ha), (fun j a hj => by simp at hj)⟩
  unfold Builtin.List.listExtendWith
  refine wpAny_bind (wpAny_typeOf (T := "enumerate") hTy ?_)
  have h1 : Builtin.List.listSameRef (.ref S) (.ref e) = false := by simp [Builtin.List.listSameRef, hSr]
  have h2 : (Value.type "enumerate" == Value.type "list") = false := by decide
  have h3 : (Value.type "enumerate" == Value.type "tuple") = false := by decide
  simp only [h1, h2, h3, Bool.or_false, Bool.false_eq_true, if_false]
  refine wpAny_bind (wpAny_pyIter_enum he ?_)
  refine wpAny_bind (wpAny_holding (en_hint hTy ?_))
  refine wpAny_ite_split (fun _ => ?_) (fun _ => wpAny_pure ⟨plainId_quiet PySem.F.plain_extend_loop _, key _ c₀ _ (fun b o _ q => q) hS⟩)
  refine wpAny_bind (wpAny_rule (wpAny_bind ?_))
  · show wpAny _ _ (updateSeq S (·.push .none) >>= fun _ => updateSeq S (·.pop)) _ _ _
    refine wpAny_bind (wpAny_updateSeq hS rfl ?_)
    have hS₂ := Heap.get?_update_self (Obj.mapSeq (·.push Value.none)) hS rfl
    refine wpAny_updateSeq (hz := by seq_fits) hS₂ rfl ?_
    have hS₃ := Heap.get?_update_self (Obj.mapSeq (·.pop)) hS₂ rfl
    refine wpAny_pure ⟨plainId_quiet PySem.F.plain_extend_loop _, key _ _ _ (fun b o hb q => ?_) hS₃⟩
    exact (Heap.get?_update_other _ _ (Ne.symm hb)).trans ((Heap.get?_update_other _ _ (Ne.symm hb)).trans q)

theorem EnG.low {lo lo' : Addr} {h : Heap} {as : List Addr} (g : EnG items lo h as) (hl : lo' ≤ lo) : EnG items lo' h as := ⟨g.rise, fun a ha => Nat.lt_of_le_of_lt hl (g.above a ha), g.pairs⟩

/-- list(e), e an enumerate that nobody has asked yet -/
theorem en_call {Q : Value → Shared → Prop} (hh : A.handled = none) (he : IsEnum s.heap e it 0 .none) (hit : s.heap.IsListIter it l 0) (hl : s.heap.IsList l items) (hei : e ≠ it) (hle : l ≠ e) (hli : l ≠ it) (hn : items.size ≤ sizeLine)
    (hQ : ∀ h' tk acc c as, (∀ b o, b ≠ e → b ≠ it → s.heap.get? b = some o → h'.get? b = some o) → h'.get? s.heap.objs.size = some { cls := .type "list", dict := none, data := .seq acc c, slots := #[] } → as.length = items.size → EnG items s.heap.objs.size h' as →
      acc.toList = as.map Value.ref → Q (.ref s.heap.objs.size) { s with heap := h', toks := tk }) : wpAny (model prog w) A (call (.type "list") [.ref e]) Q E s := by
  refine callType_codes (Q₁ := fun obj s₁ => obj = .ref s.heap.objs.size ∧ s₁ = { s with heap := s.heap.push { cls := .type "list", data := .seq #[] } }) PySem.F.called_list (PySem.F.typeCall_list_1 _) PySem.F.entry_list_init (code_list_new _ ⟨rfl, rfl⟩) fun obj s₁ h₁ => ?_
  obtain ⟨rfl, rfl⟩ := h₁
  have hS : (s.heap.push { cls := .type "list", data := .seq #[] }).get? s.heap.objs.size = some { cls := .type "list", data := .seq #[] } := Heap.get?_push_size _ rfl
  have k1 : ∀ b o, s.heap.get? b = some o → (s.heap.push { cls := .type "list", data := .seq #[] }).get? b = some o := fun b o q => Heap.get?_push_of_some _ q
  have heS : e < s.heap.objs.size := Heap.lt_size he
  have hiS : it < s.heap.objs.size := by obtain ⟨_, q, _⟩ := hit; exact Heap.lt_size q
  have hlS : l < s.heap.objs.size := by obtain ⟨_, q, _⟩ := hl; exact Heap.lt_size q
  refine ⟨⟨_, hS, rfl⟩, PySem.F.args_list_init_2 _ _, ?_⟩
  show wpAny _ _ (do let old ← Builtin.List.listItems (.ref s.heap.objs.size); Builtin.List.listUpdate (.ref s.heap.objs.size) (fun _ => #[]); letGo old.toList.reverse; Builtin.List.listExtendWith (.ref s.heap.objs.size) (.ref e) .none) _ _ _
  refine wpAny_bind ?_; unfold Builtin.List.listItems; refine wpAny_bind (wpAny_seqItems hS rfl (wpAny_pure ?_))
  show wpAny _ _ (updateSeq s.heap.objs.size (fun _ => #[]) >>= fun _ => letGo (#[] : Array Value).toList.reverse >>= fun _ => Builtin.List.listExtendWith (.ref s.heap.objs.size) (.ref e) .none) _ _ _
  refine wpAny_bind (wpAny_updateSeq hS rfl (wpAny_bind (wpAny_letGo ?_)))
  have hS₂ := Heap.get?_update_self (Obj.mapSeq (fun _ => (#[] : Array Value))) hS rfl
  have k2 : ∀ b o, b ≠ s.heap.objs.size → s.heap.get? b = some o → ((s.heap.push { cls := .type "list", data := .seq #[] }).update s.heap.objs.size (Obj.mapSeq (fun _ => (#[] : Array Value)))).get? b = some o := fun b o hb q => (Heap.get?_update_other _ _ (Ne.symm hb)).trans (k1 b o q)
  refine en_extend (A := A.in1) (s := { s with heap := (s.heap.push { cls := .type "list", data := .seq #[] }).update s.heap.objs.size (Obj.mapSeq (fun _ => (#[] : Array Value))) }) hh (k2 _ _ (Nat.ne_of_lt heS) he) (hit.at fun o q => k2 it o (Nat.ne_of_lt hiS) q) (hl.at fun o q => k2 l o (Nat.ne_of_lt hlS) q) hei hle hli heS hiS hlS .none _ hS₂ (fun h' tk acc c as hk hS' hl' hG hacc => ?_) hn
  exact ⟨rfl, hQ h' tk acc c as (fun b o h1 h2 q => hk b o (Nat.ne_of_lt (Heap.lt_size q)) h1 h2 (k2 b o (Nat.ne_of_lt (Heap.lt_size q)) q)) hS' hl' hG hacc⟩
end

/-- the tuples tracked at their addresses -/
def putE : Hp → List Addr → List V → Nat → Hp
  | H, a :: as, x :: xs, j => putE (upd H a (.tup [.int j, x])) as xs (j + 1)
  | H, _, _, _ => H
theorem putE_off {b : Addr} : ∀ (as : List Addr) (xs : List V) (j : Nat) (H : Hp), b ∉ as → putE H as xs j b = H b
  | [], _, _, _, _ => rfl
  | _ :: _, [], _, _, _ => rfl
  | a :: as, x :: xs, j, H, h => by
    show putE (upd H a (.tup [.int j, x])) as xs (j + 1) b = H b
    rw [putE_off as xs _ _ (fun z => h (List.mem_cons_of_mem _ z)), upd_ne (fun z => h (by rw [z]; exact List.mem_cons_self))]
theorem putE_at : ∀ (as : List Addr) (xs : List V) (j : Nat) (H : Hp), as.Nodup → ∀ i t x, as[i]? = some t → xs[i]? = some x → putE H as xs j t = some (.tup [.int ((j + i : Nat) : Int), x])
  | [], _, _, _, _, _, _, _, h, _ => by simp at h
  | _ :: _, [], _, _, _, _, _, _, _, h => by simp at h
  | a :: as, y :: xs, j, H, hn, 0, t, x, h1, h2 => by
    have e1 : a = t := Option.some.inj h1
    have e2 : y = x := Option.some.inj h2
    subst e1; subst e2
    show putE (upd H a (.tup [.int j, y])) as xs (j + 1) a = _
    rw [putE_off as xs _ _ (List.nodup_cons.mp hn).1, upd_same]; rfl
  | a :: as, y :: xs, j, H, hn, i + 1, t, x, h1, h2 => by
    have ih := putE_at as xs (j + 1) (upd H a (.tup [.int j, y])) (List.nodup_cons.mp hn).2 i t x h1 h2
    show putE (upd H a (.tup [.int j, y])) as xs (j + 1) t = _
    rw [ih, show j + 1 + i = j + (i + 1) by omega]
theorem refs_vals : ∀ as : List Addr, Vals (as.map V.ref) (as.map Value.ref)
  | [] => .nil
  | _ :: as => .cons rfl (refs_vals as)
def rLstEn (K : PySem.W.Frag) : List V → Hp → VK → Prop := fun vs H Q => ∃ (a : Addr) (xs : List V), vs = [.ref a] ∧ SqL K H a xs ∧
  ∀ (H' : Hp) (p : Addr) (ts : List Addr), Same H H' → H p = none → (∀ t ∈ ts, H t = none) → p ∉ ts → H' p = some (.lst (ts.map V.ref)) → ts.length = xs.length → (∀ j t x, ts[j]? = some t → xs[j]? = some x → H' t = some (.tup [.int (j : Nat), x])) → Q (.ref p) H'
def tLstEn (K : PySem.W.Frag) (ta : TA) : TE := fun σ H Q => ta σ H fun vs H1 => rLstEn K vs H1 Q
section
variable {X : Cx} {e : Expr} {ta : TA} {p1 p2 pos pos2 : Pos}
theorem enum_laid {pins : List (Addr × Obj)} {σ : L2.St} {H : Hp} {s : Shared} {h' : Heap} {tk S : Nat} {xs : List V} {its : List Value} {acc : Array Value} {c : Nat} {as : List Addr} (I : Inv X pins σ H s) (hz : xs.length ≤ sizeLine) (rv : Vals xs its)
    (hk : ∀ b o, s.heap.get? b = some o → h'.get? b = some o) (hS0 : s.heap.objs.size ≤ S) (hS : h'.get? S = some { cls := .type "list", dict := none, data := .seq acc c, slots := #[] }) (hl : as.length = its.toArray.size) (hG : EnG its.toArray S h' as) (hacc : acc.toList = as.map Value.ref) :
    ∃ H' : Hp, Same H H' ∧ H S = none ∧ (∀ t ∈ as, H t = none) ∧ S ∉ as ∧ H' S = some (.lst (as.map V.ref)) ∧ (∀ j t x, as[j]? = some t → xs[j]? = some x → H' t = some (.tup [.int (j : Nat), x])) ∧ Inv X pins σ H' { s with heap := h', toks := tk } := by
  have lk : xs.length = its.length := Vals.length rv
  have hl' : as.length = xs.length := by rw [hl, List.size_toArray, lk]
  have hSn : S ∉ as := fun z => Nat.lt_irrefl _ (hG.above _ z)
  have nd : as.Nodup := List.Pairwise.imp (fun {a b} (h : a < b) => Nat.ne_of_lt h) hG.rise
  have new : ∀ t ∈ as, H t = none := fun t ht => I.hok.fresh (Nat.le_trans hS0 (Nat.le_of_lt (hG.above t ht)))
  have newS : H S = none := I.hok.fresh hS0
  have off : ∀ b, b ∉ as → b ≠ S → putE (upd H S (.lst (as.map V.ref))) as xs 0 b = H b := fun b h1 h2 => by rw [putE_off as xs _ _ h1, upd_ne h2]
  have low : ∀ b o, s.heap.get? b = some o → b ∉ as ∧ b ≠ S := fun b o q => ⟨fun z => absurd (Heap.lt_size q) (Nat.not_lt.mpr (Nat.le_trans hS0 (Nat.le_of_lt (hG.above b z)))), Nat.ne_of_lt (Nat.lt_of_lt_of_le (Heap.lt_size q) hS0)⟩
  have kp : Same H (putE (upd H S (.lst (as.map V.ref))) as xs 0) := fun b u q => by
    rw [off b (fun z => by rw [new b z] at q; cases q) (fun z => by rw [z, newS] at q; cases q)]
    exact q
  have eS : putE (upd H S (.lst (as.map V.ref))) as xs 0 S = some (.lst (as.map V.ref)) := by rw [putE_off as xs _ _ hSn, upd_same]
  have atP : ∀ j t x, as[j]? = some t → xs[j]? = some x → putE (upd H S (.lst (as.map V.ref))) as xs 0 t = some (.tup [.int (j : Nat), x]) := fun j t x h1 h2 => by
    rw [putE_at as xs 0 _ nd j t x h1 h2, Nat.zero_add]
  refine ⟨_, kp, newS, new, hSn, eS, atP, ?_⟩
  refine I.call' (ch := []) rfl ⟨fun b o q _ _ _ => hk b o q, fun b o q _ _ _ => ⟨o.slots, hk b o q⟩, fun b o q n _ => (off b (low b o q).1 (low b o q).2).trans n, fun b o q _ => ⟨o, hk b o q⟩, fun b xs q => kp b _ q, fun b o u q => kp b _ q, fun b ps q => ⟨#[], by rw [kp b _ q]; simp⟩⟩ (fun b u q => ?_) I.bare fun b z => by simp at z
  by_cases hb : b ∈ as
  · obtain ⟨j, e1⟩ := List.mem_iff_getElem?.mp hb
    have hj : j < xs.length := by
      have := (List.getElem?_eq_some_iff.mp e1).1
      omega
    have e2 : xs[j]? = some xs[j] := List.getElem?_eq_getElem hj
    rw [atP j b _ e1 e2] at q
    cases q
    obtain ⟨t, x, f1, f2⟩ := hG.pairs j b e1
    obtain ⟨u, g1, g2⟩ := rv.get e2
    have f1' : its[j]? = some x := by simpa using f1
    rw [g1] at f1'
    cases f1'
    exact ⟨by show 2 ≤ sizeLine; decide, [.int j t, x], .cons ⟨t, rfl⟩ (.cons g2 .nil), ⟨_, f2, rfl, _, rfl⟩⟩
  · by_cases hb2 : b = S
    · rw [hb2] at q ⊢
      rw [eS] at q
      cases q
      refine ⟨by rw [List.length_map]; omega, acc.toList, c, by rw [hacc]; exact refs_vals as, ?_⟩
      rw [Array.toArray_toList]; exact hS
    · rw [off b hb hb2] at q
      exact (I.hok b u q).stay (fun d v _ y => hk d v y) (fun d y => kp d _ y) fun d xs y => kp d _ y
/-- list(enumerate(e)) -/
theorem pe_listEnum (hc : X.calm = true) (hg : Gl X "list") (hm : X.mg "list" = none) (hg2 : Gl X "enumerate") (hm2 : X.mg "enumerate" = none) (ha : PA X [e] ta)
    (hs : starEach [.Call (.Name "enumerate" p2) [e] [] pos2] X.env = [(false, eval (.Call (.Name "enumerate" p2) [e] [] pos2) X.env)] := by rfl) (hs2 : starEach [e] X.env = [(false, eval e X.env)] := by rfl) :
    PE X (.Call (.Name "list" p1) [.Call (.Name "enumerate" p2) [e] [] pos2] [] pos) (tLstEn X.K ta) := by
  refine ⟨fun pins s σ H Q I hq => ?_⟩
  refine Call_ (ld_blt I hg hm boot_list (PyProof.Rows.callWith_type1 ?_ hs rfl))
  rw [hs]
  show wpAny _ _ (spliced ((false, eval (.Call (.Name "enumerate" p2) [e] [] pos2) X.env) :: backTo pos [])) _ _ s
  refine Calls.spliced_cons (Call_ (ld_blt I hg2 hm2 boot_enumerate (PyProof.Rows.callWith_type1 (thn (ha.run pos2 pins s σ H _ I hq) fun us s1 ⟨vs, H1, I1, r1, q1⟩ => ?_) hs2 rfl)))
  obtain ⟨a, xs, ex, hq, q⟩ := q1
  subst ex
  cases r1 with
  | cons r rr =>
    cases rr; cases r
    obtain ⟨its, rv, p', hz⟩ := I1.list hq
    have hl0 : a < s1.heap.objs.size := by obtain ⟨_, z, _⟩ := p'.isList; exact Heap.lt_size z
    refine call_enumerate_list p'.isList fun h' he hit hsz hk => ?_
    have I2 : Inv X pins σ H1 { s1 with heap := h' } := I1.kept (t' := s1.toks) hk
    refine Calls.spliced_nil ?_
    refine en_call (s := { s1 with heap := h' }) (I1.ok.hd hc) he hit (p'.isList.at fun o z => hk a o z) (Nat.succ_ne_self _) (Nat.ne_of_lt (Nat.lt_succ_of_lt hl0)) (Nat.ne_of_lt hl0) (by rw [List.size_toArray, ← rv.length]; exact hz) fun h'' tk acc c as hk2 hS hl hG hacc => ?_
    have hk3 : ∀ b o, s1.heap.get? b = some o → h''.get? b = some o := fun b o z => hk2 b o (Nat.ne_of_lt (Nat.lt_succ_of_lt (Heap.lt_size z))) (Nat.ne_of_lt (Heap.lt_size z)) (hk b o z)
    obtain ⟨H', k1, k2, k3, k4, k5, k6, J⟩ := enum_laid (tk := tk) I1 hz rv hk3 (by show s1.heap.objs.size ≤ h'.objs.size; omega) hS hl hG hacc
    exact ⟨.ref _, H', J, rfl, q H' _ as k1 k2 k3 k4 k5 (by rw [hl, List.size_toArray, rv.length]) k6⟩
end
end Cw

namespace Cw
open PySem PySem.Spec PyProof.Rows L2

/-! ### a def of the text, called by its name -/
structure Df (K : PySem.W.Frag) (mg : Str → Option Value) (x : Str) (st : Stmt) (ps : List Str) where
  f : Addr
  fd : FuncData
  F : Fun K x x st f fd
  b : Binds K fd ps []
  g : mg x = some (.ref f)

theorem units1 {k : Nat} {A : Around} (r : Room k A) : A.units + 65 < cLine := by have := r.un; omega
theorem blkOk_in {N : List Str} {sc scO scope : Scope} {own : List (Str × Nat)} {cl : List (Str × Addr)} {C : Addr} {env : Env} (he : env.scope = sc) (h : blkC N (relS scO sc) scope own = true) : BlkOk N (compEnvC scO cl C env).scope scope own := by
  subst he
  exact blkOk_by h
/-! ### heaps -/
/-- all but h is as it was -/
def Keep (h : Addr) (H H' : Hp) : Prop := ∀ b o, b ≠ h → H b = some o → H' b = some o
theorem Keep.refl (h : Addr) (H : Hp) : Keep h H H := fun _ _ _ e => e
theorem Keep.trans {h : Addr} {H H1 H2 : Hp} (a : Keep h H H1) (b : Keep h H1 H2) : Keep h H H2 := fun c o n e => b c o n (a c o n e)
theorem Keep.same {h : Addr} {H H1 H2 : Hp} (a : Keep h H H1) (b : Same H1 H2) : Keep h H H2 := fun c o n e => b c o (a c o n e)
theorem Same.keep {h : Addr} {H H1 : Hp} (a : Same H H1) : Keep h H H1 := fun c o _ e => a c o e
theorem Keep.put {h : Addr} {H : Hp} {o : HO} : Keep h H (upd H h o) := fun c u n e => by rw [upd_ne n]; exact e
/-- what was new ahead of it is not told -/
theorem Keep.out {h : Addr} {H0 H H1 : Hp} (s : Same H0 H) (k : Keep h H H1) (n : H0 h = none) : Same H0 H1 := fun c o e => k c o (ne_of_none e n) (s c o e)
theorem same_new {H : Hp} {p : Addr} {o : HO} (h : H p = none) : Same H (upd H p o) := fun b x e => by rw [upd_ne (ne_of_none e h)]; exact e
theorem same_upd {H H' : Hp} {p : Addr} {o : HO} (s : Same H H') (h : H p = none) : Same H (upd H' p o) := fun b x e => by rw [upd_ne (ne_of_none e h)]; exact s b x e
theorem Same.sqt {K : PySem.W.Frag} {H H' : Hp} {a : Addr} {xs : List V} (e : Same H H') (h : SqT K H a xs) : SqT K H' a xs := by
  rcases h with (h | ⟨o, h⟩) | h
  · exact .inl (.inl (e _ _ h))
  · exact .inl (.inr ⟨o, e _ _ h⟩)
  · exact .inr h
theorem at_upd {H : Hp} {a b : Addr} {o u : HO} (h : H a = some o) (n : H b = none) : upd H b u a = some o := by rw [upd_ne (ne_of_none h n)]; exact h

theorem Keep.new {h p : Addr} {H H' : Hp} {o : HO} (k : Keep h H H') (n : H p = none) : Keep h H (upd H' p o) := fun b u nb e => by rw [upd_ne (ne_of_none e n)]; exact k b u nb e
theorem Keep.free {h p : Addr} {H H' : Hp} (k : Keep h H H') (ne : p ≠ h) (n : H' p = none) : H p = none := by
  cases q : H p with
  | none => rfl
  | some o => rw [k p o ne q] at n; cases n
theorem Keep.self {h : Addr} {H H' : Hp} {o : HO} (k : Keep h H H') : Keep h H (upd H' h o) := fun b u nb e => by rw [upd_ne nb]; exact k b u nb e
theorem Keep.seqN {K : PySem.W.Frag} {H H' : Hp} {a h : Addr} {xs : List V} (k : Keep h H H') (n : H h = none) (q : SqL K H a xs) : SqL K H' a xs := by
  rcases q with (q | ⟨o, q⟩) | q
  · exact .inl (.inl (k _ _ (ne_of_none q n) q))
  · exact .inl (.inr ⟨o, k _ _ (ne_of_none q n) q⟩)
  · exact .inr q
/-- a tuple stands behind a store at a new place, at a list -/
theorem sqt_upd {K : PySem.W.Frag} {H : Hp} {a b : Addr} {xs : List V} {o : HO} (n : H b = none ∨ ∃ ys, H b = some (.lst ys)) (q : SqT K H a xs) : SqT K (upd H b o) a xs := by
  have ne : ∀ u, H a = some u → (∀ ys, u ≠ .lst ys) → a ≠ b := fun u e hu z => by
    subst z
    rcases n with n | ⟨ys, n⟩
    · rw [n] at e; cases e
    · rw [n] at e; exact hu ys (Option.some.inj e).symm
  rcases q with (q | ⟨o', q⟩) | q
  · exact .inl (.inl (by rw [upd_ne (ne _ q (by intro ys z; cases z))]; exact q))
  · exact .inl (.inr ⟨o', by rw [upd_ne (ne _ q (by intro ys z; cases z))]; exact q⟩)
  · exact .inr q
/-- x in (a, b, ..), data at any depth -/
def rInT (K : PySem.W.Frag) (neg : Bool) : R2 := fun x y H Q => ∃ d ds, Dp K H x d ∧ Dp K H y (.tuple ds) ∧ SeqAt.shaped d = true ∧ SeqAt.shaped (.tuple ds) = true ∧ Q (.bl (if neg then !(ds.any fun z => PyData.eqv z d) else ds.any fun z => PyData.eqv z d)) H
theorem op_inT {X : Cx} (hu : X.A.units + 65 < cLine) : OpR X (compareOp .In) (rInT X.K false) := by
  intro pins s σ H x y v u Q I rx ry h
  obtain ⟨d, ds, hd, he, sd, se, q⟩ := h
  obtain ⟨as, r1⟩ := Dp.reads I d x v hd rx
  obtain ⟨bs, r2⟩ := Dp.reads I (.tuple ds) y u he ry
  exact SeqAt.in_tuple_reads r2 r1 (SeqAt.canLay_of_shaped se) (SeqAt.canLay_of_shaped sd) (room_in_shaped sd hu) ⟨.bl _, H, I, rfl, q⟩
/-! ### readings, step by step -/
section
variable {K : PySem.W.Frag} {σ : L2.St} {H : Hp} {Q : VK} {QA : List V → Hp → Prop} {QT : Bool → Hp → Prop} {D : Ends} {ta tb tc te : TE} {tr t1 : TA} {tt tu : TT} {t u : TS} {r r' : R2} {v x y : V} {i j : Int} {n : Nat} {p : Addr} {xs : List V}
theorem d_var {i : Nat} (e : σ[i]? = some (some v)) (h : Q v H) : tVar i σ H Q := ⟨v, e, h⟩
theorem d_c (h : Q v H) : tC v σ H Q := h
theorem d_op (h : ta σ H fun x H1 => tb σ H1 fun y H2 => r x y H2 Q) : tOp r ta tb σ H Q := h
theorem d_un {r : V → Hp → VK → Prop} (h : ta σ H fun x H1 => r x H1 Q) : tUn r ta σ H Q := h
theorem d_cons (h : ta σ H fun x H1 => tr σ H1 fun xs H2 => QA (x :: xs) H2) : tCons ta tr σ H QA := h
theorem d_nil (h : QA [] H) : tNil σ H QA := h
theorem d_cb {r : List V → Hp → VK → Prop} (h : tr σ H fun vs H1 => r vs H1 Q) : tCB r tr σ H Q := h
theorem d_call {sp : Sp} {dvs : List V} {E : XK} (h : tr σ H fun vs H1 => sp (vs ++ dvs) H1 Q E) : tCall sp dvs E tr σ H Q := h
theorem d_tup (h : tr σ H fun xs H1 => xs.length ≤ sizeLine ∧ ∀ p, H1 p = none → Q (.ref p) (upd H1 p (.tup xs))) : tTup tr σ H Q := h
theorem d_lst (h : tr σ H fun xs H1 => xs.length ≤ sizeLine ∧ ∀ p, H1 p = none → Q (.ref p) (upd H1 p (.lst xs))) : tLst tr σ H Q := h
theorem d_rI {C : Int → Int → Prop} {g : Int → Int → V} (hc : C i j) (h : Q (g i j) H) : rI C g (.int i) (.int j) H Q := ⟨i, j, rfl, rfl, hc, h⟩
theorem d_rI0 {g : Int → Int → V} (h : Q (g i j) H) : rI0 g (.int i) (.int j) H Q := ⟨i, j, rfl, rfl, h⟩
theorem d_rU {g : Int → V} (h : Q (g i) H) : rU g (.int i) H Q := ⟨i, rfl, h⟩
theorem d_eqI (h : Q (.bl (decide (i = j))) H) : rEq (.int i) (.int j) H Q := ⟨rfl, by
  rw [show decide (V.int i = V.int j) = decide (i = j) by rw [Bool.eq_iff_iff]; simp]; exact h⟩
theorem d_neI (h : Q (.bl (!decide (i = j))) H) : rNe (.int i) (.int j) H Q := ⟨rfl, by
  rw [show decide (V.int i = V.int j) = decide (i = j) by rw [Bool.eq_iff_iff]; simp]; exact h⟩
theorem d_ixL (h : SqL K H p xs) (e : atI xs i = some v) (q : Q v H) : rIxL K (.ref p) (.int i) H Q := ⟨p, xs, i, v, rfl, rfl, h, e, q⟩
theorem d_ixLm (h : H p = some (.lst xs)) (e : atI xs i = some v) (q : Q v H) : rIxL K (.ref p) (.int i) H Q := ⟨p, xs, i, v, rfl, rfl, SqL.of h, e, q⟩
theorem d_ixT (h : SqT K H p xs) (e : atI xs i = some v) (q : Q v H) : rIxT K (.ref p) (.int i) H Q := ⟨p, xs, i, v, rfl, rfl, h, e, q⟩
theorem d_ixTm (h : H p = some (.tup xs)) (e : atI xs i = some v) (q : Q v H) : rIxT K (.ref p) (.int i) H Q := ⟨p, xs, i, v, rfl, rfl, SqT.of h, e, q⟩
theorem d_test (h : te σ H fun x H' => ∃ k, x = .bl k ∧ QT k H') : tTest te σ H QT := h
theorem d_tB (h : te σ H fun x H' => ∃ k, x = .bl k ∧ QT k H') : tB te σ H QT := h
theorem d_bl {b : Bool} {C : Bool → Prop} (h : C b) : ∃ k, V.bl b = .bl k ∧ C k := ⟨b, rfl, h⟩
theorem d_not (h : tt σ H fun c H1 => QT (!c) H1) : tNot tt σ H QT := h
theorem d_and (h : tt σ H fun c H1 => if c = true then tu σ H1 QT else QT false H1) : tAnd tt tu σ H QT := h
theorem d_or (h : tt σ H fun c H1 => if c = true then QT true H1 else tu σ H1 QT) : tOr tt tu σ H QT := h
theorem d_if (h : tt σ H fun c H1 => if c = true then ta σ H1 Q else tb σ H1 Q) : tIf tt ta tb σ H Q := h
theorem d_andV (h : ta σ H fun x H1 => ∃ c, x = .bl c ∧ if c = true then tb σ H1 Q else Q (.bl false) H1) : tAndV ta tb σ H Q := h
theorem d_sl {r : V → Option Int → Option Int → Hp → VK → Prop} {tl th : TO} (h : te σ H fun x H1 => tl σ H1 fun l H2 => th σ H2 fun u H3 => r x l u H3 Q) : tSl r te tl th σ H Q := h
theorem d_nop {QO : Option Int → Hp → Prop} (h : QO none H) : tNoPart σ H QO := h
theorem d_part {QO : Option Int → Hp → Prop} (h : te σ H fun x H1 => ∃ i, x = .int i ∧ QO (some i) H1) : tPart te σ H QO := h
theorem d_in {C : Int → Prop} (h : C i) : ∃ k, V.int i = .int k ∧ C k := ⟨i, rfl, h⟩
theorem d_bm {T : String} {r : V → List V → Hp → VK → Prop} (h : te σ H fun x H1 => tyV K T x H1 ∧ tr σ H1 fun xs H2 => r x xs H2 Q) : tBM K T r te tr σ H Q := h
theorem d_bm0 {T : String} {r : V → List V → Hp → VK → Prop} (h : te σ H fun x H1 => tyV K T x H1 ∧ r x [] H1 Q) : tBM0 K T r te σ H Q := h
theorem d_m1 {r : V → List V → Hp → VK → Prop} (h : ta σ H fun x H1 => (∃ a, x = .str a) ∧ te σ H1 fun y H2 => r x [y] H2 Q) : tM1 r ta te σ H Q := h
theorem d_exs {A : Str} {C : Prop} (h : C) : (∃ a, V.str A = .str a) ∧ C := ⟨⟨_, rfl⟩, h⟩
theorem d_app {l : Addr} {ys : List V} (h : H l = some (.lst ys)) (q : tr σ H fun zs H2 => rAppend (.ref l) zs H2 Q) : tyV K "list" (.ref l) H ∧ tr σ H fun zs H2 => rAppend (.ref l) zs H2 Q := ⟨.inl ⟨rfl, _, SqL.of h⟩, q⟩
theorem d_append {l : Addr} {ys : List V} (h : H l = some (.lst ys)) (hl : ys.length < sizeLine) (q : Q .non (upd H l (.lst (ys ++ [y])))) : rAppend (.ref l) [y] H Q := ⟨l, ys, y, rfl, rfl, h, hl, q⟩
theorem d_setL {QU : Hp → Prop} {l : Addr} {ys : List V} {j : Nat} (h : H l = some (.lst ys)) (e : ixN ys.length i = some j) (q : QU (upd H l (.lst (ys.set j v)))) : rSetL (.ref l) (.int i) v H QU := ⟨l, ys, i, j, rfl, rfl, h, e, q⟩
theorem d_lenL {C : List V → Prop} (h : SqL K H p xs) (q : C xs) : ∃ p' ys, [V.ref p] = [.ref p'] ∧ (SqL K H p' ys ∨ SqT K H p' ys) ∧ C ys := ⟨p, xs, rfl, .inl h, q⟩
theorem d_lenT {C : List V → Prop} (h : SqT K H p xs) (q : C xs) : ∃ p' ys, [V.ref p] = [.ref p'] ∧ (SqL K H p' ys ∨ SqT K H p' ys) ∧ C ys := ⟨p, xs, rfl, .inr h, q⟩
theorem d_lenS {C : Str → Prop} {z : Str} (h : z.length ≤ sizeLine) (q : C z) : ∃ z', [V.str z] = [.str z'] ∧ z'.length ≤ sizeLine ∧ C z' := ⟨z, rfl, h, q⟩
theorem d_isN {C : Prop} (q : C) : V.non = .non ∧ C := ⟨rfl, q⟩
-- statements
theorem d_next (h : D.nx σ H) : tNext D σ H := h
theorem d_seq (h : t { D with nx := u D } σ H) : tSeq t u D σ H := h
theorem d_asg {g : TG} (h : te σ H fun x H1 => g x σ H1 D.nx) : tAsg te g D σ H := h
theorem d_drop (h : te σ H fun _ H1 => D.nx σ H1) : tDrop te D σ H := h
theorem d_ret (h : te σ H D.rt) : tRet te D σ H := h
theorem d_retN (h : D.rt .non H) : tRetN D σ H := h
theorem d_ifS (h : tt σ H fun b H1 => if b = true then t D σ H1 else u D σ H1) : tIfS tt t u D σ H := h
theorem d_brk (h : D.bk σ H) : tBreak D σ H := h
theorem d_ct (h : D.ct σ H) : tCont D σ H := h
theorem d_aug {i : Nat} {ti : TIp} (e : σ[i]? = some (some x)) (h : te σ H fun y H1 => ti x y H1 fun z H2 => D.nx (σ.set i (some z)) H2) : tAug i te ti D σ H := ⟨x, e, h⟩
theorem d_gname {i : Nat} {QS : L2.St → Hp → Prop} (h : QS (σ.set i (some v)) H) : gName i v σ H QS := h
theorem d_gnil {QS : L2.St → Hp → Prop} (h : QS σ H) : gNil [] σ H QS := ⟨rfl, h⟩
theorem d_gcons {t : TG} {u : TGs} {vs : List V} {QS : L2.St → Hp → Prop} (h : t v σ H fun σ' H' => u vs σ' H' QS) : gCons t u (v :: vs) σ H QS := ⟨v, vs, rfl, h⟩
theorem d_gtup {t : TGs} {QS : L2.St → Hp → Prop} (h : SqT K H p xs) (hl : xs.length = n) (q : t xs σ H QS) : gTup K n t (.ref p) σ H QS := ⟨p, xs, rfl, h, hl, q⟩
theorem d_gtupm {t : TGs} {QS : L2.St → Hp → Prop} (h : H p = some (.tup xs)) (hl : xs.length = n) (q : t xs σ H QS) : gTup K n t (.ref p) σ H QS := ⟨p, xs, rfl, SqT.of h, hl, q⟩
theorem d_gsub {ti : TE} {s : TSet} {QS : L2.St → Hp → Prop} (h : ta σ H fun o H1 => ti σ H1 fun i H2 => s o i v H2 fun H3 => QS σ H3) : gSub ta ti s v σ H QS := h
-- what is walked
theorem d_for {wi : TI} {g : TG} (h : wi σ H fun J H1 => ∃ W : Nat → Nat → L2.St → Hp → Prop, (∃ m, W 0 m σ H1) ∧ ∀ i m σ H, W i m σ H →
  (J.stop i H ∧ D.nx σ H) ∨ (J.go i H ∧ ∃ N : L2.St → Hp → Prop, (∀ σ' H', N σ' H' → ∃ m', m' < m ∧ W (i + 1) m' σ' H') ∧ ∀ x H', J.yld i H x H' → g x σ H' fun σ2 H2 => t { D with nx := N, ct := N, bk := D.nx } σ2 H2)) : tFor wi g t D σ H := h
theorem d_lc {wi : TI} {g : TG} {vs : List Nat} (h : wi σ H fun J H1 => ∀ D, H1 D = none → ∃ W : Nat → Nat → Hp → Prop, (∃ m, W 0 m (upd H1 D (.lst []))) ∧ ∀ i m H, W i m H →
  (J.stop i H ∧ Q (.ref D) H) ∨ (J.go i H ∧ ∃ Nx : Hp → Prop, (∀ H', Nx H' → ∃ m', m' < m ∧ W (i + 1) m' H') ∧ ∀ x H', J.yld i H x H' → g x (wipe σ vs) H' fun σ2 H2 => wipe σ2 vs = wipe σ vs ∧ tt σ2 H2 fun b H3 =>
    if b = true then te σ2 H3 fun y H4 => ∃ acc, H4 D = some (.lst acc) ∧ acc.length < sizeLine ∧ Nx (upd H4 D (.lst (acc ++ [y]))) else Nx H3)) : tLc wi g tt te vs σ H Q := h
theorem d_iR1 {R : It → Hp → Prop} (h : tr σ H fun vs H1 => ∃ j : Int, vs = [.int j] ∧ -(2 ^ 62) ≤ j ∧ j < 2 ^ 62 ∧ R (Itr 0 j.toNat) H1) : iRng1 tr σ H R := h
theorem d_iR2 {R : It → Hp → Prop} (h : tr σ H fun vs H1 => ∃ i j : Int, vs = [.int i, .int j] ∧ (-(2 ^ 62) ≤ i ∧ i < 2 ^ 62 ∧ -(2 ^ 62) ≤ j ∧ j < 2 ^ 62) ∧ R (Itr i (j - i).toNat) H1) : iRng2 tr σ H R := h
theorem d_iR1e {C : Int → Prop} (h1 : -(2 ^ 62) ≤ j) (h2 : j < 2 ^ 62) (h : C j) : ∃ k : Int, [V.int j] = [.int k] ∧ -(2 ^ 62) ≤ k ∧ k < 2 ^ 62 ∧ C k := ⟨j, rfl, h1, h2, h⟩
theorem d_iR2e {C : Int → Int → Prop} (h1 : -(2 ^ 62) ≤ i ∧ i < 2 ^ 62 ∧ -(2 ^ 62) ≤ j ∧ j < 2 ^ 62) (h : C i j) : ∃ k l : Int, [V.int i, V.int j] = [.int k, .int l] ∧ (-(2 ^ 62) ≤ k ∧ k < 2 ^ 62 ∧ -(2 ^ 62) ≤ l ∧ l < 2 ^ 62) ∧ C k l := ⟨i, j, rfl, h1, h⟩
theorem d_iL {R : It → Hp → Prop} (h : te σ H fun x H1 => ∃ a, x = .ref a ∧ (∃ xs, SqL K H1 a xs) ∧ R (Itl K a) H1) : iList K te σ H R := h
theorem d_iT {R : It → Hp → Prop} (h : te σ H fun x H1 => ∃ a, x = .ref a ∧ (∃ xs, SqT K H1 a xs) ∧ R (Itt K a) H1) : iTup K te σ H R := h
theorem d_iTe {C : Addr → Prop} {a : Addr} (h : SqT K H a xs) (q : C a) : ∃ a', V.ref a = .ref a' ∧ (∃ xs, SqT K H a' xs) ∧ C a' := ⟨a, rfl, ⟨xs, h⟩, q⟩
theorem d_iLe {C : Addr → Prop} {a : Addr} (h : SqL K H a xs) (q : C a) : ∃ a', V.ref a = .ref a' ∧ (∃ xs, SqL K H a' xs) ∧ C a' := ⟨a, rfl, ⟨xs, h⟩, q⟩
theorem d_iS {R : It → Hp → Prop} (h : te σ H fun v H1 => ∃ x, v = .str x ∧ R (Its x) H1) : iStr te σ H R := h
theorem d_iSe {C : Str → Prop} {z : Str} (q : C z) : ∃ x, V.str z = .str x ∧ C x := ⟨z, rfl, q⟩
theorem d_yes (h : QT true H) : tYes σ H QT := h
theorem d_dget1 {td ty : TE} (h : td σ H fun x H1 => ∃ a, x = .ref a ∧ IsD H1 a ∧ ty σ H1 fun y H2 => ∃ o, DGet H2 a y o ∧ Q (o.getD .non) H2) : tDGet1 td ty σ H Q := h
theorem d_dget2 {td ty tx : TE} (h : td σ H fun x H1 => ∃ a, x = .ref a ∧ IsD H1 a ∧ ty σ H1 fun y H2 => tx σ H2 fun z H3 => ∃ o, DGet H3 a y o ∧ Q (o.getD z) H3) : tDGet2 td ty tx σ H Q := h
theorem d_daug {td ty tv : TE} {rd : V → V → Hp → VK → Prop} (h : td σ H fun x H1 => ty σ H1 fun y H2 => ∃ a v, x = .ref a ∧ DGet H2 a y (some v) ∧ tv σ H2 fun y2 H3 => rd v y2 H3 fun z H4 => ∃ H5, DPut H4 a y z H5 ∧ D.nx σ H5) : sDAug td ty tv rd D σ H := h
theorem d_notV (h : ta σ H fun x H1 => ∃ c, x = .bl c ∧ Q (.bl (!c)) H1) : tNotV ta σ H Q := h
theorem d_par {i j : Nat} (h : tr σ H fun vs H1 => ∃ v w, vs = [v, w] ∧ D.nx ((σ.set i (some v)).set j (some w)) H1) : tPar i j tr D σ H := h
theorem d_par2 {C : V → V → Prop} (h : C x y) : ∃ v w, [x, y] = [v, w] ∧ C v w := ⟨x, y, rfl, h⟩
theorem d_dget {td ty : TE} (h : td σ H fun x H1 => ty σ H1 fun y H2 => ∃ a v, x = .ref a ∧ DGet H2 a y (some v) ∧ Q v H2) : tDGet td ty σ H Q := h
theorem d_dput {td ty tv : TE} (h : tv σ H fun v H1 => td σ H1 fun x H2 => ty σ H2 fun y H3 => ∃ a H4, x = .ref a ∧ DPut H3 a y v H4 ∧ D.nx σ H4) : sDPut td ty tv D σ H := h
theorem d_din {td ty : TE} (h : ty σ H fun y H1 => td σ H1 fun x H2 => ∃ a o, x = .ref a ∧ DGet H2 a y o ∧ Q (.bl o.isSome) H2) : tDIn ty td σ H Q := h
theorem d_dnewT (h : ∀ p, H p = none → Q (.ref p) (upd H p (.dT []))) : tDNewT σ H Q := h
theorem d_dnewK (h : ∀ p, H p = none → Q (.ref p) (upd H p (.dK []))) : tDNewK σ H Q := h
theorem iteNT {A B : Prop} (h : B) : if (!true) = true then A else B := h
theorem iteNF {A B : Prop} (h : A) : if (!false) = true then A else B := h
theorem d_cut (M : L2.St → Hp → Prop) (h : t { D with nx := M } σ H) (k : ∀ σ' H', M σ' H' → u D σ' H') : Evl.tCut t u D σ H := ⟨M, h, k⟩
/-- a and b where b only looks -/
theorem if_any {c : Bool} {tb : TE} (hb : ∀ Q' : VK, (∀ b H', Same H H' → Q' (.bl b) H') → tb σ H Q') (q : ∀ b H', Same H H' → Q (.bl b) H') : if c = true then tb σ H Q else Q (.bl false) H := by
  cases c with
  | true => exact iteT (hb Q q)
  | false => exact iteF (q _ _ (Same.refl _))
theorem d_wipe {σ2 σ3 : L2.St} {vs : List Nat} {C : Prop} (e : wipe σ2 vs = wipe σ3 vs) (h : C) : wipe σ2 vs = wipe σ3 vs ∧ C := ⟨e, h⟩
theorem d_lsten (h : tr σ H fun vs H1 => rLstEn K vs H1 Q) : tLstEn K tr σ H Q := h
theorem d_slL {a : Addr} {lo hi : Option Int} (h : SqL K H a xs) (q : ∀ p, H p = none → Q (.ref p) (upd H p (.lst (cutV xs lo hi)))) : rSlL K (.ref a) lo hi H Q := ⟨a, xs, rfl, h, q⟩
theorem d_lrg {tg : L2.St → Hp → (Int → Int → Hp → Prop) → Prop} (h : tg σ H fun a b H1 => RgOk a b ∧ ∀ q, H1 q = none → Q (.ref q) (upd H1 q (.lst (rgV a b)))) : tLstRg tg σ H Q := h
theorem d_rg1 {R : Int → Int → Hp → Prop} (h : te σ H fun x H1 => ∃ n, x = .int n ∧ R 0 n H1) : tRg1 te σ H R := h
end
/-- the law's hand: two whole numbers -/
def Hand (H : Hp) (h : Addr) : Prop := ∃ d m : Int, H h = some (.lst [.int d, .int m]) ∧ 0 ≤ d ∧ 0 ≤ m ∧ m < 2147483587
theorem Hand.same {H H' : Hp} {h : Addr} (x : Hand H h) (s : Same H H') : Hand H' h := by
  obtain ⟨d, m, e, r⟩ := x
  exact ⟨d, m, s _ _ e, r⟩
theorem Hand.ne {H : Hp} {h p : Addr} (x : Hand H h) (n : H p = none) : p ≠ h := by
  obtain ⟨d, m, e, r⟩ := x
  exact (ne_of_none e n).symm
theorem Hand.put {H : Hp} {h p : Addr} {o : HO} (x : Hand H h) (n : p ≠ h) : Hand (upd H p o) h := by
  obtain ⟨d, m, e, r⟩ := x
  exact ⟨d, m, by rw [upd_ne n.symm]; exact e, r⟩
/-- a tuple stays where a list changes -/
theorem Keep.sqt {K : PySem.W.Frag} {h : Addr} {H H' : Hp} {a : Addr} {xs ys : List V} (k : Keep h H H') (e : H h = some (.lst ys)) (q : SqT K H a xs) : SqT K H' a xs := by
  rcases q with (q | ⟨o, q⟩) | q
  · exact .inl (.inl (k _ _ (ne_of q e (by intro z; cases z)) q))
  · exact .inl (.inr ⟨o, k _ _ (ne_of q e (by intro z; cases z)) q⟩)
  · exact .inr q
mutual
theorem dp_same {K : PySem.W.Frag} {H H' : Hp} (s : Same H H') : ∀ (d : PyData) (v : V), Dp K H v d → Dp K H' v d
  | .none, _, h => by cases h; exact .non
  | .bool b, _, h => by cases h; exact .bl b
  | .int i, _, h => by cases h; exact .int i
  | .str x, _, h => by cases h; exact .str x
  | .list ds, _, h => by
    cases h with
    | lst hs ha => exact .lst (Same.seq s hs) (dpa_same s ds _ ha)
  | .tuple ds, _, h => by
    cases h with
    | tup hs ha => exact .tup (Same.sqt s hs) (dpa_same s ds _ ha)
  | .dict _, _, h => by cases h
theorem dpa_same {K : PySem.W.Frag} {H H' : Hp} (s : Same H H') : ∀ (ds : List PyData) (vs : List V), DpAll K H vs ds → DpAll K H' vs ds
  | [], _, h => by cases h; exact .nil
  | d :: ds, _, h => by
    cases h with
    | cons a b => exact .cons (dp_same s d _ a) (dpa_same s ds _ b)
end
theorem dpa_ints {K : PySem.W.Frag} {H : Hp} : ∀ ns : List Int, DpAll K H (ns.map V.int) (ns.map PyData.int)
  | [] => .nil
  | n :: r => .cons (.int n) (dpa_ints r)
theorem shaped_ints (ns : List Int) : SeqAt.shaped (.list (ns.map PyData.int)) = true := PySem.W.ke_shaped_ints ns
/-- one sign -/
abbrev sg (c : Nat) : Str := ⟨#[c]⟩
def Ltr (c : Nat) : Prop := 97 ≤ c ∧ c ≤ 122
abbrev Tie := Nat × Nat × Nat
/-- places' kinds, ties -/
abbrev Web := List Nat × List Tie
def TieAt (K : PySem.W.Frag) (H : Hp) (v : V) (t : Tie) : Prop := ∃ a, v = .ref a ∧ SqT K H a [.int (t.1 : Nat), .int (t.2.1 : Nat), .str (sg t.2.2)]
def WebAt (K : PySem.W.Frag) (H : Hp) (v : V) (w : Web) : Prop := ∃ a b tvs, v = .ref a ∧ SqT K H a [.str ⟨w.1.toArray⟩, .ref b] ∧ SqT K H b tvs ∧ Paired (TieAt K H) tvs w.2
def tlt (s t : Tie) : Prop := s.1 < t.1 ∨ (s.1 = t.1 ∧ s.2.1 < t.2.1)
structure WOk (w : Web) : Prop where
  few : w.1.length ≤ 40
  most : w.2.length ≤ 1600
  kinds : ∀ c ∈ w.1, Ltr c
  rise : w.2.Pairwise tlt
  ends : ∀ t ∈ w.2, t.1 < t.2.1 ∧ t.2.1 < w.1.length ∧ Ltr t.2.2
theorem Paired.imp {α β : Type} {F G : α → β → Prop} {xs : List α} {ys : List β} (p : Paired F xs ys) (h : ∀ a b, F a b → G a b) : Paired G xs ys := by
  induction p with
  | nil => exact .nil
  | cons a _ ih => exact .cons (h _ _ a) ih
theorem TieAt.same {K : PySem.W.Frag} {H H' : Hp} {v : V} {t : Tie} (x : TieAt K H v t) (s : Same H H') : TieAt K H' v t := by
  obtain ⟨a, e, q⟩ := x
  exact ⟨a, e, Same.sqt s q⟩
theorem TieAt.keep {K : PySem.W.Frag} {H H' : Hp} {v : V} {t : Tie} {h : Addr} {ys : List V} (x : TieAt K H v t) (k : Keep h H H') (e : H h = some (.lst ys)) : TieAt K H' v t := by
  obtain ⟨a, e', q⟩ := x
  exact ⟨a, e', k.sqt e q⟩
theorem WebAt.same {K : PySem.W.Frag} {H H' : Hp} {v : V} {w : Web} (x : WebAt K H v w) (s : Same H H') : WebAt K H' v w := by
  obtain ⟨a, b, tvs, e, q1, q2, q3⟩ := x
  exact ⟨a, b, tvs, e, Same.sqt s q1, Same.sqt s q2, Paired.imp q3 fun _ _ z => z.same s⟩
theorem WebAt.keep {K : PySem.W.Frag} {H H' : Hp} {v : V} {w : Web} {h : Addr} {ys : List V} (x : WebAt K H v w) (k : Keep h H H') (e : H h = some (.lst ys)) : WebAt K H' v w := by
  obtain ⟨a, b, tvs, e', q1, q2, q3⟩ := x
  exact ⟨a, b, tvs, e', k.sqt e q1, k.sqt e q2, Paired.imp q3 fun _ _ z => z.keep k e⟩
theorem TieAt.put {K : PySem.W.Frag} {H : Hp} {v : V} {t : Tie} {b : Addr} {o : HO} (x : TieAt K H v t) (n : H b = none ∨ ∃ ys, H b = some (.lst ys)) : TieAt K (upd H b o) v t := by
  obtain ⟨a, e, q⟩ := x
  exact ⟨a, e, sqt_upd n q⟩
theorem WebAt.put {K : PySem.W.Frag} {H : Hp} {v : V} {w : Web} {b : Addr} {o : HO} (x : WebAt K H v w) (n : H b = none ∨ ∃ ys, H b = some (.lst ys)) : WebAt K (upd H b o) v w := by
  obtain ⟨a, b, tvs, e', q1, q2, q3⟩ := x
  exact ⟨a, b, tvs, e', sqt_upd n q1, sqt_upd n q2, Paired.imp q3 fun _ _ z => z.put n⟩
theorem Paired.at {α β : Type} {F : α → β → Prop} : ∀ {xs : List α} {ys : List β}, Paired F xs ys → ∀ {i : Nat} {x : α}, xs[i]? = some x → ∃ y, ys[i]? = some y ∧ F x y
  | _, _, .nil, i, x, h => by cases h
  | _, _, .cons r t, 0, x, h => by
    cases h
    exact ⟨_, rfl, r⟩
  | _, _, .cons r t, i + 1, x, h => Paired.at t h
open TL in
theorem joinL_nil : ∀ ps : List (List Nat), joinL [] ps = ps.flatten
  | [] => rfl
  | [p] => by show p = [p].flatten; simp
  | p :: q :: r => by
    show p ++ ([] ++ joinL [] (q :: r)) = (p :: q :: r).flatten
    rw [joinL_nil (q :: r)]; simp
theorem str_ext {x y : Str} (h : x.cps.toList = y.cps.toList) : x = y := by
  cases x; cases y
  simpa using h
open TL in
theorem join_signs (cs : List Nat) : Txt.join (Str.ofString "") (cs.map sg) = ⟨cs.toArray⟩ := by
  rw [join_eq]
  apply str_ext
  show tl (Str.join (Str.ofString "") (cs.map sg)) = cs
  rw [tl_join, show tl (Str.ofString "") = [] from by decide +kernel, joinL_nil, List.map_map]
  induction cs with
  | nil => rfl
  | cons c r ih =>
    rw [List.map_cons, List.flatten_cons, ih]
    rfl
theorem sum_const {α : Type} (f : α → Nat) (n : Nat) : ∀ l : List α, (∀ x ∈ l, f x = n) → (l.map f).sum = l.length * n
  | [], _ => by simp
  | a :: r, h => by
    rw [List.map_cons, List.sum_cons, sum_const f n r fun x hx => h x (List.mem_cons_of_mem _ hx), h a List.mem_cons_self, List.length_cons, Nat.succ_mul]
    omega
theorem sz {n : Nat} (h : n ≤ 100000) : n ≤ sizeLine := Nat.le_trans h (by decide)
theorem szl {n : Nat} (h : n ≤ 100000) : n < sizeLine := Nat.lt_of_le_of_lt h (by decide)
end Cw

namespace Cw
open PySem PySem.Spec PyProof.Rows L2
/-! ### ties -/
def at2 (a b : Nat) (t : Tie) : Bool := (t.1 == a && t.2.1 == b) || (t.1 == b && t.2.1 == a)
def tieL (ts : List Tie) (a b : Nat) : Option Nat := (ts.find? (at2 a b)).map (·.2.2)
def beside (p : Nat) (t : Tie) : Option Nat := if t.1 = p then some t.2.1 else if t.2.1 = p then some t.1 else none
def nb (ts : List Tie) (p : Nat) : List Nat := ts.filterMap (beside p)
theorem at2_iff {a b : Nat} {t : Tie} : at2 a b t = true ↔ (t.1 = a ∧ t.2.1 = b) ∨ (t.1 = b ∧ t.2.1 = a) := by
  simp [at2]
theorem at2_swap (a b : Nat) (t : Tie) : at2 a b t = at2 b a t := by
  unfold at2; rw [Bool.or_comm]
theorem tieL_swap (ts : List Tie) (a b : Nat) : tieL ts a b = tieL ts b a := by
  unfold tieL
  rw [show at2 a b = at2 b a from funext (at2_swap a b)]
theorem tieL_isSome {ts : List Tie} {a b : Nat} : (tieL ts a b).isSome = true ↔ ∃ t ∈ ts, at2 a b t = true := by
  unfold tieL
  rw [Option.isSome_map, List.find?_isSome]
theorem tieL_none {ts : List Tie} {a b : Nat} (h : ∀ t ∈ ts, at2 a b t = false) : tieL ts a b = none := by
  unfold tieL
  rw [List.find?_eq_none.mpr (fun t ht => by rw [h t ht]; simp)]; rfl
theorem tieL_snoc (l : List Tie) (t : Tie) (a b : Nat) : tieL (l ++ [t]) a b = (tieL l a b).or (if at2 a b t = true then some t.2.2 else none) := by
  unfold tieL
  rw [List.find?_append]
  cases l.find? (at2 a b) with
  | some x => rfl
  | none =>
    show ((none : Option Tie).or ([t].find? (at2 a b))).map (·.2.2) = (none : Option Nat).or _
    rw [Option.none_or, Option.none_or]
    by_cases h : at2 a b t = true
    · rw [if_pos h, List.find?_cons_of_pos h]; rfl
    · rw [if_neg h, List.find?_cons_of_neg h]; rfl
theorem nb_snoc (l : List Tie) (t : Tie) (p : Nat) : nb (l ++ [t]) p = nb l p ++ (if t.1 = p then [t.2.1] else if t.2.1 = p then [t.1] else []) := by
  unfold nb
  rw [List.filterMap_append]
  congr 1
  by_cases h1 : t.1 = p
  · rw [if_pos h1]; simp [beside, h1]
  · by_cases h2 : t.2.1 = p
    · rw [if_neg h1, if_pos h2]; simp [beside, h1, h2]
    · rw [if_neg h1, if_neg h2]; simp [beside, h1, h2]
theorem nb_len (l : List Tie) (p : Nat) : (nb l p).length ≤ l.length := List.length_filterMap_le _ _
theorem take_snoc {α : Type} {l : List α} {i : Nat} {x : α} (h : l[i]? = some x) : l.take (i + 1) = l.take i ++ [x] := by
  rw [List.take_add_one, h]; rfl
/-- no tie stands twice -/
theorem tieL_new {ts : List Tie} (s : ts.Pairwise tlt) (e : ∀ t ∈ ts, t.1 < t.2.1) {i : Nat} {t : Tie} (h : ts[i]? = some t) : tieL (ts.take i) t.1 t.2.1 = none := by
  refine tieL_none fun u hu => ?_
  have hl : (ts.take i ++ [t]).Pairwise tlt := by rw [← take_snoc h]; exact s.sublist (List.take_sublist _ _)
  have lt := (List.pairwise_append.mp hl).2.2 u hu t List.mem_cons_self
  have e1 := e u (List.mem_of_mem_take hu)
  have e2 := e t (List.mem_of_getElem? h)
  cases q : at2 t.1 t.2.1 u with
  | false => rfl
  | true =>
    rcases at2_iff.mp q with ⟨a, b⟩ | ⟨a, b⟩
    · rcases lt with z | ⟨_, z⟩ <;> omega
    · omega
theorem sorted_ext : ∀ {l m : List Nat}, l.Pairwise (· < ·) → m.Pairwise (· < ·) → (∀ x, x ∈ l ↔ x ∈ m) → l = m
  | [], [], _, _, _ => rfl
  | [], y :: m, _, _, h => absurd ((h y).mpr List.mem_cons_self) (by simp)
  | x :: l, [], _, _, h => absurd ((h x).mp List.mem_cons_self) (by simp)
  | x :: l, y :: m, hl, hm, h => by
    obtain ⟨l1, l2⟩ := List.pairwise_cons.mp hl
    obtain ⟨m1, m2⟩ := List.pairwise_cons.mp hm
    have hx : x = y := by
      rcases List.mem_cons.mp ((h x).mp List.mem_cons_self) with z | z
      · exact z
      · rcases List.mem_cons.mp ((h y).mpr List.mem_cons_self) with z' | z'
        · exact z'.symm
        · have a := m1 x z
          have b := l1 y z'
          omega
    subst hx
    congr 1
    refine sorted_ext l2 m2 fun z => ⟨fun hz => ?_, fun hz => ?_⟩
    · rcases List.mem_cons.mp ((h z).mp (List.mem_cons_of_mem _ hz)) with q | q
      · have := l1 z hz; omega
      · exact q
    · rcases List.mem_cons.mp ((h z).mpr (List.mem_cons_of_mem _ hz)) with q | q
      · have := m1 z hz; omega
      · exact q
theorem beside_iff {p o : Nat} {t : Tie} (e : t.1 < t.2.1) : beside p t = some o ↔ at2 p o t = true := by
  rw [at2_iff]
  unfold beside
  by_cases h1 : t.1 = p
  · rw [if_pos h1]
    constructor
    · intro z; exact .inl ⟨h1, Option.some.inj z⟩
    · rintro (⟨_, z⟩ | ⟨z1, z2⟩)
      · rw [z]
      · omega
  · rw [if_neg h1]
    by_cases h2 : t.2.1 = p
    · rw [if_pos h2]
      constructor
      · intro z; exact .inr ⟨Option.some.inj z, h2⟩
      · rintro (⟨z, _⟩ | ⟨z1, z2⟩)
        · exact absurd z h1
        · rw [z1]
    · rw [if_neg h2]
      constructor
      · intro z; cases z
      · rintro (⟨z, _⟩ | ⟨_, z⟩)
        · exact absurd z h1
        · exact absurd z h2
theorem nb_rise {ts : List Tie} (s : ts.Pairwise tlt) (e : ∀ t ∈ ts, t.1 < t.2.1) (p : Nat) : (nb ts p).Pairwise (· < ·) := by
  unfold nb
  rw [List.pairwise_filterMap]
  refine List.Pairwise.imp_of_mem (fun {t u} ht hu lt a ha b hb => ?_) s
  have e1 := e t ht
  have e2 := e u hu
  rcases at2_iff.mp ((beside_iff e1).mp ha) with ⟨a1, a2⟩ | ⟨a1, a2⟩ <;> rcases at2_iff.mp ((beside_iff e2).mp hb) with ⟨b1, b2⟩ | ⟨b1, b2⟩ <;> rcases lt with z | ⟨z1, z2⟩ <;> omega
theorem nb_eq {w : Web} (W : WOk w) (p : Nat) : nb w.2 p = (List.range w.1.length).filter fun o => (tieL w.2 p o).isSome := by
  refine sorted_ext (nb_rise W.rise (fun t ht => (W.ends t ht).1) p) (List.Pairwise.filter _ List.pairwise_lt_range) fun o => ?_
  rw [List.mem_filter, tieL_isSome, List.mem_range]
  unfold nb
  rw [List.mem_filterMap]
  constructor
  · rintro ⟨t, ht, hb⟩
    have q := (beside_iff (W.ends t ht).1).mp hb
    refine ⟨?_, t, ht, q⟩
    have r := W.ends t ht
    rcases at2_iff.mp q with ⟨_, a⟩ | ⟨a, _⟩ <;> omega
  · rintro ⟨_, t, ht, q⟩
    exact ⟨t, ht, (beside_iff (W.ends t ht).1).mpr q⟩
theorem tieL_self {w : Web} (W : WOk w) (p : Nat) : tieL w.2 p p = none := by
  refine tieL_none fun t ht => ?_
  have r := W.ends t ht
  cases q : at2 p p t with
  | false => rfl
  | true => rcases at2_iff.mp q with ⟨a, b⟩ | ⟨a, b⟩ <;> omega
/-- a tie's kind, or None -/
def optV : Option Nat → V
  | some c => .str (sg c)
  | none => .non
theorem optV_non (o : Option Nat) : (!decide (optV o = .non)) = o.isSome := by cases o <;> rfl
theorem optV_scal (o : Option Nat) : scal (optV o) (optV o) = true := by cases o <;> rfl
def zs (l : List Nat) : List Int := l.map fun (o : Nat) => (o : Int)
theorem ints_map (l : List Nat) : (l.map fun o => V.int (o : Nat)) = (zs l).map V.int := by
  unfold zs; rw [List.map_map]; rfl
theorem eqv_ints (l : List Int) : PyData.eqv (.list (l.map PyData.int)) (.list (l.map PyData.int)) = true := by
  show PyData.eqvAll _ _ = true
  rw [PySem.W.ked_eqvAll, decide_eq_true rfl]
theorem dp_nats {K : PySem.W.Frag} {H : Hp} {a : Addr} {l : List Nat} (h : H a = some (.lst (l.map fun o => V.int (o : Nat)))) : Dp K H (.ref a) (.list ((zs l).map PyData.int)) := by
  rw [ints_map] at h
  exact .lst (SqL.of h) (dpa_ints _)
/-- the heap without one object -/
def del (H : Hp) (a : Addr) : Hp := fun b => if b = a then none else H b
theorem del_ne {H : Hp} {a b : Addr} (n : b ≠ a) : del H a b = H b := by unfold del; rw [if_neg n]
theorem del_at {H : Hp} {a b : Addr} {o : HO} (n : b ≠ a) (h : H b = some o) : del H a b = some o := by rw [del_ne n]; exact h
theorem del_same (H : Hp) (a : Addr) : Same (del H a) H := fun b o e => by
  by_cases n : b = a
  · unfold del at e; rw [if_pos n] at e; cases e
  · rw [del_ne n] at e; exact e
theorem Keep.del {h : Addr} {H H' : Hp} (k : Keep h H H') : Same (del H h) (del H' h) := fun b o e => by
  by_cases n : b = h
  · unfold Cw.del at e; rw [if_pos n] at e; cases e
  · rw [del_ne n] at e ⊢; exact k b o n e
theorem dpa_snoc {K : PySem.W.Frag} {H : Hp} : ∀ {vs : List V} {ds : List PyData} {v : V} {d : PyData}, DpAll K H vs ds → Dp K H v d → DpAll K H (vs ++ [v]) (ds ++ [d])
  | [], [], _, _, _, h => .cons h .nil
  | _ :: _, _ :: _, _, _, .cons a b, h => .cons a (dpa_snoc b h)
/-- what is held: pairs of equal lists of whole numbers -/
def hD (x : List Int) : PyData := .list [.list (x.map PyData.int), .list (x.map PyData.int)]
def Held (K : PySem.W.Frag) (H : Hp) (hd : Addr) (m : Nat) : Prop := ∃ (hs : List V) (xs : List (List Int)), H hd = some (.lst hs) ∧ hs.length ≤ m ∧ DpAll K (del H hd) hs (xs.map hD)
theorem Held.same {K : PySem.W.Frag} {H H' : Hp} {hd : Addr} {m : Nat} (x : Held K H hd m) (s : Same H H') : Held K H' hd m := by
  obtain ⟨hs, xs, e, l, a⟩ := x
  exact ⟨hs, xs, s _ _ e, l, dpa_same (Keep.del (Same.keep s)) _ _ a⟩
theorem Held.mono {K : PySem.W.Frag} {H : Hp} {hd : Addr} {m n : Nat} (x : Held K H hd m) (h : m ≤ n) : Held K H hd n := by
  obtain ⟨hs, xs, e, l, a⟩ := x
  exact ⟨hs, xs, e, Nat.le_trans l h, a⟩
theorem dpa_at {K : PySem.W.Frag} {H : Hp} : ∀ {vs : List V} {ds : List PyData} (i : Nat) {v : V}, DpAll K H vs ds → vs[i]? = some v → ∃ d, ds[i]? = some d ∧ Dp K H v d
  | [], _, _, _, _, h => by simp at h
  | _ :: _, _ :: _, 0, _, .cons a b, h => by
    cases h
    exact ⟨_, rfl, a⟩
  | _ :: _, _ :: _, i + 1, _, .cons a b, h => dpa_at i b (by simpa using h)
theorem rgV_nats (n : Int) : rgV 0 n = (List.range n.toNat).map fun q => V.int (q : Nat) := by
  unfold rgV
  rw [Int.sub_zero]
  congr 1
  funext i
  rw [Int.zero_add]
end Cw

/-! sets of numbers as one number, bit by bit -/
namespace Cw
open PySem PySem.Spec PyProof.Rows L2
theorem tb_zero (a : Nat) : a.testBit 0 = decide (a % 2 = 1) := by rw [Nat.testBit_eq_decide_div_mod_eq]; simp
theorem tb_lt {a i : Nat} (h : a.testBit i = true) : 2 ^ i ≤ a := by
  rcases Nat.lt_or_ge a (2 ^ i) with lt | ge
  · rw [Nat.testBit_lt_two_pow lt] at h; cases h
  · exact ge
theorem tb_ix {a i : Nat} (h : a.testBit i = true) : i < a := Nat.lt_of_lt_of_le Nat.lt_two_pow_self (tb_lt h)
/-- the numbers in the set, rising -/
def bitsL (a : Nat) : List Nat := (List.range a).filter fun i => a.testBit i
theorem mem_bits {a i : Nat} : i ∈ bitsL a ↔ a.testBit i = true := by
  unfold bitsL
  rw [List.mem_filter, List.mem_range]
  exact ⟨fun h => h.2, fun h => ⟨tb_ix h, h⟩⟩
theorem bits_rise (a : Nat) : (bitsL a).Pairwise (· < ·) := List.Pairwise.filter _ List.pairwise_lt_range
theorem bits_nodup (a : Nat) : (bitsL a).Nodup := (bits_rise a).imp fun h => Nat.ne_of_lt h
def pcN (a : Nat) : Nat := (bitsL a).length
theorem nat_ext {a b : Nat} (h : ∀ i, a.testBit i = b.testBit i) : a = b := Nat.eq_of_testBit_eq h
/-- one bit less -/
theorem tb_clear : ∀ (p a i : Nat), a.testBit p = true → (a - 2 ^ p).testBit i = (a.testBit i && !decide (i = p))
  | 0, a, i, h => by
    have h0 : a % 2 = 1 := by rw [tb_zero] at h; exact of_decide_eq_true h
    cases i with
    | zero =>
      rw [tb_zero, tb_zero]
      have : (a - 2 ^ 0) % 2 = 0 := by show (a - 1) % 2 = 0; omega
      rw [this]; simp
    | succ i =>
      rw [Nat.testBit_succ, Nat.testBit_succ]
      have : (a - 2 ^ 0) / 2 = a / 2 := by show (a - 1) / 2 = a / 2; omega
      rw [this]; simp
  | p + 1, a, i, h => by
    rw [Nat.testBit_succ] at h
    have le := tb_lt h
    have e : 2 ^ (p + 1) = 2 * 2 ^ p := by rw [Nat.pow_succ, Nat.mul_comm]
    cases i with
    | zero =>
      rw [tb_zero, tb_zero]
      have : (a - 2 ^ (p + 1)) % 2 = a % 2 := by rw [e]; omega
      rw [this]; simp
    | succ i =>
      rw [Nat.testBit_succ, Nat.testBit_succ]
      have : (a - 2 ^ (p + 1)) / 2 = a / 2 - 2 ^ p := by rw [e]; omega
      rw [this, tb_clear p (a / 2) i h]
      simp
theorem bits_clear {a p : Nat} (h : a.testBit p = true) : bitsL (a - 2 ^ p) = (bitsL a).filter fun i => !decide (i = p) := by
  refine sorted_ext (bits_rise _) ((bits_rise a).filter _) fun i => ?_
  rw [mem_bits, List.mem_filter, mem_bits, tb_clear p a i h, Bool.and_eq_true]
theorem pc_clear {a p : Nat} (h : a.testBit p = true) : pcN (a - 2 ^ p) + 1 = pcN a := by
  unfold pcN
  rw [bits_clear h]
  have e : (bitsL a).filter (fun i => !decide (i = p)) = (bitsL a).erase p := by
    rw [(bits_nodup a).erase_eq_filter]
    exact List.filter_congr fun x _ => by rw [Bool.eq_iff_iff]; simp
  have m : p ∈ bitsL a := mem_bits.mpr h
  rw [e, List.length_erase_of_mem m]
  have := List.length_pos_of_mem m
  omega
/-- and, by halves -/
theorem and_half (a b : Nat) : a &&& b = 2 * ((a / 2) &&& (b / 2)) + (if a % 2 = 1 ∧ b % 2 = 1 then 1 else 0) := by
  refine nat_ext fun i => ?_
  cases i with
  | zero =>
    rw [Nat.testBit_and, tb_zero, tb_zero, tb_zero]
    split
    · rename_i h; simp [h.1, h.2]
    · rename_i h
      have : (2 * (a / 2 &&& b / 2) + 0) % 2 = 0 := by omega
      rw [this, Bool.eq_iff_iff]
      simp only [Bool.and_eq_true, decide_eq_true_eq]
      omega
  | succ i =>
    rw [Nat.testBit_and, Nat.testBit_succ, Nat.testBit_succ, Nat.testBit_succ]
    have : (2 * (a / 2 &&& b / 2) + (if a % 2 = 1 ∧ b % 2 = 1 then 1 else 0)) / 2 = (a / 2 &&& b / 2) := by split <;> omega
    rw [this, Nat.testBit_and]
/-- the least number in the set -/
def lsb (a : Nat) : Nat := if h : a = 0 then 0 else if a % 2 = 1 then 0 else lsb (a / 2) + 1
termination_by a
decreasing_by omega
theorem lsb_odd {a : Nat} (h : a % 2 = 1) : lsb a = 0 := by unfold lsb; rw [dif_neg (by omega), if_pos h]
theorem lsb_even {a : Nat} (h0 : a ≠ 0) (h : a % 2 = 0) : lsb a = lsb (a / 2) + 1 := by
  rw [lsb, dif_neg h0, if_neg (by omega)]
theorem lsb_tb {a : Nat} (h0 : a ≠ 0) : a.testBit (lsb a) = true ∧ ∀ i, a.testBit i = true → lsb a ≤ i := by
  induction a using Nat.strongRecOn with
  | ind a ih =>
    rcases Nat.mod_two_eq_zero_or_one a with h | h
    · obtain ⟨h1, h2⟩ := ih (a / 2) (by omega) (by omega)
      rw [lsb_even h0 h]
      refine ⟨by rw [Nat.testBit_succ]; exact h1, fun i hi => ?_⟩
      cases i with
      | zero => rw [tb_zero, h] at hi; simp at hi
      | succ i =>
        rw [Nat.testBit_succ] at hi
        have := h2 i hi
        omega
    · rw [lsb_odd h]
      exact ⟨by rw [tb_zero, h]; rfl, fun i _ => Nat.zero_le _⟩
/-- the low bit goes -/
theorem and_pred {a : Nat} (h0 : a ≠ 0) : a &&& (a - 1) = a - 2 ^ lsb a := by
  induction a using Nat.strongRecOn with
  | ind a ih =>
    rcases Nat.mod_two_eq_zero_or_one a with h | h
    · have i := ih (a / 2) (by omega) (by omega)
      have le := tb_lt (lsb_tb (a := a / 2) (by omega)).1
      rw [and_half, lsb_even h0 h, if_neg (by omega), show (a - 1) / 2 = a / 2 - 1 by omega, i, Nat.pow_succ]
      omega
    · rw [and_half, lsb_odd h, if_neg (by omega), show (a - 1) / 2 = a / 2 by omega, Nat.and_self]
      omega
theorem pc_pred {a : Nat} (h0 : a ≠ 0) : pcN (a &&& (a - 1)) + 1 = pcN a := by
  rw [and_pred h0]
  exact pc_clear (lsb_tb h0).1
theorem pc_zero : pcN 0 = 0 := rfl
/-! ### the model's bits -/
theorem bAnd (a b : Nat) : Builtin.bitAnd (a : Int) (b : Int) = ((a &&& b : Nat) : Int) := by
  unfold Builtin.bitAnd
  rw [decide_eq_true (show (0 : Int) ≤ (a : Int) by omega), decide_eq_true (show (0 : Int) ≤ (b : Int) by omega)]
  rfl
theorem bOr (a b : Nat) : Builtin.bitOr (a : Int) (b : Int) = ((a ||| b : Nat) : Int) := by
  unfold Builtin.bitOr Builtin.bitAnd
  rw [decide_eq_false (show ¬ (0 : Int) ≤ Builtin.bitNot (a : Int) by unfold Builtin.bitNot; omega), decide_eq_false (show ¬ (0 : Int) ≤ Builtin.bitNot (b : Int) by unfold Builtin.bitNot; omega)]
  have e : ∀ x : Int, Builtin.bitNot (Builtin.bitNot x) = x := fun x => by unfold Builtin.bitNot; omega
  show Builtin.bitNot (Builtin.bitNot _) = _
  rw [e, e, e]
  rfl
theorem and_pow2 (a p : Nat) : a &&& 2 ^ p = if a.testBit p = true then 2 ^ p else 0 := by
  refine nat_ext fun i => ?_
  rw [Nat.testBit_and, Nat.testBit_two_pow]
  by_cases e : p = i
  · subst e
    by_cases h : a.testBit p = true
    · rw [if_pos h, h, Nat.testBit_two_pow]; simp
    · rw [if_neg h, Bool.eq_false_iff.mpr h]; simp
  · rw [decide_eq_false e, Bool.and_false]
    split
    · rw [Nat.testBit_two_pow, decide_eq_false e]
    · simp
/-- without a bit -/
theorem bClear (a p : Nat) : Builtin.bitAnd (a : Int) (Builtin.bitNot ((2 ^ p : Nat) : Int)) = (((if a.testBit p = true then a - 2 ^ p else a) : Nat) : Int) := by
  unfold Builtin.bitAnd
  have hp : (0 : Int) ≤ ((2 ^ p : Nat) : Int) := Int.natCast_nonneg _
  rw [decide_eq_true (show (0 : Int) ≤ (a : Int) by omega), decide_eq_false (show ¬ (0 : Int) ≤ Builtin.bitNot ((2 ^ p : Nat) : Int) by unfold Builtin.bitNot; omega)]
  have e : ∀ x : Int, Builtin.bitNot (Builtin.bitNot x) = x := fun x => by unfold Builtin.bitNot; omega
  show (a : Int) - (((a : Int).toNat &&& (Builtin.bitNot (Builtin.bitNot ((2 ^ p : Nat) : Int))).toNat : Nat) : Int) = _
  rw [e, Int.toNat_natCast, Int.toNat_natCast, and_pow2]
  by_cases h : a.testBit p = true
  · have := tb_lt h
    rw [if_pos h, if_pos h, Int.ofNat_sub this]
  · rw [if_neg h, if_neg h]
    simp
/-- the low bit alone -/
theorem bLow {a : Nat} (h0 : a ≠ 0) : Builtin.bitAnd (a : Int) (-(a : Int)) = ((2 ^ lsb a : Nat) : Int) := by
  unfold Builtin.bitAnd
  rw [decide_eq_true (show (0 : Int) ≤ (a : Int) by omega), decide_eq_false (show ¬ (0 : Int) ≤ -(a : Int) by omega)]
  show (a : Int) - (((a : Int).toNat &&& (Builtin.bitNot (-(a : Int))).toNat : Nat) : Int) = _
  rw [show Builtin.bitNot (-(a : Int)) = ((a - 1 : Nat) : Int) by unfold Builtin.bitNot; omega, Int.toNat_natCast, Int.toNat_natCast, and_pred h0]
  have := tb_lt (lsb_tb h0).1
  omega
theorem bits_pow (k : Nat) : Builtin.Int.intBits ((2 ^ k : Nat) : Int) = k + 1 := by
  unfold Builtin.Int.intBits
  have : ¬ (((2 ^ k : Nat) : Int) == 0) = true := fun z => by
    have z := eq_of_beq z
    have p := Nat.two_pow_pos k
    have : (2 ^ k : Nat) = 0 := by exact_mod_cast z
    omega
  rw [if_neg this, Int.natAbs_natCast, Nat.log2_two_pow]
theorem bits_lt {a i : Nat} (h : a.testBit i = true) : i < Builtin.Int.intBits (a : Int) := by
  have le := tb_lt h
  have ne : a ≠ 0 := fun z => by subst z; simp at h
  unfold Builtin.Int.intBits
  rw [if_neg (by simpa using ne), Int.natAbs_natCast]
  have := (Nat.le_log2 ne).mpr le
  omega
/-- the set's numbers, asked up to its length -/
theorem bits_range (a : Nat) : (List.range (Builtin.Int.intBits (a : Int))).filter (fun i => a.testBit i) = bitsL a := by
  refine sorted_ext (List.pairwise_lt_range.filter _) (bits_rise a) fun i => ?_
  rw [mem_bits, List.mem_filter, List.mem_range]
  exact ⟨fun h => h.2, fun h => ⟨bits_lt h, h⟩⟩
theorem bOdd (a n : Nat) : decide (Builtin.bitAnd ((a : Int) / 2 ^ n) 1 ≠ 0) = a.testBit n := by
  have e : ((a : Int) / 2 ^ n) = ((a / 2 ^ n : Nat) : Int) := by
    rw [Int.natCast_ediv]; norm_cast
  rw [e, show (1 : Int) = ((1 : Nat) : Int) from rfl, bAnd, Nat.and_one_is_mod, Nat.testBit_eq_decide_div_mod_eq, Bool.eq_iff_iff]
  simp only [decide_eq_true_eq]
  omega
/-! ### sets of lists -/
def maskN (ms : List Nat) : Nat := ms.foldl (fun a k => a ||| 2 ^ k) 0
theorem mask_snoc (ms : List Nat) (k : Nat) : maskN (ms ++ [k]) = maskN ms ||| 2 ^ k := by unfold maskN; rw [List.foldl_append]; rfl
theorem tb_mask : ∀ (ms : List Nat) (i : Nat), (maskN ms).testBit i = decide (i ∈ ms) := by
  have go : ∀ (ms : List Nat) (a i : Nat), (ms.foldl (fun a k => a ||| 2 ^ k) a).testBit i = (a.testBit i || decide (i ∈ ms)) := fun ms => by
    induction ms with
    | nil => intro a i; simp
    | cons k r ih =>
      intro a i
      rw [List.foldl_cons, ih, Nat.testBit_or, Nat.testBit_two_pow, Bool.or_assoc]
      congr 1
      rw [Bool.eq_iff_iff]
      simp only [Bool.or_eq_true, decide_eq_true_eq, List.mem_cons]
      constructor
      · rintro (h | h)
        · exact .inl h.symm
        · exact .inr h
      · rintro (h | h)
        · exact .inl h.symm
        · exact .inr h
  intro ms i
  unfold maskN
  rw [go]
  simp
theorem mask_lt {ms : List Nat} {n : Nat} (h : ∀ k ∈ ms, k < n) : maskN ms < 2 ^ n := by
  refine Nat.lt_pow_two_of_testBit _ fun i hi => ?_
  rw [tb_mask]
  exact decide_eq_false fun z => by have := h i z; omega
theorem mask_zero {ms : List Nat} : maskN ms = 0 ↔ ms = [] := by
  constructor
  · intro h
    cases ms with
    | nil => rfl
    | cons k r =>
      have := tb_mask (k :: r) k
      rw [h] at this
      simp at this
  · intro h; rw [h]; rfl
end Cw

namespace Cw
open PySem PySem.Spec PyProof.Rows L2 Srt

/-! ### triples (whole number, whole number, one sign), by all three -/
abbrev Tri := Int × Int × Nat
def lexT (p q : Tri) : Bool := if p.1 = q.1 then (if p.2.1 = q.2.1 then decide (p.2.2 < q.2.2) else decide (p.2.1 < q.2.1)) else decide (p.1 < q.1)
theorem lexT_iff {p q : Tri} : lexT p q = true ↔ p.1 < q.1 ∨ (p.1 = q.1 ∧ (p.2.1 < q.2.1 ∨ (p.2.1 = q.2.1 ∧ p.2.2 < q.2.2))) := by
  unfold lexT
  by_cases e : p.1 = q.1
  · rw [if_pos e]
    by_cases e2 : p.2.1 = q.2.1
    · rw [if_pos e2, decide_eq_true_eq]; omega
    · rw [if_neg e2, decide_eq_true_eq]; omega
  · rw [if_neg e, decide_eq_true_eq]; omega
theorem lexT_no {p q : Tri} : lexT p q = false ↔ ¬ (p.1 < q.1 ∨ (p.1 = q.1 ∧ (p.2.1 < q.2.1 ∨ (p.2.1 = q.2.1 ∧ p.2.2 < q.2.2)))) := by
  rw [← lexT_iff]
  cases lexT p q <;> simp
theorem swo_T {α : Type} (k : α → Tri) : SrtO.Swo fun v u => lexT (k v) (k u) := by
  refine ⟨fun x y h => ?_, fun x y z h1 h2 => ?_⟩
  · have a := lexT_iff.mp h
    exact lexT_no.mpr (by omega)
  · have a := lexT_no.mp h1
    have b := lexT_no.mp h2
    exact lexT_no.mpr (by omega)
def IsTri (h : Heap) (v : Value) (p : Tri) : Prop := ∃ a o t u t3 n, v = .ref a ∧ h.get? a = some o ∧ o.cls = .type "tuple" ∧ o.data = .seq #[.int p.1 t, .int p.2.1 u, .str (sg p.2.2) t3] n
theorem IsTri.keeps {h h' : Heap} {v : Value} {p : Tri} (x : IsTri h v p) (k : ∀ b o, h.get? b = some o → o.cls = .type "tuple" → h'.get? b = some o) : IsTri h' v p := by
  obtain ⟨a, o, t, u, t3, n, e, ho, hc, hd⟩ := x
  exact ⟨a, o, t, u, t3, n, e, k _ _ ho hc, hc, hd⟩
theorem sg_lt (c d : Nat) : decide ((sg c).cps.toList < (sg d).cps.toList) = decide (c < d) := by
  rw [Bool.eq_iff_iff, decide_eq_true_eq, decide_eq_true_eq]
  show ([c] : List Nat) < [d] ↔ c < d
  rw [List.cons_lt_cons_iff]
  constructor
  · rintro (h | ⟨_, h⟩)
    · exact h
    · exact absurd h (List.not_lt_nil _)
  · intro h; exact .inl h
theorem sg_inj {c d : Nat} : sg c = sg d ↔ c = d := by
  constructor
  · intro h
    have e : (sg c).cps.toList = (sg d).cps.toList := by rw [h]
    simpa using e
  · rintro rfl; rfl
section
variable {prog : Program} {w : World} {A : Around} {E : Value → Shared → Prop} {s : Shared}
theorem tri_cmp {vs : List Value} {k : Value → Tri} (hp : ∀ v ∈ vs, IsTri s.heap v (k v)) : SrtO.Cmp prog w A s (tuples' true) (fun p => p.1 ∈ vs) (SrtO.lt2 fun v u => lexT (k v) (k u)) := by
  intro p q hm hm'
  have h1 := hp _ hm
  have h2 := hp _ hm'
  show wpAny (model prog w) A (keyLt' (tuples' true) p.1 q.1) (fun r s' => s' = s ∧ r = lexT (k p.1) (k q.1)) (fun _ _ => False) s
  generalize k p.1 = P at h1 ⊢
  generalize k q.1 = R at h2 ⊢
  obtain ⟨x, y, c⟩ := P
  obtain ⟨x', y', c'⟩ := R
  obtain ⟨a, o, t, u, t3, n, e, ho, hc, hd⟩ := h1
  obtain ⟨a', o', t', u', t3', n', e', ho', hc', hd'⟩ := h2
  dsimp only at hd hd'
  rw [e, e']
  refine PySem.W.kat_lt ho hd ho' hd' ?_
  show PySem.W.KatLex prog w A true (decide (3 < 3)) _ [(.int x t, .int x' t'), (.int y u, .int y' u'), (.str (sg c) t3, .str (sg c') t3')] 0 s
  refine PySem.W.kat_cons (SeqAt.EqAt.int_int x t x' t' prog w _ _ (PySem.W.kat_go (fun e1 => ?_) (fun e1 => ?_)))
  · have ex : x = x' := by simpa using e1
    subst ex
    refine PySem.W.kat_yes (PySem.W.kat_cons (SeqAt.EqAt.int_int y u y' u' prog w _ _ (PySem.W.kat_go (fun e2 => ?_) (fun e2 => ?_))))
    · have ey : y = y' := by simpa using e2
      subst ey
      refine PySem.W.kat_yes (PySem.W.kat_cons (wpAny_eqBool_str (PySem.W.kat_go (fun e3 => ?_) (fun e3 => ?_))))
      · have ec : c = c' := sg_inj.mp (by simpa using e3)
        subst ec
        exact PySem.W.kat_yes (PySem.W.kat_nil ⟨rfl, (lexT_no.mpr (by show ¬ (x < x ∨ (x = x ∧ (y < y ∨ (y = y ∧ c < c)))); omega)).symm⟩)
      · refine PySem.W.kat_no (PySem.W.kat_one _ _ (PyProof.Rows.lt_str ?_))
        refine (show s = s ∧ decide ((sg c).cps.toList < (sg c').cps.toList) = lexT (x, y, c) (x, y, c') from ⟨rfl, ?_⟩)
        rw [sg_lt]
        unfold lexT
        rw [if_pos rfl, if_pos rfl]
    · have ey : ¬ y = y' := by simpa using e2
      refine PySem.W.kat_no (PySem.W.kat_one _ _ (PyProof.Rows.lt_int ?_))
      refine (show s = s ∧ decide (y < y') = lexT (x, y, c) (x, y', c') from ⟨rfl, ?_⟩)
      unfold lexT
      rw [if_pos rfl, if_neg ey]
  · have ex : ¬ x = x' := by simpa using e1
    refine PySem.W.kat_no (oneLt_int ⟨rfl, ?_⟩)
    unfold lexT
    rw [if_neg ex]
theorem tri_firsts {h : Heap} : ∀ {vs : List Value}, (∀ v ∈ vs, ∃ p, IsTri h v p) → ∃ fs : List Value, PySem.W.KatTups h vs fs ∧ fs.length = vs.length ∧ ∀ f ∈ fs, ∃ x t, f = Value.int x t
  | [], _ => ⟨[], PySem.W.KatTups.nil, rfl, fun _ hm => by simp at hm⟩
  | v :: vs, hp => by
    obtain ⟨fs, h1, h2, h3⟩ := tri_firsts (vs := vs) fun v' hm => hp v' (List.mem_cons_of_mem _ hm)
    obtain ⟨p, a, o, t, u, t3, n, e, ho, hc, hd⟩ := hp v List.mem_cons_self
    subst e
    refine ⟨.int p.1 t :: fs, PySem.W.KatTups.cons ho hc hd rfl h1, by rw [List.length_cons, List.length_cons, h2], fun f hm => ?_⟩
    rcases List.mem_cons.mp hm with rfl | hm
    · exact ⟨_, t, rfl⟩
    · exact h3 f hm
theorem tri_sortable {a : Addr} {vs : List Value} {k : Value → Tri} (h0 : 0 < vs.length) (hp : ∀ v ∈ vs, IsTri s.heap v (k v)) (ha : ∀ o, s.heap.get? a = some o → o.cls ≠ .type "tuple") : SrtO.SortableO prog w A s a vs fun v u => lexT (k v) (k u) := by
  intro h' keep
  have hp' : ∀ v ∈ vs, IsTri h' v (k v) := fun v hm => (hp v hm).keeps fun b o e c => keep b o (fun z => by subst z; exact ha o e c) e
  obtain ⟨fs, h1, h2, h3⟩ := tri_firsts fun v hm => ⟨_, hp' v hm⟩
  refine ⟨tuples' true, fun Q E hq => PySem.W.kat_kind (T := .type "int") h1 (by omega) (fun f hm => ?_) (by rfl) ?_, tri_cmp hp'⟩
  · obtain ⟨x, t, rfl⟩ := h3 f hm
    exact PySem.W.Looks.now
  · rw [show (Value.type "int" != Value.type "tuple") = true by decide +kernel]; exact hq
theorem sorted_tris {l : Addr} {vs : List Value} {k : Value → Tri} {Q : Value → Shared → Prop} (hl : s.heap.IsList l vs.toArray) (hz : vs.length ≤ sizeLine) (hp : ∀ v ∈ vs, IsTri s.heap v (k v))
    (h : ∀ (h' : Heap) (d : Addr) (out : List Value), SrtO.Srtd (fun v u => lexT (k v) (k u)) out → out.Perm vs → (∀ b o, s.heap.get? b = some o → h'.get? b = some o) → s.heap.objs.size ≤ d → (∃ n, h'.get? d = some (seqObj "list" out.toArray n)) → Q (.ref d) { s with heap := h' }) :
    wpAny (model prog w) A (call (.builtin "sorted") [.ref l]) Q E s := by
  refine SrtO.sorted_ord (swo_T k) hl hz (fun h2 h₁ a ha kk => tri_sortable (s := { s with heap := h₁ }) (by omega) (fun v hm => (hp v hm).keeps fun b o e _ => (kk b o e).2) fun o e c => ?_) fun out hs hb => ?_
  · have e' : some o = some (seqObj "list" vs.toArray 0) := e.symm.trans ha
    cases e'
    exact absurd (Value.type.inj c) (by decide)
  · exact h _ _ out hs hb.perm (fun b o e => sortedAll_old e) (Nat.le_succ _) (sortedAll_at s.heap vs out.toArray)
end
def triV (p : Tri) : List V := [.int p.1, .int p.2.1, .str (sg p.2.2)]
/-- sorted(ties): the same tuples, by their three -/
def rSorted3 (K : PySem.W.Frag) : List V → Hp → VK → Prop := fun vs H Q => ∃ (a : Addr) (es : List (Addr × Tri)), vs = [V.ref a] ∧ SqL K H a (es.map fun e => V.ref e.1) ∧ (∀ e ∈ es, H e.1 = some (.tup (triV e.2))) ∧
  ∀ (es' : List (Addr × Tri)) p, es'.Perm es → (es'.map (·.2)).Pairwise (fun x y => lexT y x = false) → H p = none → Q (.ref p) (upd H p (.lst (es'.map fun e => V.ref e.1)))
section
variable {X : Cx}
theorem cr_sorted3 : CallR X (.builtin "sorted") (rSorted3 X.K) := by
  intro pins s σ H vs us Q I r h
  obtain ⟨a, es, rfl, hs, hx, q⟩ := h
  obtain ⟨its, rv, hl, hz⟩ := I.list hs
  obtain ⟨u, rfl, ru⟩ := vals1 r
  obtain rfl : u = Value.ref a := ru
  -- the items, by their addresses
  have eits : its = es.map fun e => Value.ref e.1 := by
    have : ∀ {xs : List (Addr × Tri)} {us : List Value}, Vals (xs.map fun e => V.ref e.1) us → us = xs.map fun e => Value.ref e.1 := by
      intro xs
      induction xs with
      | nil => intro us r; cases r; rfl
      | cons x xs ih =>
        intro us r
        cases r with
        | cons r1 r2 => rw [ih r2, (show _ = Value.ref x.1 from r1)]; rfl
    exact this rv
  -- the key, read off the heap
  let kA : Addr → Tri := fun b => match H b with
    | some (.tup [.int x, .int y, .str z]) => (x, y, (z.cps.toList.headD 0))
    | _ => (0, 0, 0)
  have kA_eq : ∀ e ∈ es, kA e.1 = e.2 := fun e he => by
    show (match H e.1 with
      | some (.tup [.int x, .int y, .str z]) => (x, y, (z.cps.toList.headD 0))
      | _ => (0, 0, 0)) = e.2
    rw [hx e he]; rfl
  let kV' : Value → Tri := fun v => match v with
    | .ref b => kA b
    | _ => (0, 0, 0)
  refine sorted_tris (k := kV') hl.isList (by rw [← rv.length]; exact hz) (fun v hv => ?_) fun h' d out h1 h2 kp hd hn => ?_
  · rw [eits] at hv
    obtain ⟨e, he, rfl⟩ := List.mem_map.mp hv
    obtain ⟨_, its2, r2, o, ho, hc, n, hd⟩ := I.hok _ _ (hx e he)
    have ek : kV' (Value.ref e.1) = e.2 := kA_eq e he
    rw [ek]
    cases r2 with
    | cons ra rr =>
      cases rr with
      | cons rb rr =>
        cases rr with
        | cons rc rr =>
          cases rr
          obtain ⟨t1, rfl⟩ := ra
          obtain ⟨t2, rfl⟩ := rb
          obtain ⟨t3, rfl⟩ := rc
          exact ⟨e.1, o, t1, t2, t3, n, rfl, ho, hc, hd⟩
  · obtain ⟨n, hn⟩ := hn
    rw [eits] at h2
    have hmem : ∀ v ∈ out, ∃ e ∈ es, v = Value.ref e.1 := fun v hv => by
      obtain ⟨e, he, e'⟩ := List.mem_map.mp (h2.mem_iff.mp hv)
      exact ⟨e, he, e'.symm⟩
    -- back to pairs
    let back : Value → Addr × Tri := fun v => match v with
      | .ref b => (b, kA b)
      | _ => (0, (0, 0, 0))
    have p1 : (out.map back).Perm es := by
      have z := h2.map back
      rw [List.map_map] at z
      have e2 : es.map (back ∘ fun e => Value.ref e.1) = es := by
        conv => rhs; rw [← List.map_id es]
        refine List.map_congr_left fun e he => ?_
        show (e.1, kA e.1) = e
        rw [kA_eq e he]
      rw [e2] at z
      exact z
    have e3 : (out.map back).map (fun e => V.ref e.1) = out.map backV := by
      rw [List.map_map]
      refine List.map_congr_left fun v hv => ?_
      obtain ⟨e, he, rfl⟩ := hmem v hv
      rfl
    have srt : ((out.map back).map (·.2)).Pairwise (fun x y => lexT y x = false) := by
      rw [List.map_map, List.pairwise_map]
      refine h1.imp_of_mem fun {x y} hx' hy' hxy => ?_
      obtain ⟨e, he, rfl⟩ := hmem x hx'
      obtain ⟨e', he', rfl⟩ := hmem y hy'
      exact hxy
    have g := q (out.map back) d p1 srt (I.hok.fresh hd)
    rw [e3] at g
    have hzo : (out.map backV).length ≤ sizeLine := by
      rw [List.length_map, h2.length_eq, List.length_map]
      rw [List.length_map] at hz
      exact hz
    have hvb : Vals (out.map backV) out := vals_back fun u hu => by
      obtain ⟨e, he, rfl⟩ := hmem u hu
      exact ⟨_, rfl⟩
    exact ⟨.ref d, upd H d (.lst (out.map backV)), I.laid (t' := s.toks) kp hd (show ObjOk X.prog X.w _ _ _ (.lst (out.map backV)) from ⟨hzo, out, n, hvb, hn⟩), rfl, g⟩

/-- sorted(d), the keys pairs of whole numbers -/
def rSortedD : List V → Hp → VK → Prop := fun vs H Q => ∃ (d : Addr) (kvs : List (List Key × V)), vs = [V.ref d] ∧ H d = some (.dT kvs) ∧ (∀ p ∈ kvs, ∃ i j : Int, p.1 = [.inl i, .inl j]) ∧
  ∀ (es : List (Addr × Int × Int)) p, (es.map fun e => ([.inl e.2.1, .inl e.2.2] : List Key)).Perm (kvs.map (·.1)) → (∀ e ∈ es, H e.1 = some (.tup [.int e.2.1, .int e.2.2])) → (es.map (·.2)).Pairwise (fun x y => SrtO.lexB y x = false) → H p = none → Q (.ref p) (upd H p (.lst (es.map fun e => V.ref e.1)))
theorem cr_sortedD (hc : X.calm = true) : CallR X (.builtin "sorted") rSortedD := by
  intro pins s σ H vs us Q I r h
  obtain ⟨d, kvs, rfl, hd, hk, q⟩ := h
  obtain ⟨u, rfl, ru⟩ := vals1 r
  obtain rfl : u = Value.ref d := ru
  obtain ⟨z, lo, ks, pr, o, es0, ep, ho, hx, hdt, he, hn⟩ := (show ObjOk X.prog X.w H s.heap d (.dT kvs) from I.hok d _ hd)
  have l1 : es0.size = ks.length := size_of_entries he
  have l2 : kvs.length = ks.length := Paired.length pr
  refine Calls.call_function_entry PyProof.Rows.kind_sorted PyProof.Rows.plain_sorted PyProof.Rows.entry_sorted (PyProof.Rows.args_sorted1 _) ?_; unfold Builtin.«sorted»
  refine wpAny_bind (m := checkCount "sorted" 1 1 _) (wpAny_pure (wpAny_bind (PySem.W.kdu_collect (A := X.A.in1) (kdl_raw lo hx hdt) (I.ok.hd hc) ho (by omega) fun h' tk acc hk' hacc => ?_)))
  -- the collected keys
  have ea : acc.toList = ks.map fun x => Value.ref x.2.1 := by
    have hl : acc.toList.length = ks.length := by rw [Array.length_toList, hacc.1]; exact l1
    refine List.ext_getElem? fun j => ?_
    rw [List.getElem?_map]
    cases hj : acc.toList[j]? with
    | none => rw [List.getElem?_eq_none (by have := List.getElem?_eq_none_iff.mp hj; omega)]; rfl
    | some v =>
      obtain ⟨en, hen, hv⟩ := hacc.2 j v (by rw [← Array.getElem?_toList]; exact hj)
      have qe := entry_at he j
      rw [hen] at qe
      cases hb : ks[j]? with
      | none => rw [hb] at qe; cases qe
      | some b =>
        rw [hb] at qe
        have e2 : en = entryOfKey (tupleKind (mixKind X.prog X.w)) b := Option.some.inj qe
        rw [hv, e2]; rfl
  have pk : ∀ x ∈ ks, ∃ i j : Int, x.1 = [.inl i, .inl j] ∧ H x.2.1 = some (.tup [.int i, .int j]) := by
    have go : ∀ {kvs : List (List Key × V)} {ks : List (List Key × Addr × Value)}, Paired (fun (p : List Key × V) (q : List Key × Addr × Value) => p.1 = q.1 ∧ H q.2.1 = some (.tup (p.1.map kV)) ∧ RelV p.2 q.2.2) kvs ks → (∀ p ∈ kvs, ∃ i j : Int, p.1 = [.inl i, .inl j]) → ∀ x ∈ ks, ∃ i j : Int, x.1 = [.inl i, .inl j] ∧ H x.2.1 = some (.tup [.int i, .int j]) := by
      intro kvs ks pr
      induction pr with
      | nil => intro _ x hx; simp at hx
      | cons a _ ih =>
        intro hk x hx
        rcases List.mem_cons.mp hx with rfl | hx
        · obtain ⟨i, j, e⟩ := hk _ List.mem_cons_self
          refine ⟨i, j, a.1.symm.trans e, ?_⟩
          have := a.2.1
          rw [e] at this
          exact this
        · exact ih (fun p hp => hk p (List.mem_cons_of_mem _ hp)) x hx
    exact go pr hk
  have ek : ks.map (·.1) = kvs.map (·.1) := by
    have go : ∀ {kvs : List (List Key × V)} {ks : List (List Key × Addr × Value)}, Paired (fun (p : List Key × V) (q : List Key × Addr × Value) => p.1 = q.1 ∧ H q.2.1 = some (.tup (p.1.map kV)) ∧ RelV p.2 q.2.2) kvs ks → ks.map (·.1) = kvs.map (·.1) := by
      intro kvs ks pr
      induction pr with
      | nil => rfl
      | cons a _ ih => rw [List.map_cons, List.map_cons, ih, a.1]
    exact go pr
  let kA : Addr → Int × Int := fun b => match H b with
    | some (.tup [.int x, .int y]) => (x, y)
    | _ => (0, 0)
  have kA_eq : ∀ {b : Addr} {i j : Int}, H b = some (.tup [.int i, .int j]) → kA b = (i, j) := fun {b i j} e => by
    show (match H b with
      | some (.tup [.int x, .int y]) => (x, y)
      | _ => (0, 0)) = (i, j)
    rw [e]
  let kW : Value → Int × Int := fun v => match v with
    | .ref b => kA b
    | _ => (0, 0)
  have I1 : Inv X pins σ H { s with heap := h', toks := tk } := I.kept hk'
  have hal : acc.toList.length ≤ sizeLine := by rw [ea, List.length_map]; omega
  refine wpAny_bind (wpAny_newList ?_ hal)
  have hoL : (h'.push (seqObj "list" acc.toList.toArray 0)).get? h'.objs.size = some (seqObj "list" acc.toList.toArray 0) := Heap.get?_push_size _ rfl
  have hpair : ∀ v ∈ acc.toList, Srt.IsPair (h'.push (seqObj "list" acc.toList.toArray 0)) v (kW v).1 (kW v).2 := fun v hv => by
    rw [ea] at hv
    obtain ⟨x, hx', rfl⟩ := List.mem_map.mp hv
    obtain ⟨i, j, _, e⟩ := pk x hx'
    obtain ⟨_, its2, r2, o', ho', hc', n', hd'⟩ := I1.hok _ _ e
    have e2 : kW (Value.ref x.2.1) = (i, j) := kA_eq e
    rw [e2]
    obtain ⟨u1, u2, rfl, ⟨t1, rfl⟩, ⟨t2, rfl⟩⟩ := vals2 r2
    exact ⟨x.2.1, o', t1, t2, n', rfl, Heap.get?_push_of_some _ ho', hc', hd'⟩
  show wpAny _ _ _ _ _ { s with heap := h'.push (seqObj "list" acc.toList.toArray 0), toks := tk }
  refine wpAny_bind (wpAny_holding (wpAny_call_entry PyProof.Rows.slot_list_sort ⟨_, hoL, rfl⟩ PyProof.Rows.entry_list_sort
    (SrtO.list_sort_ord (s := { s with heap := h'.push (seqObj "list" acc.toList.toArray 0), toks := tk }) (SrtO.swo_lex kW) hoL hal (fun h2 => SrtO.pairs_sortableO (by omega) hpair fun o e c => ?_) fun out hs hb => ⟨_, rfl, ?_⟩) (PyProof.Rows.args_list_sort _)))
  · have e' : some o = some (seqObj "list" acc.toList.toArray 0) := e.symm.trans hoL
    cases e'
    exact absurd (Value.type.inj c) (by decide)
  obtain ⟨n, hn2⟩ := PyProof.Rows.sortedHeap_at (vs := acc.toList) (out := out.toArray) hoL
  have h2 := hb.perm
  rw [ea] at h2
  have hmem : ∀ v ∈ out, ∃ x ∈ ks, v = Value.ref x.2.1 := fun v hv => by
    obtain ⟨x, hx', e'⟩ := List.mem_map.mp (h2.mem_iff.mp hv)
    exact ⟨x, hx', e'.symm⟩
  let back : Value → Addr × Int × Int := fun v => match v with
    | .ref b => (b, kA b)
    | _ => (0, (0, 0))
  have g := q (out.map back) h'.objs.size (by
      have z := h2.map fun v => ([.inl (back v).2.1, .inl (back v).2.2] : List Key)
      rw [List.map_map] at z
      have e2 : ks.map ((fun v => ([.inl (back v).2.1, .inl (back v).2.2] : List Key)) ∘ fun x => Value.ref x.2.1) = ks.map (·.1) := by
        refine List.map_congr_left fun x hx' => ?_
        obtain ⟨i, j, e3, e4⟩ := pk x hx'
        show ([.inl (kA x.2.1).1, .inl (kA x.2.1).2] : List Key) = x.1
        rw [kA_eq e4, e3]
      rw [e2, ek] at z
      rw [List.map_map]
      exact z) (fun e he' => by
      obtain ⟨v, hv, rfl⟩ := List.mem_map.mp he'
      obtain ⟨x, hx', rfl⟩ := hmem v hv
      obtain ⟨i, j, e3, e4⟩ := pk x hx'
      show H x.2.1 = some (.tup [.int (kA x.2.1).1, .int (kA x.2.1).2])
      rw [kA_eq e4, e4]) (by
      rw [List.map_map, List.pairwise_map]
      refine hs.imp_of_mem fun {x y} hx' hy' hxy => ?_
      obtain ⟨e1, _, rfl⟩ := hmem x hx'
      obtain ⟨e2, _, rfl⟩ := hmem y hy'
      exact hxy) (I1.hok.fresh (Nat.le_refl _))
  have e3 : (out.map back).map (fun e => V.ref e.1) = out.map backV := by
    rw [List.map_map]
    refine List.map_congr_left fun v hv => ?_
    obtain ⟨e, he', rfl⟩ := hmem v hv
    rfl
  rw [e3] at g
  have hzo : (out.map backV).length ≤ sizeLine := by
    rw [List.length_map, h2.length_eq, List.length_map]; omega
  have hvb : Vals (out.map backV) out := vals_back fun u hu => by
    obtain ⟨e, _, rfl⟩ := hmem u hu
    exact ⟨_, rfl⟩
  refine wpAny_pure ⟨_, rfl, .ref h'.objs.size, upd H h'.objs.size (.lst (out.map backV)), I1.laid (t' := tk) (fun b u e => ?_) (Nat.le_refl _) (show ObjOk X.prog X.w _ _ _ (.lst (out.map backV)) from ⟨hzo, out, n, hvb, hn2⟩), rfl, g⟩
  have hb' : b < h'.objs.size := Heap.lt_size e
  rw [PyProof.Rows.sortedHeap_old (Nat.ne_of_lt hb') (by rw [size_push']; exact Nat.lt_succ_of_lt hb')]; exact Heap.get?_push_of_some _ e

/-- d.pop(k), k a tuple that is there -/
def rPop1 : V → List V → Hp → VK → Prop := fun x xs H Q => ∃ (a : Addr) (kvs : List (List Key × V)) (k : List Key) (b : Addr) (v : V), x = .ref a ∧ xs = [.ref b] ∧ H a = some (.dT kvs) ∧ H b = some (.tup (k.map kV)) ∧ valV kvs k = some v ∧ Q v (upd H a (.dT (dropK kvs k)))
end
section
variable {prog : Program} {w : World} {K : Type} [DecidableEq K] {knd : HeapKind prog w K}
theorem meets_pop1 {d b : Addr} {k : K} (hd : (d == sysModules) = false) :
    MeetsIn prog w (Builtin.«dict.pop» ⟨[.ref d, .ref b], []⟩) (fun A R s => ∃ xs p0, knd.room A.in1 ∧ knd.is s.heap k b ∧ s.heap.DictOfH knd d xs ∧ xs.length ≤ sizeLine ∧ atKey xs k = some p0 ∧
      ∀ p, atKey xs k = some p → ∀ h' tk, h'.DictOfH knd d (DT.dropH xs k) → Heap.SameBut d s.heap h' → R (.ok (.ret p.2)) { s with heap := h', toks := tk }) :=
  .of_wp fun A R s ⟨xs, p0, hu, hkey, hm, hsz, hp0, hsome⟩ => by
    obtain ⟨o, es, ep, ho, hc, hdat, he, his, hn⟩ := id hm
    have hes : es.size = xs.length := size_of_entries he
    have hne : xs ≠ [] := fun z => by rw [z] at hp0; cases hp0
    have hem : es.isEmpty = false := by
      cases q : es.isEmpty with
      | false => rfl
      | true =>
        have z : es.size = 0 := by simpa using q
        exact absurd (List.length_eq_zero_iff.mp (by omega)) hne
    unfold Builtin.«dict.pop»
    refine wpAny_bind ?_; unfold Builtin.Dict.keyAndDefault
    refine wpAny_bind (wpAny_notOrdered_dict hm.typeIs ?_)
    show wpAny _ _ (pure (d, Value.ref b, (none : Option Value))) _ _ s
    refine wpAny_pure ?_
    simp only [show (keyPart (Value.ref b)).isSome = false from rfl, Bool.false_eq_true, if_false]
    refine wpAny_bind (wpAny_dictEntries ho hdat (wpAny_bind (wpAny_pure ?_)))
    simp only [hem, Bool.false_eq_true, if_false]
    refine wpAny_bind (DT.takeH hu hkey hm hsz (fun hno => ?_) fun p e hp hev h' hm' hs' => ?_)
    · rw [hno] at hp0; cases hp0
    · simp only [Option.isNone_some, Bool.false_eq_true, if_false]
      exact wpAny_bind (wpAny_letGo (wpAny_pure ⟨e.val, rfl, by rw [hev]; exact hsome p hp h' _ hm' hs'⟩))
end
section
variable {X : Cx}
theorem mt_pop1T (hu : X.A.units + 1 < cLine) : MtR X "dict.pop" rPop1 := by
  intro pins s σ H x xs v us Q I rx rxs h
  obtain ⟨a, kvs, k, b, v0, rfl, rfl, ha, hb, hv0, q⟩ := h
  cases rx
  obtain ⟨u1, rfl, r1⟩ := vals1 rxs
  cases r1
  obtain ⟨z, hd, xs', rel, dd⟩ := dt_of I.hok ha
  have hz : xs'.length ≤ sizeLine := by rw [← Paired.length rel]; exact z
  have r := rel.val k
  rw [hv0] at r
  obtain ⟨p0, hp0, rv⟩ : ∃ p0, atKey xs' k = some p0 ∧ RelV v0 p0.2 := by
    cases ev : atKey xs' k with
    | none => rw [ev] at r; exact (show False from r).elim
    | some p0 => rw [ev] at r; exact ⟨p0, rfl, r⟩
  refine call_meetsIn PySem.F.slot_dict_pop dd.typeIs PySem.F.entry_dict_pop (PySem.F.args_dict_pop_2 _ _) (meets_pop1 (knd := tupleKind (mixKind X.prog X.w)) (k := k) hd) ⟨xs', p0, tupleKind_room_in1 hu, key_of I.hok hb, dd, hz, hp0, fun p hp h' tk dd' hs => ?_⟩
  rw [hp0] at hp
  cases hp
  obtain ⟨o, es, ep, hq, h2, h3, h4, _, h5⟩ := dd'
  have I2 : Inv X pins σ (upd H a (.dT (dropK kvs k))) { s with heap := h', toks := tk } :=
    d_write I (by rw [ha]; exact True.intro) hs ⟨o, hq⟩ ⟨Nat.le_trans (dropK_le kvs k) z, hd, _, (L2.DX.KT_drop k rel).keeps (fun c ys ec => (by rw [upd_ne (ne_of ec ha (fun z => nomatch z))]; exact ec)), o, es, ep, hq, h2, h3, h4, h5⟩
  show EP X pins σ Q p0.2 _
  exact ⟨v0, _, I2, rv, q⟩
end
/-- a text's signs with their places -/
def Itse (x : Str) : It := ⟨fun i _ => i < x.cps.size, fun i H v H' => ∃ T c, v = .ref T ∧ H T = none ∧ H' = upd H T (.tup [.int (i : Nat), .str ⟨#[c]⟩]) ∧ x.cps[i]? = some c, fun i _ => x.cps.size ≤ i⟩
theorem turn_enumS {P : Program} {w : World} {K : PySem.W.Frag} {elts : List Expr} {kk : Nat} {tpos : Pos} (e it : Addr) (x : Str) (t : Tok) (ty : String) (hty : ty = "str_ascii_iterator" ∨ ty = "str_iterator") :
    Turn P w K (.Tuple elts kk tpos) (Itse x) [e, it] e (fun i h => (∃ old, IsEnum h e it i old) ∧ h.IsStrIter it ty x t i ∧ e ≠ it ∧ i ≤ x.cps.size) where
  mem := by simp
  obj := fun i h st b hb => by
    obtain ⟨⟨old, he⟩, ⟨o, ho, hc, hd⟩, _⟩ := st
    have e' : b = e ∨ b = it := by simpa using hb
    rcases e' with z | z
    · rw [z]; exact ⟨_, he, fun v q => nomatch q⟩
    · rw [z]; exact ⟨o, ho, fun v q => by rw [hd] at q; cases q⟩
  keep := fun i h h' st k => by
    obtain ⟨⟨old, he⟩, ⟨o, ho, r⟩, hne⟩ := st
    exact ⟨⟨old, k e (by simp) _ he⟩, ⟨o, k it (by simp) o ho, r⟩, hne⟩
  item := by
    intro X hP hw hK hc i pins s σ H E I hf st hg
    subst hP hw hK
    obtain ⟨⟨old, he⟩, hit, hne, hi⟩ := st
    have hg' : i < x.cps.size := hg
    have hel : e < s.heap.objs.size := Heap.lt_size he
    have hil : it < s.heap.objs.size := by obtain ⟨_, q, _⟩ := hit; exact Heap.lt_size q
    have D : Draws X.prog X.w X.A.in1 it [it] x.cps.size (fun i v => ∃ c u, x.cps[i]? = some c ∧ v = .str ⟨#[c]⟩ u) (fun i h => h.IsStrIter it ty x t i) := by
      rcases hty with z | z
      · rw [z]; exact Draws.strAscii (A := X.A.in1) (I.ok.hd hc) it x t
      · rw [z]; exact Draws.strWide (A := X.A.in1) (I.ok.hd hc) it x t
    refine wpAny_pyNext_enum_itemD D he hit hg hne (by simpa using hne) fun v h' tk hv ho hit' hT hsz hk => ?_
    obtain ⟨c, u, hcx, rfl⟩ := hv
    refine ⟨_, rfl, wpAny_letOwnedTupleGo_enum (s := { s with heap := h', toks := tk + 1 }) ho fun h'' he' sb => ?_⟩
    have hT2 : h''.get? s.heap.objs.size = some { cls := .type "tuple", data := .seq #[.int i tk, .str ⟨#[c]⟩ u] } := (sb.2 _ (Nat.ne_of_gt hel)).trans hT
    have new : ObjOk X.prog X.w (upd H s.heap.objs.size (.tup [.int (i : Nat), .str ⟨#[c]⟩])) h'' s.heap.objs.size (.tup [.int (i : Nat), .str ⟨#[c]⟩]) :=
      ⟨(by show 2 ≤ sizeLine; decide), [.int i tk, .str ⟨#[c]⟩ u], .cons ⟨_, rfl⟩ (.cons ⟨u, rfl⟩ .nil), ⟨_, hT2, rfl, _, rfl⟩⟩
    have I1 : Inv X pins σ (upd H s.heap.objs.size (.tup [.int (i : Nat), .str ⟨#[c]⟩])) { s with heap := h'', toks := tk + 1 } :=
      I.turnedNew (ch := [e, it]) (fun b ob hb q => (sb.2 b (fun z => hb (by simp [z]))).trans (hk b ob (fun z => hb (by simp [z])) (fun z => hb (by simp [z])) q)) hf (Nat.le_refl _) new
    refine ⟨.ref s.heap.objs.size, _, I1, rfl, ⟨_, c, rfl, I.hok.fresh (Nat.le_refl _), rfl, hcx⟩, ⟨⟨.str ⟨#[c]⟩ u, ?_⟩, (by obtain ⟨o, a, b⟩ := hit'; exact ⟨o, (sb.2 it (Ne.symm hne)).trans a, b⟩), hne, hg'⟩, fun b hb => ?_⟩
    · rw [show ((i + 1 : Nat) : Int) = (i : Int) + 1 by omega]; exact he'
    · have hb' : b < s.heap.objs.size := by
        have z : b = e ∨ b = it := by simpa using hb
        rcases z with z | z
        · rw [z]; exact hel
        · rw [z]; exact hil
      rw [upd_ne (Nat.ne_of_lt hb')]; exact (hf b hb).1
  done := by
    intro X hP hw hK hc i pins s σ H E I hf st hg
    subst hP hw hK
    obtain ⟨⟨old, he⟩, hit, hne, hi⟩ := st
    have hg' : x.cps.size ≤ i := hg
    obtain rfl : i = x.cps.size := by omega
    have D : Draws X.prog X.w X.A.in1 it [it] x.cps.size (fun i v => ∃ c u, x.cps[i]? = some c ∧ v = .str ⟨#[c]⟩ u) (fun i h => h.IsStrIter it ty x t i) := by
      rcases hty with z | z
      · rw [z]; exact Draws.strAscii (A := X.A.in1) (I.ok.hd hc) it x t
      · rw [z]; exact Draws.strWide (A := X.A.in1) (I.ok.hd hc) it x t
    obtain ⟨f0, f1, f2, f3, f4, f5⟩ := hf it (by simp)
    exact wpAny_pyNext_enum_endD D he hit fun h' eb => ⟨rfl, I.turned (t' := s.toks) (fun b o hb q => eb b o hb q) f0 f1 f3 f4 f5⟩
  self := fun A i s Q E st h => by
    obtain ⟨⟨old, he⟩, _, _⟩ := st
    exact wpAny_pyIter_enum he h
def iEnumS (ta : TA) : TI := fun σ H R => ta σ H fun vs H1 => ∃ x, vs = [.str x] ∧ R (Itse x) H1
theorem strIter_ty (x : Str) : strIterType x = "str_ascii_iterator" ∨ strIterType x = "str_iterator" := by
  unfold strIterType
  cases x.cps.all (· < 128)
  · exact .inr rfl
  · exact .inl rfl
theorem pi_enumS {X : Cx} {e : Expr} {ta : TA} {p pos tpos : Pos} {elts : List Expr} {kk : Nat} (hg : Gl X "enumerate") (hm : X.mg "enumerate" = none) (ha : PA X [e] ta) (hs : starEach [e] X.env = [(false, eval e X.env)] := by rfl) :
    PI X (.Tuple elts kk tpos) (.Call (.Name "enumerate" p) [e] [] pos) (iEnumS ta) := by
  refine ⟨fun pins s σ H R I h => Call_ (ld_blt I hg hm boot_enumerate (PyProof.Rows.callWith_type1 (thn (ha.run pos pins s σ H _ I h) fun us s1 ⟨vs, H1, I1, r1, q1⟩ => ?_) hs rfl))⟩
  obtain ⟨x, ex, q⟩ := q1
  subst ex
  cases r1 with
  | cons r rr =>
    cases rr
    obtain ⟨t, rfl⟩ := r
    refine call_enumerate_str fun h' he hit hsz hk => wpAny_pyIter_enum he ?_
    have I2 : Inv X pins σ H1 { s1 with heap := h' } := I1.kept (t' := s1.toks) hk
    refine ⟨s1.heap.objs.size + 1, [s1.heap.objs.size + 1, s1.heap.objs.size], _, _, H1, rfl, I2, turn_enumS (s1.heap.objs.size + 1) s1.heap.objs.size x t (strIterType x) (strIter_ty x), ⟨⟨.none, he⟩, hit, Nat.succ_ne_self _, Nat.zero_le _⟩, fun b hb => ?_, q⟩
    have hle : s1.heap.objs.size ≤ b := by
      have z : b = s1.heap.objs.size + 1 ∨ b = s1.heap.objs.size := by simpa using hb
      rcases z with z | z
      · rw [z]; exact Nat.le_add_right _ _
      · rw [z]; exact Nat.le_refl _
    exact I1.fpOk hle (I1.hok.fresh hle)
theorem walk_enumS {z : Str} : Walk (Itse z) z.cps.size (fun _ => True) (YPair (fun i => some (.int (i : Nat))) (fun i => z.cps[i]?.map fun c => V.str ⟨#[c]⟩)) := by
  refine ⟨fun _ _ hi _ => hi, fun _ _ => Nat.le_refl _, fun i H v H' _ _ y => ?_⟩
  obtain ⟨T, c, h1, h2, h3, h4⟩ := y
  exact ⟨T, .int (i : Nat), .str ⟨#[c]⟩, h1, h2, h3, rfl, by show (z.cps[i]?).map _ = _; rw [h4]; rfl⟩
theorem d_iEnS {ta : TA} {σ : L2.St} {H : Hp} {R : It → Hp → Prop} (h : ta σ H fun vs H1 => ∃ x, vs = [.str x] ∧ R (Itse x) H1) : iEnumS ta σ H R := h
theorem d_iEnSe {C : Str → Prop} {z : Str} (q : C z) : ∃ x, [V.str z] = [.str x] ∧ C x := ⟨z, rfl, q⟩
theorem d_iEn {K : PySem.W.Frag} {ta : TA} {σ : L2.St} {H : Hp} {R : It → Hp → Prop} (h : ta σ H fun vs H1 => ∃ a xs, vs = [.ref a] ∧ SqL K H1 a xs ∧ R (Ite K a) H1) : iEnum K ta σ H R := h
end Cw

namespace Cw
open PySem PySem.Spec PyProof.Rows L2
theorem erase_map {α β : Type} (f : α → β) : ∀ (l : List α) (m : Nat), (l.map f).eraseIdx m = (l.eraseIdx m).map f
  | [], m => by simp
  | _ :: _, 0 => rfl
  | x :: l, m + 1 => by
    show f x :: (l.map f).eraseIdx m = f x :: (l.eraseIdx m).map f
    rw [erase_map f l m]
theorem erase_perm {α : Type} : ∀ (l : List α) (m : Nat) (h : m < l.length), (l[m] :: l.eraseIdx m).Perm l
  | [], m, h => absurd h (Nat.not_lt_zero _)
  | x :: l, 0, _ => List.Perm.refl _
  | x :: l, m + 1, h => by
    have hm : m < l.length := Nat.lt_of_succ_lt_succ h
    have ih := erase_perm l m hm
    exact (List.Perm.swap x l[m] _).trans (ih.cons x)
/-- as many different numbers below n as there are, at most -/
theorem nodup_len : ∀ (n : Nat) (l : List Nat), l.Nodup → (∀ x ∈ l, x < n) → l.length ≤ n
  | 0, l, _, h => by
    cases l with
    | nil => exact Nat.le_refl _
    | cons x r => exact absurd (h x List.mem_cons_self) (Nat.not_lt_zero _)
  | n + 1, l, hn, h => by
    by_cases hm : n ∈ l
    · have ih := nodup_len n (l.erase n) (hn.erase n) fun x hx => by
        have h1 := h x (List.mem_of_mem_erase hx)
        have h2 : x ≠ n := fun z => by
          subst z
          exact absurd hx (List.Nodup.not_mem_erase hn)
        omega
      rw [List.length_erase_of_mem hm] at ih
      omega
    · have ih := nodup_len n l hn fun x hx => by
        have h1 := h x hx
        have h2 : x ≠ n := fun z => hm (z ▸ hx)
        omega
      omega
/-! ### places called otherwise -/
def qa (qs : List Nat) (p : Nat) : Nat := qs.getD p 0
def mapTie (qs : List Nat) (t : Tie) : Tie := (min (qa qs t.1) (qa qs t.2.1), max (qa qs t.1) (qa qs t.2.1), t.2.2)
theorem qa_at {qs : List Nat} {p : Nat} (h : p < qs.length) : qs[p]? = some (qa qs p) := by
  unfold qa
  rw [List.getD_eq_getElem?_getD, List.getElem?_eq_getElem h]; rfl
structure Ord (qs : List Nat) (n : Nat) : Prop where
  len : qs.length = n
  nd : qs.Nodup
  lt : ∀ q ∈ qs, q < n
  all : ∀ j, j < n → j ∈ qs
theorem Ord.of {qs : List Nat} {n : Nat} (p : qs.Perm (List.range n)) : Ord qs n :=
  ⟨by rw [p.length_eq, List.length_range], p.nodup_iff.mpr List.nodup_range, fun q hq => List.mem_range.mp (p.mem_iff.mp hq), fun j hj => p.mem_iff.mpr (List.mem_range.mpr hj)⟩
theorem Ord.inj {qs : List Nat} {n p r : Nat} (o : Ord qs n) (hp : p < n) (hr : r < n) (h : qa qs p = qa qs r) : p = r := by
  have h1 : p < qs.length := by rw [o.len]; exact hp
  have h2 : r < qs.length := by rw [o.len]; exact hr
  have e1 := qa_at h1
  have e2 := qa_at h2
  rw [List.getElem?_eq_getElem h1] at e1
  rw [List.getElem?_eq_getElem h2] at e2
  exact (List.getElem_inj o.nd).mp ((Option.some.inj e1).trans (h.trans (Option.some.inj e2).symm))
theorem Ord.lt' {qs : List Nat} {n p : Nat} (o : Ord qs n) (hp : p < n) : qa qs p < n := o.lt _ (List.mem_of_getElem? (qa_at (by rw [o.len]; exact hp)))
theorem Ord.onto {qs : List Nat} {n j : Nat} (o : Ord qs n) (hj : j < n) : ∃ p, p < n ∧ qa qs p = j := by
  obtain ⟨p, hp⟩ := List.mem_iff_getElem?.mp (o.all j hj)
  have h1 : p < qs.length := (List.getElem?_eq_some_iff.mp hp).1
  rw [qa_at h1] at hp
  exact ⟨p, by rw [← o.len]; exact h1, Option.some.inj hp⟩
def ends (t : Tie) : Nat × Nat := (t.1, t.2.1)
structure Named (w : Web) (qs : List Nat) (w' : Web) : Prop where
  len : w'.1.length = w.1.length
  kinds : ∀ p, p < w.1.length → w'.1[qa qs p]? = w.1[p]?
  ties : w'.2.Perm (w.2.map (mapTie qs))
theorem mapTie_ends {w : Web} {qs : List Nat} (W : WOk w) (o : Ord qs w.1.length) : (w.2.map (mapTie qs)).Pairwise (fun x y => ends x ≠ ends y) := by
  rw [List.pairwise_map]
  refine List.Pairwise.imp_of_mem (fun {t u} ht hu lt e => ?_) W.rise
  have r1 := W.ends t ht
  have r2 := W.ends u hu
  unfold ends mapTie at e
  simp only [Prod.mk.injEq] at e
  obtain ⟨e1, e2⟩ := e
  by_cases c : qa qs t.1 = qa qs u.1
  · have a := o.inj (by omega) (by omega) c
    have c2 : qa qs t.2.1 = qa qs u.2.1 := by omega
    have b := o.inj (by omega) (by omega) c2
    rcases lt with z | ⟨_, z⟩ <;> omega
  · have c1 : qa qs t.1 = qa qs u.2.1 := by omega
    have c2 : qa qs t.2.1 = qa qs u.1 := by omega
    have a := o.inj (by omega) (by omega) c1
    have b := o.inj (by omega) (by omega) c2
    omega
/-- sorted ties of different ends rise -/
theorem rise_of {ts : List Tie} (s : ts.Pairwise (fun x y => lexT ((y.1 : Int), (y.2.1 : Int), y.2.2) ((x.1 : Int), (x.2.1 : Int), x.2.2) = false)) (d : ts.Pairwise (fun x y => ends x ≠ ends y)) : ts.Pairwise tlt := by
  refine (s.and d).imp fun {x y} h => ?_
  obtain ⟨h1, h2⟩ := h
  have a := lexT_no.mp h1
  unfold ends at h2
  simp only [ne_eq, Prod.mk.injEq, not_and] at h2
  dsimp only at a
  unfold tlt
  by_cases c : x.1 = y.1
  · have := h2 c
    right
    omega
  · left
    omega
theorem named_ok {w w' : Web} {qs : List Nat} (W : WOk w) (o : Ord qs w.1.length) (N : Named w qs w') (s : w'.2.Pairwise (fun x y => lexT ((y.1 : Int), (y.2.1 : Int), y.2.2) ((x.1 : Int), (x.2.1 : Int), x.2.2) = false)) : WOk w' := by
  refine ⟨by rw [N.len]; exact W.few, by rw [N.ties.length_eq, List.length_map]; exact W.most, fun c hc => ?_, rise_of s ?_, fun t ht => ?_⟩
  · obtain ⟨j, hj⟩ := List.mem_iff_getElem?.mp hc
    have hj' : j < w.1.length := by rw [← N.len]; exact (List.getElem?_eq_some_iff.mp hj).1
    obtain ⟨p, hp, rfl⟩ := o.onto hj'
    rw [N.kinds p hp] at hj
    exact W.kinds c (List.mem_of_getElem? hj)
  · exact (List.Perm.pairwise_iff (fun {x y} h => h.symm) N.ties).mpr (mapTie_ends W o)
  · obtain ⟨u, hu, rfl⟩ := List.mem_map.mp (N.ties.mem_iff.mp ht)
    have r := W.ends u hu
    have a := o.lt' (p := u.1) (by omega)
    have b := o.lt' (p := u.2.1) (by omega)
    have n : qa qs u.1 ≠ qa qs u.2.1 := fun z => by
      have := o.inj (by omega) (by omega) z
      omega
    refine ⟨?_, ?_, r.2.2⟩
    · show min _ _ < max _ _; omega
    · show max _ _ < w'.1.length; rw [N.len]; omega
theorem flat_rep (n : Nat) (x : V) : (List.replicate n [x]).flatten = List.replicate n x := by
  induction n with
  | zero => rfl
  | succ n ih => rw [List.replicate_succ, List.flatten_cons, ih, List.replicate_succ]; rfl
end Cw

namespace Cw
open PySem PySem.Spec PyProof.Rows L2
/-! ### a dict of ties by their ends -/
def kE (a b : Int) : List Key := [.inl a, .inl b]
structure DictOk (n : Nat) (kvs : List (List Key × V)) : Prop where
  nd : (kvs.map (·.1)).Nodup
  ok : ∀ p ∈ kvs, ∃ a b c : Nat, p = (kE a b, V.str (sg c)) ∧ a < b ∧ b < n ∧ Ltr c
theorem DictOk.nil (n : Nat) : DictOk n [] := ⟨List.nodup_nil, fun p hp => by simp at hp⟩
theorem valV_mem {kvs : List (List Key × V)} {k : List Key} {v : V} (h : valV kvs k = some v) : (k, v) ∈ kvs := by
  unfold valV at h
  obtain ⟨p, hp, rfl⟩ := Option.map_eq_some_iff.mp h
  have h1 := List.find?_some hp
  have h2 := List.mem_of_find?_eq_some hp
  have e : p.1 = k := of_decide_eq_true h1
  subst e
  exact h2
theorem DictOk.at {n : Nat} {kvs : List (List Key × V)} (d : DictOk n kvs) {k : List Key} {v : V} (h : valV kvs k = some v) : ∃ a b c : Nat, k = kE a b ∧ v = V.str (sg c) ∧ a < b ∧ b < n ∧ Ltr c := by
  obtain ⟨a, b, c, e, r⟩ := d.ok _ (valV_mem h)
  cases e
  exact ⟨a, b, c, rfl, rfl, r⟩
theorem DictOk.put {n : Nat} {kvs : List (List Key × V)} (d : DictOk n kvs) {a b c : Nat} (h1 : a < b) (h2 : b < n) (h3 : Ltr c) : DictOk n (putK kvs (kE a b) (.str (sg c))) := by
  unfold putK
  by_cases h : (kvs.any fun kv => decide (kv.1 = kE a b)) = true
  · rw [if_pos h]
    refine ⟨?_, fun p hp => ?_⟩
    · rw [List.map_map]
      have e : kvs.map ((·.1) ∘ fun kv => if kv.1 = kE a b then (kv.1, V.str (sg c)) else kv) = kvs.map (·.1) := by
        refine List.map_congr_left fun x _ => ?_
        show (if x.1 = kE a b then (x.1, V.str (sg c)) else x).1 = x.1
        split <;> rfl
      rw [e]
      exact d.nd
    · obtain ⟨x, hx, rfl⟩ := List.mem_map.mp hp
      by_cases e : x.1 = kE a b
      · rw [if_pos e, e]
        exact ⟨a, b, c, rfl, h1, h2, h3⟩
      · rw [if_neg e]
        exact d.ok x hx
  · rw [if_neg h]
    have hno : kE a b ∉ kvs.map (·.1) := fun hm => by
      obtain ⟨x, hx, e⟩ := List.mem_map.mp hm
      exact h (List.any_eq_true.mpr ⟨x, hx, decide_eq_true e⟩)
    refine ⟨?_, fun p hp => ?_⟩
    · rw [List.map_append]
      exact List.nodup_append.mpr ⟨d.nd, by simp, fun x hx y hy => by rw [List.mem_singleton.mp hy]; intro z; exact hno (by rw [← (show x = kE a b from z)]; exact hx)⟩
    · rcases List.mem_append.mp hp with hp | hp
      · exact d.ok p hp
      · rw [List.mem_singleton.mp hp]
        exact ⟨a, b, c, rfl, h1, h2, h3⟩
theorem DictOk.drop {n : Nat} {kvs : List (List Key × V)} (d : DictOk n kvs) (k : List Key) : DictOk n (dropK kvs k) :=
  ⟨d.nd.sublist ((List.filter_sublist).map _), fun p hp => d.ok p (List.mem_filter.mp hp).1⟩
theorem valV_drop {kvs : List (List Key × V)} {k j : List Key} (h : j ≠ k) : valV (dropK kvs k) j = valV kvs j := by
  unfold valV dropK
  congr 1
  induction kvs with
  | nil => rfl
  | cons x kvs ih =>
    by_cases e : x.1 = k
    · have e2 : ¬ x.1 = j := fun z => h (z.symm.trans e)
      rw [List.filter_cons_of_neg (by simp [e]), List.find?_cons_of_neg (by simp [e2])]
      exact ih
    · rw [List.filter_cons_of_pos (by simp [e])]
      by_cases e2 : x.1 = j
      · rw [List.find?_cons_of_pos (by simp [e2]), List.find?_cons_of_pos (by simp [e2])]
      · rw [List.find?_cons_of_neg (by simp [e2]), List.find?_cons_of_neg (by simp [e2])]
        exact ih
theorem DictOk.has {n : Nat} {kvs : List (List Key × V)} {k : List Key} (d : DictOk n kvs) (h : k ∈ kvs.map (·.1)) : ∃ v, valV kvs k = some v := by
  obtain ⟨x, hx, rfl⟩ := List.mem_map.mp h
  cases e : valV kvs x.1 with
  | some v => exact ⟨v, rfl⟩
  | none => exact absurd (List.mem_map.mpr ⟨x, hx, rfl⟩) (valV_not e)
theorem DictOk.len {n : Nat} {kvs : List (List Key × V)} (d : DictOk n kvs) (hn : n ≤ 40) : kvs.length ≤ 1600 := by
  let code : List Key × V → Nat := fun p => match p.1 with
    | [.inl a, .inl b] => a.toNat * 40 + b.toNat
    | _ => 0
  have hc : ∀ p ∈ kvs, ∃ a b : Nat, p.1 = kE a b ∧ code p = a * 40 + b ∧ a < 40 ∧ b < 40 := fun p hp => by
    obtain ⟨a, b, c, rfl, h1, h2, _⟩ := d.ok p hp
    exact ⟨a, b, rfl, rfl, by omega, by omega⟩
  have l := nodup_len 1600 (kvs.map code) (by
    have z := d.nd
    unfold List.Nodup at z ⊢
    rw [List.pairwise_map] at z ⊢
    refine List.Pairwise.imp_of_mem (fun {x y} hx hy hne e => ?_) z
    obtain ⟨a, b, e1, e2, b1, b2⟩ := hc x hx
    obtain ⟨a', b', e1', e2', b1', b2'⟩ := hc y hy
    rw [e2, e2'] at e
    have : a = a' ∧ b = b' := by omega
    rw [e1, e1', this.1, this.2] at hne
    exact hne rfl) (fun x hx => by
    obtain ⟨p, hp, rfl⟩ := List.mem_map.mp hx
    obtain ⟨a, b, _, e2, b1, b2⟩ := hc p hp
    rw [e2]; omega)
  rw [List.length_map] at l
  exact l
theorem DictOk.pairs {n : Nat} {kvs : List (List Key × V)} (d : DictOk n kvs) : ∀ p ∈ kvs, ∃ i j : Int, p.1 = [.inl i, .inl j] := fun p hp => by
  obtain ⟨a, b, c, rfl, _⟩ := d.ok p hp
  exact ⟨a, b, rfl⟩
/-- the web's other, in the making -/
def OI (h d : Addr) (H3 : Hp) (N : Nat) (kvs : List (List Key × V)) (H' : Hp) : Prop := H' d = some (.dT kvs) ∧ Keep h H3 H' ∧ Hand H' h ∧ DictOk N kvs
section
variable {h d p : Addr} {H3 H' H'' : Hp} {N : Nat} {kvs : List (List Key × V)} {o : HO}
theorem OI.new (x : OI h d H3 N kvs H') (f : H' p = none) : OI h d H3 N kvs (upd H' p o) := by
  obtain ⟨e, k, hh, dk⟩ := x
  exact ⟨at_upd e f, Keep.new k (Keep.free k (hh.ne f) f), hh.put (hh.ne f), dk⟩
theorem OI.draw (x : OI h d H3 N kvs H') (k' : Keep h H' H'') (hh' : Hand H'' h) : OI h d H3 N kvs H'' := by
  obtain ⟨e, k, hh, dk⟩ := x
  obtain ⟨_, _, eh, _⟩ := hh
  exact ⟨k' d _ (ne_of e eh (by intro z; cases z)) e, Keep.trans k k', hh', dk⟩
theorem OI.same (x : OI h d H3 N kvs H') (s : Same H' H'') : OI h d H3 N kvs H'' := x.draw (Same.keep s) (x.2.2.1.same s)
theorem OI.set (x : OI h d H3 N kvs H') (f : H3 d = none) {kvs' : List (List Key × V)} (dk' : DictOk N kvs') : OI h d H3 N kvs' (upd H' d (.dT kvs')) := by
  obtain ⟨e, k, hh, dk⟩ := x
  obtain ⟨_, _, eh, _⟩ := id hh
  exact ⟨upd_same, Keep.new k f, hh.put (ne_of e eh (by intro z; cases z)), dk'⟩
end
theorem putK_keys {kvs : List (List Key × V)} {k j : List Key} {v : V} (h : j ∈ kvs.map (·.1)) : j ∈ (putK kvs k v).map (·.1) := by
  obtain ⟨x, hx, rfl⟩ := List.mem_map.mp h
  unfold putK
  split
  · refine List.mem_map.mpr ⟨_, List.mem_map.mpr ⟨x, hx, rfl⟩, ?_⟩
    split <;> rfl
  · exact List.mem_map.mpr ⟨x, List.mem_append_left _ hx, rfl⟩
theorem dropK_keys {kvs : List (List Key × V)} {k j : List Key} (h : j ∈ kvs.map (·.1)) (n : j ≠ k) : j ∈ (dropK kvs k).map (·.1) := by
  obtain ⟨x, hx, rfl⟩ := List.mem_map.mp h
  exact List.mem_map.mpr ⟨x, List.mem_filter.mpr ⟨hx, decide_eq_true n⟩, rfl⟩
/-- the web's other, its keys being gone through -/
def OL (h d : Addr) (H3 : Hp) (N : Nat) (p : Addr) (es : List (Addr × Int × Int)) (i : Nat) (kvs : List (List Key × V)) (H' : Hp) : Prop :=
  OI h d H3 N kvs H' ∧ H' p = some (.lst (es.map fun e => V.ref e.1)) ∧ p ≠ h ∧ (∀ e ∈ es, H' e.1 = some (.tup [.int e.2.1, .int e.2.2])) ∧ (∀ j e, i ≤ j → es[j]? = some e → kE e.2.1 e.2.2 ∈ kvs.map (·.1)) ∧ (es.map fun e => kE e.2.1 e.2.2).Nodup
section
variable {h d p b : Addr} {H3 H' H'' : Hp} {N i : Nat} {kvs : List (List Key × V)} {o : HO} {es : List (Addr × Int × Int)}
theorem OL.start (x : OI h d H3 N kvs H') (f : H' p = none) (pm : (es.map fun e => kE e.2.1 e.2.2).Perm (kvs.map (·.1))) (he : ∀ e ∈ es, H' e.1 = some (.tup [.int e.2.1, .int e.2.2])) : OL h d H3 N p es 0 kvs (upd H' p (.lst (es.map fun e => V.ref e.1))) :=
  ⟨x.new f, upd_same, x.2.2.1.ne f, fun e h => at_upd (he e h) f, fun j e _ h => pm.mem_iff.mp (List.mem_map.mpr ⟨e, List.mem_of_getElem? h, rfl⟩), pm.nodup_iff.mpr x.2.2.2.nd⟩
theorem OL.next (x : OL h d H3 N p es i kvs H') : OL h d H3 N p es (i + 1) kvs H' := ⟨x.1, x.2.1, x.2.2.1, x.2.2.2.1, fun j e hj => x.2.2.2.2.1 j e (by omega), x.2.2.2.2.2⟩
theorem OL.new (x : OL h d H3 N p es i kvs H') (f : H' b = none) : OL h d H3 N p es i kvs (upd H' b o) := ⟨x.1.new f, at_upd x.2.1 f, x.2.2.1, fun e h => at_upd (x.2.2.2.1 e h) f, x.2.2.2.2⟩
theorem OL.list (x : OL h d H3 N p es i kvs H') {ys ys' : List V} (e : H' b = some (.lst ys)) (np : b ≠ p) (nh : b ≠ h) (f : H3 b = none) : OL h d H3 N p es i kvs (upd H' b (.lst ys')) := by
  obtain ⟨⟨ed, k, hh, dk⟩, ep, n, he, r⟩ := x
  exact ⟨⟨by rw [upd_ne (ne_of ed e (by intro z; cases z))]; exact ed, Keep.new k f, hh.put nh, dk⟩, by rw [upd_ne np.symm]; exact ep, n, fun t h => by rw [upd_ne (ne_of (he t h) e (by intro z; cases z))]; exact he t h, r⟩
theorem OL.draw (x : OL h d H3 N p es i kvs H') (k' : Keep h H' H'') (hh' : Hand H'' h) : OL h d H3 N p es i kvs H'' := by
  obtain ⟨O, ep, np, he, r⟩ := x
  obtain ⟨_, _, eh, _⟩ := id O.2.2.1
  exact ⟨O.draw k' hh', k' p _ np ep, np, fun e h => k' _ _ (ne_of (he e h) eh (by intro z; cases z)) (he e h), r⟩
theorem OL.set (x : OL h d H3 N p es i kvs H') (f : H3 d = none) {c c2 t : Nat} (h1 : c < c2) (h2 : c2 < N) (h3 : Ltr t) : OL h d H3 N p es i (putK kvs (kE c c2) (.str (sg t))) (upd H' d (.dT (putK kvs (kE c c2) (.str (sg t))))) := by
  obtain ⟨O, ep, np, he, hk, nd⟩ := x
  exact ⟨O.set f (O.2.2.2.put h1 h2 h3), by rw [upd_ne (ne_of ep O.1 (by intro z; cases z))]; exact ep, np, fun e h => by rw [upd_ne (ne_of (he e h) O.1 (by intro z; cases z))]; exact he e h, fun j e hj h => putK_keys (hk j e hj h), nd⟩
theorem OL.pop (x : OL h d H3 N p es i kvs H') (f : H3 d = none) {e : Addr × Int × Int} (h0 : es[i]? = some e) : OL h d H3 N p es (i + 1) (dropK kvs (kE e.2.1 e.2.2)) (upd H' d (.dT (dropK kvs (kE e.2.1 e.2.2)))) := by
  obtain ⟨O, ep, np, he, hk, nd⟩ := x
  refine ⟨O.set f (O.2.2.2.drop _), by rw [upd_ne (ne_of ep O.1 (by intro z; cases z))]; exact ep, np, fun e h => by rw [upd_ne (ne_of (he e h) O.1 (by intro z; cases z))]; exact he e h, fun j e' hj h => dropK_keys (hk j e' (by omega) h) fun z => ?_, nd⟩
  have li : i < es.length := (List.getElem?_eq_some_iff.mp h0).1
  have lj : j < es.length := (List.getElem?_eq_some_iff.mp h).1
  have e1 := (List.getElem?_eq_some_iff.mp h0).2
  have e2 := (List.getElem?_eq_some_iff.mp h).2
  have ne := List.pairwise_iff_getElem.mp nd i j (by rw [List.length_map]; exact li) (by rw [List.length_map]; exact lj) (by omega)
  simp only [List.getElem_map, e1, e2] at ne
  exact ne z.symm
end
theorem valV_mem' {kvs : List (List Key × V)} {n : Nat} (d : DictOk n kvs) {k : List Key} (h : k ∈ kvs.map (·.1)) : ∃ a b c : Nat, k = kE a b ∧ valV kvs k = some (V.str (sg c)) ∧ a < b ∧ b < n ∧ Ltr c := by
  obtain ⟨v, e⟩ := d.has h
  obtain ⟨a, b, c, e1, rfl, r⟩ := d.at e
  exact ⟨a, b, c, e1, e, r⟩
theorem kE_inj {a b c d : Int} (h : kE a b = kE c d) : a = c ∧ b = d := by
  unfold kE at h
  injection h with h1 h2
  injection h1 with h1
  injection h2 with h2
  injection h2 with h2
  exact ⟨h1, h2⟩
theorem rise_keys {es : List (Addr × Int × Int)} {ts : List Tie} (e : ts.map (fun t => ((t.1 : Int), (t.2.1 : Int))) = es.map (·.2)) (nd : (es.map fun e => kE e.2.1 e.2.2).Nodup)
    (s : (es.map (·.2)).Pairwise (fun x y => SrtO.lexB y x = false)) : ts.Pairwise tlt := by
  rw [← e, List.pairwise_map] at s
  have e2 : (es.map fun e => kE e.2.1 e.2.2) = ts.map fun t => kE t.1 t.2.1 := by
    have z := congrArg (List.map fun q : Int × Int => kE q.1 q.2) e
    rw [List.map_map, List.map_map] at z
    exact z.symm
  rw [e2] at nd
  have nd' := List.pairwise_map.mp nd
  refine (List.Pairwise.and s nd').imp fun {x y} ⟨h1, h2⟩ => ?_
  have h3 : ¬ ((y.1 : Int) < x.1 ∨ ((y.1 : Int) = x.1 ∧ (y.2.1 : Int) < x.2.1)) := fun z => by
    rw [← SrtO.lexB_iff (p := ((y.1 : Int), (y.2.1 : Int))) (q := ((x.1 : Int), (x.2.1 : Int)))] at z
    rw [z] at h1; cases h1
  have h4 : ¬ (x.1 = y.1 ∧ x.2.1 = y.2.1) := fun z => h2 (by rw [z.1, z.2])
  unfold tlt
  omega
/-- names that lead each place of the one to a like place of the other -/
structure NamesOk (w w' : Web) (ns : List Nat) : Prop where
  len : ns.length = w.1.length
  nd : ns.Nodup
  like : ∀ p q : Nat, ns[p]? = some q → q < w'.1.length ∧ w'.1[q]? = w.1[p]?
theorem cut_take (xs : List V) (n : Nat) (h : n ≤ xs.length) : cutV xs none (some (n : Nat)) = xs.take n := by
  unfold cutV
  have e : HT.sIx xs.length xs.length (some ((n : Nat) : Int)) = min n xs.length := HT.sIx_nat xs.length xs.length n
  rw [HT.sIx_none, e, List.drop_zero, Nat.sub_zero, Nat.min_eq_left h]
end Cw

namespace Cw
open PySem PySem.Spec PyProof.Rows L2
/-! ### leads -/
abbrev Lead := List (Nat × Nat)
structure LOk (w w' : Web) (ld : Lead) : Prop where
  rise : ld.Pairwise (fun x y => x.1 < y.1)
  ends : (ld.map (·.2)).Nodup
  like : ∀ p ∈ ld, p.1 < w.1.length ∧ p.2 < w'.1.length ∧ w'.1[p.2]? = w.1[p.1]?
def PairAt (K : PySem.W.Frag) (H : Hp) (v : V) (p : Nat × Nat) : Prop := ∃ a, v = .ref a ∧ SqT K H a [.int (p.1 : Nat), .int (p.2 : Nat)]
theorem PairAt.same {K : PySem.W.Frag} {H H' : Hp} {v : V} {p : Nat × Nat} (x : PairAt K H v p) (s : Same H H') : PairAt K H' v p := by
  obtain ⟨a, e, q⟩ := x
  exact ⟨a, e, Same.sqt s q⟩
theorem PairAt.keep {K : PySem.W.Frag} {H H' : Hp} {v : V} {p : Nat × Nat} {h : Addr} {ys : List V} (x : PairAt K H v p) (k : Keep h H H') (e : H h = some (.lst ys)) : PairAt K H' v p := by
  obtain ⟨a, e', q⟩ := x
  exact ⟨a, e', k.sqt e q⟩
theorem PairAt.put {K : PySem.W.Frag} {H : Hp} {v : V} {p : Nat × Nat} {b : Addr} {o : HO} (x : PairAt K H v p) (n : H b = none ∨ ∃ ys, H b = some (.lst ys)) : PairAt K (upd H b o) v p := by
  obtain ⟨a, e, q⟩ := x
  exact ⟨a, e, sqt_upd n q⟩
def Pairs (K : PySem.W.Frag) (H : Hp) (pvs : List V) (ld : Lead) : Prop := Paired (PairAt K H) pvs ld
section
variable {K : PySem.W.Frag} {H H' : Hp} {pvs : List V} {ld : Lead} {h b : Addr} {ys : List V} {o : HO}
theorem Pairs.same (x : Pairs K H pvs ld) (s : Same H H') : Pairs K H' pvs ld := Paired.imp x fun _ _ z => z.same s
theorem Pairs.keep (x : Pairs K H pvs ld) (k : Keep h H H') (e : H h = some (.lst ys)) : Pairs K H' pvs ld := Paired.imp x fun _ _ z => z.keep k e
theorem Pairs.put (x : Pairs K H pvs ld) (n : H b = none ∨ ∃ ys, H b = some (.lst ys)) : Pairs K (upd H b o) pvs ld := Paired.imp x fun _ _ z => z.put n
/-- one more pair, at a new place, and the list itself -/
theorem Pairs.more {p q : Nat} {l : Addr} {zs : List V} (x : Pairs K H pvs ld) (e : H l = some (.lst ys)) (f : H b = none) : Pairs K (upd (upd H b (.tup [.int (p : Nat), .int (q : Nat)])) l (.lst zs)) (pvs ++ [.ref b]) (ld ++ [(p, q)]) := by
  have el : (upd H b (.tup [.int (p : Nat), .int (q : Nat)])) l = some (.lst ys) := at_upd e f
  exact Paired.snoc ((x.put (.inl f)).put (.inr ⟨_, el⟩)) ⟨b, rfl, sqt_upd (.inr ⟨_, el⟩) (SqT.of upd_same)⟩
theorem Pairs.len (x : Pairs K H pvs ld) : pvs.length = ld.length := Paired.length x
end
theorem LOk.few {w w' : Web} {ld : Lead} (l : LOk w w' ld) : ld.length ≤ w'.1.length := by
  have := nodup_len w'.1.length (ld.map (·.2)) l.ends fun x hx => by
    obtain ⟨p, hp, rfl⟩ := List.mem_map.mp hx
    exact (l.like p hp).2.1
  rwa [List.length_map] at this
theorem eqv_nil (ds : List PyData) : PyData.eqv (.list ds) (.list []) = ds.isEmpty := by
  cases ds <;> simp [PyData.eqv, PyData.eqvAll]
theorem erase_zs (ls : List Nat) (j : Nat) : (zs ls).eraseIdx j = zs (ls.eraseIdx j) := erase_map _ _ _
theorem zs_at {ls : List Nat} {j x : Nat} : (zs ls)[j]? = some (x : Int) ↔ ls[j]? = some x := by
  unfold zs
  rw [List.getElem?_map, Option.map_eq_some_iff]
  constructor
  · rintro ⟨a, ha, e⟩
    rw [ha]; congr 1; omega
  · intro h
    exact ⟨x, h, rfl⟩
theorem nodup_at {ls : List Nat} (nd : ls.Nodup) {i j x : Nat} (h1 : ls[i]? = some x) (h2 : ls[j]? = some x) : i = j := by
  obtain ⟨l1, e1⟩ := List.getElem?_eq_some_iff.mp h1
  obtain ⟨l2, e2⟩ := List.getElem?_eq_some_iff.mp h2
  rcases Nat.lt_trichotomy i j with z | z | z
  · exact absurd (e1.trans e2.symm) (List.pairwise_iff_getElem.mp nd i j l1 l2 z)
  · exact z
  · exact absurd (e2.trans e1.symm) (List.pairwise_iff_getElem.mp nd j i l2 l1 z)
theorem nodup_erase {ls : List Nat} (nd : ls.Nodup) {j x : Nat} (h : ls[j]? = some x) : ∀ y, y ∈ ls.eraseIdx j ↔ y ∈ ls ∧ y ≠ x := by
  intro y
  obtain ⟨l1, e1⟩ := List.getElem?_eq_some_iff.mp h
  have p := erase_perm ls j l1
  rw [e1] at p
  have nd2 := p.nodup_iff.mpr nd
  rw [List.nodup_cons] at nd2
  have m := p.mem_iff (a := y)
  rw [List.mem_cons] at m
  constructor
  · intro hy
    exact ⟨m.mp (.inr hy), fun z => nd2.1 (z ▸ hy)⟩
  · rintro ⟨hy, ne⟩
    rcases m.mpr hy with z | z
    · exact absurd z ne
    · exact z
/-! ### led ties -/
def ldAt (ld : Lead) (p : Nat) : Option Nat := (ld.find? fun q => q.1 == p).map (·.2)
def isLed (w' : Web) (ld : Lead) (t : Tie) : Bool := match ldAt ld t.1, ldAt ld t.2.1 with
  | some a, some b => decide (tieL w'.2 a b = some t.2.2)
  | _, _ => false
def dueL (w w' : Web) (ld : Lead) : List Tie := w.2.filter (isLed w' ld)
theorem ldAt_nil (p : Nat) : ldAt [] p = none := rfl
theorem ldAt_pos {x : Nat × Nat} {r : Lead} {p : Nat} (e : x.1 = p) : ldAt (x :: r) p = some x.2 := by
  unfold ldAt; rw [List.find?_cons_of_pos (by simp [e])]; rfl
theorem ldAt_neg {x : Nat × Nat} {r : Lead} {p : Nat} (e : x.1 ≠ p) : ldAt (x :: r) p = ldAt r p := by
  unfold ldAt; rw [List.find?_cons_of_neg (by simp [e])]
theorem ldAt_none {ld : Lead} {p : Nat} (h : ∀ q ∈ ld, q.1 ≠ p) : ldAt ld p = none := by
  unfold ldAt
  rw [List.find?_eq_none.mpr fun q hq => by simp [h q hq]]; rfl
theorem filt_at (p : Nat) : ∀ ld : Lead, ld.Pairwise (fun x y => x.1 < y.1) → (ld.filter fun q => q.1 == p).map (·.2) = (ldAt ld p).toList
  | [], _ => rfl
  | x :: r, s => by
    obtain ⟨h, t⟩ := List.pairwise_cons.mp s
    by_cases e : x.1 = p
    · rw [ldAt_pos e, List.filter_cons_of_pos (by simp [e]), List.map_cons, filt_at p r t, ldAt_none fun q hq => by have := h q hq; omega]; rfl
    · rw [ldAt_neg e, List.filter_cons_of_neg (by simp [e])]; exact filt_at p r t
theorem ldAt_mem {ld : Lead} {p q : Nat} (h : ldAt ld p = some q) : (p, q) ∈ ld := by
  unfold ldAt at h
  obtain ⟨x, hx, rfl⟩ := Option.map_eq_some_iff.mp h
  have e : x.1 = p := by simpa using List.find?_some hx
  subst e
  exact List.mem_of_find?_eq_some hx
theorem led_merge (k : Nat) : ∀ (ld : Lead) (acc : List (Key × V)), ld.Pairwise (fun x y => x.1 < y.1) → valV (mergeK acc (ld.map fun p => ((.inl (p.1 : Int) : Key), V.int (p.2 : Nat)))) (.inl (k : Int)) = ((ldAt ld k).map fun q => V.int (q : Nat)).or (valV acc (.inl (k : Int)))
  | [], acc, _ => rfl
  | x :: r, acc, s => by
    obtain ⟨h, t⟩ := List.pairwise_cons.mp s
    show valV (mergeK (putK acc (.inl (x.1 : Int)) (V.int (x.2 : Nat))) (r.map _)) _ = _
    rw [led_merge k r _ t, valV_put]
    by_cases e : x.1 = k
    · rw [ldAt_pos e, ldAt_none fun q hq => by have := h q hq; omega, e, if_pos rfl]; rfl
    · rw [ldAt_neg e, if_neg (by intro z; injection z with z; omega)]
theorem led_dict (ld : Lead) (s : ld.Pairwise (fun x y => x.1 < y.1)) (k : Nat) : valV (mergeK [] (ld.map fun p => ((.inl (p.1 : Int) : Key), V.int (p.2 : Nat)))) (.inl (k : Int)) = (ldAt ld k).map fun q => V.int (q : Nat) := by
  rw [led_merge k ld [] s]
  show Option.or _ none = _
  rw [Option.or_none]
theorem optV_get (o : Option Nat) : (o.map fun c => V.str (sg c)).getD .non = optV o := by cases o <;> rfl
theorem optV_str (o : Option Nat) (c : Nat) : scal (optV o) (.str (sg c)) = true := by cases o <;> rfl
theorem optV_eq (o : Option Nat) (c : Nat) : decide (optV o = .str (sg c)) = decide (o = some c) := by
  cases o with
  | none => rfl
  | some d =>
    rw [Bool.eq_iff_iff, decide_eq_true_eq, decide_eq_true_eq]
    constructor
    · intro z
      injection z with z
      rw [sg_inj.mp z]
    · intro z
      cases z; rfl
theorem due_snoc {w' : Web} {ld : Lead} {ts : List Tie} {i : Nat} {t : Tie} (h : ts[i]? = some t) : (ts.take (i + 1)).filter (isLed w' ld) = (ts.take i).filter (isLed w' ld) ++ if isLed w' ld t = true then [t] else [] := by
  rw [take_snoc h, List.filter_append]
  congr 1
  by_cases c : isLed w' ld t = true
  · rw [if_pos c, List.filter_cons_of_pos c]; rfl
  · rw [if_neg c, List.filter_cons_of_neg c]; rfl
def Ties (K : PySem.W.Frag) (H : Hp) (xs : List V) (ts : List Tie) : Prop := Paired (TieAt K H) xs ts
section
variable {K : PySem.W.Frag} {H H' : Hp} {xs : List V} {ts : List Tie} {h b : Addr} {ys : List V} {o : HO}
theorem Ties.same (x : Ties K H xs ts) (s : Same H H') : Ties K H' xs ts := Paired.imp x fun _ _ z => z.same s
theorem Ties.keep (x : Ties K H xs ts) (k : Keep h H H') (e : H h = some (.lst ys)) : Ties K H' xs ts := Paired.imp x fun _ _ z => z.keep k e
theorem Ties.put (x : Ties K H xs ts) (n : H b = none ∨ ∃ ys, H b = some (.lst ys)) : Ties K (upd H b o) xs ts := Paired.imp x fun _ _ z => z.put n
theorem Ties.more {t : Tie} {l : Addr} {zs : List V} (x : Ties K H xs ts) (e : H l = some (.lst ys)) (f : H b = none) : Ties K (upd (upd H b (.tup [.int (t.1 : Nat), .int (t.2.1 : Nat), .str (sg t.2.2)])) l (.lst zs)) (xs ++ [.ref b]) (ts ++ [t]) := by
  have el : (upd H b (.tup [.int (t.1 : Nat), .int (t.2.1 : Nat), .str (sg t.2.2)])) l = some (.lst ys) := at_upd e f
  exact Paired.snoc ((x.put (.inl f)).put (.inr ⟨_, el⟩)) ⟨b, rfl, sqt_upd (.inr ⟨_, el⟩) (SqT.of upd_same)⟩
theorem Ties.len (x : Ties K H xs ts) : xs.length = ts.length := Paired.length x
end
theorem two_led {ld : Lead} {t : Tie} (h : ((ldAt ld t.1).toList ++ (ldAt ld t.2.1).toList).length = 2) : ∃ x y, ldAt ld t.1 = some x ∧ ldAt ld t.2.1 = some y := by
  cases e1 : ldAt ld t.1 <;> cases e2 : ldAt ld t.2.1 <;> rw [e1, e2] at h <;> simp at h
  exact ⟨_, _, rfl, rfl⟩
theorem not_two {w' : Web} {ld : Lead} {t : Tie} (h : ¬ ((ldAt ld t.1).toList ++ (ldAt ld t.2.1).toList).length = 2) : isLed w' ld t = false := by
  unfold isLed
  cases e1 : ldAt ld t.1 <;> cases e2 : ldAt ld t.2.1 <;> rw [e1, e2] at h <;> simp at h <;> rfl
theorem isLed_at {w' : Web} {ld : Lead} {t : Tie} {x y : Nat} (h1 : ldAt ld t.1 = some x) (h2 : ldAt ld t.2.1 = some y) : isLed w' ld t = decide (tieL w'.2 x y = some t.2.2) := by
  unfold isLed; rw [h1, h2]
theorem isLed_no {w' : Web} {ld : Lead} {t : Tie} (h : ldAt ld t.1 = none ∨ ldAt ld t.2.1 = none) : isLed w' ld t = false := by
  unfold isLed
  rcases h with h | h
  · rw [h]
  · rw [h]; cases ldAt ld t.1 <;> rfl
theorem Pairs.refs {K : PySem.W.Frag} {H : Hp} : ∀ {pvs : List V} {ld : Lead}, Pairs K H pvs ld → ∃ ps : List Addr, pvs = ps.map V.ref ∧ Paired (fun p (kv : Key × V) => SqT K H p [kV kv.1, kv.2]) ps (ld.map fun p => ((.inl (p.1 : Int) : Key), V.int (p.2 : Nat)))
  | _, _, .nil => ⟨[], rfl, .nil⟩
  | _, _, .cons h t => by
    obtain ⟨a, rfl, q⟩ := h
    obtain ⟨ps, rfl, r⟩ := Pairs.refs t
    exact ⟨a :: ps, rfl, .cons q r⟩
end Cw

namespace Cw
open PySem PySem.Spec PyProof.Rows L2
/-! ### data told -/
def tieD (t : Tie) : PyData := .tuple [.int (t.1 : Nat), .int (t.2.1 : Nat), .str (sg t.2.2)]
def pairD (p : Nat × Nat) : PyData := .tuple [.int (p.1 : Nat), .int (p.2 : Nat)]
def tiesD (ts : List Tie) : PyData := .list (ts.map tieD)
def pairsD (ld : Lead) : PyData := .list (ld.map pairD)
theorem Ties.dpa {K : PySem.W.Frag} {H : Hp} : ∀ {xs : List V} {ts : List Tie}, Ties K H xs ts → DpAll K H xs (ts.map tieD)
  | _, _, .nil => .nil
  | _, _, .cons h t => by
    obtain ⟨a, rfl, q⟩ := h
    exact .cons (.tup q (.cons (.int _) (.cons (.int _) (.cons (.str _) .nil)))) (Ties.dpa t)
theorem Pairs.dpa {K : PySem.W.Frag} {H : Hp} : ∀ {xs : List V} {ts : Lead}, Pairs K H xs ts → DpAll K H xs (ts.map pairD)
  | _, _, .nil => .nil
  | _, _, .cons h t => by
    obtain ⟨a, rfl, q⟩ := h
    exact .cons (.tup q (.cons (.int _) (.cons (.int _) .nil))) (Pairs.dpa t)
theorem Ties.dp {K : PySem.W.Frag} {H : Hp} {xs : List V} {ts : List Tie} {l : Addr} (x : Ties K H xs ts) (e : H l = some (.lst xs)) : Dp K H (.ref l) (tiesD ts) := .lst (SqL.of e) x.dpa
theorem Pairs.dp {K : PySem.W.Frag} {H : Hp} {xs : List V} {ts : Lead} {l : Addr} (x : Pairs K H xs ts) (e : H l = some (.lst xs)) : Dp K H (.ref l) (pairsD ts) := .lst (SqL.of e) x.dpa
theorem lay_all : ∀ {ds : List PyData} {k : Nat}, (∀ d ∈ ds, d.canLay0 = true ∧ d.depth ≤ k) → PyData.canLayAll0 ds = true ∧ PyData.depthAll ds ≤ k
  | [], k, _ => ⟨by simp [PyData.canLayAll0], by simp [PyData.depthAll]⟩
  | d :: ds, k, h => by
    obtain ⟨h1, h2⟩ := lay_all (ds := ds) (k := k) fun x hx => h x (List.mem_cons_of_mem _ hx)
    obtain ⟨h3, h4⟩ := h d List.mem_cons_self
    exact ⟨by simp [PyData.canLayAll0, h1, h3], by simp only [PyData.depthAll]; omega⟩
theorem shaped_list {ds : List PyData} {k : Nat} (hk : k ≤ 63) (h : ∀ d ∈ ds, d.canLay0 = true ∧ d.depth ≤ k) : SeqAt.shaped (.list ds) = true := by
  obtain ⟨h1, h2⟩ := lay_all h
  have : PyData.depth (.list ds) ≤ 64 := by simp only [PyData.depth]; omega
  simp [SeqAt.shaped, PyData.canLay0, h1, this]
theorem good_eqv {d : PyData} (h : SeqAt.shaped d = true) : PyData.eqv d d = true := SeqAt.eqv_refl d (SeqAt.canLay_of_shaped h)
theorem str_ok : ∀ c : Nat, c < 123 → PyData.strOk (sg c) = true := fun c h => by
  unfold PyData.strOk sg
  simp; omega
theorem tieD_lay {t : Tie} (h : Ltr t.2.2) : (tieD t).canLay0 = true ∧ (tieD t).depth ≤ 1 := by
  have := str_ok t.2.2 (by unfold Ltr at h; omega)
  unfold tieD
  simp [PyData.canLay0, PyData.canLayAll0, PyData.depth, PyData.depthAll, this]
theorem pairD_lay (p : Nat × Nat) : (pairD p).canLay0 = true ∧ (pairD p).depth ≤ 1 := by
  unfold pairD
  simp [PyData.canLay0, PyData.canLayAll0, PyData.depth, PyData.depthAll]
theorem tiesD_good {ts : List Tie} (h : ∀ t ∈ ts, Ltr t.2.2) : SeqAt.shaped (tiesD ts) = true := shaped_list (k := 1) (by decide) fun d hd => by
  obtain ⟨t, ht, rfl⟩ := List.mem_map.mp hd
  exact tieD_lay (h t ht)
theorem pairsD_good (ld : Lead) : SeqAt.shaped (pairsD ld) = true := shaped_list (k := 1) (by decide) fun d hd => by
  obtain ⟨t, ht, rfl⟩ := List.mem_map.mp hd
  exact pairD_lay t
theorem due_good {w w' : Web} (W : WOk w) (ld : Lead) : SeqAt.shaped (tiesD (dueL w w' ld)) = true := tiesD_good fun t ht => (W.ends t (List.mem_filter.mp ht).1).2.2
/-! ### what is held -/
def HeldG (K : PySem.W.Frag) (H : Hp) (hd : Addr) (m : Nat) : Prop := ∃ (hs : List V) (xs : List PyData), H hd = some (.lst hs) ∧ hs.length ≤ m ∧ DpAll K (del H hd) hs (xs.map fun x => PyData.list [x, x]) ∧ ∀ x ∈ xs, SeqAt.shaped x = true
/-- and nothing of it at h -/
def HeldH (K : PySem.W.Frag) (H : Hp) (hd h : Addr) (m : Nat) : Prop := ∃ (hs : List V) (xs : List PyData), H hd = some (.lst hs) ∧ hs.length ≤ m ∧ DpAll K (del (del H hd) h) hs (xs.map fun x => PyData.list [x, x]) ∧ ∀ x ∈ xs, SeqAt.shaped x = true
section
variable {K : PySem.W.Frag} {H H' : Hp} {hd h : Addr} {m n : Nat}
theorem HeldG.same (x : HeldG K H hd m) (s : Same H H') : HeldG K H' hd m := by
  obtain ⟨hs, xs, e, l, a, g⟩ := x
  exact ⟨hs, xs, s _ _ e, l, dpa_same (Keep.del (Same.keep s)) _ _ a, g⟩
theorem HeldG.mono (x : HeldG K H hd m) (h : m ≤ n) : HeldG K H hd n := by
  obtain ⟨hs, xs, e, l, a, g⟩ := x
  exact ⟨hs, xs, e, Nat.le_trans l h, a, g⟩
theorem HeldG.hand (x : HeldG K H hd m) (s : Same H H') (f : H h = none) : HeldH K H' hd h m := by
  obtain ⟨hs, xs, e, l, a, g⟩ := x
  refine ⟨hs, xs, s _ _ e, l, dpa_same (fun b o hb => ?_) _ _ a, g⟩
  have h1 := del_same _ _ b o hb
  rw [del_ne (ne_of_none h1 f)]
  exact Keep.del (Same.keep s) b o hb
theorem HeldH.out (x : HeldH K H hd h m) : HeldG K H hd m := by
  obtain ⟨hs, xs, e, l, a, g⟩ := x
  exact ⟨hs, xs, e, l, dpa_same (del_same _ _) _ _ a, g⟩
theorem keep_dd (k : Keep h H H') : Same (del (del H hd) h) (del (del H' hd) h) := Keep.del fun b o nb e => by
  have := del_same _ _ b o e
  by_cases n : b = hd
  · unfold del at e; rw [if_pos n] at e; cases e
  · rw [del_ne n]; exact k b o nb this
theorem HeldH.keep (x : HeldH K H hd h m) (k : Keep h H H') (n : hd ≠ h) : HeldH K H' hd h m := by
  obtain ⟨hs, xs, e, l, a, g⟩ := x
  exact ⟨hs, xs, k _ _ n e, l, dpa_same (keep_dd k) _ _ a, g⟩
theorem HeldH.same (x : HeldH K H hd h m) (s : Same H H') (n : hd ≠ h) : HeldH K H' hd h m := x.keep (Same.keep s) n
end
theorem sqt_del {K : PySem.W.Frag} {H : Hp} {a b : Addr} {xs ys : List V} (e : H b = some (.lst ys)) (q : SqT K H a xs) : SqT K (del H b) a xs := by
  rcases q with (q | ⟨o, q⟩) | q
  · exact .inl (.inl (del_at (ne_of q e (by intro z; cases z)) q))
  · exact .inl (.inr ⟨o, del_at (ne_of q e (by intro z; cases z)) q⟩)
  · exact .inr q
theorem Ties.del {K : PySem.W.Frag} {H : Hp} {b : Addr} {xs ys : List V} {ts : List Tie} (x : Ties K H xs ts) (e : H b = some (.lst ys)) : Ties K (Cw.del H b) xs ts := Paired.imp x fun _ _ ⟨a, r, q⟩ => ⟨a, r, sqt_del e q⟩
/-- a pair of lists of ties, held -/
theorem dp_two {K : PySem.W.Frag} {H : Hp} {hd h r t f : Addr} {hs hv tv fv : List V} {ts : List Tie} (ehd : H hd = some (.lst hs)) (eh : H h = some (.lst hv)) (er : H r = some (.lst [.ref t, .ref f])) (et : H t = some (.lst tv)) (ef : H f = some (.lst fv)) (x : Ties K H tv ts) (y : Ties K H fv ts)
    (n0 : h ≠ hd) (n1 : r ≠ hd) (n2 : t ≠ hd) (n3 : f ≠ hd) (m1 : r ≠ h) (m2 : t ≠ h) (m3 : f ≠ h) : Dp K (del (del H hd) h) (.ref r) (.list [tiesD ts, tiesD ts]) := by
  have eh' := del_at n0 eh
  refine .lst (SqL.of (del_at m1 (del_at n1 er))) (.cons ?_ (.cons ?_ .nil))
  · exact ((x.del ehd).del eh').dp (del_at m2 (del_at n2 et))
  · exact ((y.del ehd).del eh').dp (del_at m3 (del_at n3 ef))
end Cw

namespace Cw
open PySem PySem.Spec PyProof.Rows L2
theorem d_dc {σ : L2.St} {H : Hp} {Q : VK} {wi : TI} {g : TG} {tt : TT} {tk tv : TE} {vs : List Nat} (h : wi σ H fun J H1 => ∀ D, H1 D = none → ∃ W : Nat → Nat → Hp → Prop, (∃ m, W 0 m (upd H1 D (.dK []))) ∧ ∀ i m H, W i m H →
  (J.stop i H ∧ Q (.ref D) H) ∨ (J.go i H ∧ ∃ Nx : Hp → Prop, (∀ H', Nx H' → ∃ m', m' < m ∧ W (i + 1) m' H') ∧ ∀ x H', J.yld i H x H' → g x (wipe σ vs) H' fun σ2 H2 => wipe σ2 vs = wipe σ vs ∧ tt σ2 H2 fun b H3 =>
    if b = true then tk σ2 H3 fun y H4 => tv σ2 H4 fun z H5 => ∃ kvs k, y = kV k ∧ H5 D = some (.dK kvs) ∧ kvs.length < sizeLine ∧ Nx (upd H5 D (.dK (putK kvs k z))) else Nx H3)) : tDc wi g tt tk tv vs σ H Q := h
/-- the dict made over what is walked -/
theorem dc_it {J : It} {n : Nat} {G : Hp → Prop} {Y : Nat → Hp → V → Hp → Prop} (w : Walk J n G Y) {g : TG} {tt : TT} {tk tv : TE} {vs : List Nat} {σ : L2.St} {H1 : Hp} {D : Addr} {Qd : Hp → Prop} (Pv : Nat → Hp → Prop) (h0 : Pv 0 (upd H1 D (.dK []))) (hG : ∀ i H, i ≤ n → Pv i H → G H)
    (hs : ∀ i x H H', i < n → Pv i H → Y i H x H' → g x (wipe σ vs) H' fun σ2 H2 => wipe σ2 vs = wipe σ vs ∧ tt σ2 H2 fun b H3 =>
      if b = true then tk σ2 H3 fun y H4 => tv σ2 H4 fun z H5 => ∃ kvs k, y = kV k ∧ H5 D = some (.dK kvs) ∧ kvs.length < sizeLine ∧ Pv (i + 1) (upd H5 D (.dK (putK kvs k z))) else Pv (i + 1) H3) (hd : ∀ H, Pv n H → Qd H) :
    ∃ W : Nat → Nat → Hp → Prop, (∃ m, W 0 m (upd H1 D (.dK []))) ∧ ∀ i m H, W i m H →
      (J.stop i H ∧ Qd H) ∨ (J.go i H ∧ ∃ Nx : Hp → Prop, (∀ H', Nx H' → ∃ m', m' < m ∧ W (i + 1) m' H') ∧ ∀ x H', J.yld i H x H' → g x (wipe σ vs) H' fun σ2 H2 => wipe σ2 vs = wipe σ vs ∧ tt σ2 H2 fun b H3 =>
        if b = true then tk σ2 H3 fun y H4 => tv σ2 H4 fun z H5 => ∃ kvs k, y = kV k ∧ H5 D = some (.dK kvs) ∧ kvs.length < sizeLine ∧ Nx (upd H5 D (.dK (putK kvs k z))) else Nx H3) := by
  refine ⟨fun i m H => m = n - i ∧ i ≤ n ∧ Pv i H, ⟨n, by simp, Nat.zero_le _, h0⟩, ?_⟩
  rintro i m H ⟨rfl, hi, p⟩
  have q := hG i H hi p
  by_cases hlt : i < n
  · refine .inr ⟨w.goes i H hlt q, fun H' => Pv (i + 1) H', fun H' h' => ⟨n - (i + 1), by omega, rfl, by omega, h'⟩, fun x H' hy => ?_⟩
    exact hs i x H H' hlt p (w.yields i H x H' hlt q hy)
  · have e : i = n := by omega
    subst e
    exact .inl ⟨w.stops H q, hd H p⟩
/-- where p stands among some places -/
def posOf (os : List Nat) (p : Nat) : Option Nat := os.findIdx? (· == p)
theorem posOf_snoc (os : List Nat) (q p : Nat) (h : q ∉ os) : posOf (os ++ [q]) p = if p = q then some os.length else posOf os p := by
  unfold posOf
  rw [List.findIdx?_append]
  by_cases e : p = q
  · subst e
    rw [if_pos rfl]
    have n : os.findIdx? (· == p) = none := List.findIdx?_eq_none_iff.mpr fun x hx => by
      simp only [beq_eq_false_iff_ne]
      exact fun z => h (z ▸ hx)
    rw [n]; simp
  · rw [if_neg e]
    have : [q].findIdx? (· == p) = none := by
      rw [List.findIdx?_eq_none_iff]
      intro x hx
      rw [List.mem_singleton.mp hx]
      simp only [beq_eq_false_iff_ne]
      exact fun z => e z.symm
    rw [this]; simp
def cutTie (os : List Nat) (t : Tie) : Option Tie := (posOf os t.1).bind fun a => (posOf os t.2.1).map fun b => (a, b, t.2.2)
/-- the web of some places alone, called by their order -/
def cutL (w : Web) (os : List Nat) : Web := (os.map fun p => w.1.getD p 0, w.2.filterMap (cutTie os))
/-! ### name = {k: v for ..} on one line -/
section
variable {X : Cx}
theorem sw_dict {kx vx : Expr} {gs : List Comprehension} {scope : Scope} {pos py : Pos} {y : Str} {l : Nat} {env : Env} (hk : env.scope.kind = .function) (hy : env.scope.names.lookup y = some .local) (hl : (py.line == pos.line) = true)
    (ha : (scope.names.any fun (n, k) => n == y && (k == .local || k == .cell)) = false) : swapsWith (.DictComp kx vx gs scope pos) (some (.Name y py)) l env = pure true := by
  have e1 : env.blockKind = .function := by rw [Env.blockKind, hk]; rfl
  have e2 : env.kindOf y = some .local := hy
  simp only [swapsWith, e1, e2, ha, Expr.pos, hl]
  rfl
theorem ps_setDc {i : Nat} {y : Str} {py : Pos} {kx vx tg iter : Expr} {ifs : List Expr} {scope : Scope} {own : List (Str × Nat)} {pos spos : Pos} {wi : TI} {g : TG} {tt : TT} {tk tv : TE} (hc : X.calm = true) (hN : X.N.Nodup) (hy : X.N[i]? = some y)
    (hyl : X.env.scope.names.lookup y = some .local) (hsw : swapsWith (.DictComp kx vx [⟨tg, iter, ifs, 0⟩] scope pos) (some (.Name y py)) spos.line X.env = pure true) (hi : PI X tg iter wi) (ok : BlkOk X.N X.env.scope scope own)
    (hg : ∀ (s : Shared) (H : Hp) (C : Addr) (cl : List (Str × Addr)) (fp : List Addr), PG (X.blk s H scope (compEnvC scope cl C X.env) fp) tg g)
    (ht : ∀ (s : Shared) (H : Hp) (C : Addr) (cl : List (Str × Addr)) (fp : List Addr), PTs (X.blk s H scope (compEnvC scope cl C X.env) fp) ifs tt)
    (hkx : ∀ (s : Shared) (H : Hp) (C : Addr) (cl : List (Str × Addr)) (fp : List Addr), PE (X.blk s H scope (compEnvC scope cl C X.env) fp) kx tk)
    (hvx : ∀ (s : Shared) (H : Hp) (C : Addr) (cl : List (Str × Addr)) (fp : List Addr), PE (X.blk s H scope (compEnvC scope cl C X.env) fp) vx tv) (hs : ∀ x, foldedSetIterable iter X.env x = pure x := by intro _; rfl) :
    PS X (.Assign [.Name y py] (.DictComp kx vx [⟨tg, iter, ifs, 0⟩] scope pos) spos) (tAsg (tDc wi g tt tk tv (own.map (·.2))) (gName i)) := by
  refine ⟨fun pins s σ H D I h => ?_⟩
  have h : tDc wi g tt tk tv (own.map (·.2)) σ H (fun x H1 => gName i x σ H1 D.nx) := h
  rw [exec_Assign_Name_used _ _ _ _ hsw]
  refine wpAny_bind (wpAny_standAt (wpAny_bind ?_))
  refine wpAny_bind (thn (dc_core (Qf := fun _ s' => SP X pins D .next s') hc hN I hi ok hg ht hkx hvx hs h fun L C s' m H' I' q hn f => ?_) fun _ s' hq => wpAny_pure (wpAny_pure hq))
  refine wpAny_assign_Name (store_ok2 (v := V.ref L) I' hN hy (.inl hyl) rfl (fun s2 I2 ⟨a, sb, ha⟩ => ?_) (.inr hyl))
  obtain ⟨f0, f1, f2, f3, f4, f5⟩ := f
  have ne : C ≠ a := ha.elim (fun z => z ▸ f1) fun z e => f4 y a z e.symm
  exact ⟨m, hn.sameBut sb ne, fun h3 sb3 => ⟨_, H', I2.turned (t' := s2.toks) (fun b o hb e => (sb3.2 b hb).trans e) f0 f1 f3 f4 f5, q⟩⟩
end
theorem nat_list {ns : List Int} {qs : List Nat} (pm : ns.Perm (zs qs)) : ∃ os : List Nat, ns = zs os ∧ os.Perm qs := by
  have h : ∀ n ∈ ns, ((n.toNat : Nat) : Int) = n := fun n hn => by
    obtain ⟨q, _, rfl⟩ := List.mem_map.mp (pm.mem_iff.mp hn)
    rfl
  have e : ns = zs (ns.map Int.toNat) := by
    unfold zs
    rw [List.map_map]
    exact (List.map_id ns).symm.trans (List.map_congr_left fun n hn => (h n hn).symm)
  refine ⟨ns.map Int.toNat, e, ?_⟩
  have z := pm.map Int.toNat
  have e2 : (zs qs).map Int.toNat = qs := by
    unfold zs
    rw [List.map_map]
    exact (List.map_congr_left fun n _ => (rfl : (Int.toNat ∘ fun o : Nat => (o : Int)) n = id n)).trans (List.map_id qs)
  rwa [e2] at z
theorem cutTie_snoc {os : List Nat} {ts : List Tie} {i : Nat} {t : Tie} (h : ts[i]? = some t) : (ts.take (i + 1)).filterMap (cutTie os) = (ts.take i).filterMap (cutTie os) ++ (cutTie os t).toList := by
  rw [take_snoc h, List.filterMap_append]
  cases e : cutTie os t with
  | none => rw [List.filterMap_cons_none e]; rfl
  | some x => rw [List.filterMap_cons_some e]; rfl
end Cw

/-! leads that lie, place by place; the classes of what is left -/
namespace Cw
open PySem PySem.Spec PyProof.Rows L2
abbrev Led := List (Nat × Nat)
abbrev Cl := Nat × Nat
theorem flatMap_cong {α β : Type} {f g : α → List β} : ∀ {l : List α}, (∀ b ∈ l, f b = g b) → l.flatMap f = l.flatMap g
  | [], _ => rfl
  | b :: l, h => by rw [List.flatMap_cons, List.flatMap_cons, h b List.mem_cons_self, flatMap_cong fun c hc => h c (List.mem_cons_of_mem _ hc)]
theorem sum_zeros {α : Type} {f : α → Nat} : ∀ {l : List α}, (∀ b ∈ l, f b = 0) → (l.map f).sum = 0
  | [], _ => rfl
  | b :: l, h => by rw [List.map_cons, List.sum_cons, h b List.mem_cons_self, sum_zeros fun c hc => h c (List.mem_cons_of_mem _ hc)]
section
variable {m : Nat} {fit : Nat × Nat → Nat × Nat → Bool}
/-- all leads of these places by R, any two pairs fitting, in their order -/
def ext (m : Nat) (fit : Nat × Nat → Nat × Nat → Bool) : List Nat → (Nat → Nat → Bool) → List Led
  | [], _ => [[]]
  | x :: xs, R => (((List.range m).filter (R x)).flatMap fun e => (ext m fit xs fun y f => R y f && fit (x, e) (y, f)).map ((x, e) :: ·)) ++ ext m fit xs R
theorem ext_congr : ∀ {xs : List Nat} {R S : Nat → Nat → Bool}, (∀ x ∈ xs, ∀ e, e < m → R x e = S x e) → ext m fit xs R = ext m fit xs S
  | [], _, _, _ => rfl
  | x :: xs, R, S, h => by
    unfold ext
    have e1 : (List.range m).filter (R x) = (List.range m).filter (S x) := List.filter_congr fun e he => h x List.mem_cons_self e (List.mem_range.mp he)
    rw [e1, ext_congr fun y hy e he => h y (List.mem_cons_of_mem _ hy) e he]
    congr 1
    refine flatMap_cong fun e _ => ?_
    rw [ext_congr (S := fun y f => S y f && fit (x, e) (y, f)) fun y hy f hf => by rw [h y (List.mem_cons_of_mem _ hy) f hf]]
/-- a place that can be led nowhere may be left out -/
theorem ext_drop {x : Nat} : ∀ {pre post : List Nat} {R : Nat → Nat → Bool}, (∀ e, e < m → R x e = false) → ext m fit (pre ++ x :: post) R = ext m fit (pre ++ post) R
  | [], post, R, h => by
    show ext m fit (x :: post) R = ext m fit post R
    rw [ext]
    have : (List.range m).filter (R x) = [] := List.filter_eq_nil_iff.mpr fun e he => by rw [h e (List.mem_range.mp he)]; simp
    rw [this]; rfl
  | y :: pre, post, R, h => by
    show ext m fit (y :: (pre ++ x :: post)) R = ext m fit (y :: (pre ++ post)) R
    rw [ext, ext, ext_drop h]
    congr 1
    refine flatMap_cong fun e _ => ?_
    rw [ext_drop fun f hf => by rw [h f hf]; rfl]
theorem ext_drops {R : Nat → Nat → Bool} : ∀ {ys post : List Nat}, (∀ x ∈ ys, ∀ e, e < m → R x e = false) → ext m fit (ys ++ post) R = ext m fit post R
  | [], _, _ => rfl
  | y :: ys, post, h => by
    have z := ext_drop (fit := fit) (pre := []) (post := ys ++ post) (h y List.mem_cons_self)
    rw [List.cons_append]
    exact z.trans (ext_drops fun x hx => h x (List.mem_cons_of_mem _ hx))
/-- how many leads of a length -/
def cnt (L : List Led) (n : Nat) : Nat := (L.filter fun l => decide (l.length = n)).length
theorem cnt_app (A B : List Led) (n : Nat) : cnt (A ++ B) n = cnt A n + cnt B n := by unfold cnt; rw [List.filter_append, List.length_append]
theorem cnt_cons (p : Nat × Nat) (L : List Led) (n : Nat) : cnt (L.map (p :: ·)) (n + 1) = cnt L n := by
  unfold cnt
  rw [List.filter_map, List.length_map]
  congr 1
  refine List.filter_congr fun l _ => ?_
  rw [Bool.eq_iff_iff]
  simp
theorem cnt_cons0 (p : Nat × Nat) (L : List Led) : cnt (L.map (p :: ·)) 0 = 0 := by
  unfold cnt
  rw [List.filter_map, List.length_map, List.length_eq_zero_iff, List.filter_eq_nil_iff]
  intro l _
  simp
theorem cnt_flat {β : Type} (f : β → List Led) (n : Nat) : ∀ l : List β, cnt (l.flatMap f) n = (l.map fun b => cnt (f b) n).sum
  | [] => rfl
  | b :: l => by rw [List.flatMap_cons, cnt_app, cnt_flat f n l, List.map_cons, List.sum_cons]
/-- one lead is empty -/
theorem cnt_zero : ∀ (xs : List Nat) (R : Nat → Nat → Bool), cnt (ext m fit xs R) 0 = 1
  | [], _ => rfl
  | x :: xs, R => by
    rw [ext, cnt_app, cnt_flat, cnt_zero xs R]
    have : (((List.range m).filter (R x)).map fun e => cnt ((ext m fit xs fun y f => R y f && fit (x, e) (y, f)).map ((x, e) :: ·)) 0).sum = 0 := sum_zeros fun e _ => cnt_cons0 _ _
    rw [this]
/-- what is in a lead -/
theorem ext_mem : ∀ {xs : List Nat} {R : Nat → Nat → Bool} {l : Led}, xs.Pairwise (· < ·) → (l ∈ ext m fit xs R ↔ l.Pairwise (fun a b => a.1 < b.1 ∧ fit a b = true) ∧ ∀ p ∈ l, p.1 ∈ xs ∧ p.2 < m ∧ R p.1 p.2 = true)
  | [], R, l, _ => by
    show l ∈ [[]] ↔ _
    rw [List.mem_singleton]
    constructor
    · rintro rfl; exact ⟨.nil, by simp⟩
    · rintro ⟨_, h⟩
      cases l with
      | nil => rfl
      | cons p l => exact absurd (h p List.mem_cons_self).1 (by simp)
  | x :: xs, R, l, s => by
    obtain ⟨s1, s2⟩ := List.pairwise_cons.mp s
    rw [ext, List.mem_append, List.mem_flatMap, ext_mem s2]
    constructor
    · rintro (⟨e, he, hl⟩ | ⟨h1, h2⟩)
      · obtain ⟨k, hk, rfl⟩ := List.mem_map.mp hl
        obtain ⟨k1, k2⟩ := (ext_mem s2).mp hk
        obtain ⟨he1, he2⟩ := List.mem_filter.mp he
        refine ⟨List.pairwise_cons.mpr ⟨fun p hp => ?_, k1⟩, fun p hp => ?_⟩
        · obtain ⟨a, b, c⟩ := k2 p hp
          rw [Bool.and_eq_true] at c
          exact ⟨s1 _ a, c.2⟩
        · rcases List.mem_cons.mp hp with rfl | hp
          · exact ⟨List.mem_cons_self, List.mem_range.mp he1, he2⟩
          · obtain ⟨a, b, c⟩ := k2 p hp
            rw [Bool.and_eq_true] at c
            exact ⟨List.mem_cons_of_mem _ a, b, c.1⟩
      · exact ⟨h1, fun p hp => ⟨List.mem_cons_of_mem _ (h2 p hp).1, (h2 p hp).2⟩⟩
    · rintro ⟨h1, h2⟩
      cases l with
      | nil => exact .inr ⟨.nil, by simp⟩
      | cons p l =>
        obtain ⟨q1, q2⟩ := List.pairwise_cons.mp h1
        obtain ⟨p1, p2, p3⟩ := h2 p List.mem_cons_self
        by_cases e : p.1 = x
        · left
          subst e
          refine ⟨p.2, List.mem_filter.mpr ⟨List.mem_range.mpr p2, p3⟩, List.mem_map.mpr ⟨l, (ext_mem s2).mpr ⟨q2, fun r hr => ?_⟩, rfl⟩⟩
          obtain ⟨r1, r2, r3⟩ := h2 r (List.mem_cons_of_mem _ hr)
          obtain ⟨t1, t2⟩ := q1 r hr
          refine ⟨?_, r2, by rw [r3, Bool.true_and]; exact t2⟩
          rcases List.mem_cons.mp r1 with z | z
          · omega
          · exact z
        · right
          have px : p.1 ∈ xs := (List.mem_cons.mp p1).resolve_left e
          refine ⟨h1, fun r hr => ?_⟩
          obtain ⟨r1, r2⟩ := h2 r hr
          refine ⟨?_, r2⟩
          rcases List.mem_cons.mp r1 with z | z
          · exfalso
            have := s1 _ px
            rcases List.mem_cons.mp hr with rfl | hr
            · omega
            · have := (q1 r hr).1
              omega
          · exact z
end
/-! ### classes -/
def Rof (cs : List Cl) (x e : Nat) : Bool := cs.any fun c => c.1.testBit x && c.2.testBit e
theorem Rof_iff {cs : List Cl} {x e : Nat} : Rof cs x e = true ↔ ∃ c ∈ cs, c.1.testBit x = true ∧ c.2.testBit e = true := by
  unfold Rof
  rw [List.any_eq_true]
  simp only [Bool.and_eq_true]
theorem Rof_perm {cs ds : List Cl} (p : cs.Perm ds) : Rof cs = Rof ds := by
  funext x e
  rw [Bool.eq_iff_iff, Rof_iff, Rof_iff]
  exact ⟨fun ⟨c, h, r⟩ => ⟨c, p.mem_iff.mp h, r⟩, fun ⟨c, h, r⟩ => ⟨c, p.mem_iff.mpr h, r⟩⟩
def bdN (cs : List Cl) : Nat := (cs.map fun c => min (pcN c.1) (pcN c.2)).sum
/-- pairs unlike in both places, each within a class: no more than the bound -/
theorem bd_most : ∀ (l : Led) (cs : List Cl), (l.map (·.1)).Nodup → (l.map (·.2)).Nodup → (∀ p ∈ l, Rof cs p.1 p.2 = true) → l.length ≤ bdN cs
  | [], _, _, _, _ => Nat.zero_le _
  | p :: l, cs, n1, n2, h => by
    rw [List.map_cons] at n1 n2
    obtain ⟨a1, a2⟩ := List.nodup_cons.mp n1
    obtain ⟨b1, b2⟩ := List.nodup_cons.mp n2
    obtain ⟨c, hc, c1, c2⟩ := Rof_iff.mp (h p List.mem_cons_self)
    obtain ⟨A, B, rfl⟩ := List.append_of_mem hc
    have ih := bd_most l (A ++ (c.1 - 2 ^ p.1, c.2 - 2 ^ p.2) :: B) a2 b2 fun q hq => by
      obtain ⟨d, hd, d1, d2⟩ := Rof_iff.mp (h q (List.mem_cons_of_mem _ hq))
      rcases List.mem_append.mp hd with hd | hd
      · exact Rof_iff.mpr ⟨d, List.mem_append_left _ hd, d1, d2⟩
      · rcases List.mem_cons.mp hd with rfl | hd
        · refine Rof_iff.mpr ⟨_, List.mem_append_right _ List.mem_cons_self, ?_, ?_⟩
          · rw [tb_clear _ _ _ c1, d1, Bool.true_and, Bool.not_eq_true']
            exact decide_eq_false fun z => a1 (List.mem_map.mpr ⟨q, hq, z⟩)
          · rw [tb_clear _ _ _ c2, d2, Bool.true_and, Bool.not_eq_true']
            exact decide_eq_false fun z => b1 (List.mem_map.mpr ⟨q, hq, z⟩)
        · exact Rof_iff.mpr ⟨d, List.mem_append_right _ (List.mem_cons_of_mem _ hd), d1, d2⟩
    have e1 := pc_clear c1
    have e2 := pc_clear c2
    unfold bdN at ih ⊢
    simp only [List.map_append, List.map_cons, List.sum_append, List.sum_cons, List.length_cons] at ih ⊢
    omega
/-- classes of places below n and ends below m, no place in two -/
structure VC (n m : Nat) (cs : List Cl) : Prop where
  some_ : ∀ c ∈ cs, c.1 ≠ 0 ∧ c.2 ≠ 0
  low : ∀ c ∈ cs, (∀ x, c.1.testBit x = true → x < n) ∧ ∀ e, c.2.testBit e = true → e < m
  apart : cs.Pairwise fun c d => ∀ x, c.1.testBit x = true → d.1.testBit x = true → False
theorem VC.perm {n m : Nat} {cs ds : List Cl} (v : VC n m cs) (p : ds.Perm cs) : VC n m ds :=
  ⟨fun c hc => v.some_ c (p.mem_iff.mp hc), fun c hc => v.low c (p.mem_iff.mp hc), p.symm.pairwise v.apart fun {a b} h x h1 h2 => h x h2 h1⟩
theorem VC.one {n m : Nat} {cs : List Cl} (v : VC n m cs) {c d : Cl} {x : Nat} (hc : c ∈ cs) (hd : d ∈ cs) (h1 : c.1.testBit x = true) (h2 : d.1.testBit x = true) : c = d := by
  obtain ⟨i, hi, rfl⟩ := List.mem_iff_getElem.mp hc
  obtain ⟨j, hj, rfl⟩ := List.mem_iff_getElem.mp hd
  have ap := List.pairwise_iff_getElem.mp v.apart
  rcases Nat.lt_trichotomy i j with z | z | z
  · exact (ap i j hi hj z x h1 h2).elim
  · subst z; rfl
  · exact (ap j i hj hi z x h2 h1).elim
theorem VC.few {n m : Nat} {cs : List Cl} (v : VC n m cs) : cs.length ≤ n := by
  have h := nodup_len n (cs.map fun c => lsb c.1) ?_ ?_
  · rwa [List.length_map] at h
  · unfold List.Nodup
    rw [List.pairwise_map]
    refine v.apart.imp_of_mem fun {c d} hc hd h z => ?_
    have h1 := (lsb_tb (v.some_ c hc).1).1
    have h2 := (lsb_tb (v.some_ d hd).1).1
    rw [← z] at h2
    exact h _ h1 h2
  · intro x hx
    obtain ⟨c, hc, rfl⟩ := List.mem_map.mp hx
    exact (v.low c hc).1 _ (lsb_tb (v.some_ c hc).1).1
/-- how many places are left -/
def szN (cs : List Cl) : Nat := (cs.map fun c => pcN c.1).sum
/-- the class with the least place -/
structure IsMin (cs : List Cl) (c : Cl) : Prop where
  mem : c ∈ cs
  least : ∀ d ∈ cs, lsb c.1 ≤ lsb d.1
section
variable {n m : Nat} {fit : Nat × Nat → Nat × Nat → Bool} {cs : List Cl} {c : Cl}
/-- leads by classes -/
def extC (n m : Nat) (fit : Nat × Nat → Nat × Nat → Bool) (cs : List Cl) : List Led := ext m fit (List.range n) (Rof cs)
def Wc (n m : Nat) (fit : Nat × Nat → Nat × Nat → Bool) (cs : List Cl) (need : Int) : Nat := if need < 0 then 0 else cnt (extC n m fit cs) need.toNat
theorem Rof_low {x e : Nat} (h : Rof cs x e = true) (M : ∀ d ∈ cs, lsb c.1 ≤ lsb d.1) (v : VC n m cs) : lsb c.1 ≤ x := by
  obtain ⟨d, hd, d1, _⟩ := Rof_iff.mp h
  exact Nat.le_trans (M d hd) ((lsb_tb (v.some_ d hd).1).2 x d1)
/-- the least place goes first -/
theorem ext_split (v : VC n m cs) (M : IsMin cs c) {ds : List Cl} (R : ∀ x, lsb c.1 < x → x < n → ∀ e, e < m → True) :
    extC n m fit cs = ((bitsL c.2).flatMap fun e => (ext m fit ((List.range n).drop (lsb c.1 + 1)) fun y f => Rof cs y f && fit (lsb c.1, e) (y, f)).map ((lsb c.1, e) :: ·)) ++ ext m fit ((List.range n).drop (lsb c.1 + 1)) (Rof cs) := by
  have p0 := (lsb_tb (v.some_ c M.mem).1).1
  have pn := (v.low c M.mem).1 _ p0
  have e1 : List.range n = (List.range n).take (lsb c.1) ++ (List.range n).drop (lsb c.1) := (List.take_append_drop _ _).symm
  have e2 : (List.range n).drop (lsb c.1) = lsb c.1 :: (List.range n).drop (lsb c.1 + 1) := by
    rw [List.drop_eq_getElem_cons (by rw [List.length_range]; exact pn), List.getElem_range]
  unfold extC
  conv => lhs; rw [e1]
  rw [ext_drops fun x hx e _ => by
    rw [List.take_range] at hx
    have hx := List.mem_range.mp hx
    cases h : Rof cs x e with
    | false => rfl
    | true =>
      have := Rof_low (c := c) h M.least v
      omega]
  rw [e2, ext]
  have e3 : (List.range m).filter (Rof cs (lsb c.1)) = bitsL c.2 := by
    refine sorted_ext (List.pairwise_lt_range.filter _) (bits_rise _) fun e => ?_
    rw [List.mem_filter, List.mem_range, mem_bits]
    constructor
    · rintro ⟨_, h⟩
      obtain ⟨d, hd, d1, d2⟩ := Rof_iff.mp h
      rw [v.one M.mem hd p0 d1]
      exact d2
    · intro h
      exact ⟨(v.low c M.mem).2 e h, Rof_iff.mpr ⟨c, M.mem, p0, h⟩⟩
  rw [e3]
/-- what is left behind the least place: any classes that tell it -/
theorem ext_rest {p : Nat} {ds : List Cl} {S : Nat → Nat → Bool} (lo : ∀ x e, Rof ds x e = true → p < x) (eq : ∀ x, p < x → x < n → ∀ e, e < m → Rof ds x e = S x e) :
    extC n m fit ds = ext m fit ((List.range n).drop (p + 1)) S := by
  have e1 : List.range n = (List.range n).take (p + 1) ++ (List.range n).drop (p + 1) := (List.take_append_drop _ _).symm
  unfold extC
  conv => lhs; rw [e1]
  rw [ext_drops fun x hx e _ => by
    rw [List.take_range] at hx
    have hx := List.mem_range.mp hx
    cases h : Rof ds x e with
    | false => rfl
    | true =>
      have := lo x e h
      omega]
  refine ext_congr fun x hx e he => ?_
  obtain ⟨i, hi, rfl⟩ := List.mem_iff_getElem.mp hx
  rw [List.getElem_drop, List.getElem_range]
  rw [List.length_drop, List.length_range] at hi
  exact eq _ (by omega) (by omega) e he
/-- the classes behind a pair; behind none for the least place -/
structure Nar (n m : Nat) (fit : Nat × Nat → Nat × Nat → Bool) (cs : List Cl) (p e : Nat) (ds : List Cl) : Prop where
  vc : VC n m ds
  eq : ∀ x f, Rof ds x f = true ↔ Rof cs x f = true ∧ x ≠ p ∧ fit (p, e) (x, f) = true
structure Wout (n m : Nat) (cs : List Cl) (p : Nat) (ds : List Cl) : Prop where
  vc : VC n m ds
  eq : ∀ x f, Rof ds x f = true ↔ Rof cs x f = true ∧ x ≠ p
theorem Nar.ext (v : VC n m cs) (M : IsMin cs c) {e : Nat} {ds : List Cl} (N : Nar n m fit cs (lsb c.1) e ds) : extC n m fit ds = ext m fit ((List.range n).drop (lsb c.1 + 1)) fun y f => Rof cs y f && fit (lsb c.1, e) (y, f) := by
  refine ext_rest (fun x f h => ?_) fun x hx _ f _ => ?_
  · obtain ⟨h1, h2, _⟩ := (N.eq x f).mp h
    have := Rof_low (c := c) h1 M.least v
    omega
  · rw [Bool.eq_iff_iff, N.eq, Bool.and_eq_true]
    exact ⟨fun ⟨a, _, b⟩ => ⟨a, b⟩, fun ⟨a, b⟩ => ⟨a, by omega, b⟩⟩
theorem Wout.ext (v : VC n m cs) (M : IsMin cs c) {ds : List Cl} (N : Wout n m cs (lsb c.1) ds) : extC n m fit ds = ext m fit ((List.range n).drop (lsb c.1 + 1)) (Rof cs) := by
  refine ext_rest (fun x f h => ?_) fun x hx _ f _ => ?_
  · obtain ⟨h1, h2⟩ := (N.eq x f).mp h
    have := Rof_low (c := c) h1 M.least v
    omega
  · rw [Bool.eq_iff_iff, N.eq]
    exact ⟨fun ⟨a, _⟩ => a, fun a => ⟨a, by omega⟩⟩
/-- the choices, added up -/
theorem Wc_sum (v : VC n m cs) (M : IsMin cs c) {need : Int} (h1 : 1 ≤ need) {ds : Nat → List Cl} {os : List Cl} (N : ∀ e ∈ bitsL c.2, Nar n m fit cs (lsb c.1) e (ds e)) (O : Wout n m cs (lsb c.1) os) :
    ((bitsL c.2).map fun e => Wc n m fit (ds e) (need - 1)).sum + Wc n m fit os need = Wc n m fit cs need := by
  have e0 : need.toNat = (need - 1).toNat + 1 := by omega
  unfold Wc
  rw [if_neg (by omega : ¬ need < 0), ext_split (fit := fit) v M (ds := []) (fun _ _ _ _ _ => trivial), cnt_app, cnt_flat, O.ext v M, if_neg (by omega : ¬ need < 0)]
  congr 1
  congr 1
  refine List.map_congr_left fun e he => ?_
  rw [if_neg (by omega : ¬ need - 1 < 0), (N e he).ext v M, e0, cnt_cons]
theorem Wc_zero : Wc n m fit cs 0 = 1 := by
  unfold Wc
  rw [if_neg (by omega)]
  exact cnt_zero _ _
theorem Wc_neg {need : Int} (h : need < 0) : Wc n m fit cs need = 0 := if_pos h
/-- fitting pairs are unlike in both -/
def Fits (fit : Nat × Nat → Nat × Nat → Bool) : Prop := ∀ a b, fit a b = true → a.1 ≠ b.1 ∧ a.2 ≠ b.2
theorem ext_bd (F : Fits fit) {l : Led} (h : l ∈ extC n m fit cs) : l.length ≤ bdN cs := by
  obtain ⟨h1, h2⟩ := (ext_mem List.pairwise_lt_range).mp h
  refine bd_most l cs ?_ ?_ fun p hp => (h2 p hp).2.2
  · unfold List.Nodup
    rw [List.pairwise_map]
    exact h1.imp fun {a b} h => (F _ _ h.2).1
  · unfold List.Nodup
    rw [List.pairwise_map]
    exact h1.imp fun {a b} h => (F _ _ h.2).2
theorem Wc_bd (F : Fits fit) {need : Int} (h : (bdN cs : Int) < need) : Wc n m fit cs need = 0 := by
  unfold Wc
  rw [if_neg (by omega)]
  unfold cnt
  rw [List.length_eq_zero_iff, List.filter_eq_nil_iff]
  intro l hl
  have := ext_bd F hl
  simp
  omega
/-- less is left -/
theorem Wout.less (v : VC n m cs) (M : IsMin cs c) {ds : List Cl} (w : ∀ x, (∃ d ∈ ds, d.1.testBit x = true) → (∃ d ∈ cs, d.1.testBit x = true) ∧ x ≠ lsb c.1) (vd : VC n m ds) : szN ds < szN cs := by
  have flat : ∀ {es : List Cl}, VC n m es → szN es = ((List.range n).filter fun x => es.any fun d => d.1.testBit x).length := fun {es} ve => by
    obtain ⟨s, l, a⟩ := ve
    clear s
    induction es with
    | nil =>
      show 0 = _
      rw [List.filter_eq_nil_iff.mpr (fun x _ => by simp)]
      rfl
    | cons d es ih =>
      obtain ⟨a1, a2⟩ := List.pairwise_cons.mp a
      have i := ih (fun c hc => l c (List.mem_cons_of_mem _ hc)) a2
      unfold szN at i ⊢
      rw [List.map_cons, List.sum_cons, i]
      have e : ∀ zs : List Nat, (zs.filter fun x => (d :: es).any fun c => c.1.testBit x).length = (zs.filter fun x => d.1.testBit x).length + (zs.filter fun x => es.any fun c => c.1.testBit x).length := fun zs => by
        induction zs with
        | nil => rfl
        | cons z zs ihz =>
          have no : d.1.testBit z = true → (es.any fun c => c.1.testBit z) = true → False := fun h1 h2 => by
            obtain ⟨c, hc, h3⟩ := List.any_eq_true.mp h2
            exact a1 c hc z h1 h3
          have hor : ((d :: es).any fun c => c.1.testBit z) = (d.1.testBit z || es.any fun c => c.1.testBit z) := rfl
          by_cases h1 : d.1.testBit z = true
          · by_cases h2 : (es.any fun c => c.1.testBit z) = true
            · exact (no h1 h2).elim
            · rw [List.filter_cons_of_pos (by rw [hor, h1]; rfl), List.filter_cons_of_pos (p := fun x => d.1.testBit x) h1, List.filter_cons_of_neg (p := fun x => es.any fun c => c.1.testBit x) h2, List.length_cons, List.length_cons, ihz]
              omega
          · by_cases h2 : (es.any fun c => c.1.testBit z) = true
            · rw [List.filter_cons_of_pos (by rw [hor, h2, Bool.or_true]), List.filter_cons_of_neg (p := fun x => d.1.testBit x) h1, List.filter_cons_of_pos (p := fun x => es.any fun c => c.1.testBit x) h2, List.length_cons, List.length_cons, ihz]
              omega
            · rw [List.filter_cons_of_neg (by rw [hor, Bool.eq_false_iff.mpr h1, Bool.eq_false_iff.mpr h2]; decide), List.filter_cons_of_neg (p := fun x => d.1.testBit x) h1, List.filter_cons_of_neg (p := fun x => es.any fun c => c.1.testBit x) h2, ihz]
      rw [e]
      congr 1
      unfold pcN
      congr 1
      refine sorted_ext (bits_rise _) (List.pairwise_lt_range.filter _) fun x => ?_
      rw [mem_bits, List.mem_filter, List.mem_range]
      exact ⟨fun h => ⟨(l d List.mem_cons_self).1 x h, h⟩, fun h => h.2⟩
  rw [flat vd, flat v]
  have p0 := (lsb_tb (v.some_ c M.mem).1).1
  have pn := (v.low c M.mem).1 _ p0
  have go : ∀ zs : List Nat, (zs.filter fun x => ds.any fun d => d.1.testBit x).length ≤ (zs.filter fun x => cs.any fun d => d.1.testBit x).length ∧ (lsb c.1 ∈ zs → (zs.filter fun x => ds.any fun d => d.1.testBit x).length < (zs.filter fun x => cs.any fun d => d.1.testBit x).length) := fun zs => by
    induction zs with
    | nil => exact ⟨Nat.le_refl _, fun h => nomatch h⟩
    | cons z zs ih =>
      obtain ⟨i1, i2⟩ := ih
      rw [List.filter_cons, List.filter_cons]
      have sub : (ds.any fun d => d.1.testBit z) = true → (cs.any fun d => d.1.testBit z) = true ∧ z ≠ lsb c.1 := fun h => by
        obtain ⟨d, hd, h'⟩ := List.any_eq_true.mp h
        obtain ⟨⟨e, he, h2⟩, ne⟩ := w z ⟨d, hd, h'⟩
        exact ⟨List.any_eq_true.mpr ⟨e, he, h2⟩, ne⟩
      by_cases h1 : (ds.any fun d => d.1.testBit z) = true
      · obtain ⟨h2, ne⟩ := sub h1
        rw [if_pos h1, if_pos h2]
        simp only [List.length_cons]
        refine ⟨by omega, fun hm => ?_⟩
        have := i2 ((List.mem_cons.mp hm).resolve_left (Ne.symm ne))
        omega
      · rw [if_neg h1]
        by_cases h2 : (cs.any fun d => d.1.testBit z) = true
        · rw [if_pos h2]
          simp only [List.length_cons]
          exact ⟨by omega, fun _ => by omega⟩
        · rw [if_neg h2]
          refine ⟨i1, fun hm => i2 ((List.mem_cons.mp hm).resolve_left fun z2 => h2 ?_)⟩
          rw [← z2]
          exact List.any_eq_true.mpr ⟨c, M.mem, p0⟩
  exact (go _).2 (List.mem_range.mpr pn)
end
end Cw

/-! list(reversed(xs)), xs[i:j:k] -/
namespace Cw
open PySem PySem.Spec PySem.Calls PyProof.Rows L2
section
variable {prog : Program} {w : World} {A : Around} {E : Value → Shared → Prop} {s : Shared} {rv l S : Addr} {items : Array Value}
abbrev BackOf (items : Array Value) (acc : Array Value) : Prop := ItemsOf (fun k y => items[items.size - 1 - k]? = some y) acc items.size
theorem rv_extend {R : Result → Shared → Prop} (hh : A.handled = none) (hit : s.heap.IsRevIter rv l ((items.size : Int) - 1)) (hl : s.heap.IsList l items) (hli : l ≠ rv) (hiS : rv ≠ S) (hlS : l ≠ S) (res : Value) (c₀ : Nat) (hS : s.heap.get? S = some { cls := .type "list", data := .seq #[] c₀ })
    (hR : ∀ h' tk acc c, (∀ b o, b ≠ S → b ≠ rv → s.heap.get? b = some o → h'.get? b = some o) → h'.get? S = some { cls := .type "list", dict := none, data := .seq acc c, slots := #[] } → BackOf items acc → R (.ok (.ret res)) { s with heap := h', toks := tk })
    (hn : items.size ≤ sizeLine) :
    wpAny (model prog w) A.in1 (Builtin.List.listExtendWith (.ref S) (.ref rv) res)
      (fun fin s' => match fin with | .done f => R (.ok f) s' | .again c' => c'.quiet = true ∧ codeAny (model prog w) A c' R s') (fun e s' => R (.error e) s') s := by
  have Wk := (Walks.listRev (prog := prog) (w := w) (A := A.in1) hh rv l hli items).toS
  have apart : S ∉ [rv, l] := by
    simp only [List.mem_cons, List.not_mem_nil, or_false, not_or]
    exact ⟨hiS.symm, hlS.symm⟩
  have tyR : s.TypeIs (.ref rv) "list_reverseiterator" := Heap.IsRevIter.typeIs hit
  have ns : Builtin.List.listSameRef (.ref S) (.ref rv) = false := by
    simp [Builtin.List.listSameRef, hiS.symm]
  unfold Builtin.List.listExtendWith
  refine wpAny_bind (wpAny_typeOf tyR ?_)
  rw [if_neg (by rw [ns]; decide)]
  refine wpAny_bind (wpAny_pyIter_revIter (s := s) hit ?_)
  refine wpAny_bind (wpAny_holding ?_)
  unfold Builtin.List.listLengthHint
  refine wpAny_bind (wpAny_specialOf tyR RT.nolen_lri ?_)
  show wpAny _ A.in1 (specialOf (Value.ref rv) (Str.ofString "__length_hint__") >>= _) _ _ _
  refine wpAny_bind (wpAny_specialOf tyR RT.hint_lri ?_)
  generalize hid : ("list_reverseiterator.__length_hint__" : String) = nm
  wp_delta
  rw [show splitId nm = some ("list_reverseiterator", "__length_hint__") from by subst hid; decide +kernel]
  subst hid
  refine wpAny_bind (wpAny_isInstance (b := true) tyR (by rw [isSubtype_type]; kernel_rfl) ?_)
  refine wpAny_pure ?_
  rw [if_neg (by decide)]
  have z0 : ((items.size : Nat) : Int) - 1 - ((0 : Nat) : Int) = (items.size : Int) - 1 := by omega
  refine wpAny_pure ⟨plainId_quiet PySem.F.plain_extend_loop _, codeAny_extend_loopS Wk hn _ apart _ items.size 0 _ _ _ rfl (Nat.zero_le _) ⟨Nat.zero_le _, by rw [z0]; exact hit, hl⟩ hS (ItemsOf.nil _) fun s' acc' c' mv eS got => ?_⟩
  rw [Moved.eq_with mv]
  refine hR s'.heap s'.toks acc' c' (fun b o h1 h2 q => mv.heap b o (fun m => ?_) q) eS got
  rcases List.mem_cons.mp m with m | m
  · exact h1 m
  · exact h2 (List.mem_singleton.mp m)
theorem rv_call {Q : Value → Shared → Prop} (hh : A.handled = none) (hit : s.heap.IsRevIter rv l ((items.size : Int) - 1)) (hl : s.heap.IsList l items) (hli : l ≠ rv) (hn : items.size ≤ sizeLine)
    (hQ : ∀ h' tk acc c, (∀ b o, b ≠ rv → s.heap.get? b = some o → h'.get? b = some o) → h'.get? s.heap.objs.size = some { cls := .type "list", dict := none, data := .seq acc c, slots := #[] } → BackOf items acc → Q (.ref s.heap.objs.size) { s with heap := h', toks := tk }) :
    wpAny (model prog w) A (call (.type "list") [.ref rv]) Q E s := by
  refine callType_codes (Q₁ := fun obj s₁ => obj = .ref s.heap.objs.size ∧ s₁ = { s with heap := s.heap.push { cls := .type "list", data := .seq #[] } }) PySem.F.called_list (PySem.F.typeCall_list_1 _) PySem.F.entry_list_init (code_list_new _ ⟨rfl, rfl⟩) fun obj s₁ h₁ => ?_
  obtain ⟨rfl, rfl⟩ := h₁
  have hS : (s.heap.push { cls := .type "list", data := .seq #[] }).get? s.heap.objs.size = some { cls := .type "list", data := .seq #[] } := Heap.get?_push_size _ rfl
  have k1 : ∀ b o, s.heap.get? b = some o → (s.heap.push { cls := .type "list", data := .seq #[] }).get? b = some o := fun b o q => Heap.get?_push_of_some _ q
  have hiS : rv < s.heap.objs.size := by obtain ⟨_, q, _⟩ := hit; exact Heap.lt_size q
  have hlS : l < s.heap.objs.size := by obtain ⟨_, q, _⟩ := hl; exact Heap.lt_size q
  refine ⟨⟨_, hS, rfl⟩, PySem.F.args_list_init_2 _ _, ?_⟩
  show wpAny _ _ (do let old ← Builtin.List.listItems (.ref s.heap.objs.size); Builtin.List.listUpdate (.ref s.heap.objs.size) (fun _ => #[]); letGo old.toList.reverse; Builtin.List.listExtendWith (.ref s.heap.objs.size) (.ref rv) .none) _ _ _
  refine wpAny_bind ?_; unfold Builtin.List.listItems; refine wpAny_bind (wpAny_seqItems hS rfl (wpAny_pure ?_))
  show wpAny _ _ (updateSeq s.heap.objs.size (fun _ => #[]) >>= fun _ => letGo (#[] : Array Value).toList.reverse >>= fun _ => Builtin.List.listExtendWith (.ref s.heap.objs.size) (.ref rv) .none) _ _ _
  refine wpAny_bind (wpAny_updateSeq hS rfl (wpAny_bind (wpAny_letGo ?_)))
  have hS₂ := Heap.get?_update_self (Obj.mapSeq (fun _ => (#[] : Array Value))) hS rfl
  have k2 : ∀ b o, b ≠ s.heap.objs.size → s.heap.get? b = some o → ((s.heap.push { cls := .type "list", data := .seq #[] }).update s.heap.objs.size (Obj.mapSeq (fun _ => (#[] : Array Value)))).get? b = some o := fun b o hb q => (Heap.get?_update_other _ _ (Ne.symm hb)).trans (k1 b o q)
  refine rv_extend (A := A.in1) (s := { s with heap := (s.heap.push { cls := .type "list", data := .seq #[] }).update s.heap.objs.size (Obj.mapSeq (fun _ => (#[] : Array Value))) }) hh (hit.at fun o q => k2 rv o (Nat.ne_of_lt hiS) q) (hl.at fun o q => k2 l o (Nat.ne_of_lt hlS) q) hli (Nat.ne_of_lt hiS) (Nat.ne_of_lt hlS) .none _ hS₂ (fun h' tk acc c hk hS' got => ?_) hn
  exact ⟨rfl, hQ h' tk acc c (fun b o h1 q => hk b o (Nat.ne_of_lt (Heap.lt_size q)) h1 (k2 b o (Nat.ne_of_lt (Heap.lt_size q)) q)) hS' got⟩
end
/-- list(reversed(x)), x a list: a new list -/
def tLstRev (K : PySem.W.Frag) (te : TE) : TE := fun σ H Q => te σ H fun v H1 => ∃ (a : Addr) (xs : List V), v = .ref a ∧ SqL K H1 a xs ∧ ∀ q, H1 q = none → Q (.ref q) (upd H1 q (.lst xs.reverse))
section
variable {X : Cx}
theorem pe_lstRev {e : Expr} {te : TE} {p p2 pos pos2 : Pos} (hc : X.calm = true) (hg : Gl X "list") (hm : X.mg "list" = none) (hg2 : Gl X "reversed") (hm2 : X.mg "reversed" = none) (he : PE X e te)
    (hs : starEach [e] X.env = (false, eval e X.env) :: starEach [] X.env := by rfl)
    (hs2 : starEach [.Call (.Name "reversed" p2) [e] [] pos2] X.env = (false, eval (.Call (.Name "reversed" p2) [e] [] pos2) X.env) :: starEach [] X.env := by rfl) :
    PE X (.Call (.Name "list" p) [.Call (.Name "reversed" p2) [e] [] pos2] [] pos) (tLstRev X.K te) := by
  refine ⟨fun pins s σ H Q I h => ?_⟩
  refine Call_ (ld_blt I hg hm boot_list (PyProof.Rows.callWith_type1 (args_cons (Call_ (ld_blt I hg2 hm2 PyProof.Rows.boot_reversed (PyProof.Rows.callWith_type1 (args_cons (thn (he.run pins s σ H _ I h) fun u s1 ⟨v, H1, I1, r1, q1⟩ => args_nil ?_) hs) hs rfl))) hs2) hs2 rfl))
  obtain ⟨a, xs, rfl, hx, q⟩ := q1
  cases r1
  obtain ⟨its, rel, pl, hz⟩ := I1.list hx
  refine call_reversed_list pl.isList (args_nil ?_)
  have up : ∀ b o, s1.heap.get? b = some o → (s1.heap.push (revObj a ((its.toArray.size : Int) - 1))).get? b = some o := fun b o z => Heap.get?_push_of_some _ z
  have I2 : Inv X pins σ H1 { s1 with heap := s1.heap.push (revObj a ((its.toArray.size : Int) - 1)) } := I1.kept (t' := s1.toks) up
  obtain ⟨f0, f1, f2, f3, f4, f5⟩ := I1.fpOk (H' := H1) (b := s1.heap.objs.size) (Nat.le_refl _) (I1.hok.fresh (Nat.le_refl _))
  have lst := pl.isList
  obtain ⟨ol, eol, _⟩ := id lst
  have apart : a ≠ s1.heap.objs.size := Nat.ne_of_lt (Heap.lt_size eol)
  have few : its.toArray.size ≤ sizeLine := by rw [List.size_toArray, ← rel.length]; exact hz
  refine rv_call (s := { s1 with heap := s1.heap.push (revObj a ((its.toArray.size : Int) - 1)) }) (I1.ok.hd hc) ⟨_, Heap.get?_push_size _ rfl, rfl, rfl⟩ (lst.push _) apart few fun h' tk acc c hk eS got => ?_
  have sz1 : (s1.heap.push (revObj a ((its.toArray.size : Int) - 1))).objs.size = s1.heap.objs.size + 1 := Heap.size_push ..
  -- the new list is no older than the iterator
  have I3 : Inv X pins σ (upd H1 (s1.heap.push (revObj a ((its.toArray.size : Int) - 1))).objs.size (.lst xs.reverse)) { s1 with heap := h', toks := tk } := by
    have k3 : ∀ b u, s1.heap.get? b = some u → h'.get? b = some u := fun b u z => hk b u (Nat.ne_of_lt (Heap.lt_size z)) (up b u z)
    refine I1.laid (t' := tk) k3 (by rw [sz1]; exact Nat.le_succ _) ⟨by rw [List.length_reverse]; exact hz, acc.toList, c, RT.vals_rev rel got, ?_⟩
    rw [Array.toArray_toList]
    exact eS
  exact ⟨.ref _, _, I3, rfl, q _ (I1.hok.fresh (by rw [sz1]; exact Nat.le_succ _))⟩
/-! ### a part of a list by steps: some of its items -/
def tSlStep (K : PySem.W.Frag) (te : TE) (tl tu ts : TO) : TE := fun σ H Q => te σ H fun x H1 => tl σ H1 fun _ H2 => tu σ H2 fun _ H3 => ts σ H3 fun st H4 => ∃ a xs, x = .ref a ∧ SqL K H4 a xs ∧ st ≠ some 0 ∧
  ∀ p ys, (∀ y ∈ ys, y ∈ xs) → ys.length ≤ xs.length → H4 p = none → Q (.ref p) (upd H4 p (.lst ys))
theorem picks_rel {xs : List V} {us : List Value} (r : Vals xs us) : ∀ ks : List Nat, Vals (ks.filterMap (xs[·]?)) (ks.filterMap (us.toArray[·]?))
  | [] => .nil
  | k :: ks => by
    rw [List.filterMap_cons, List.filterMap_cons]
    cases c : xs[k]? with
    | none =>
      have d : us.toArray[k]? = none := by simpa using r.none_of c
      rw [d]
      exact picks_rel r ks
    | some x =>
      obtain ⟨u, e1, e2⟩ := r.get c
      have d : us.toArray[k]? = some u := by simpa using e1
      rw [d]
      exact .cons e2 (picks_rel r ks)
theorem pe_slStep {e lo hi st : Expr} {te : TE} {tl tu ts : TO} {p3 pos : Pos} (he : PE X e te) (hl : PO X (some lo) tl) (hu : PO X (some hi) tu) (hs : PO X (some st) ts) : PE X (.Subscript e (.Slice (some lo) (some hi) (some st) p3) pos) (tSlStep X.K te tl tu ts) := by
  refine ⟨fun pins s σ H Q I h => ?_⟩
  refine Subscript_ (thn (he.run pins s σ H _ I h) fun v s1 ⟨x, H1, I1, r1, q1⟩ => ?_)
  refine wpAny_Slice (thn (hl.run pins s1 σ H1 _ I1 q1) fun vl s2 ⟨l, H2, I2, pl, q2⟩ => thn (hu.run pins s2 σ H2 _ I2 q2) fun vu s3 ⟨u, H3, I3, pu, q3⟩ => thn (hs.run pins s3 σ H3 _ I3 q3) fun vs s4 ⟨o, H4, I4, ps, q4⟩ => ?_)
  obtain ⟨a, xs, rfl, hx, n0, q⟩ := q4
  cases r1
  have I5 : Inv X pins σ H4 { s4 with heap := s4.heap.push { cls := .type "slice", data := .fields #[vl, vu, vs] } } := I4.kept (t' := s4.toks) fun b ob z => Heap.get?_push_of_some _ z
  obtain ⟨its, rel, lst, hz⟩ := I5.list hx
  show wpAny (model X.prog X.w) X.A (subscriptTail e (.Slice (some lo) (some hi) (some st) p3) (.ref a) (.ref s4.heap.objs.size)) (EP X pins σ Q) X.xe { s4 with heap := s4.heap.push { cls := .type "slice", data := .fields #[vl, vu, vs] } }
  refine tail_any (ops := [.ref a, .ref s4.heap.objs.size]) lst.isList.typeIs (PySem.slot_list_getitem.lookup) ?_ (by with_unfolding_all rfl)
  refine wpAny_getItem_list_slice lst.isList (Heap.IsSliceOf.new _ vl vu vs) pl pu ps n0 ?_ (by rw [List.size_toArray, ← rel.length]; exact hz)
  have len := slicePick_size_le its.toArray l u o
  have rp := picks_rel rel (sliceRange (sliceBounds l u o its.toArray.size).1 (sliceBounds l u o its.toArray.size).2.1 (sliceBounds l u o its.toArray.size).2.2)
  generalize hk : (sliceRange (sliceBounds l u o its.toArray.size).1 (sliceBounds l u o its.toArray.size).2.1 (sliceBounds l u o its.toArray.size).2.2) = ks at rp
  have es : slicePick its.toArray l u o = (ks.filterMap (its.toArray[·]?)).toArray := by
    unfold slicePick
    rw [hk]
  have ly : (ks.filterMap (xs[·]?)).length ≤ xs.length := by
    have e1 := rp.length
    have e2 : (slicePick its.toArray l u o).size = (ks.filterMap (its.toArray[·]?)).length := by rw [es, List.size_toArray]
    have e3 := rel.length
    have e4 : its.toArray.size = its.length := by rw [List.size_toArray]
    omega
  refine ⟨.ref _, _, I5.laid (t' := s4.toks) (o := .lst (ks.filterMap (xs[·]?))) (fun b ob z => Heap.get?_push_of_some _ z) (Nat.le_refl _) ?_, rfl, q _ _ (fun y hy => ?_) ly (I5.hok.fresh (Nat.le_refl _))⟩
  · exact ⟨Nat.le_trans ly hz, _, 0, rp, by rw [es]; exact Heap.get?_push_size _ rfl⟩
  · obtain ⟨k, _, ek⟩ := List.mem_filterMap.mp hy
    exact List.mem_of_getElem? ek
end
end Cw

/-! pairs that fit: told, turned about, by other names, by other letters -/
namespace Cw
open PySem PySem.Spec PyProof.Rows L2
theorem tieL_mem {w : Web} (W : WOk w) {a b c : Nat} : tieL w.2 a b = some c ↔ (min a b, max a b, c) ∈ w.2 := by
  constructor
  · intro h
    unfold tieL at h
    obtain ⟨t, ht, rfl⟩ := Option.map_eq_some_iff.mp h
    have hm := List.mem_of_find?_eq_some ht
    have hp := at2_iff.mp (List.find?_some ht)
    have r := (W.ends t hm).1
    have e : (min a b, max a b, t.2.2) = t := by
      obtain ⟨t1, t2, t3⟩ := t
      simp only [Prod.mk.injEq, and_true]
      dsimp only at hp r
      omega
    rw [e]; exact hm
  · intro h
    have r := (W.ends _ h).1
    have q : at2 a b (min a b, max a b, c) = true := at2_iff.mpr (by dsimp only; omega)
    cases e : tieL w.2 a b with
    | none =>
      have z := (tieL_isSome (ts := w.2) (a := a) (b := b)).mpr ⟨_, h, q⟩
      rw [e] at z; cases z
    | some d =>
      unfold tieL at e
      obtain ⟨t, ht, rfl⟩ := Option.map_eq_some_iff.mp e
      have hm := List.mem_of_find?_eq_some ht
      have hp := at2_iff.mp (List.find?_some ht)
      have r2 := (W.ends t hm).1
      obtain ⟨i, hi, ei⟩ := List.getElem_of_mem hm
      obtain ⟨j, hj, ej⟩ := List.getElem_of_mem h
      have s := List.pairwise_iff_getElem.mp W.rise
      rcases Nat.lt_trichotomy i j with c1 | c1 | c1
      · have lt := s i j hi hj c1
        rw [ei, ej] at lt
        rcases lt with lt | lt <;> dsimp only at lt <;> omega
      · subst c1
        rw [ei] at ej
        rw [ej]
      · have lt := s j i hj hi c1
        rw [ei, ej] at lt
        rcases lt with lt | lt <;> dsimp only at lt <;> omega
theorem tieL_named {w w' : Web} {qs : List Nat} (W : WOk w) (W' : WOk w') (o : Ord qs w.1.length) (N : Named w qs w') {a b : Nat} (ha : a < w.1.length) (hb : b < w.1.length) : tieL w'.2 (qa qs a) (qa qs b) = tieL w.2 a b := by
  refine Option.ext fun c => ?_
  rw [tieL_mem W', tieL_mem W, N.ties.mem_iff, List.mem_map]
  constructor
  · rintro ⟨t, ht, e⟩
    have r := W.ends t ht
    unfold mapTie at e
    simp only [Prod.mk.injEq] at e
    obtain ⟨e1, e2, e3⟩ := e
    have key : (t.1 = a ∧ t.2.1 = b) ∨ (t.1 = b ∧ t.2.1 = a) := by
      by_cases c1 : qa qs t.1 = qa qs a
      · have z1 := o.inj (by omega) ha c1
        have z2 := o.inj (p := t.2.1) (r := b) (by omega) hb (by omega)
        exact .inl ⟨z1, z2⟩
      · have z1 := o.inj (p := t.1) (r := b) (by omega) hb (by omega)
        have z2 := o.inj (p := t.2.1) (r := a) (by omega) ha (by omega)
        exact .inr ⟨z1, z2⟩
    have e : (min a b, max a b, c) = t := by
      obtain ⟨t1, t2, t3⟩ := t
      simp only [Prod.mk.injEq]
      dsimp only at key r e3
      omega
    rw [e]; exact ht
  · intro h
    have r := W.ends _ h
    refine ⟨_, h, ?_⟩
    unfold mapTie
    simp only [Prod.mk.injEq, and_true]
    dsimp only at r
    rcases Nat.le_total a b with c1 | c1
    · rw [Nat.min_eq_left c1, Nat.max_eq_right c1]; exact ⟨rfl, rfl⟩
    · rw [Nat.min_eq_right c1, Nat.max_eq_left c1]
      omega
/-- two pairs fit -/
def fitB (w w' : Web) (x y : Nat × Nat) : Bool := if x.1 = y.1 ∨ x.2 = y.2 then false else decide (optV (tieL w.2 x.1 y.1) = optV (tieL w'.2 x.2 y.2))
theorem fitB_congr {w w' u u' : Web} {x y z t : Nat × Nat} (h : (x.1 = y.1 ∨ x.2 = y.2) ↔ (z.1 = t.1 ∨ z.2 = t.2)) (e : optV (tieL w.2 x.1 y.1) = optV (tieL w'.2 x.2 y.2) ↔ optV (tieL u.2 z.1 t.1) = optV (tieL u'.2 z.2 t.2)) : fitB w w' x y = fitB u u' z t := by
  unfold fitB
  by_cases c : x.1 = y.1 ∨ x.2 = y.2
  · rw [if_pos c, if_pos (h.mp c)]
  · rw [if_neg c, if_neg fun q => c (h.mpr q)]
    exact decide_eq_decide.mpr e
theorem fitB_turn (w w' : Web) (x y : Nat × Nat) : fitB w' w (x.2, x.1) (y.2, y.1) = fitB w w' x y := fitB_congr Or.comm eq_comm
theorem fitB_named {w w' u u' : Web} {qs rs : List Nat} (W : WOk w) (U : WOk u) (o : Ord qs w.1.length) (N : Named w qs u) (W' : WOk w') (U' : WOk u') (o' : Ord rs w'.1.length) (N' : Named w' rs u') {x y : Nat × Nat}
    (hx : x.1 < w.1.length ∧ x.2 < w'.1.length) (hy : y.1 < w.1.length ∧ y.2 < w'.1.length) : fitB u u' (qa qs x.1, qa rs x.2) (qa qs y.1, qa rs y.2) = fitB w w' x y := by
  refine fitB_congr ⟨fun h => h.imp (o.inj hx.1 hy.1) (o'.inj hx.2 hy.2), fun h => h.imp (fun e => by show qa qs _ = qa qs _; rw [e]) (fun e => by show qa rs _ = qa rs _; rw [e])⟩ ?_
  show optV (tieL u.2 (qa qs x.1) (qa qs y.1)) = optV (tieL u'.2 (qa rs x.2) (qa rs y.2)) ↔ _
  rw [tieL_named W U o N hx.1 hy.1, tieL_named W' U' o' N' hx.2 hy.2]
theorem fitB_self {w : Web} {a b : Nat} (h : a ≠ b) : fitB w w (a, a) (b, b) = true := by
  unfold fitB
  rw [if_neg (by intro z; rcases z with z | z <;> exact h z)]
  exact decide_eq_true rfl
/-! ### other letters -/
def shl (k c : Nat) : Nat := 97 + (c - 97 + k) % 26
theorem shl_ltr (k c : Nat) : Ltr (shl k c) := by unfold shl Ltr; omega
theorem shl_inj {k c d : Nat} (hc : Ltr c) (hd : Ltr d) (h : shl k c = shl k d) : c = d := by
  unfold shl at h
  unfold Ltr at hc hd
  omega
def lettered (w : Web) (by_ : Nat) : Web := (w.1.map (shl by_), w.2.map fun t => (t.1, t.2.1, shl (3 * by_) t.2.2))
theorem lettered_ok {w : Web} (W : WOk w) (k : Nat) : WOk (lettered w k) := by
  refine ⟨by show (w.1.map _).length ≤ 40; rw [List.length_map]; exact W.few, by show (w.2.map _).length ≤ 1600; rw [List.length_map]; exact W.most, fun c hc => ?_, ?_, fun t ht => ?_⟩
  · obtain ⟨d, _, rfl⟩ := List.mem_map.mp hc
    exact shl_ltr k d
  · show (w.2.map _).Pairwise tlt
    rw [List.pairwise_map]
    exact W.rise
  · obtain ⟨u, hu, rfl⟩ := List.mem_map.mp ht
    have r := W.ends u hu
    exact ⟨r.1, by show u.2.1 < (w.1.map _).length; rw [List.length_map]; exact r.2.1, shl_ltr _ _⟩
theorem tieL_lettered (w : Web) (k a b : Nat) : tieL (lettered w k).2 a b = (tieL w.2 a b).map (shl (3 * k)) := by
  unfold tieL lettered
  dsimp only
  rw [List.find?_map, Option.map_map, Option.map_map]
  rfl
theorem tieL_ltr {w : Web} (W : WOk w) {a b c : Nat} (h : tieL w.2 a b = some c) : Ltr c := (W.ends _ ((tieL_mem W).mp h)).2.2
theorem fitB_lettered {w w' : Web} (W : WOk w) (W' : WOk w') (k : Nat) (x y : Nat × Nat) : fitB (lettered w k) (lettered w' k) x y = fitB w w' x y := by
  refine fitB_congr Iff.rfl ?_
  rw [tieL_lettered, tieL_lettered]
  cases e1 : tieL w.2 x.1 y.1 with
  | none =>
    cases e2 : tieL w'.2 x.2 y.2 with
    | none => exact Iff.rfl
    | some d => exact ⟨fun z => (by cases z), fun z => (by cases z)⟩
  | some c =>
    cases e2 : tieL w'.2 x.2 y.2 with
    | none => exact ⟨fun z => (by cases z), fun z => (by cases z)⟩
    | some d =>
      show V.str (sg (shl (3 * k) c)) = V.str (sg (shl (3 * k) d)) ↔ V.str (sg c) = V.str (sg d)
      constructor
      · intro z
        rw [shl_inj (tieL_ltr W e1) (tieL_ltr W' e2) (sg_inj.mp (V.str.inj z))]
      · intro z
        rw [sg_inj.mp (V.str.inj z)]
/-! ### all pairs of like kinds -/
def rowL (w w' : Web) (p m : Nat) : Lead := ((List.range m).filter fun e => decide (w.1[p]? = w'.1[e]?)).map fun e => (p, e)
def preL (w w' : Web) (n : Nat) : Lead := (List.range n).flatMap fun p => rowL w w' p w'.1.length
def pairsL (w w' : Web) : Lead := preL w w' w.1.length
def plt (x y : Nat × Nat) : Prop := x.1 < y.1 ∨ (x.1 = y.1 ∧ x.2 < y.2)
theorem rowL_succ (w w' : Web) (p m : Nat) : rowL w w' p (m + 1) = rowL w w' p m ++ if w.1[p]? = w'.1[m]? then [(p, m)] else [] := by
  unfold rowL
  rw [List.range_succ, List.filter_append, List.map_append]
  congr 1
  by_cases c : w.1[p]? = w'.1[m]?
  · rw [if_pos c]; simp [c]
  · rw [if_neg c]; simp [c]
theorem preL_succ (w w' : Web) (n : Nat) : preL w w' (n + 1) = preL w w' n ++ rowL w w' n w'.1.length := by
  unfold preL
  rw [List.range_succ, List.flatMap_append]
  simp
theorem mem_rowL {w w' : Web} {p m : Nat} {x : Nat × Nat} : x ∈ rowL w w' p m ↔ x.1 = p ∧ x.2 < m ∧ w.1[p]? = w'.1[x.2]? := by
  unfold rowL
  rw [List.mem_map]
  constructor
  · rintro ⟨e, he, rfl⟩
    obtain ⟨h1, h2⟩ := List.mem_filter.mp he
    exact ⟨rfl, List.mem_range.mp h1, of_decide_eq_true h2⟩
  · rintro ⟨h1, h2, h3⟩
    exact ⟨x.2, List.mem_filter.mpr ⟨List.mem_range.mpr h2, decide_eq_true h3⟩, by rw [← h1]⟩
theorem mem_preL {w w' : Web} {n : Nat} {x : Nat × Nat} : x ∈ preL w w' n ↔ x.1 < n ∧ x.2 < w'.1.length ∧ w.1[x.1]? = w'.1[x.2]? := by
  unfold preL
  rw [List.mem_flatMap]
  constructor
  · rintro ⟨p, hp, hx⟩
    obtain ⟨h1, h2, h3⟩ := mem_rowL.mp hx
    rw [h1]
    exact ⟨List.mem_range.mp hp, h2, h3⟩
  · rintro ⟨h1, h2, h3⟩
    exact ⟨x.1, List.mem_range.mpr h1, mem_rowL.mpr ⟨rfl, h2, h3⟩⟩
theorem mem_pairsL {w w' : Web} {x : Nat × Nat} : x ∈ pairsL w w' ↔ x.1 < w.1.length ∧ x.2 < w'.1.length ∧ w.1[x.1]? = w'.1[x.2]? := mem_preL
theorem rowL_rise (w w' : Web) (p m : Nat) : (rowL w w' p m).Pairwise plt := by
  unfold rowL
  rw [List.pairwise_map]
  exact (List.Pairwise.filter _ List.pairwise_lt_range).imp fun h => .inr ⟨rfl, h⟩
theorem preL_rise (w w' : Web) : ∀ n, (preL w w' n).Pairwise plt
  | 0 => .nil
  | n + 1 => by
    rw [preL_succ]
    refine List.pairwise_append.mpr ⟨preL_rise w w' n, rowL_rise w w' n _, fun x hx y hy => .inl ?_⟩
    have h1 := (mem_preL.mp hx).1
    have h2 := (mem_rowL.mp hy).1
    omega
theorem rowL_len (w w' : Web) (p m : Nat) : (rowL w w' p m).length ≤ m := by
  unfold rowL
  rw [List.length_map]
  exact Nat.le_trans (List.length_filter_le _ _) (by rw [List.length_range]; exact Nat.le_refl _)
theorem preL_len {w w' : Web} (W' : WOk w') : ∀ n, (preL w w' n).length ≤ 40 * n
  | 0 => by simp [preL]
  | n + 1 => by
    rw [preL_succ, List.length_append]
    have h1 := preL_len W' n (w := w)
    have h2 := rowL_len w w' n w'.1.length
    have h3 := W'.few
    omega
theorem plt_ext : ∀ {l m : Lead}, l.Pairwise plt → m.Pairwise plt → (∀ x, x ∈ l ↔ x ∈ m) → l = m
  | [], [], _, _, _ => rfl
  | [], y :: m, _, _, h => absurd ((h y).mpr List.mem_cons_self) (by simp)
  | x :: l, [], _, _, h => absurd ((h x).mp List.mem_cons_self) (by simp)
  | x :: l, y :: m, hl, hm, h => by
    obtain ⟨l1, l2⟩ := List.pairwise_cons.mp hl
    obtain ⟨m1, m2⟩ := List.pairwise_cons.mp hm
    have asym : ∀ {a b : Nat × Nat}, plt a b → plt b a → False := fun {a b} p q => by unfold plt at p q; omega
    have hx : x = y := by
      rcases List.mem_cons.mp ((h x).mp List.mem_cons_self) with z | z
      · exact z
      · rcases List.mem_cons.mp ((h y).mpr List.mem_cons_self) with z' | z'
        · exact z'.symm
        · exact (asym (m1 x z) (l1 y z')).elim
    subst hx
    congr 1
    have irr : ∀ {a : Nat × Nat}, plt a a → False := fun {a} p => asym p p
    refine plt_ext l2 m2 fun z => ⟨fun hz => ?_, fun hz => ?_⟩
    · rcases List.mem_cons.mp ((h z).mp (List.mem_cons_of_mem _ hz)) with q | q
      · subst q; exact (irr (l1 _ hz)).elim
      · exact q
    · rcases List.mem_cons.mp ((h z).mpr (List.mem_cons_of_mem _ hz)) with q | q
      · subst q; exact (irr (m1 _ hz)).elim
      · exact q
/-- pairs turned about are those of the webs the other way about -/
theorem turned_mem {w w' : Web} (x : Nat × Nat) : x ∈ (pairsL w w').map (fun p => (p.2, p.1)) ↔ x ∈ pairsL w' w := by
  rw [List.mem_map, mem_pairsL]
  constructor
  · rintro ⟨p, hp, rfl⟩
    obtain ⟨h1, h2, h3⟩ := mem_pairsL.mp hp
    exact ⟨h2, h1, h3.symm⟩
  · rintro ⟨h1, h2, h3⟩
    exact ⟨(x.2, x.1), mem_pairsL.mpr ⟨h2, h1, h3.symm⟩, rfl⟩
theorem named_mem {w w' u u' : Web} {qs rs : List Nat} (o : Ord qs w.1.length) (N : Named w qs u) (o' : Ord rs w'.1.length) (N' : Named w' rs u') (x : Nat × Nat) : x ∈ (pairsL w w').map (fun p => (qa qs p.1, qa rs p.2)) ↔ x ∈ pairsL u u' := by
  rw [List.mem_map, mem_pairsL, N.len, N'.len]
  constructor
  · rintro ⟨p, hp, rfl⟩
    obtain ⟨h1, h2, h3⟩ := mem_pairsL.mp hp
    refine ⟨o.lt' h1, o'.lt' h2, ?_⟩
    show u.1[qa qs p.1]? = u'.1[qa rs p.2]?
    rw [N.kinds _ h1, N'.kinds _ h2, h3]
  · rintro ⟨h1, h2, h3⟩
    obtain ⟨a, ha, ea⟩ := o.onto h1
    obtain ⟨b, hb, eb⟩ := o'.onto h2
    refine ⟨(a, b), mem_pairsL.mpr ⟨ha, hb, ?_⟩, by show (qa qs a, qa rs b) = x; rw [ea, eb]⟩
    rw [← ea, ← eb, N.kinds _ ha, N'.kinds _ hb] at h3
    exact h3
theorem map_nodup {f : Nat × Nat → Nat × Nat} {l : Lead} (h : l.Pairwise plt) (hf : ∀ x ∈ l, ∀ y ∈ l, f x = f y → x = y) : (l.map f).Nodup := by
  show List.Pairwise _ _
  rw [List.pairwise_map]
  refine List.Pairwise.imp_of_mem (fun {x y} hx hy lt e => ?_) h
  have := hf x hx y hy e
  subst this
  unfold plt at lt
  omega
theorem pairsL_rise (w w' : Web) : (pairsL w w').Pairwise plt := preL_rise w w' _
/-- an arrangement in order of pairs none twice rises -/
theorem arranged {l m : Lead} (p : l.Perm m) (nd : m.Nodup) (s : l.Pairwise fun x y => ¬ plt y x) : l.Pairwise plt := by
  have nl : l.Nodup := p.nodup_iff.mpr nd
  refine (List.Pairwise.and s nl).imp fun {x y} ⟨h1, h2⟩ => ?_
  obtain ⟨a, b⟩ := x
  obtain ⟨c, d⟩ := y
  unfold plt at h1 ⊢
  simp only [ne_eq, Prod.mk.injEq] at h2
  dsimp only at h1 ⊢
  omega
end Cw

/-! classes: behind a pair, without a place, at first -/
namespace Cw
open PySem PySem.Spec PyProof.Rows L2
/-- the others by their tie with p -/
def obt (u : Web) (p : Nat) (k : Option Nat) : Nat := maskN ((List.range u.1.length).filter fun o => decide (o ≠ p) && decide (tieL u.2 p o = k))
theorem tb_obt {u : Web} {p o : Nat} {k : Option Nat} : (obt u p k).testBit o = true ↔ o < u.1.length ∧ o ≠ p ∧ tieL u.2 p o = k := by
  unfold obt
  rw [tb_mask, decide_eq_true_eq, List.mem_filter, List.mem_range, Bool.and_eq_true, decide_eq_true_eq, decide_eq_true_eq]
/-- unlike in both, like ties -/
def fitM (u u' : Web) (a b : Nat × Nat) : Bool := decide (a.1 ≠ b.1) && decide (a.2 ≠ b.2) && decide (tieL u.2 a.1 b.1 = tieL u'.2 a.2 b.2)
theorem fitM_iff {u u' : Web} {a b : Nat × Nat} : fitM u u' a b = true ↔ a.1 ≠ b.1 ∧ a.2 ≠ b.2 ∧ tieL u.2 a.1 b.1 = tieL u'.2 a.2 b.2 := by
  unfold fitM
  rw [Bool.and_eq_true, Bool.and_eq_true, decide_eq_true_eq, decide_eq_true_eq, decide_eq_true_eq, and_assoc]
theorem fitM_fits (u u' : Web) : Fits (fitM u u') := fun a b h => ⟨(fitM_iff.mp h).1, (fitM_iff.mp h).2.1⟩
theorem tb_and {a b x : Nat} : (a &&& b).testBit x = true ↔ a.testBit x = true ∧ b.testBit x = true := by rw [Nat.testBit_and, Bool.and_eq_true]
theorem ne_zero {a x : Nat} (h : a.testBit x = true) : a ≠ 0 := fun z => by subst z; simp at h
theorem some_bit {a : Nat} (h : a ≠ 0) : ∃ x, a.testBit x = true := ⟨_, (lsb_tb h).1⟩
def narC (u u' : Web) (p e : Nat) (k : Option Nat) (c : Cl) : Option Cl := if c.1 &&& obt u p k ≠ 0 ∧ c.2 &&& obt u' e k ≠ 0 then some (c.1 &&& obt u p k, c.2 &&& obt u' e k) else none
def narL (ks : List (Option Nat)) (u u' : Web) (p e : Nat) (cs : List Cl) : List Cl := ks.flatMap fun k => cs.filterMap (narC u u' p e k)
theorem narC_iff {u u' : Web} {p e : Nat} {k : Option Nat} {c d : Cl} : narC u u' p e k c = some d ↔ (c.1 &&& obt u p k ≠ 0 ∧ c.2 &&& obt u' e k ≠ 0) ∧ d = (c.1 &&& obt u p k, c.2 &&& obt u' e k) := by
  unfold narC
  by_cases h : c.1 &&& obt u p k ≠ 0 ∧ c.2 &&& obt u' e k ≠ 0
  · rw [if_pos h]
    exact ⟨fun z => ⟨h, (Option.some.inj z).symm⟩, fun z => by rw [z.2]⟩
  · rw [if_neg h]
    exact ⟨fun z => (nomatch z), fun z => absurd z.1 h⟩
theorem mem_nar {ks : List (Option Nat)} {u u' : Web} {p e : Nat} {cs : List Cl} {d : Cl} : d ∈ narL ks u u' p e cs ↔ ∃ k ∈ ks, ∃ c ∈ cs, (c.1 &&& obt u p k ≠ 0 ∧ c.2 &&& obt u' e k ≠ 0) ∧ d = (c.1 &&& obt u p k, c.2 &&& obt u' e k) := by
  unfold narL
  rw [List.mem_flatMap]
  refine exists_congr fun k => and_congr_right fun _ => ?_
  rw [List.mem_filterMap]
  exact exists_congr fun c => and_congr_right fun _ => narC_iff
theorem nar_ok {ks : List (Option Nat)} {u u' : Web} {p e : Nat} {cs : List Cl} (v : VC u.1.length u'.1.length cs) (nd : ks.Nodup) (all : ∀ k, obt u p k ≠ 0 → k ∈ ks) : Nar u.1.length u'.1.length (fitM u u') cs p e (narL ks u u' p e cs) := by
  refine ⟨⟨fun d hd => ?_, fun d hd => ?_, ?_⟩, fun x f => ?_⟩
  · obtain ⟨k, _, c, _, h, rfl⟩ := mem_nar.mp hd
    exact h
  · obtain ⟨k, _, c, hc, h, rfl⟩ := mem_nar.mp hd
    exact ⟨fun x hx => (v.low c hc).1 x (tb_and.mp hx).1, fun x hx => (v.low c hc).2 x (tb_and.mp hx).1⟩
  · unfold narL
    rw [List.pairwise_flatMap]
    refine ⟨fun k _ => ?_, nd.imp fun {k j} hkj => ?_⟩
    · refine List.Pairwise.filterMap _ (fun c c' h d hd d' hd' x h1 h2 => ?_) v.apart
      obtain ⟨_, rfl⟩ := narC_iff.mp (Option.mem_def.mp hd)
      obtain ⟨_, rfl⟩ := narC_iff.mp (Option.mem_def.mp hd')
      exact h x (tb_and.mp h1).1 (tb_and.mp h2).1
    · intro d hd d' hd' x h1 h2
      obtain ⟨c, _, z1⟩ := List.mem_filterMap.mp hd
      obtain ⟨c', _, z2⟩ := List.mem_filterMap.mp hd'
      obtain ⟨_, rfl⟩ := narC_iff.mp z1
      obtain ⟨_, rfl⟩ := narC_iff.mp z2
      obtain ⟨_, _, t1⟩ := tb_obt.mp (tb_and.mp h1).2
      obtain ⟨_, _, t2⟩ := tb_obt.mp (tb_and.mp h2).2
      exact hkj (t1.symm.trans t2)
  · rw [Rof_iff, Rof_iff, fitM_iff]
    constructor
    · rintro ⟨d, hd, h1, h2⟩
      obtain ⟨k, hk, c, hc, _, rfl⟩ := mem_nar.mp hd
      obtain ⟨a1, a2⟩ := tb_and.mp h1
      obtain ⟨b1, b2⟩ := tb_and.mp h2
      obtain ⟨_, x2, x3⟩ := tb_obt.mp a2
      obtain ⟨_, f2, f3⟩ := tb_obt.mp b2
      exact ⟨⟨c, hc, a1, b1⟩, x2, Ne.symm x2, Ne.symm f2, x3.trans f3.symm⟩
    · rintro ⟨⟨c, hc, a1, b1⟩, x2, _, f2, t⟩
      have xo : (obt u p (tieL u.2 p x)).testBit x = true := tb_obt.mpr ⟨(v.low c hc).1 x a1, x2, rfl⟩
      have fo : (obt u' e (tieL u.2 p x)).testBit f = true := tb_obt.mpr ⟨(v.low c hc).2 f b1, Ne.symm f2, t.symm⟩
      have h1 := tb_and.mpr ⟨a1, xo⟩
      have h2 := tb_and.mpr ⟨b1, fo⟩
      exact ⟨_, mem_nar.mpr ⟨_, all _ (ne_zero xo), c, hc, ⟨ne_zero h1, ne_zero h2⟩, rfl⟩, h1, h2⟩
theorem Nar.perm {n m : Nat} {fit : Nat × Nat → Nat × Nat → Bool} {cs ds es : List Cl} {p e : Nat} (N : Nar n m fit cs p e ds) (q : es.Perm ds) : Nar n m fit cs p e es := ⟨N.vc.perm q, fun x f => by rw [Rof_perm q]; exact N.eq x f⟩
theorem Wout.perm {n m : Nat} {cs ds es : List Cl} {p : Nat} (N : Wout n m cs p ds) (q : es.Perm ds) : Wout n m cs p es := ⟨N.vc.perm q, fun x f => by rw [Rof_perm q]; exact N.eq x f⟩
/-- without a place -/
def clr (a p : Nat) : Nat := if a.testBit p = true then a - 2 ^ p else a
theorem tb_clr {a p x : Nat} : (clr a p).testBit x = true ↔ a.testBit x = true ∧ x ≠ p := by
  unfold clr
  split
  · rename_i h
    rw [tb_clear p a x h, Bool.and_eq_true, Bool.not_eq_true', decide_eq_false_iff_not]
  · rename_i h
    exact ⟨fun z => ⟨z, fun e => h (e ▸ z)⟩, fun z => z.1⟩
def outC (p : Nat) (c : Cl) : Option Cl := if clr c.1 p ≠ 0 then some (clr c.1 p, c.2) else none
def outL (p : Nat) (cs : List Cl) : List Cl := cs.filterMap (outC p)
theorem outC_iff {p : Nat} {c d : Cl} : outC p c = some d ↔ clr c.1 p ≠ 0 ∧ d = (clr c.1 p, c.2) := by
  unfold outC
  by_cases h : clr c.1 p ≠ 0
  · rw [if_pos h]
    exact ⟨fun z => ⟨h, (Option.some.inj z).symm⟩, fun z => by rw [z.2]⟩
  · rw [if_neg h]
    exact ⟨fun z => (nomatch z), fun z => absurd z.1 h⟩
theorem mem_out {p : Nat} {cs : List Cl} {d : Cl} : d ∈ outL p cs ↔ ∃ c ∈ cs, clr c.1 p ≠ 0 ∧ d = (clr c.1 p, c.2) := by
  unfold outL
  rw [List.mem_filterMap]
  exact exists_congr fun c => and_congr_right fun _ => outC_iff
theorem out_ok {n m p : Nat} {cs : List Cl} (v : VC n m cs) : Wout n m cs p (outL p cs) := by
  refine ⟨⟨fun d hd => ?_, fun d hd => ?_, ?_⟩, fun x f => ?_⟩
  · obtain ⟨c, hc, h, rfl⟩ := mem_out.mp hd
    exact ⟨h, (v.some_ c hc).2⟩
  · obtain ⟨c, hc, h, rfl⟩ := mem_out.mp hd
    exact ⟨fun x hx => (v.low c hc).1 x (tb_clr.mp hx).1, (v.low c hc).2⟩
  · unfold outL
    refine List.Pairwise.filterMap _ (fun c c' h d hd d' hd' x h1 h2 => ?_) v.apart
    obtain ⟨_, rfl⟩ := outC_iff.mp (Option.mem_def.mp hd)
    obtain ⟨_, rfl⟩ := outC_iff.mp (Option.mem_def.mp hd')
    exact h x (tb_clr.mp h1).1 (tb_clr.mp h2).1
  · rw [Rof_iff, Rof_iff]
    constructor
    · rintro ⟨d, hd, h1, h2⟩
      obtain ⟨c, hc, _, rfl⟩ := mem_out.mp hd
      obtain ⟨a, b⟩ := tb_clr.mp h1
      exact ⟨⟨c, hc, a, h2⟩, b⟩
    · rintro ⟨⟨c, hc, a, h2⟩, b⟩
      have h1 := tb_clr.mpr ⟨a, b⟩
      exact ⟨_, mem_out.mpr ⟨c, hc, ne_zero h1, rfl⟩, h1, h2⟩
/-- places left stand in both -/
theorem Wout.sz {n m : Nat} {cs : List Cl} {c : Cl} (v : VC n m cs) (M : IsMin cs c) {ds : List Cl} (p : ds.Perm (outL (lsb c.1) cs)) : szN ds < szN cs :=
  Wout.less v M (fun x ⟨d, hd, h⟩ => by
    obtain ⟨c', hc', _, rfl⟩ := mem_out.mp (p.mem_iff.mp hd)
    obtain ⟨a, b⟩ := tb_clr.mp h
    exact ⟨⟨c', hc', a⟩, b⟩) ((out_ok v).perm p).vc
theorem Nar.sz {u u' : Web} {cs : List Cl} {c : Cl} (v : VC u.1.length u'.1.length cs) (M : IsMin cs c) {ks : List (Option Nat)} {e : Nat} {ds : List Cl} (p : ds.Perm (narL ks u u' (lsb c.1) e cs)) (vd : VC u.1.length u'.1.length ds) : szN ds < szN cs :=
  Wout.less v M (fun x ⟨d, hd, h⟩ => by
    obtain ⟨k, _, c', hc', _, rfl⟩ := mem_nar.mp (p.mem_iff.mp hd)
    obtain ⟨a, b⟩ := tb_and.mp h
    exact ⟨⟨c', hc', a⟩, (tb_obt.mp b).2.1⟩) vd
/-! ### at first -/
def clsC (u u' : Web) (ps : List Nat) (k : Nat) : Option Cl :=
  let l := maskN (ps.filter fun p => decide (u.1[p]? = some k))
  let e := maskN ((List.range u'.1.length).filter fun f => decide (u'.1[f]? = some k))
  if l ≠ 0 ∧ e ≠ 0 then some (l, e) else none
def clsL (ks : List Nat) (u u' : Web) (ps : List Nat) : List Cl := ks.filterMap (clsC u u' ps)
theorem clsC_iff {u u' : Web} {ps : List Nat} {k : Nat} {d : Cl} : clsC u u' ps k = some d ↔ d.1 ≠ 0 ∧ d.2 ≠ 0 ∧ d.1 = maskN (ps.filter fun p => decide (u.1[p]? = some k)) ∧ d.2 = maskN ((List.range u'.1.length).filter fun f => decide (u'.1[f]? = some k)) := by
  unfold clsC
  dsimp only
  split
  · rename_i h
    constructor
    · intro z
      rw [← Option.some.inj z]
      exact ⟨h.1, h.2, rfl, rfl⟩
    · rintro ⟨_, _, h1, h2⟩
      rw [← h1, ← h2]
  · rename_i h
    constructor
    · intro z; cases z
    · rintro ⟨a, b, h1, h2⟩
      rw [← h1, ← h2] at h
      exact absurd ⟨a, b⟩ h
theorem cls_ok {ks : List Nat} {u u' : Web} {ps : List Nat} (nd : ks.Nodup) (bp : ∀ p ∈ ps, p < u.1.length) : VC u.1.length u'.1.length (clsL ks u u' ps) := by
  have bitl : ∀ {k x : Nat}, (maskN (ps.filter fun p => decide (u.1[p]? = some k))).testBit x = true ↔ x ∈ ps ∧ u.1[x]? = some k := fun {k x} => by rw [tb_mask, decide_eq_true_eq, List.mem_filter, decide_eq_true_eq]
  have bite : ∀ {k x : Nat}, (maskN ((List.range u'.1.length).filter fun f => decide (u'.1[f]? = some k))).testBit x = true ↔ x < u'.1.length ∧ u'.1[x]? = some k := fun {k x} => by rw [tb_mask, decide_eq_true_eq, List.mem_filter, decide_eq_true_eq, List.mem_range]
  refine ⟨fun d hd => ?_, fun d hd => ?_, ?_⟩
  · obtain ⟨k, _, z⟩ := List.mem_filterMap.mp hd
    obtain ⟨a, b, _⟩ := clsC_iff.mp z
    exact ⟨a, b⟩
  · obtain ⟨k, _, z⟩ := List.mem_filterMap.mp hd
    obtain ⟨_, _, e1, e2⟩ := clsC_iff.mp z
    rw [e1, e2]
    exact ⟨fun x hx => bp x (bitl.mp hx).1, fun x hx => (bite.mp hx).1⟩
  · unfold clsL
    refine List.Pairwise.filterMap _ (fun k j h d hd d' hd' x h1 h2 => ?_) nd
    obtain ⟨_, _, e1, _⟩ := clsC_iff.mp (Option.mem_def.mp hd)
    obtain ⟨_, _, e2, _⟩ := clsC_iff.mp (Option.mem_def.mp hd')
    rw [e1] at h1
    rw [e2] at h2
    have a := (bitl.mp h1).2
    rw [(bitl.mp h2).2] at a
    exact h (Option.some.inj a).symm
theorem cls_R {ks : List Nat} {u u' : Web} {ps : List Nat} (all : ∀ k ∈ u.1, k ∈ ks) {x e : Nat} : Rof (clsL ks u u' ps) x e = true ↔ x ∈ ps ∧ e < u'.1.length ∧ ∃ k, u.1[x]? = some k ∧ u'.1[e]? = some k := by
  have bitl : ∀ {k x : Nat}, (maskN (ps.filter fun p => decide (u.1[p]? = some k))).testBit x = true ↔ x ∈ ps ∧ u.1[x]? = some k := fun {k x} => by rw [tb_mask, decide_eq_true_eq, List.mem_filter, decide_eq_true_eq]
  have bite : ∀ {k x : Nat}, (maskN ((List.range u'.1.length).filter fun f => decide (u'.1[f]? = some k))).testBit x = true ↔ x < u'.1.length ∧ u'.1[x]? = some k := fun {k x} => by rw [tb_mask, decide_eq_true_eq, List.mem_filter, decide_eq_true_eq, List.mem_range]
  rw [Rof_iff]
  constructor
  · rintro ⟨d, hd, h1, h2⟩
    obtain ⟨k, _, z⟩ := List.mem_filterMap.mp hd
    obtain ⟨_, _, e1, e2⟩ := clsC_iff.mp z
    rw [e1] at h1
    rw [e2] at h2
    exact ⟨(bitl.mp h1).1, (bite.mp h2).1, k, (bitl.mp h1).2, (bite.mp h2).2⟩
  · rintro ⟨a, b, k, c, d⟩
    have h1 := bitl.mpr ⟨a, c⟩
    have h2 := bite.mpr ⟨b, d⟩
    exact ⟨(maskN (ps.filter fun p => decide (u.1[p]? = some k)), maskN ((List.range u'.1.length).filter fun f => decide (u'.1[f]? = some k))), List.mem_filterMap.mpr ⟨k, all k (List.mem_of_getElem? c), clsC_iff.mpr ⟨ne_zero h1, ne_zero h2, rfl, rfl⟩⟩, h1, h2⟩
end Cw

namespace Cw
open PySem PySem.Spec PyProof.Rows L2
/-! ### all, any of a generator expression: one clause without tests, over whatever PI serves; its item may call defs -/
/-- a def's table of code objects, which grows at the first call -/
def TbX (P : Addr) : HO := .ext fun h => ∃ ps : Array Value, h.get? P = some { cls := .none, data := .fields ps } ∧ TriplesOk ps.toList
theorem upd_id {H : Hp} {P : Addr} {o : HO} (e : H P = some o) : upd H P o = H := funext fun b => by
  by_cases hb : b = P
  · rw [hb, upd_same, e]
  · exact upd_ne hb
section
variable {X : Cx} {pins : List (Addr × Obj)} {σ : L2.St} {H : Hp} {s : Shared} {P : Addr}
theorem tb_at (I : Inv X pins σ H s) (hP : H P = some (TbX P)) : ∃ ps : Array Value, s.heap.get? P = some { cls := .none, data := .fields ps } ∧ TriplesOk ps.toList := (I.hok P _ hP).1
theorem tb_grown (I : Inv X pins σ H s) (hP : H P = some (TbX P)) {h' : Heap} {tk : Nat} {ps : Array Value} (k : ∀ b o, b ≠ P → s.heap.get? b = some o → h'.get? b = some o)
    (e : h'.get? P = some { cls := .none, data := .fields ps }) (ht : TriplesOk ps.toList) : Inv X pins σ H { s with heap := h', toks := tk } := by
  have J := I.write (x := P) (e := P) (o := TbX P) (t' := tk) (by rw [hP]; exact trivial) (.inl rfl) k ⟨_, e⟩ ⟨⟨ps, e, ht⟩, ⟨_, e⟩, fun h1 h2 ⟨qs, z, zt⟩ st => ⟨qs, st _ z, zt⟩⟩
  rw [upd_id hP] at J
  exact J
/-- the code object of a generator expression, made now or found -/
theorem gx_code {c : Addr} {gpos : Pos} {qual : Str} {scope : Scope} {E : Value → Shared → Prop} {A : Around} {Qc : Value → Shared → Prop} (TB : GxR.TabB X.base X.mg c P) (hcode : X.env.code = .ref c) (I : Inv X pins σ H s) (hP : H P = some (TbX P))
    (h : ∀ code h' tk, Inv X pins σ H { s with heap := h', toks := tk } → (∀ b o, b ≠ P → s.heap.get? b = some o → h'.get? b = some o) → s.heap.objs.size ≤ h'.objs.size → Qc code { s with heap := h', toks := tk }) :
    wpAny (model X.prog X.w) A (genexprCode X.env gpos qual scope) Qc E s := by
  obtain ⟨ps, e, ht⟩ := tb_at I hP
  have cd : PySem.W.CodeHd s.heap c P := TB.code.keeps fun b o q => I.bk b o q
  cases hf : codeAmong gpos ps.toList with
  | some cv => exact wpAny_genexprCode_hit hcode (cd.code e ht) hf (h cv s.heap s.toks I (fun _ _ _ q => q) (Nat.le_refl _))
  | none =>
    refine wpAny_genexprCodeX hcode (cd.code e ht) (cd.tab e) hf fun c' h' tk ext big less known _ tab _ => ?_
    obtain ⟨_, _, _, _, _, _, _, _, _, _, _, _, _, _, _, _, _, _, _, trip, _⟩ := known
    exact h _ h' tk (tb_grown I hP ext tab.2 trip) ext (Nat.le_trans big (Nat.le_of_lt less))
end
/-- where a generator expression's items run: its frame over the frames that stand, made at s -/
abbrev _root_.L2.Cx.gx (X : Cx) (Ag : Around) (s : Shared) (H : Hp) (cenv : Env) (fp : List Addr) : Cx := { X with A := Ag, s_0 := s, H_0 := H, env := cenv, outer := X.stack, stack := cenv :: X.stack, ex := fp, fn := fun _ => false, pn := [], xe := fun _ _ => False }
abbrev gxEnv (X : Cx) (scope : Scope) (C : Addr) (code : Value) : Env := genEnv scope (cloFrom X.env.cells scope.names []) C code builtinsNs X.env
section
variable {X : Cx} {pins : List (Addr × Obj)} {σ : L2.St} {H : Hp} {s : Shared} {scope : Scope} {own : List (Str × Nat)} {fp : List Addr} {Ag : Around} {code : Value} {h5 : Heap} {tk : Nat} {g5 : Array GenState} {a : Addr} {go : Obj}
theorem gx_cells (I : Inv X pins σ H s) {y : Str} {c : Addr} (free : ∀ y ∈ scope.names, y.2 = .free → ∃ c, X.env.cells.lookup y.1 = some c) (e : (cloFrom X.env.cells scope.names []).lookup y = some c) : X.env.cells.lookup y = some c ∧ c < s.heap.objs.size := by
  rcases cloFrom_mem (PySem.mem_of_lookup e) with z | ⟨z, rfl⟩
  · cases z
  · obtain ⟨c, hc⟩ := free _ z rfl
    obtain ⟨v, w⟩ := I.cell _ _ hc
    rw [hc]
    exact ⟨rfl, w.lt⟩
theorem gx_start (I : Inv X pins σ H s) (ok : BlkOk X.N X.env.scope scope own) (nc : ∀ y ∈ scope.names, y.2 ≠ .cell) (hN : X.N.Nodup) (hfp : ∀ b ∈ fp, FpOk X pins H b ∧ b < s.heap.objs.size) (hA : X.calm = true → Ag.handled = none) (hfr : Ag.frames = some (gxEnv X scope s.heap.objs.size code :: X.stack))
    (keep : ∀ b o, s.heap.get? b = some o → h5.get? b = some o) {m : Str → Option Value} (ns : h5.Ns s.heap.objs.size m) (ha : h5.get? a = some go) (la : s.heap.objs.size < a) (nv : ∀ v, go.data ≠ .cell v) (hg : AllBare g5) :
    Inv (X.gx Ag s H (gxEnv X scope s.heap.objs.size code) fp) [(a, go)] (wipe σ (own.map (·.2))) H { s with gens := g5, toks := tk, heap := h5 } := by
  have free : ∀ y ∈ scope.names, y.2 = .free → ∃ c, X.env.cells.lookup y.1 = some c := fun y hy e => (ok.free y hy e).elim (fun k => I.ok.has _ (.inl k)) fun k => I.ok.has _ (.inr k)
  have cm := fun {y : Str} {c : Addr} (e : (cloFrom X.env.cells scope.names []).lookup y = some c) => gx_cells I free e
  have there : ∀ {y : Str}, scope.names.lookup y = some .free → ∃ c, (cloFrom X.env.cells scope.names []).lookup y = some c ∧ X.env.cells.lookup y = some c := fun {y} hl => by
    obtain ⟨c', e'⟩ := mem_lookup (cloFrom_has (cells := X.env.cells) (acc := []) (PySem.mem_of_lookup hl))
    exact ⟨c', e', (cm e').1⟩
  have young : ∀ b o, s.heap.get? b = some o → b ≠ s.heap.objs.size := fun b o e => Nat.ne_of_lt (Heap.lt_size e)
  have okG : (X.gx Ag s H (gxEnv X scope s.heap.objs.size code) fp).Ok := {
    mod := I.ok.mod, kind := ok.kind, glob := I.ok.glob, blt := rfl, above := Nat.le_refl _
    inj := fun x y c e1 e2 => I.ok.inj x y c (cm e1).1 (cm e2).1
    has := fun x hx => by
      rcases hx with hx | hx
      · exact absurd rfl (nc _ (PySem.mem_of_lookup hx))
      · obtain ⟨c, e, _⟩ := there hx
        exact ⟨c, e⟩
    cab := fun x c z _ => nomatch z
    hd := hA, frames := hfr, stk := .inr ⟨rfl, rfl⟩
    exf := fun b hb => ⟨Nat.ne_of_lt (hfp b hb).2, fun x c e => (hfp b hb).1.2.2.2.2.1 x c (cm e).1⟩
    bs := I.bs, bsz := Nat.le_trans I.ok.bsz I.sz
    noex := fun b o e hb => by
      rcases (hfp b hb).1.2.2.2.1 with z | z
      · exact I.ok.noex b o e z
      · exact absurd (Nat.lt_of_lt_of_le (Heap.lt_size e) (Nat.le_trans I.ok.bsz z)) (Nat.lt_irrefl _)
    exfs := fun b hb z => (List.mem_cons.mp (I.stkSub b z)).elim (hfp b hb).1.2.1 (hfp b hb).1.2.2.1
    funs := I.stack, frf := I.stkFree }
  refine { ok := okG, os := rfl, bare := hg, base := Un.kept keep, loc := ⟨m, ns, fun i y v e1 e2 e3 => ?_⟩, cell := fun y c e => ?_, free := I.hok.fresh (Nat.le_refl _), freeC := fun y c e => I.freeC y c (cm e).1, pin := fun p hp => ?_, hok := I.hok.kept keep, len := by rw [wipe_length]; exact I.len }
  · obtain ⟨e2, hne⟩ := wipe_some e2
    have notOwn : ∀ k, scope.names.lookup y = some k → k = .local ∨ k = .cell → False := fun k hk hk' => by
      rcases ok.own _ (PySem.mem_of_lookup hk) hk' with z | z
      · obtain ⟨p, hp, hpy⟩ := List.mem_map.mp z
        exact hne (List.mem_map.mpr ⟨p, hp, nodup_ix hN (by rw [ok.ix p hp, show p.1 = y from hpy]) e1⟩)
      · exact z (List.mem_of_getElem? e1)
    have fr : scope.names.lookup y = some .free := by
      rcases e3 with z | z | z
      · exact (notOwn _ z (.inl rfl)).elim
      · exact (notOwn _ z (.inr rfl)).elim
      · exact z
    obtain ⟨c, h1, h2⟩ := there fr
    obtain ⟨m', _, hl⟩ := I.loc
    have cf := ok.free _ (PySem.mem_of_lookup fr) rfl
    obtain ⟨u, r, q⟩ := hl i y v e1 e2 (cf.elim (fun k => .inr (.inl k)) fun k => .inr (.inr k))
    refine ⟨u, r, .inr ⟨.inr fr, c, h1, ?_⟩⟩
    rcases q with ⟨k, _⟩ | ⟨_, c', e', z⟩
    · have k : X.env.scope.names.lookup y = some .local := k
      rcases cf with z | z <;> (rw [show X.env.scope.names.lookup y = _ from z] at k; cases k)
    · rw [h2] at e'
      cases e'
      exact z.keeps keep
  · obtain ⟨v, z⟩ := I.cell y c (cm e).1
    exact ⟨v, z.keeps keep⟩
  · obtain rfl : p = (a, go) := List.mem_singleton.mp (show p ∈ [(a, go)] from hp)
    refine ⟨ha, I.hok.fresh (Nat.le_of_lt la), Nat.ne_of_gt la, fun z => ?_, nv⟩
    obtain ⟨_, o, ho, _⟩ := I.stack.mem z
    exact absurd (Nat.lt_trans (Heap.lt_size ho) la) (Nat.lt_irrefl _)
/-- the state but for its generators, texts' numbers and draws -/
theorem inv_re {X : Cx} {s s' : Shared} (I : Inv X pins σ H s) (hh : s'.heap = s.heap) (ho : s'.os = s.os) (hg : AllBare s'.gens) : Inv X pins σ H s' := by
  obtain ⟨a1, a2, a3, a4, a5, a6, a7, a8, a9, a10, a11⟩ := I
  rw [← hh] at a4 a5 a6 a9 a10
  exact ⟨a1, ho.trans a2, hg, a4, a5, a6, a7, a8, a9, a10, a11⟩
end
/-! the generator's own run -/
/-- an item handed out: a truth; the one at which the consumer stops, and the others, behind which it asks again -/
def gxY (X : Cx) (p : Addr × Obj) (st : Bool) (QS : Hp → Prop) : Protocol := fun _ _ v s kap => ∃ (b : Bool) (σ : L2.St) (H : Hp), v = .bool b ∧ Inv X [p] σ H s ∧ (b = st → QS H) ∧
  (b = !st → ∀ s2 : Shared, s2.heap = s.heap → s2.os = s.os → AllBare s2.gens → kap (.send .none) s2)
def gxP (X : Cx) (p : Addr × Obj) (QE : Hp → Prop) : Nat → Shared → Shared → Prop := fun _ _ s => ∃ (σ : L2.St) (H : Hp), Inv X [p] σ H s ∧ QE H
abbrev gxR (X : Cx) (p : Addr × Obj) (QE : Hp → Prop) : GenEnd := fun n s0 r s => r = .ok .next ∧ gxP X p QE n s0 s
/-- one turn by the walk, the target, the item -/
def gxTurn (J : It) (g : TG) (te : TE) (vs : List Nat) (st : Bool) (σ : L2.St) (QE QS : Hp → Prop) (W : Nat → Nat → Hp → Prop) : Prop := ∀ i m H, W i m H → (J.stop i H ∧ QE H) ∨ (J.go i H ∧ ∀ x H', J.yld i H x H' →
  g x (wipe σ vs) H' fun σ2 H2 => wipe σ2 vs = wipe σ vs ∧ te σ2 H2 fun y H3 => ∃ b, y = .bl b ∧ (b = st → QS H3) ∧ (b = !st → ∃ m', m' < m ∧ W (i + 1) m' H3))
section
variable {X : Cx} {p : Addr × Obj} {st : Bool} {QE QS : Hp → Prop} {J : It} {g : TG} {te : TE} {vs : List Nat} {σ : L2.St} {W : Nat → Nat → Hp → Prop} {fp : List Addr} {it : Addr} {tn : Nat → Heap → Prop} {elt tg iter : Expr} {scope : Scope} {pos : Pos} {A0 : Around}
theorem gx_loop (hA : X.A = A0.over (.compLoop (.GeneratorExp elt [⟨tg, iter, [], 0⟩] scope pos) 0 (.ref it) .none X.env) []) (hco : X.env.scope.isCoroutine = false) (hx : ∀ e s, X.xe e s → False) (hc : X.calm = true)
    (T : Turn X.prog X.w X.K tg J fp it tn) (hex : ∀ b ∈ fp, b ∈ X.ex) (hpn : X.pn = []) (hap : ∀ b ∈ fp, p.1 ≠ b) (pg : PG X tg g) (pe : PE X elt te) (turn : gxTurn J g te vs st σ QE QS W) :
    ∀ (n i m : Nat) (H : Hp) (s s0 : Shared), m + 1 ≤ n → Inv X [p] (wipe σ vs) H s → tn i s.heap → (∀ b ∈ fp, H b = none) → W i m H →
      Seg (model X.prog X.w) A0 (gxR X p QE) (gxY X p st QS) n s0 (.compLoop (.GeneratorExp elt [⟨tg, iter, [], 0⟩] scope pos) 0 (.ref it) .none X.env)
        ((model X.prog X.w).den (.compLoop (.GeneratorExp elt [⟨tg, iter, [], 0⟩] scope pos) 0 (.ref it) .none X.env)) [] s := by
  have stat : ∀ {σ' : L2.St} {H' : Hp} {s' : Shared}, Inv X [p] σ' H' s' → (∀ b ∈ fp, H' b = none) → ∀ b ∈ fp, FpOk X [p] H' b := fun {σ' H' s'} I' hn b hb =>
    ⟨hn b hb, (I'.ok.exf b (hex b hb)).1, I'.ok.exfs b (hex b hb), .inl (hex b hb), (I'.ok.exf b (hex b hb)).2, fun q hq => by
      rw [hpn] at hq
      rw [List.mem_singleton.mp (show q ∈ [p] from hq)]
      exact hap b hb⟩
  intro n
  induction n with
  | zero => intro i m H s s0 hm; omega
  | succ n ih =>
    intro i m H s s0 hm I t hn w
    show Seg _ A0 _ _ _ s0 _ ((compTurn (.GeneratorExp elt [⟨tg, iter, [], 0⟩] scope pos) 0 (.ref it) .none X.env).onRaise (leaving X.env)) [] s
    rw [compTurn_gen, Sem.onRaise_eq_wrap]
    refine seg_bind_wrap (wpAny_standAt ?_)
    rcases turn i m H w with ⟨stop, qe⟩ | ⟨go, step⟩
    · have d := T.done X rfl rfl rfl hc i [p] s _ H (fun _ _ => False) I (stat I hn) t stop
      rw [hA] at d
      exact seg_bind_wrap (thnF d fun r s1 ⟨hr, I1⟩ => by subst hr; exact seg_end (.ok .next) ⟨rfl, _, _, I1, qe⟩)
    · have d := T.item X rfl rfl rfl hc i [p] s _ H (fun _ _ => False) I (stat I hn) t go
      rw [hA] at d
      refine seg_bind_wrap (thnF d fun r s1 ⟨u, hr, d1⟩ => ?_)
      subst hr
      refine seg_bind_wrap (thnF d1 fun _ s2 ⟨x, H2, I2, r2, y2, t2, n2⟩ => ?_)
      have I2' := I2.pinned (stat I2 n2) (T.obj _ _ t2)
      have dg := pg.run _ s2 _ H2 x u _ I2' r2 (step x H2 y2)
      rw [hA] at dg
      refine seg_bind_wrap (wpAny_mono dg (fun _ s3 ⟨σ3, H3, I3, w3, q3⟩ => ?_) fun e s' z => (hx e s' z).elim)
      simp only [List.forIn_nil]
      refine seg_bind_wrap (wpAny_pure ?_)
      simp only [if_true]
      have out : ∀ v, yieldOut X.env v = yieldValue v := fun v => by simp only [yieldOut, hco, Bool.false_eq_true, if_false]
      simp only [out]
      have de := pe.run _ s3 σ3 H3 _ I3 q3
      rw [hA] at de
      rw [Sem.bind_eq_wrap', Sem.bind_eq_wrap', Sem.wrap_wrap, Sem.wrap_wrap]
      refine seg_wrap (wpAny_mono de (fun v s4 ⟨y, H4, I4, r4, b, hy, qs, qn⟩ => ?_) fun e s' z => (hx e s' z).elim)
      subst hy
      obtain rfl : v = Value.bool b := r4
      have kept : ∀ b ∈ fp, ∀ o, s2.heap.get? b = some o → s4.heap.get? b = some o ∧ H4 b = none := fun b hb o e =>
        let z := I4.pin (b, o) (List.mem_append_right _ (List.mem_append_right _ (mem_pinsAt hb e)))
        ⟨z.1, z.2.1⟩
      refine seg_at (seg_yield rfl rfl rfl ⟨b, σ3, H4, rfl, I4.unpinned, qs, fun hb s5 e1 e2 e3 => ?_⟩)
      obtain ⟨m', lm, w'⟩ := qn hb
      have I5 := inv_re ((I4.unpinned (pins := [p])).weak (σ' := wipe σ vs) (by rw [← w3, wipe_length]) fun j v e => by rw [← w3] at e; exact (wipe_some e).1) e1 e2 e3
      refine seg_again rfl (ih (i + 1) m' H4 s5 s5 (by omega) I5 ?_ (fun b hb => ?_) w')
      · rw [e1]
        exact T.keep _ _ _ t2 fun b hb o e => (kept b hb o e).1
      · obtain ⟨o, e, _⟩ := T.obj _ _ t2 b hb
        exact (kept b hb o e).2
/-- its start: the iterator is asked for itself, then the loop -/
theorem gx_fresh {n : Nat} {s : Shared} (h : ∀ s0, Seg (model X.prog X.w) A0 (gxR X p QE) (gxY X p st QS) n s0 (.compLoop (.GeneratorExp elt [⟨tg, iter, [], 0⟩] scope pos) 0 (.ref it) .none X.env)
        ((model X.prog X.w).den (.compLoop (.GeneratorExp elt [⟨tg, iter, [], 0⟩] scope pos) 0 (.ref it) .none X.env)) [] s) (T : Turn X.prog X.w X.K tg J fp it tn) (t : tn 0 s.heap) (s0 : Shared) :
    Seg (model X.prog X.w) A0 (gxR X p QE) (gxY X p st QS) n s0 (.compStart (.GeneratorExp elt [⟨tg, iter, [], 0⟩] scope pos) 0 (.ref it) .none X.env)
      ((model X.prog X.w).den (.compStart (.GeneratorExp elt [⟨tg, iter, [], 0⟩] scope pos) 0 (.ref it) .none X.env)) [] s := by
  have go := seg_again (c := .compStart (.GeneratorExp elt [⟨tg, iter, [], 0⟩] scope pos) 0 (.ref it) .none X.env) (c' := .compLoop (.GeneratorExp elt [⟨tg, iter, [], 0⟩] scope pos) 0 (.ref it) .none X.env) rfl (h s0)
  show Seg _ A0 _ _ _ s0 _ ((compStart (.GeneratorExp elt [⟨tg, iter, [], 0⟩] scope pos) 0 (.ref it) .none X.env).onRaise (leaving X.env)) [] s
  unfold compStart
  rw [Sem.onRaise_eq_wrap]
  show Seg _ A0 _ _ _ s0 _ ((ask >>= _).wrap _ _ _ _) [] s
  refine seg_bind_wrap (wpAny_askSetting ?_)
  split
  · exact go
  · refine seg_bind_wrap (wpAny_rule ?_)
    show Seg _ A0 _ _ _ s0 _ ((standAt iter.pos >>= _).wrap _ _ _ _) [] s
    exact seg_bind_wrap (wpAny_standAt (seg_bind_wrap (T.self _ 0 s _ _ t go)))
end
/-! the consumer -/
section
variable {X : Cx} {a : Addr} {gn : Nat} {go : Obj} {st : Bool} {QE QS : Hp → Prop} {A : Around} {R : Result → Shared → Prop}
/-- the generator stands ready for at most n turns -/
def GxAt (X : Cx) (A : Around) (a : Addr) (go : Obj) (gn : Nat) (st : Bool) (QE QS : Hp → Prop) (n : Nat) (s : Shared) : Prop := ∃ (gs : GenState) (σ : L2.St) (H : Hp), s.gens[gn]? = some gs ∧ Inv X [(a, go)] σ H s ∧
  ∀ s2 : Shared, s2.heap = s.heap → s2.os = s.os → AllBare s2.gens → gs.Goes (model X.prog X.w) A (gxR X (a, go) QE) (gxY X (a, go) st QS) n (.send .none) s2
theorem allBare_set {gs : GenState} {s : Shared} (h : AllBare s.gens) (hb : gs.bare = true) : AllBare (s.setGen gn gs).gens := fun x hx => by
  obtain ⟨i, hi, e⟩ := Array.mem_iff_getElem.mp hx
  have e2 : (s.gens.setIfInBounds gn gs)[i]? = some x := Array.getElem?_eq_some_iff.mpr ⟨hi, e⟩
  rw [Array.getElem?_setIfInBounds] at e2
  split at e2
  · split at e2
    · cases e2; exact hb
    · cases e2
  · exact h x (Array.mem_of_getElem? e2)
theorem setGen_at {gs : GenState} {s : Shared} (h : gn < (s.setGen gn gs).gens.size) : (s.setGen gn gs).gens[gn]? = some gs := by
  rw [GenW.setGen_size] at h
  simp [Shared.setGen, h]
theorem gx_next {E : Value → Shared → Prop} {s : Shared} {n : Nat} {Qn : Option Value → Shared → Prop} (hh : A.handled = none) (hroom : A.depth < recursionLimit) (isg : ∀ h : Heap, h.get? a = some go → h.IsGen a gn) (G : GxAt X A.in1 a go gn st QE QS n s)
    (hend : ∀ s' σ H, Inv X [(a, go)] σ H s' → QE H → Qn none s') (hstop : ∀ s' σ H, Inv X [(a, go)] σ H s' → QS H → Qn (some (.bool st)) s') (hgo : ∀ k s', n = k + 1 → GxAt X A.in1 a go gn st QE QS k s' → Qn (some (.bool !st)) s') :
    wpAny (model X.prog X.w) A (pyNext (.ref a)) Qn E s := by
  obtain ⟨gs, σ, H, hgs, I, goes⟩ := G
  have at_ := fun {σ' : L2.St} {H' : Hp} {s' : Shared} (I' : Inv X [(a, go)] σ' H' s') => (I'.pin (a, go) (List.mem_append_right _ (List.mem_singleton.mpr rfl))).1
  have lt : gn + 1 ≤ s.gens.size := (Array.getElem?_eq_some_iff.mp hgs).1
  refine GenW.wpAny_gsz lt (wpAny_pyNext_genexpQ (P := gxP X (a, go) QE) hh I.nolimit hroom (isg _ (at_ I)) hgs (goes _ rfl rfl (allBare_set I.bare rfl)) (fun v s1 g1 hb hy => ?_) fun s1 ⟨σ1, H1, I1, q1⟩ h' k => ?_)
  · intro sz
    obtain ⟨b, σ1, H1, rfl, I1, qs, qn⟩ := hy
    have I2 : Inv X [(a, go)] σ1 H1 (s1.setGen gn g1) := inv_re I1 rfl rfl (allBare_set I1.bare hb)
    by_cases e : b = st
    · subst e
      exact hstop _ _ _ I2 (qs rfl)
    · have e2 : b = !st := by cases b <;> cases st <;> simp_all
      subst e2
      match n, qn rfl with
      | 0, qn => exact (qn s1 rfl rfl I1.bare).elim
      | n + 1, qn => exact hgo n _ rfl ⟨g1, σ1, H1, setGen_at sz, I2, qn⟩
  · intro _
    have I2 : Inv X [(a, go)] σ1 H1 (s1.setGen gn .finished) := inv_re I1 rfl rfl (allBare_set I1.bare rfl)
    exact hend _ _ _ (I2.kept (t' := s1.toks) k) q1
theorem gx_all_loop (hh : A.handled = none) (hroom : A.depth < recursionLimit) (isg : ∀ h : Heap, h.get? a = some go → h.IsGen a gn) (hend : ∀ s' σ H, Inv X [(a, go)] σ H s' → QE H → R (.ok (.ret (.bool true))) s')
    (hstop : ∀ s' σ H, Inv X [(a, go)] σ H s' → QS H → R (.ok (.ret (.bool false))) s') : ∀ (n : Nat) (s : Shared), GxAt X A.in1.in1 a go gn false QE QS n s → codeAny (model X.prog X.w) A (.builtin "all.loop" ⟨[.ref a], []⟩) R s := by
  intro n
  induction n with
  | zero =>
    intro s G
    refine codeAny_builtin F.entry_all_loop ?_
    rw [Around.under_plainId F.plain_all_loop _]
    show wpAny _ A.in1 (pyNext (.ref a) >>= _) _ _ s
    refine wpAny_bind (gx_next (A := A.in1) hh hroom isg G (fun s' σ H I q => ?_) (fun s' σ H I q => ?_) fun k s' e => absurd e (by omega))
    · exact wpAny_bind (wpAny_rule (wpAny_pure (hend _ _ _ I q)))
    · exact wpAny_bind (wpAny_holding (wpAny_truthy_bool (wpAny_bind (wpAny_letGo (wpAny_bind (wpAny_rule (wpAny_pure (hstop _ _ _ I q))))))))
  | succ n ih =>
    intro s G
    refine codeAny_builtin F.entry_all_loop ?_
    rw [Around.under_plainId F.plain_all_loop _]
    show wpAny _ A.in1 (pyNext (.ref a) >>= _) _ _ s
    refine wpAny_bind (gx_next (A := A.in1) hh hroom isg G (fun s' σ H I q => ?_) (fun s' σ H I q => ?_) fun k s' e G' => ?_)
    · exact wpAny_bind (wpAny_rule (wpAny_pure (hend _ _ _ I q)))
    · exact wpAny_bind (wpAny_holding (wpAny_truthy_bool (wpAny_bind (wpAny_letGo (wpAny_bind (wpAny_rule (wpAny_pure (hstop _ _ _ I q))))))))
    · cases e
      exact wpAny_bind (wpAny_holding (wpAny_truthy_bool (wpAny_bind (wpAny_letGo (wpAny_pure ⟨plainId_quiet F.plain_all_loop _, ih s' G'⟩)))))
theorem gx_any_loop (hh : A.handled = none) (hroom : A.depth < recursionLimit) (isg : ∀ h : Heap, h.get? a = some go → h.IsGen a gn) (hend : ∀ s' σ H, Inv X [(a, go)] σ H s' → QE H → R (.ok (.ret (.bool false))) s')
    (hstop : ∀ s' σ H, Inv X [(a, go)] σ H s' → QS H → R (.ok (.ret (.bool true))) s') : ∀ (n : Nat) (s : Shared), GxAt X A.in1.in1 a go gn true QE QS n s → codeAny (model X.prog X.w) A (.builtin "any.loop" ⟨[.ref a], []⟩) R s := by
  intro n
  induction n with
  | zero =>
    intro s G
    refine codeAny_builtin F.entry_any_loop ?_
    rw [Around.under_plainId F.plain_any_loop _]
    show wpAny _ A.in1 (pyNext (.ref a) >>= _) _ _ s
    refine wpAny_bind (gx_next (A := A.in1) hh hroom isg G (fun s' σ H I q => ?_) (fun s' σ H I q => ?_) fun k s' e => absurd e (by omega))
    · exact wpAny_bind (wpAny_rule (wpAny_pure (hend _ _ _ I q)))
    · exact wpAny_bind (wpAny_holding (wpAny_truthy_bool (wpAny_bind (wpAny_letGo (wpAny_bind (wpAny_rule (wpAny_pure (hstop _ _ _ I q))))))))
  | succ n ih =>
    intro s G
    refine codeAny_builtin F.entry_any_loop ?_
    rw [Around.under_plainId F.plain_any_loop _]
    show wpAny _ A.in1 (pyNext (.ref a) >>= _) _ _ s
    refine wpAny_bind (gx_next (A := A.in1) hh hroom isg G (fun s' σ H I q => ?_) (fun s' σ H I q => ?_) fun k s' e G' => ?_)
    · exact wpAny_bind (wpAny_rule (wpAny_pure (hend _ _ _ I q)))
    · exact wpAny_bind (wpAny_holding (wpAny_truthy_bool (wpAny_bind (wpAny_letGo (wpAny_bind (wpAny_rule (wpAny_pure (hstop _ _ _ I q))))))))
    · cases e
      exact wpAny_bind (wpAny_holding (wpAny_truthy_bool (wpAny_bind (wpAny_letGo (wpAny_pure ⟨plainId_quiet F.plain_any_loop _, ih s' G'⟩)))))
end
/-! the rule -/
abbrev gxAr (A : Around) (elt tg iter : Expr) (scope : Scope) (pos : Pos) (it : Addr) (env : Env) : Around := A.in1.in1.over (.compLoop (.GeneratorExp elt [⟨tg, iter, [], 0⟩] scope pos) 0 (.ref it) .none env) []
theorem gx_room {k : Nat} {A : Around} {elt tg iter : Expr} {scope : Scope} {pos : Pos} {it : Addr} {env : Env} (hr : Room (k + 1) A) : Room k (gxAr A elt tg iter scope pos it env) := by
  have e1 : (gxAr A elt tg iter scope pos it env).depth ≤ A.depth + 1 := Nat.le_of_eq rfl
  have e2 : (gxAr A elt tg iter scope pos it env).units ≤ A.units + 5 := Nat.le_of_eq rfl
  exact ⟨hr.hd, by have := hr.dp; omega, by have := hr.un; omega⟩
section
variable {X : Cx} {pins : List (Addr × Obj)} {σ : L2.St} {H : Hp} {s : Shared} {scope : Scope} {own : List (Str × Nat)} {elt tg iter : Expr} {gpos : Pos} {c P : Addr} {wi : TI} {g : TG} {te : TE} {k : Nat} {st : Bool} {QE QS : Hp → Prop}
/-- the generator is made at a; s4, H4: ahead of its frame -/
def GxMade (X : Cx) (pins : List (Addr × Obj)) (σ : L2.St) (elt tg iter : Expr) (scope : Scope) (gpos : Pos) (st : Bool) (QE QS : Hp → Prop) (a : Addr) (s5 : Shared) : Prop := ∃ (s4 : Shared) (H4 : Hp) (cenv : Env) (it : Addr) (fp : List Addr) (go : Obj) (gn n : Nat), Inv X pins σ H4 s4 ∧ (∀ b ∈ fp, FpOk X pins H4 b) ∧
  (∀ h : Heap, h.get? a = some go → h.IsGen a gn) ∧ GxAt (X.gx (gxAr X.A elt tg iter scope gpos it cenv) s4 H4 cenv fp) X.A.in1.in1 a go gn st QE QS n s5
theorem gx_made {Q' : Value → Shared → Prop} (hr : Room (k + 1) X.A) (hc : X.calm = true) (hN : X.N.Nodup) (TB : GxR.TabB X.base X.mg c P) (hcode : X.env.code = .ref c) (ok : BlkOk X.N X.env.scope scope own) (nc : ∀ y ∈ scope.names, y.2 ≠ .cell)
    (hdot : scope.names.lookup (".0" : Str) = some .local) (hco : scope.isCoroutine = false) (hi : PI X tg iter wi) (hg : ∀ (Ag : Around) (s : Shared) (H : Hp) (C : Addr) (code : Value) (fp : List Addr), PG (X.gx Ag s H (gxEnv X scope C code) fp) tg g)
    (he : ∀ (Ag : Around) (s : Shared) (H : Hp) (C : Addr) (code : Value) (fp : List Addr), Room k Ag → PE (X.gx Ag s H (gxEnv X scope C code) fp) elt te) (hs : ∀ v, genFold iter X.env v = pure v) (I : Inv X pins σ H s)
    (h : wi σ H fun J H1 => H1 P = some (TbX P) ∧ ∃ W, (∃ m, W 0 m H1) ∧ gxTurn J g te (own.map (·.2)) st σ QE QS W) (hQ : ∀ a s5, GxMade X pins σ elt tg iter scope gpos st QE QS a s5 → Q' (.ref a) s5) :
    wpAny (model X.prog X.w) X.A (eval (.GeneratorExp elt [⟨tg, iter, [], 0⟩] scope gpos) X.env) Q' X.xe s := by
  have free : ∀ y ∈ scope.names, y.2 = .free → ∃ c, X.env.cells.lookup y.1 = some c := fun y hy e => (ok.free y hy e).elim (fun k => I.ok.has _ (.inl k)) fun k => I.ok.has _ (.inr k)
  refine wpAny_GeneratorExp_make hco (closure_ok free) nc hdot ok.kind hr.depth (thn (hi.run pins s σ H _ I h) fun xv s1 hx => thn hx fun itv s2 h2 => ?_) hs
  obtain ⟨it, fp, tn, J, H2, rfl, I2, T, t2, f2, hP, W, ⟨m0, w0⟩, turn⟩ := h2
  refine ⟨I2.nolimit, gx_code TB hcode I2 hP fun code h3 tk I3 k3 z3 => ?_⟩
  obtain ⟨bm, ob, e1, e2, _, _, e5, e6, e7, e8⟩ := TB.bm
  refine wpAny_builtinsFor (m := X.mg) (by rw [I3.ok.glob]; exact I3.mod.glob.keeps I3.bk) e1 e2 (I3.bk _ _ e5) e6 e7 e8 ?_
  have fP : ∀ b ∈ fp, b ≠ P := fun b hb z => by
    have := (f2 b hb).1
    rw [z, hP] at this
    cases this
  have t3 : tn 0 h3 := T.keep _ _ _ t2 fun b hb o e => k3 b o (fP b hb) e
  have f3 : ∀ b ∈ fp, FpOk X pins H2 b ∧ b < h3.objs.size := fun b hb => by
    obtain ⟨o, e, _⟩ := T.obj _ _ t3 b hb
    exact ⟨f2 b hb, Heap.lt_size e⟩
  intro h4 ns sb
  have k4 : ∀ b o, h3.get? b = some o → h4.get? b = some o := fun b o e => sb.extBut b o (Nat.ne_of_lt (Heap.lt_size e)) (Heap.get?_push_of_some _ e)
  have z4 : h4.objs.size = h3.objs.size + 1 := by rw [sb.1, Heap.size_push]
  generalize hgo : ({ cls := .type "generator", data := .fields _ } : Obj) = go
  have nv : ∀ v, go.data ≠ .cell v := fun v z => by rw [← hgo] at z; cases z
  have k5 : ∀ b o, h3.get? b = some o → (h4.push go).get? b = some o := fun b o e => Heap.get?_push_of_some _ (k4 b o e)
  have t5 : tn 0 (h4.push go) := T.keep _ _ _ t3 fun b _ o e => k5 b o e
  have fr : (gxAr X.A elt tg iter scope gpos it (gxEnv X scope h3.objs.size code)).frames = some (gxEnv X scope h3.objs.size code :: X.stack) := by
    have e : (gxAr X.A elt tg iter scope gpos it (gxEnv X scope h3.objs.size code)).frames = pushEnvs (Code.envs (.compLoop (.GeneratorExp elt [⟨tg, iter, [], 0⟩] scope gpos) 0 (.ref it) .none (gxEnv X scope h3.objs.size code))) (pushEnvs (envsOf (([] : List Frame).map Frame.where_)) X.A.frames) := rfl
    rw [e, I.ok.frames]
    rfl
  have IG := fun (g5 : Array GenState) (tk5 : Nat) (hb : AllBare g5) => gx_start (Ag := gxAr X.A elt tg iter scope gpos it (gxEnv X scope h3.objs.size code)) (code := code) (h5 := h4.push go) (tk := tk5) (g5 := g5) (a := h4.objs.size) (go := go) I3 ok nc hN f3 (fun _ => hr.hd) fr k5 (ns.push _) (Heap.get?_push_size _ (by rw [← hgo]; rfl)) (by show h3.objs.size < h4.objs.size; omega) nv hb
  have I5 := IG _ (s2.toks) (AllBare.push (g := .fresh (.compStart (.GeneratorExp elt [⟨tg, iter, [], 0⟩] scope gpos) 0 (.ref it) .none (gxEnv X scope h3.objs.size code))) I3.bare rfl)
  refine hQ _ _ ⟨_, H2, gxEnv X scope h3.objs.size code, it, fp, go, s2.gens.size, m0 + 1, I3, f2, fun h e => ⟨go, _, _, e, by rw [← hgo], by rw [← hgo], by rw [← hgo]⟩, ?_⟩
  refine ⟨_, _, H2, Array.getElem?_push_size .., inv_re I5 rfl rfl I5.bare, fun s6 q1 q2 q3 => ⟨rfl, ?_⟩⟩
  have I6 := inv_re (s' := s6) I5 q1 q2 q3
  have t6 : tn 0 s6.heap := by rw [q1]; exact t5
  refine gx_fresh (X := X.gx (gxAr X.A elt tg iter scope gpos it (gxEnv X scope h3.objs.size code)) _ H2 (gxEnv X scope h3.objs.size code) fp) (fun s0 => ?_) T t6 s6
  exact gx_loop (X := X.gx (gxAr X.A elt tg iter scope gpos it (gxEnv X scope h3.objs.size code)) _ H2 (gxEnv X scope h3.objs.size code) fp) rfl hco (fun _ _ z => z) hc T (fun b hb => hb) rfl (fun b hb z => by
    have q : b < h3.objs.size := (f3 b hb).2
    have e : h4.objs.size = b := z
    have z5 : h4.objs.size = h3.objs.size + 1 := z4
    exact absurd (e ▸ q : h4.objs.size < h3.objs.size) (by rw [z5]; exact Nat.not_lt.mpr (Nat.le_succ _))) (hg _ _ _ _ _ _) (he _ _ _ _ _ _ (gx_room hr)) turn (m0 + 1) 0 m0 H2 s6 s0 (Nat.le_refl _) I6 t6 (fun b hb => (f2 b hb).1) w0
/-- behind it: the def's own state again -/
theorem gx_back {A2 : Around} {s4 : Shared} {H4 : Hp} {cenv : Env} {fp : List Addr} {p : Addr × Obj} {σ2 : L2.St} {H2 : Hp} {s' : Shared} (I : Inv X pins σ H4 s4) (hf : ∀ b ∈ fp, FpOk X pins H4 b) (I2 : Inv (X.gx A2 s4 H4 cenv fp) [p] σ2 H2 s') : Inv X pins σ H2 s' :=
  I.call' (ch := fp) I2.os I2.base I2.hok I2.bare fun b hb => let ⟨_, f1, _, f3, f4, f5⟩ := hf b hb; ⟨f3, f1, f4, f5⟩
/-- all(item for target in iter) where st is false, any(..) where it is true; it ends at the first st -/
def tAA (P : Addr) (st : Bool) (wi : TI) (g : TG) (te : TE) (vs : List Nat) : TE := fun σ H Q => wi σ H fun J H1 => H1 P = some (TbX P) ∧ ∃ W, (∃ m, W 0 m H1) ∧ gxTurn J g te vs st σ (fun H => Q (.bl (!st)) H) (fun H => Q (.bl st) H) W
theorem pe_all {p pos : Pos} (hr : Room (k + 1) X.A) (hc : X.calm = true) (hN : X.N.Nodup) (hgl : Gl X "all") (hm : X.mg "all" = none) (hb : bootBuiltins "all" = some (.builtin "all")) (TB : GxR.TabB X.base X.mg c P) (hcode : X.env.code = .ref c) (ok : BlkOk X.N X.env.scope scope own) (nc : ∀ y ∈ scope.names, y.2 ≠ .cell)
    (hdot : scope.names.lookup (".0" : Str) = some .local) (hco : scope.isCoroutine = false) (hi : PI X tg iter wi) (hg : ∀ (Ag : Around) (s : Shared) (H : Hp) (C : Addr) (code : Value) (fp : List Addr), PG (X.gx Ag s H (gxEnv X scope C code) fp) tg g)
    (he : ∀ (Ag : Around) (s : Shared) (H : Hp) (C : Addr) (code : Value) (fp : List Addr), Room k Ag → PE (X.gx Ag s H (gxEnv X scope C code) fp) elt te) (hs : ∀ v, genFold iter X.env v = pure v := by intro _; rfl)
    (hst : starEach [.GeneratorExp elt [⟨tg, iter, [], 0⟩] scope gpos] X.env = (false, eval (.GeneratorExp elt [⟨tg, iter, [], 0⟩] scope gpos) X.env) :: starEach [] X.env := by rfl) :
    PE X (.Call (.Name "all" p) [.GeneratorExp elt [⟨tg, iter, [], 0⟩] scope gpos] [] pos) (tAA P false wi g te (own.map (·.2))) := ⟨fun pins s σ H Q I h => by
  refine wpAny_Call_Name_kw (ld_blt I hgl hm hb (PyProof.Rows.callWith_builtin1 ?_ hst (by rfl)))
  rw [hst]
  refine Calls.spliced_cons (gx_made hr hc hN TB hcode ok nc hdot hco hi hg he hs I h fun a s5 made => Calls.spliced_nil ?_)
  obtain ⟨s4, H4, cenv, it, fp, go, gn, n, I4, f4, isg, G⟩ := made
  have isg5 : s5.heap.IsGen a gn := isg _ (let ⟨_, _, _, _, J, _⟩ := G; (J.pin (a, go) (List.mem_append_right _ (List.mem_singleton.mpr rfl))).1)
  refine call_function_tree F.kind_all F.plain_all F.entry_all (F.args_all1 _) ?_
  unfold Builtin.«all»
  refine wpAny_bind (m := oneArg "all" _) (wpAny_pure (wpAny_bind (wpAny_pyIter_gen isg5 (wpAny_pure ⟨plainId_quiet F.plain_all_loop _, ?_⟩))))
  exact gx_all_loop (X := X.gx (gxAr X.A elt tg iter scope gpos it cenv) s4 H4 cenv fp) hr.hd hr.depth isg (fun s' σ' H' J q => ⟨.bl true, H', gx_back I4 f4 J, rfl, q⟩) (fun s' σ' H' J q => ⟨.bl false, H', gx_back I4 f4 J, rfl, q⟩) n s5 G⟩
theorem pe_any {p pos : Pos} (hr : Room (k + 1) X.A) (hc : X.calm = true) (hN : X.N.Nodup) (hgl : Gl X "any") (hm : X.mg "any" = none) (hb : bootBuiltins "any" = some (.builtin "any")) (TB : GxR.TabB X.base X.mg c P) (hcode : X.env.code = .ref c) (ok : BlkOk X.N X.env.scope scope own) (nc : ∀ y ∈ scope.names, y.2 ≠ .cell)
    (hdot : scope.names.lookup (".0" : Str) = some .local) (hco : scope.isCoroutine = false) (hi : PI X tg iter wi) (hg : ∀ (Ag : Around) (s : Shared) (H : Hp) (C : Addr) (code : Value) (fp : List Addr), PG (X.gx Ag s H (gxEnv X scope C code) fp) tg g)
    (he : ∀ (Ag : Around) (s : Shared) (H : Hp) (C : Addr) (code : Value) (fp : List Addr), Room k Ag → PE (X.gx Ag s H (gxEnv X scope C code) fp) elt te) (hs : ∀ v, genFold iter X.env v = pure v := by intro _; rfl)
    (hst : starEach [.GeneratorExp elt [⟨tg, iter, [], 0⟩] scope gpos] X.env = (false, eval (.GeneratorExp elt [⟨tg, iter, [], 0⟩] scope gpos) X.env) :: starEach [] X.env := by rfl) :
    PE X (.Call (.Name "any" p) [.GeneratorExp elt [⟨tg, iter, [], 0⟩] scope gpos] [] pos) (tAA P true wi g te (own.map (·.2))) := ⟨fun pins s σ H Q I h => by
  refine wpAny_Call_Name_kw (ld_blt I hgl hm hb (PyProof.Rows.callWith_builtin1 ?_ hst (by rfl)))
  rw [hst]
  refine Calls.spliced_cons (gx_made hr hc hN TB hcode ok nc hdot hco hi hg he hs I h fun a s5 made => Calls.spliced_nil ?_)
  obtain ⟨s4, H4, cenv, it, fp, go, gn, n, I4, f4, isg, G⟩ := made
  have isg5 : s5.heap.IsGen a gn := isg _ (let ⟨_, _, _, _, J, _⟩ := G; (J.pin (a, go) (List.mem_append_right _ (List.mem_singleton.mpr rfl))).1)
  refine call_function_tree F.kind_any F.plain_any F.entry_any (F.args_any1 _) ?_
  unfold Builtin.«any»
  refine wpAny_bind (m := oneArg "any" _) (wpAny_pure (wpAny_bind (wpAny_pyIter_gen isg5 (wpAny_pure ⟨plainId_quiet F.plain_any_loop _, ?_⟩))))
  exact gx_any_loop (X := X.gx (gxAr X.A elt tg iter scope gpos it cenv) s4 H4 cenv fp) hr.hd hr.depth isg (fun s' σ' H' J q => ⟨.bl false, H', gx_back I4 f4 J, rfl, q⟩) (fun s' σ' H' J q => ⟨.bl true, H', gx_back I4 f4 J, rfl, q⟩) n s5 G⟩
end
/-- a def whose code object is at c -/
theorem funOkT {P : Program} {w : World} {K : PySem.W.Frag} {mg : Str → Option Value} {base : Heap} {c : Addr} {x qual : Str} {st : Stmt} {f : Addr} {fd : FuncData} {N ps : List Str} {k : Nat} {sp : Sp} (hc : fd.code = .ref c) (F : Fun K x qual st f fd) (S : FnScope N ps (defScope st)) (len : ∀ vs H Q E, sp vs H Q E → vs.length = ps.length)
    (hbody : ∀ (A : Around) (outer : List Env) (s : Shared) (H : Hp) (vs : List V) (Q : VK) (E : XK), Room k (A.deeper (envOfC qual (defScope st) s.heap.objs.size f (.ref c))) → sp vs H Q E →
      ∃ t, PSs (cxOf CX0 P w K mg base N qual (defScope st) f (.ref c) A outer s H E).nox (defBody st) t ∧ t { nx := fun _ H' => Q .non H', rt := Q } (start N vs) H) : FnOk P w K mg base CX0 (k + 1) f fd ps sp := by
  obtain ⟨oc, od, kV, doc, pm, an, cdv, ct, osl, rfl, lk, hcd⟩ := F.ex
  obtain rfl : cdv = .ref c := hc
  exact fn_of lk hcd S len fun A outer s H vs Q E hr hsp => let ⟨t, h, q⟩ := hbody A outer s H vs Q E hr hsp; ⟨t, h.nox, q⟩
/-- readings -/
theorem d_aa {P : Addr} {st : Bool} {wi : TI} {g : TG} {te : TE} {vs : List Nat} {σ : L2.St} {H : Hp} {Q : VK} (h : wi σ H fun J H1 => H1 P = some (TbX P) ∧ ∃ W, (∃ m, W 0 m H1) ∧ gxTurn J g te vs st σ (fun H => Q (.bl (!st)) H) (fun H => Q (.bl st) H) W) : tAA P st wi g te vs σ H Q := h
theorem aa_it {J : It} {n : Nat} {G : Hp → Prop} {Y : Nat → Hp → V → Hp → Prop} (w : Walk J n G Y) {g : TG} {te : TE} {vs : List Nat} {st : Bool} {σ : L2.St} {H1 : Hp} {QE QS : Hp → Prop} (Pv : Nat → Hp → Prop) (h0 : Pv 0 H1) (hG : ∀ i H, i ≤ n → Pv i H → G H)
    (hs : ∀ i x H H', i < n → Pv i H → Y i H x H' → g x (wipe σ vs) H' fun σ2 H2 => wipe σ2 vs = wipe σ vs ∧ te σ2 H2 fun y H3 => ∃ b, y = .bl b ∧ (b = st → QS H3) ∧ (b = !st → Pv (i + 1) H3)) (hd : ∀ H, Pv n H → QE H) :
    ∃ W, (∃ m, W 0 m H1) ∧ gxTurn J g te vs st σ QE QS W := by
  refine ⟨fun i m H => m = n - i ∧ i ≤ n ∧ Pv i H, ⟨n, by simp, Nat.zero_le _, h0⟩, ?_⟩
  rintro i m H ⟨rfl, hi, p⟩
  have gg := hG i H hi p
  rcases Nat.lt_or_eq_of_le hi with lt | rfl
  · have imp : ∀ {x : V} {H' : Hp} {y : V} {H3 : Hp}, (∃ b, y = V.bl b ∧ (b = st → QS H3) ∧ (b = !st → Pv (i + 1) H3)) → ∃ b, y = V.bl b ∧ (b = st → QS H3) ∧ (b = !st → ∃ m', m' < n - i ∧ m' = n - (i + 1) ∧ i + 1 ≤ n ∧ Pv (i + 1) H3) := fun ⟨b, e, q1, q2⟩ => ⟨b, e, q1, fun z => ⟨n - (i + 1), by omega, rfl, lt, q2 z⟩⟩
    refine .inr ⟨w.goes i H lt gg, fun x H' y => ?_⟩
    have z := hs i x H H' lt p (w.yields i H x H' lt gg y)
    have e : (fun (y : V) (H3 : Hp) => ∃ b, y = V.bl b ∧ (b = st → QS H3) ∧ (b = !st → ∃ m', m' < n - i ∧ m' = n - (i + 1) ∧ i + 1 ≤ n ∧ Pv (i + 1) H3)) = fun y H3 => ∃ b, y = V.bl b ∧ (b = st → QS H3) ∧ (b = !st → Pv (i + 1) H3) := by
      funext y H3
      refine propext ⟨fun ⟨b, e, q1, q2⟩ => ⟨b, e, q1, fun z => ?_⟩, fun q => imp (x := x) (H' := H') q⟩
      obtain ⟨_, _, _, _, q⟩ := q2 z
      exact q
    show g x (wipe σ vs) H' fun σ2 H2 => wipe σ2 vs = wipe σ vs ∧ te σ2 H2 (fun (y : V) (H3 : Hp) => ∃ b, y = V.bl b ∧ (b = st → QS H3) ∧ (b = !st → ∃ m', m' < n - i ∧ m' = n - (i + 1) ∧ i + 1 ≤ n ∧ Pv (i + 1) H3))
    rw [e]
    exact z
  · exact .inl ⟨w.stops H gg, hd H p⟩
end Cw

namespace Cw
open PySem PySem.Spec PyProof.Rows L2
/-! ### the end of a law whose defs hold generator expressions: their tables are tracked, and may grow -/
/-- what is tracked at the law's entry: the tables, and the script where it is not written -/
def entry (T : List Addr) (K : PySem.W.Frag) (a : Addr) (o : Obj) (xs : List V) : Hp := fun b => if b ∈ T then some (TbX b) else if b = a ∧ (K.lookup a).isNone = true then some (.frz o (.lst xs)) else none
section
variable {T : List Addr} {K : PySem.W.Frag} {a b : Addr} {o : Obj} {xs : List V} {u : HO}
theorem entry_tab (h : b ∈ T) : entry T K a o xs b = some (TbX b) := if_pos h
theorem entry_cases (h : entry T K a o xs b = some u) : (b ∈ T ∧ u = TbX b) ∨ (b ∉ T ∧ b = a ∧ K.lookup a = none ∧ u = .frz o (.lst xs)) := by
  unfold entry at h
  split at h
  · rename_i hb; exact .inl ⟨hb, (Option.some.inj h).symm⟩
  · rename_i hb
    split at h
    · rename_i ha; exact .inr ⟨hb, ha.1, Option.isNone_iff_eq_none.mp ha.2, (Option.some.inj h).symm⟩
    · cases h
theorem entry_none (hT : b ∉ T) (ha : b ≠ a ∨ ∃ z, K.lookup a = some z) : entry T K a o xs b = none := by
  cases e : entry T K a o xs b with
  | none => rfl
  | some u =>
    rcases entry_cases e with ⟨h, _⟩ | ⟨_, h, h2, _⟩
    · exact absurd h hT
    · rcases ha with z | ⟨z, e2⟩
      · exact absurd h z
      · rw [h2] at e2; cases e2
end
/-- a promise of a def where it is called from one place -/
structure FnAt (P : Program) (w : World) (K : PySem.W.Frag) (mg : Str → Option Value) (base : Heap) (A : Around) (f : Addr) (fd : FuncData) (ps : List Str) (sp : Sp) : Prop where
  run : ∀ (outer : List Env) (s : Shared) (H : Hp) (args : Args) (us : List Value) (vs : List V) (Q : VK) (E : XK), Env0 P w K mg base A outer s H → BindsTo s fd args (ps.zip us) → Vals vs us → sp vs H Q E → codeAny (model P w) A (.call (.ref f) args) (CR CX0 outer P w H s Q E) s
theorem FnAt.of {P : Program} {w : World} {K : PySem.W.Frag} {mg : Str → Option Value} {base : Heap} {A : Around} {k : Nat} {f : Addr} {fd : FuncData} {ps : List Str} {sp : Sp} (F : FnOk P w K mg base CX0 k f fd ps sp) (hr : Room k A) : FnAt P w K mg base A f fd ps sp :=
  ⟨fun outer s H args us vs Q E => F.run A outer s H args us vs Q E hr⟩
/-- by its body, where what stands around is known (its guards, say) -/
theorem fun_at {P : Program} {w : World} {K : PySem.W.Frag} {mg : Str → Option Value} {base : Heap} {A : Around} {x qual : Str} {st : Stmt} {f : Addr} {fd : FuncData} {N ps : List Str} {k : Nat} {sp : Sp} (F : Fun K x qual st f fd) (S : FnScope N ps (defScope st)) (ha : Room (k + 1) A)
    (len : ∀ vs H Q E, sp vs H Q E → vs.length = ps.length)
    (body : ∀ (cdv : Value) (outer : List Env) (s : Shared) (H : Hp) (vs : List V) (Q : VK) (E : XK), Room k (A.deeper (envOfC qual (defScope st) s.heap.objs.size f cdv)) → sp vs H Q E →
      ∃ t, PSs (cxOf CX0 P w K mg base N qual (defScope st) f cdv A outer s H E).nox (defBody st) t ∧ t { nx := fun _ H' => Q .non H', rt := Q } (start N vs) H) : FnAt P w K mg base A f fd ps sp := by
  obtain ⟨oc, od, kV, doc, pm, an, cdv, ct, osl, rfl, at_, code⟩ := F.ex
  refine ⟨fun outer s H args us vs Q E e0 bnd rv want => ?_⟩
  have nvs := len _ _ _ _ want
  have stays : ∀ b o, base.get? b = some o → s.heap.get? b = some o := fun b o e => (e0.bs b o e).1
  have inK : K.In s.heap := e0.mod.kin.keeps stays
  have kinds : ∀ y ∈ ps.zip us, (defScope st).names.lookup y.1 = some .local ∨ ((defScope st).names.lookup y.1 = some .cell ∧ ((cellsFrom (s.heap.objs.size + 1) (defScope st).names []).lookup y.1).isSome = true) := fun y hy =>
    (S.par y.1 (List.of_mem_zip (show (y.1, y.2) ∈ ps.zip us from hy)).1).imp_right fun q => ⟨q, PySem.W.cellsFrom_some _ _ _ (.inl q)⟩
  refine codeAny_call_function ha.depth (inK _ _ at_) rfl S.co S.gen rfl (PySem.W.codeRec_of inK code) (bnd _ _ _ _ (wpAny_newFunctionEnv_cells S.kind kinds fun env he s1 made => ?_))
  cases he
  obtain ⟨t, ht, hq⟩ := body cdv outer s H vs Q E (ha.deeper _) want
  refine ⟨(e0.mod.nolimit.keeps stays).keeps made.toInCall.keep, codeAny_func (wpAny_mono (ht.nox.run [] s1 (start N vs) H _ (inv_start S ha.hd e0 nvs rv made) hq) (fun fl s' hs => ?_) fun _ _ hs => hs)⟩
  match fl, hs with
  | .ret u, ⟨v, _, H', J, r, q⟩ => exact ⟨v, H', J.os, J.bare, J.base, J.hok, r, q⟩
  | .next, ⟨_, H', J, q⟩ => exact ⟨.non, H', J.os, J.bare, J.base, J.hok, rfl, q⟩
  | .brk, ⟨_, _, _, q⟩ => exact q.elim
  | .cont, ⟨_, _, _, q⟩ => exact q.elim
abbrev tab0 : Obj := { cls := .none, data := .fields #[] }
theorem law_tabs {P : Program} {w : World} {K : PySem.W.Frag} {mg mb : Str → Option Value} {fa a : Addr} {cs : List (Addr × Addr)} {fd : FuncData} {x : Str} {sp : Sp} {s : Shared} {vs : List Value} {ns : List Int}
    (KX : K.In s.heap) (hns : s.heap.Ns mainGlobals mg) (hb : s.heap.Ns builtinsNs mb) (hbb : ∀ x : Str, x ≠ "__name__" → mb x = bootBuiltins x) (hlim : s.heap.NoLimit) (hg : s.gens = #[])
    (hT : ∀ p ∈ cs, s.heap.get? p.2 = some tab0) (nT : ∀ p ∈ cs, K.lookup p.2 = none) (C : ∀ p ∈ cs, PySem.W.CodeHd s.heap p.1 p.2)
    (hbm : ∃ (bm : Addr) (ob : Obj), mg "__builtins__" = some (.ref bm) ∧ bm ≠ builtinsNs ∧ s.heap.get? bm = some ob ∧ ob.cls = .type "module" ∧ ob.dict = some builtinsNs ∧ ob.data = .plain)
    (ha : s.heap.get? a = some { cls := .type "list", data := .seq vs.toArray }) (hi : IntsAre vs ns) (hl : ns.length ≤ sizeLine)
    (F : ∀ base : Heap, K.In base → base.Ns mainGlobals mg → (∀ p ∈ cs, GxR.TabB base mg p.1 p.2) → FnAt P w K mg base callerA fa fd [x] sp) (hbind : ∀ (s : Shared) (u : Value), BindsTo s fd ⟨[u], []⟩ [(x, u)])
    (hsp : ∀ H : Hp, (∀ p ∈ cs, H p.2 = some (TbX p.2)) → SqL K H a (ns.map V.int) → sp [.ref a] H (fun v H' => v = .bl true ∧ ∀ p ∈ cs, H' p.2 = some (TbX p.2)) fun _ _ _ => False)
    :
    codeAny (model P w) callerA (.call (.ref fa) ⟨[.ref a], []⟩) (fun r s' => r = .ok (.ret (.bool true)) ∧ OldK s.heap s'.heap ∧ s'.os = s.os ∧ AllBare s'.gens) s := by
  have inT : ∀ {b}, b ∈ cs.map (·.2) → ∃ p ∈ cs, p.2 = b := fun h => by simpa using h
  have atT : ∀ {b}, b ∈ cs.map (·.2) → s.heap.get? b = some tab0 := fun h => let ⟨p, hp, e⟩ := inT h; e ▸ hT p hp
  have rv : Vals (ns.map V.int) vs := vals_ints hi
  have lv : (ns.map V.int).length = vs.length := rv.length
  generalize hH : entry (cs.map (·.2)) K a { cls := .type "list", data := .seq vs.toArray } (ns.map V.int) = H
  have tabH : ∀ p ∈ cs, H p.2 = some (TbX p.2) := fun p hp => by rw [← hH]; exact entry_tab (List.mem_map.mpr ⟨p, hp, rfl⟩)
  -- what is neither a table nor a list is not tracked
  have off : ∀ {b : Addr} {o : Obj}, s.heap.get? b = some o → o.data ≠ .fields #[] → (∀ zs n, o.data ≠ .seq zs n) → H b = none := fun {b o} e d1 d2 => by
    rw [← hH]
    refine entry_none (fun z => ?_) (.inl fun z => ?_)
    · rw [atT z] at e; cases e; exact d1 rfl
    · rw [z, ha] at e; cases e; exact d2 _ _ rfl
  have okH : HOk P w H s.heap := fun b u e => by
    rw [← hH] at e
    rcases entry_cases e with ⟨h, rfl⟩ | ⟨_, rfl, _, rfl⟩
    · exact ⟨⟨#[], atT h, trivial⟩, ⟨_, atT h⟩, fun h1 h2 ⟨ps, z, zt⟩ st => ⟨ps, st _ z, zt⟩⟩
    · exact ⟨ha, by rw [List.length_map]; exact hl, vs, _, rv, ha⟩
  have hidden : ∀ {b : Addr} {m : Str → Option Value}, s.heap.Ns b m → (hidT s.heap H).Ns b m := fun ⟨o, es, ep, e, d, r⟩ => ⟨o, es, ep, hidT_get e (off e (by rw [d]; exact fun z => nomatch z) (by rw [d]; exact fun _ _ z => nomatch z)), d, r⟩
  have KB : K.In (hidT s.heap H) := fun b o e => hidT_get (KX b o e) (by
    rw [← hH]
    refine entry_none (fun z => ?_) ?_
    · obtain ⟨p, hp, rfl⟩ := inT z
      rw [nT p hp] at e; cases e
    · by_cases z : b = a
      · exact .inr ⟨o, z ▸ e⟩
      · exact .inl z)
  have TB : ∀ p ∈ cs, GxR.TabB (hidT s.heap H) mg p.1 p.2 := fun p hp => by
    refine ⟨?_, ?_, fun z => ?_⟩
    · obtain ⟨o, us, fl, tf, fs, tg, iF, tx, tt, e1, r1, r2, r3, r⟩ := C p hp
      exact ⟨o, us, fl, tf, fs, tg, iF, tx, tt, hidT_get e1 (off e1 (fun z => by rw [r2] at z; cases z; simp at r3) (by rw [r2]; exact fun _ _ z => nomatch z)), r1, r2, r3, r⟩
    · obtain ⟨bm, ob, b1, b2, b3, b4, b5, b6⟩ := hbm
      refine ⟨bm, ob, b1, b2, fun q => ?_, fun q => ?_, hidT_get b3 (off b3 (by rw [b6]; exact fun z => nomatch z) (by rw [b6]; exact fun _ _ z => nomatch z)), b4, b5, b6⟩
      · obtain ⟨o, es, ep, e, d, _⟩ := hns
        rw [← q, b3] at e; cases e; rw [b6] at d; cases d
      · rw [q, hT p hp] at b3; cases b3; cases b6
    · obtain ⟨o, es, ep, e, d, _⟩ := hns
      rw [z, hT p hp] at e; cases e; cases d
  have SQ : SqL K H a (ns.map V.int) := by
    cases e : K.lookup a with
    | some o =>
      have e' := KX a o e
      rw [ha] at e'; cases e'
      exact .inr ⟨_, vs.toArray, _, e, rfl, rfl, rfl, by rw [List.size_toArray, ← lv, List.length_map]; exact hl, by simpa using rv⟩
    | none =>
      refine .inl (.inr ⟨{ cls := .type "list", data := .seq vs.toArray }, ?_⟩)
      rw [← hH]
      unfold entry
      rw [if_neg (fun z => by have := atT z; rw [ha] at this; cases this), if_pos ⟨rfl, by rw [e]; rfl⟩]
  have E0 : Env0 P w K mg (hidT s.heap H) callerA [] s H := ⟨rfl, ⟨KB, hidden hns, ⟨mb, hidden hb, hbb⟩, let ⟨mc, h1, h2⟩ := hlim; ⟨mc, hidden h1, h2⟩⟩, fun b o e => of_hidT e, Nat.le_of_eq (hidT_size _ _), trivial, fun b z => (nomatch z), okH, .of_eq hg⟩
  refine codeAny_mono ((F _ KB (hidden hns) TB).run [] s H ⟨[.ref a], []⟩ [.ref a] [.ref a] _ _ E0 (hbind s (.ref a)) (.cons rfl .nil) (hsp H tabH SQ)) fun r s' h => ?_
  match r, h with
  | .error e, h => exact h.elim
  | .ok .next, h => exact h.elim
  | .ok .brk, h => exact h.elim
  | .ok .cont, h => exact h.elim
  | .ok (.ret u), ⟨v, H', os, bare, un, ok', rel, ev, tabs⟩ =>
    subst ev
    obtain rfl : u = Value.bool true := rel
    have grown : ∀ p ∈ cs, ∃ more : Array Value, s'.heap.get? p.2 = some { cls := .none, data := .fields more } := fun p hp => let ⟨ps, e, _⟩ := (ok' _ _ (tabs p hp)).1; ⟨ps, e⟩
    have stays : ∀ b o, b ∉ cs.map (·.2) → s.heap.get? b = some o → s'.heap.get? b = some o := fun b o nb e => by
      cases q : H b with
      | none => exact un.keep b o e q (fun z => nomatch z) (fun z => nomatch z)
      | some u =>
        have q2 := q
        rw [← hH] at q2
        rcases entry_cases q2 with ⟨z, _⟩ | ⟨_, _, _, rfl⟩
        · exact absurd z nb
        · have e1 := (okH b _ q).1
          rw [e] at e1
          rw [e1]
          exact (ok' b _ (un.frzs b _ _ q)).1
    refine ⟨rfl, ⟨fun b o e => ?_, fun b o e => ?_⟩, os, bare⟩ <;> by_cases hb : b ∈ cs.map (·.2)
    · obtain ⟨p, hp, rfl⟩ := inT hb
      obtain ⟨more, hm⟩ := grown p hp
      rw [hT p hp] at e
      cases e
      exact .inr (.inl ⟨((C p hp).tab (hT p hp)).isCodeTable, rfl, #[], more, rfl, by rw [Array.empty_append]; exact hm⟩)
    · exact .inl (stays b o hb e)
    · obtain ⟨p, hp, rfl⟩ := inT hb
      obtain ⟨more, hm⟩ := grown p hp
      exact ⟨_, hm⟩
    · exact ⟨o, stays b o hb e⟩
/-- a def of the top with its empty table -/
def TabFact (mg : Str → Option Value) (h : Heap) (x : Str) : Prop := ∃ (a : Addr) (o : Obj) (fd : FuncData) (c P : Addr), mg x = some (.ref a) ∧ h.get? a = some o ∧ o.data = .func fd ∧ fd.code = .ref c ∧ h.IsCode c P #[] ∧ h.TableAt c P #[]
theorem tab_of {K : PySem.W.Frag} {mg : Str → Option Value} {h : Heap} {x : Str} {f c P : Addr} {oc tc : Value} {od td : Option Addr} {fd : FuncData} {osl ts : Array (Option Value)} {tv : Array Value} (X : K.In h) (hf : mg x = some (.ref f)) (l : K.lookup f = some ⟨oc, od, .func fd, osl⟩)
    (hc : fd.code = .ref c) (t : K.lookup c = some ⟨tc, td, .fields tv, ts⟩) (u : tv[11]? = some (.ref P)) (F : TabFact mg h x) : h.get? P = some tab0 ∧ PySem.W.CodeHd h c P := by
  obtain ⟨a, o, fd', c', P', h1, h2, h3, h4, h5, h6⟩ := F
  rw [hf] at h1
  cases h1
  rw [X _ _ l] at h2
  cases h2
  cases h3
  rw [hc] at h4
  cases h4
  have cd := PySem.W.CodeHd.of h5 h6
  obtain ⟨⟨o2, vs2, e1, _, e3, e4⟩, hP⟩ := h6
  rw [X _ _ t] at e1
  cases e1
  cases e3
  rw [u] at e4
  cases e4
  exact ⟨hP, cd⟩
/-- the law's promise, its tables tracked -/
def spLawT (K : PySem.W.Frag) (cs : List (Addr × Addr)) : Sp := fun vs H Q _ => ∃ (a : Addr) (ns : List Int), vs = [.ref a] ∧ SqL K H a (ns.map V.int) ∧ ns.length ≤ 63 ∧ (∀ p ∈ cs, H p.2 = some (TbX p.2)) ∧ ∀ H', (∀ p ∈ cs, H' p.2 = some (TbX p.2)) → Q (.bl true) H'
def LawX (l : PySem.W.OpenLaw) (w : World) (K : PySem.W.Frag) (mg : Str → Option Value) (fa : Addr) (h : Heap) : Prop := ∃ (fd : FuncData) (cs : List (Addr × Addr)), (∀ (s : Shared) (u : Value), BindsTo s fd ⟨[u], []⟩ [("script", u)]) ∧ (∀ p ∈ cs, h.get? p.2 = some tab0) ∧ (∀ p ∈ cs, K.lookup p.2 = none) ∧ (∀ p ∈ cs, PySem.W.CodeHd h p.1 p.2) ∧
  ∀ base : Heap, K.In base → base.Ns mainGlobals mg → (∀ p ∈ cs, GxR.TabB base mg p.1 p.2) → FnAt l.prog w K mg base callerA fa fd ["script"] (spLawT K cs)
theorem walk_ofX {l : PySem.W.OpenLaw} {q : Program} {loose : List Str} {XP : (Str → Option Value) → Heap → Prop} {YP : World → Heap → Prop} {d : DefRec} {K : Params → PySem.W.Frag} (names : List Str)
    (hn : l.most = some 63) (hdf : d.params.defaults = []) (hrec : (names.all fun x => (recsOf q).any fun e => e.name == x) = true) (hY : ∀ (w : World) (h : Heap), YP w h → (K w.params).In h)
    (F : ∀ (w : World) (mg : Str → Option Value) (fa : Addr) (h : Heap), (K w.params).In h → h.Ns mainGlobals mg → mg d.name = some (.ref fa) → (∀ x ∈ names, TabFact mg h x) → LawX l w (K w.params) mg fa h) :
    PySem.W.WalkO q loose XP YP l.row.toRowW d [] (fun f vs => PySem.call f vs) := by
  refine Att.attach_callB hn hdf fun w s₀ s₁ mg mb fa o pm cd doc a vs ns G Y ho hd hcd hmg hobj hints hlen hbits hg => ?_
  have KX := hY w _ Y
  have facts : ∀ x ∈ names, TabFact mg s₁.heap x := fun x hx => by
    obtain ⟨e, he, ee⟩ := List.any_eq_true.mp (List.all_eq_true.mp hrec x hx)
    obtain ⟨a1, o1, fd1, c1, P1, r⟩ := G.T.tab e he
    have : e.name = x := beq_iff_eq.mp ee
    rw [this] at r
    exact ⟨a1, o1, fd1, c1, P1, r⟩
  obtain ⟨fd, cs, hb, hT, nT, C, hF⟩ := F w mg fa _ KX G.T.g hmg facts
  exact law_tabs KX G.T.g G.T.b G.T.builtins G.T.nolimit hg hT nT C G.T.bmain hobj hints (Nat.le_trans hlen (by decide)) hF hb (fun H hH hS => ⟨a, ns, rfl, hS, hlen, hH, fun H' h' => ⟨rfl, h'⟩⟩)
end Cw

/-! dicts whose keys are None, whole numbers or texts -/
namespace Cw
open PySem PySem.Spec PyProof.Rows L2
abbrev NK := Option L2.Key
def nV : NK → V
  | none => .non
  | some k => kV k
theorem nV_is {P : Program} {w : World} {k : NK} {u : Value} (r : RelV (nV k) u) : (noneKind P w).is k u = true := by
  cases k with
  | none =>
    have e : u = .none := r
    rw [e]; rfl
  | some k => exact kV_is (P := P) (w := w) r
theorem relV_nkey {k : NK} {u : Value} (h : nkIs k u = true) : RelV (nV k) u := by
  cases k with
  | none => rw [nk_none h]; exact rfl
  | some k => exact relV_key (show keyIs k u = true from h)
def DNp (P : Program) (w : World) (a : Addr) (kvs : List (NK × V)) (h : Heap) : Prop := kvs.length ≤ sizeLine ∧ (a == sysModules) = false ∧ ∃ vs, KV kvs vs ∧ h.DictOf (noneKind P w) a vs
/-- a dict with None among its keys -/
def DN (P : Program) (w : World) (a : Addr) (kvs : List (NK × V)) : HO := .ext (DNp P w a kvs)
theorem DNp.obj {P : Program} {w : World} {a : Addr} {kvs : List (NK × V)} {h : Heap} (x : DNp P w a kvs h) : ∃ o, h.get? a = some o := by
  obtain ⟨_, _, vs, _, o, es, ep, ho, _⟩ := x
  exact ⟨o, ho⟩
theorem DNp.stay {P : Program} {w : World} {a : Addr} {kvs : List (NK × V)} {h1 h2 : Heap} (x : DNp P w a kvs h1) (k : ∀ o, h1.get? a = some o → h2.get? a = some o) : DNp P w a kvs h2 := by
  obtain ⟨z, y, vs, r, o, es, ep, ho, q⟩ := x
  exact ⟨z, y, vs, r, o, es, ep, k _ ho, q⟩
theorem dn_ok {P : Program} {w : World} {H : Hp} {h : Heap} {a : Addr} {kvs : List (NK × V)} (x : DNp P w a kvs h) : ObjOk P w H h a (DN P w a kvs) :=
  ⟨x, x.obj, fun _ _ y k => y.stay k⟩
theorem dn_rd {P : Program} {w : World} {H : Hp} {h : Heap} {a b : Addr} {kvs : List (NK × V)} (ok : HOk P w H h) (e : Rd H a (DN P w b kvs)) : DNp P w b kvs h := (show ObjOk P w H h a (DN P w b kvs) from rd_of ok e).1
section
variable {X : Cx} {pd : Program} {wd : World} {o i e f value : Expr} {pos pos' apos cpos : Pos} {td ty tv tx : TE}
/-- {}, its keys to be None or texts -/
def tDNewN (P : Program) (w : World) : TE := fun _ H Q => ∀ p, H p = none → Q (.ref p) (upd H p (DN P w p []))
theorem pe_dnewN (hp : X.prog = pd) (hw : X.w = wd) : PE X (.Dict [] [] pos) (tDNewN pd wd) := ⟨fun pins s σ H Q I h => by
  subst hp hw
  exact wpAny_Dict_empty ⟨.ref s.heap.objs.size, _, I.laid (a := s.heap.objs.size) (o := DN X.prog X.w s.heap.objs.size []) (t' := s.toks) (fun _ _ q => Heap.get?_push_of_some _ q) (Nat.le_refl _)
    (dn_ok ⟨Nat.zero_le _, beq_eq_false_iff_ne.mpr (Ne.symm (Nat.ne_of_lt I.big)), [], .nil, Heap.DictOf.new s.heap⟩), rfl, h _ (I.hok.fresh (Nat.le_refl _))⟩⟩
/-- d.get(y, x) -/
def tNGet2 (P : Program) (w : World) (td ty tx : TE) : TE := fun σ H Q => td σ H fun x H1 => ∃ a kvs, x = .ref a ∧ Rd H1 a (DN P w a kvs) ∧ ty σ H1 fun y H2 => tx σ H2 fun z H3 => ∃ k, Rd H3 a (DN P w a kvs) ∧ y = nV k ∧ Q ((valV kvs k).getD z) H3
theorem pe_nget2 (hp : X.prog = pd) (hw : X.w = wd) (ho : PE X o td) (he : PE X e ty) (hf : PE X f tx) (m : M2 X o "get" apos e f cpos) : PE X (.Call (.Attribute o "get" apos) [e, f] [] cpos) (tNGet2 pd wd td ty tx) := by
  subst hp hw
  refine ⟨fun pins s σ H Q I h => ?_⟩
  refine wpAny_Call_method m.base m.few m.line PySem.F.plainAttrs_dict PySem.F.slot_dict_get PySem.F.type_dict_get (thn (ho.run pins s σ H _ I h) fun u s1 ⟨x, H1, I1, rx, a, kvs, ex, hd, q1⟩ => ?_)
  subst ex
  obtain rfl : u = Value.ref a := rx
  obtain ⟨_, hs, vs, rel, dd⟩ := dn_rd I1.hok hd
  refine ⟨dd.typeIs, fun b q => ?_, ?_⟩
  · cases q
    obtain ⟨ob, _, _, h1, h2, _⟩ := dd
    exact ⟨ob, h1, h2.2.1⟩
  rw [m.trees]
  refine Calls.callWith_builtin rfl (Calls.evalArgs_plain (Calls.spliced_cons (thn (he.run pins s1 σ H1 _ I1 q1) fun iv s2 ⟨y, H2, I2, ry, q2⟩ =>
    Calls.spliced_cons (thn (hf.run pins s2 σ H2 _ I2 q2) fun fv s3 ⟨z, H3, I3, rz, k, hd3, ek, q3⟩ => Calls.spliced_nil ?_))))
  subst ek
  obtain ⟨_, hs3, vs3, rel3, dd3⟩ := dn_rd I3.hok hd3
  refine call_meetsIn PySem.F.slot_dict_get dd3.typeIs PySem.F.entry_dict_get (PySem.F.args_dict_get_3 _ _ _) (meets_dict_get_default (noneKind X.prog X.w) a (nV_is ry) hs3 fv) ⟨_, dd3.mapOf, ⟨_, H3, I3.tok _, (rel3.val k).getD rz, q3⟩⟩
/-- d[y] = v -/
def sNPut (P : Program) (w : World) (td ty tv : TE) : TS := fun D σ H => tv σ H fun v H1 => td σ H1 fun x H2 => ty σ H2 fun y H3 => ∃ a kvs k, x = .ref a ∧ H3 a = some (DN P w a kvs) ∧ y = nV k ∧ kvs.length < sizeLine ∧ D.nx σ (upd H3 a (DN P w a (putK kvs k v)))
theorem ps_nput (hp : X.prog = pd) (hw : X.w = wd) (ho : PE X o td) (hi : PE X i ty) (hv : PE X value tv) (hs : swapsWith value (some (.Subscript o i pos')) pos.line X.env = pure false) :
    PS X (.Assign [.Subscript o i pos'] value pos) (sNPut pd wd td ty tv) := by
  subst hp hw
  refine ⟨fun pins s σ H D I h => ?_⟩
  refine wpAny_Assign_Subscript (thn (hv.run pins s σ H _ I h) fun r s1 ⟨v, H1, I1, rv, q1⟩ => thn (ho.run pins s1 σ H1 _ I1 q1) fun u s2 ⟨x, H2, I2, rx, q2⟩ => thn (hi.run pins s2 σ H2 _ I2 q2) fun iv s3 ⟨y, H3, I3, ry, a, kvs, k, ex, hd, ey, hl, q3⟩ => ?_) hs
  subst ex ey
  obtain rfl : u = Value.ref a := rx
  obtain ⟨z, hd0, vs, rel, dd⟩ := dn_rd I3.hok (Rd.of hd)
  have hz : vs.length ≤ sizeLine := by rw [← rel.length]; exact z
  have hl2 : (putK kvs k v).length ≤ sizeLine := by have := length_putK kvs k v; omega
  refine wpAny_setItem_pairs (hsz := hz) (nV_is ry) dd fun h' dd' hs' => ?_
  have he : ∃ q, h'.get? a = some q := let ⟨q, _, _, hq, _⟩ := dd'; ⟨q, hq⟩
  exact ⟨σ, _, d_write I3 (by rw [hd]; exact True.intro) hs' he (dn_ok ⟨hl2, hd0, _, rel.put k rv, dd'⟩), q3⟩
end
/-! ### for k, v in d.items(), the dict locked -/
section
variable {X : Cx} {pins : List (Addr × Obj)} {σ : L2.St} {H : Hp} {s : Shared} {d : Addr} {o : Obj}
theorem frzN {kvs : List (NK × V)} (I : Inv X pins σ H s) (h : H d = some (.frz o (DN X.prog X.w d kvs))) :
    (d == sysModules) = false ∧ s.heap.get? d = some o ∧ o.ExactDict ∧ ∃ (es : Array DictEntry) (ep : Nat) (vs : List (NK × Value)), o.data = .dict es ep ∧ es.size = kvs.length ∧ KV kvs vs ∧ s.heap.DictAt (noneKind X.prog X.w) d vs ep := by
  obtain ⟨hd, ⟨z, hs, vs, kv, o', es, ep, ho, hx, hdt, r⟩, _⟩ := I.hok d _ h
  rw [hd] at ho
  cases ho
  refine ⟨hs, hd, hx, es, ep, vs, hdt, ?_, kv, o, es, hd, hx, hdt, r⟩
  have l1 := r.2.1.length
  have l2 : kvs.length = vs.length := Paired.length kv
  rw [Array.length_toList] at l1
  omega
end
/-- the pairs, each a new tuple -/
def ItN (P : Program) (w : World) (d : Addr) (o : Obj) (kvs : List (NK × V)) : It :=
  ⟨fun i H => H d = some (.frz o (DN P w d kvs)) ∧ i < kvs.length, fun i H x H' => ∃ T k v, kvs[i]? = some (k, v) ∧ x = .ref T ∧ H T = none ∧ H' = upd H T (.tup [nV k, v]), fun i H => H d = some (.frz o (DN P w d kvs)) ∧ kvs.length ≤ i⟩
section
variable {P : Program} {w : World} {K : PySem.W.Frag} {d : Addr} {o : Obj} {es : Array DictEntry} {ep : Nat}
theorem turn_itemsN {kvs : List (NK × V)} {elts : List Expr} {kk : Nat} {tpos : Pos} (it : Addr) (hod : o.data = .dict es ep) :
    Turn P w K (.Tuple elts kk tpos) (ItN P w d o kvs) [it] it (fun i h => ∃ ok ov, IsItemIter h it d i kvs.length ep ok ov) where
  mem := by simp
  obj := fun i h st b hb => by
    have e : b = it := by simpa using hb
    subst e
    obtain ⟨ok, ov, e⟩ := st
    exact ⟨_, e, fun v z => nomatch z⟩
  keep := fun i h h' st k => let ⟨ok, ov, e⟩ := st; ⟨ok, ov, k it (by simp) _ e⟩
  item := by
    intro X hP hw hK hc i pins s σ H E I hf st hg
    subst hP hw hK
    obtain ⟨hd, hi⟩ := hg
    obtain ⟨hs, hgd, hx, es', ep', vs, hdt, hsz, kv, hm⟩ := frzN I hd
    obtain ⟨rfl, rfl⟩ := dict_ep hod hdt
    obtain ⟨⟨k, v⟩, hkv⟩ : ∃ p, kvs[i]? = some p := ⟨kvs[i], List.getElem?_eq_getElem hi⟩
    obtain ⟨u, hu, ru⟩ := kv_get kv hkv
    have hl : kvs.length = vs.length := Paired.length kv
    obtain ⟨ok, ov, he⟩ := st
    rw [hl] at he
    have hlt : it < s.heap.objs.size := Heap.lt_size he
    refine wpAny_pyNext_items_item he hm hu fun key h' hkey ho hT hz hk => ?_
    refine ⟨_, rfl, wpAny_letOwnedTupleGo_items (s := { s with heap := h' }) ho fun h'' he' sb => ?_⟩
    have hT2 : h''.get? s.heap.objs.size = some { cls := .type "tuple", data := .seq #[key, u] } := (sb.2 _ (Nat.ne_of_gt hlt)).trans hT
    have new : ObjOk X.prog X.w (upd H s.heap.objs.size (.tup [nV k, v])) h'' s.heap.objs.size (.tup [nV k, v]) :=
      ⟨by show 2 ≤ sizeLine; decide, [key, u], .cons (relV_nkey (show nkIs k key = true from hkey)) (.cons ru .nil), ⟨_, hT2, rfl, _, rfl⟩⟩
    have I1 : Inv X pins σ (upd H s.heap.objs.size (.tup [nV k, v])) { s with heap := h'' } :=
      I.turnedNew (t' := s.toks) (ch := [it]) (fun b ob hb e => (sb.2 b (by simpa using hb)).trans (hk b ob (by simpa using hb) e)) hf (Nat.le_refl _) new
    refine ⟨.ref s.heap.objs.size, _, I1, rfl, ⟨_, k, v, hkv, rfl, I.hok.fresh (Nat.le_refl _), rfl⟩, ⟨key, u, ?_⟩, fun b hb => ?_⟩
    · rw [hl]; exact he'
    · have e : b = it := by simpa using hb
      rw [e, upd_ne (Nat.ne_of_lt hlt)]
      exact (hf it (by simp)).1
  done := by
    intro X hP hw hK hc i pins s σ H E I hf st hg
    subst hP hw hK
    obtain ⟨hd, hi⟩ := hg
    obtain ⟨f0, f1, f2, f3, f4, f5⟩ := hf it (by simp)
    obtain ⟨hs, hgd, hx, es', ep', vs, hdt, hsz, kv, hm⟩ := frzN I hd
    obtain ⟨rfl, rfl⟩ := dict_ep hod hdt
    have hl : kvs.length = vs.length := Paired.length kv
    obtain ⟨ok, ov, he⟩ := st
    rw [hl] at he
    exact wpAny_pyNext_items_end (I.ok.hd hc) he hm (List.getElem?_eq_none (by omega)) fun h' eb => ⟨rfl, I.turned (t' := s.toks) (fun b ob hb e => eb b ob hb e) f0 f1 f3 f4 f5⟩
  self := fun A i s Q E st h => let ⟨_, _, e⟩ := st; PySem.W.kcp_self e h
end
def iItemsN (P : Program) (w : World) (td : TE) : TI := fun σ H R => td σ H fun x H1 => ∃ d o kvs, x = .ref d ∧ H1 d = some (.frz o (DN P w d kvs)) ∧ R (ItN P w d o kvs) H1
section
variable {X : Cx} {pd : Program} {wd : World} {e : Expr} {td : TE} {apos cpos : Pos}
theorem pi_itemsN {elts : List Expr} {kk : Nat} {tpos : Pos} (hp : X.prog = pd) (hw : X.w = wd) (he : PE X e td) (hbase : attributeBase e "items" X.env (eval e X.env) = eval e X.env := by rfl) (hline : (apos.endLine == cpos.line) = true := by rfl) :
    PI X (.Tuple elts kk tpos) (.Call (.Attribute e "items" apos) [] [] cpos) (iItemsN pd wd td) := by
  subst hp hw
  refine ⟨fun pins s σ H R I h => ?_⟩
  refine wpAny_Call_method (T := "dict") (id := "dict.items") hbase rfl hline F.plainAttrs_dict F.slot_dict_items F.type_dict_items (thn (he.run pins s σ H _ I h) fun u s1 ⟨x, H1, I1, rx, d, o, kvs, ex, hd, q⟩ => ?_)
  subst ex
  obtain rfl : u = Value.ref d := rx
  obtain ⟨hs, hgd, hx, es, ep, vs, hdt, hsz, kv, hm⟩ := frzN I1 hd
  have hl : kvs.length = vs.length := Paired.length kv
  refine ⟨hm.dictOf.typeIs, hm.dictOf.mapOf.noDict, ?_⟩
  have I2 : Inv X pins σ H1 { s1 with heap := s1.heap.push { cls := .type "dict_items", data := .fields #[.ref d] } } := I1.kept (t' := s1.toks) fun b ob q => Heap.get?_push_of_some _ q
  have fin : wpAny (model X.prog X.w) X.A (pyIter (.ref s1.heap.objs.size)) (PIE X pins σ (.Tuple elts kk tpos) R) X.xe { s1 with heap := s1.heap.push { cls := .type "dict_items", data := .fields #[.ref d] } } := by
    refine wpAny_pyIter_items (d := d) (knd := noneKind X.prog X.w) ⟨_, Heap.get?_push_size _ rfl, rfl, rfl⟩ (hm.push _) (pi_one (tk := s1.toks) I2 _ (turn_itemsN _ hdt) ⟨.none, .none, ?_⟩ q)
    rw [hl]
    exact Heap.get?_push_size _ rfl
  show wpAny _ _ (callWith cpos (.builtin "dict.items") [.ref d] [] []) _ X.xe s1
  exact method_meetsIn F.slot_dict_items F.entry_dict_items rfl (PySem.evalArgs_none ⟨rfl, hm.dictOf.typeIs, F.args_dict_items_1 _, _, meets_dict_items (noneKind X.prog X.w) d hs, ⟨vs, hm.dictOf⟩, fin⟩)
end
theorem walk_itemsN {P : Program} {w : World} {d : Addr} {o : Obj} {kvs : List (NK × V)} : True := trivial
end Cw

/-! dicts whose keys are tuples within tuples -/
namespace Cw
open PySem PySem.Spec PyProof.Rows L2
mutual
/-- the value is such a key, its tuples tracked -/
inductive NkV (H : Hp) : NestedKey → V → Prop
  | none : NkV H .none .non
  | int (i : Int) : NkV H (.num i) (.int i)
  | text (x : Str) : NkV H (.text x) (.str x)
  | tup {a : Addr} {vs : List V} {ks : List NestedKey} : H a = some (.tup vs) → NkAll H ks vs → NkV H (.tup ks) (.ref a)
inductive NkAll (H : Hp) : List NestedKey → List V → Prop
  | nil : NkAll H [] []
  | cons {k : NestedKey} {v : V} {ks : List NestedKey} {vs : List V} : NkV H k v → NkAll H ks vs → NkAll H (k :: ks) (v :: vs)
end
mutual
theorem NkV.same {H H' : Hp} (s : Same H H') : ∀ (k : NestedKey) (v : V), NkV H k v → NkV H' k v
  | .none, _, h => by cases h; exact .none
  | .num _, _, h => by cases h; exact .int _
  | .text _, _, h => by cases h; exact .text _
  | .tup ks, _, h => by
    cases h with
    | tup e a => exact .tup (s _ _ e) (NkAll.same s ks _ a)
theorem NkAll.same {H H' : Hp} (s : Same H H') : ∀ (ks : List NestedKey) (vs : List V), NkAll H ks vs → NkAll H' ks vs
  | [], _, h => by cases h; exact .nil
  | k :: ks, _, h => by
    cases h with
    | cons a b => exact .cons (NkV.same s k _ a) (NkAll.same s ks _ b)
end
mutual
/-- tuples stay -/
theorem NkV.tups {H H' : Hp} (s : ∀ b xs, H b = some (.tup xs) → H' b = some (.tup xs)) : ∀ (k : NestedKey) (v : V), NkV H k v → NkV H' k v
  | .none, _, h => by cases h; exact .none
  | .num _, _, h => by cases h; exact .int _
  | .text _, _, h => by cases h; exact .text _
  | .tup ks, _, h => by
    cases h with
    | tup e a => exact .tup (s _ _ e) (NkAll.tups s ks _ a)
theorem NkAll.tups {H H' : Hp} (s : ∀ b xs, H b = some (.tup xs) → H' b = some (.tup xs)) : ∀ (ks : List NestedKey) (vs : List V), NkAll H ks vs → NkAll H' ks vs
  | [], _, h => by cases h; exact .nil
  | k :: ks, _, h => by
    cases h with
    | cons a b => exact .cons (NkV.tups s k _ a) (NkAll.tups s ks _ b)
end
mutual
theorem NkV.is {P : Program} {w : World} {H : Hp} {h : Heap} (ok : HOk P w H h) : ∀ (k : NestedKey) (v : V) (u : Value), NkV H k v → RelV v u → NestedIs h k u
  | .none, _, u, x, r => by
    cases x
    have e : u = .none := r
    rw [e]; exact .none
  | .num i, _, u, x, r => by
    cases x
    obtain ⟨t, rfl⟩ := r
    exact .int _ _
  | .text y, _, u, x, r => by
    cases x
    obtain ⟨t, rfl⟩ := r
    exact .text _ _
  | .tup ks, _, u, x, r => by
    cases x with
    | @tup a vs _ e al =>
      obtain rfl : u = Value.ref a := r
      obtain ⟨_, its, rv, o, h1, h2, n, h3⟩ := (show ObjOk P w H h a (.tup vs) from ok a _ e)
      exact .tup h1 h2 h3 (by simpa using NkAll.are ok ks vs its al rv)
theorem NkAll.are {P : Program} {w : World} {H : Hp} {h : Heap} (ok : HOk P w H h) : ∀ (ks : List NestedKey) (vs : List V) (us : List Value), NkAll H ks vs → Vals vs us → NestedAll h ks us
  | [], _, us, x, r => by
    cases x
    cases r
    exact .nil
  | k :: ks, _, us, x, r => by
    cases x with
    | cons a b =>
      cases r with
      | cons c d => exact .cons (NkV.is ok k _ _ a c) (NkAll.are ok ks _ _ b d)
end
abbrev KEnt := NestedKey × Addr × V
/-- what the dict holds at a key -/
def valH (es : List KEnt) (k : NestedKey) : Option V := (es.find? fun e => decide (e.1 = k)).map (·.2.2)
abbrev KEs (es : List KEnt) (xs : List (NestedKey × Addr × Value)) : Prop := Paired (fun p q => p.1 = q.1 ∧ p.2.1 = q.2.1 ∧ RelV p.2.2 q.2.2) es xs
theorem KEs.val {es : List KEnt} {xs : List (NestedKey × Addr × Value)} (r : KEs es xs) (k : NestedKey) : RelO (valH es k) ((atKey xs k).map (·.2)) := by
  unfold KEs at r
  induction r with
  | nil => exact True.intro
  | @cons p q ps qs h t ih =>
    obtain ⟨h1, _, h2⟩ := h
    by_cases e : p.1 = k
    · have e' : q.1 = k := h1.symm.trans e
      have b : atKey (q :: qs) k = some q.2 := by simp [atKey, List.find?_cons, e']
      have c : valH (p :: ps) k = some p.2.2 := by simp [valH, List.find?_cons, e]
      rw [c, b]; exact h2
    · have e' : ¬ q.1 = k := fun z => e (h1.trans z)
      have b : atKey (q :: qs) k = atKey qs k := by simp [atKey, List.find?_cons, e']
      have c : valH (p :: ps) k = valH ps k := by simp [valH, List.find?_cons, e]
      rw [c, b]; exact ih
def DHp (P : Program) (w : World) (a : Addr) (es : List KEnt) (h : Heap) : Prop := es.length ≤ sizeLine ∧ (a == sysModules) = false ∧ ∃ xs, KEs es xs ∧
  ∃ o ds ep, h.get? a = some o ∧ o.ExactDict ∧ o.data = .dict ds ep ∧ ds.toList = xs.map (entryOfKey (nestedKind P w)) ∧ (xs.map (·.1)).Nodup
/-- a dict keyed by tuples within tuples -/
def DH (P : Program) (w : World) (a : Addr) (es : List KEnt) : HO := .ext (DHp P w a es)
/-- its keys' tuples -/
def KeyAt (H : Hp) (es : List KEnt) : Prop := ∀ e ∈ es, NkV H e.1 (.ref e.2.1) ∧ e.1.depth ≤ 8
theorem KeyAt.same {H H' : Hp} {es : List KEnt} (x : KeyAt H es) (s : Same H H') : KeyAt H' es := fun e he => ⟨NkV.same s _ _ (x e he).1, (x e he).2⟩
theorem KeyAt.tups {H H' : Hp} {es : List KEnt} (x : KeyAt H es) (s : ∀ b xs, H b = some (.tup xs) → H' b = some (.tup xs)) : KeyAt H' es := fun e he => ⟨NkV.tups s _ _ (x e he).1, (x e he).2⟩
theorem dh_ok {P : Program} {w : World} {H : Hp} {h : Heap} {a : Addr} {es : List KEnt} (x : DHp P w a es h) : ObjOk P w H h a (DH P w a es) :=
  ⟨x, let ⟨_, _, _, _, o, _, _, ho, _⟩ := x; ⟨o, ho⟩, fun _ _ ⟨z, y, xs, r, o, ds, ep, ho, q⟩ k => ⟨z, y, xs, r, o, ds, ep, k _ ho, q⟩⟩
theorem dh_rd {P : Program} {w : World} {H : Hp} {h : Heap} {a : Addr} {es : List KEnt} (ok : HOk P w H h) (e : H a = some (DH P w a es)) (ka : KeyAt H es) : es.length ≤ sizeLine ∧ (a == sysModules) = false ∧
    ∃ xs, KEs es xs ∧ h.DictOfH (nestedKind P w) a xs := by
  obtain ⟨z, y, xs, r, o, ds, ep, h1, h2, h3, h4, h5⟩ := (show ObjOk P w H h a (DH P w a es) from ok a _ e).1
  refine ⟨z, y, xs, r, o, ds, ep, h1, h2, h3, h4, fun x hx => ?_, h5⟩
  have all : ∀ {l : List KEnt} {m : List (NestedKey × Addr × Value)}, KEs l m → (∀ e ∈ l, NkV H e.1 (.ref e.2.1) ∧ e.1.depth ≤ 8) → ∀ x ∈ m, (nestedKind P w).is h x.1 x.2.1 := by
    intro l m q
    unfold KEs at q
    induction q with
    | nil => intro _ x hx; exact nomatch hx
    | @cons p q ps qs hq t ih =>
      intro ha x hx
      rcases List.mem_cons.mp hx with e | hx
      · subst e
        obtain ⟨k1, k2⟩ := ha p List.mem_cons_self
        rw [← hq.1, ← hq.2.1]
        exact ⟨NkV.is ok _ _ _ k1 rfl, k2⟩
      · exact ih (fun e he => ha e (List.mem_cons_of_mem _ he)) x hx
  exact all r ka x hx
section
variable {X : Cx} {pd : Program} {wd : World} {o i e f value : Expr} {pos pos' apos cpos : Pos} {td ty tv tx : TE}
def tDNewH (P : Program) (w : World) : TE := fun _ H Q => ∀ p, H p = none → Q (.ref p) (upd H p (DH P w p []))
theorem pe_dnewH (hp : X.prog = pd) (hw : X.w = wd) : PE X (.Dict [] [] pos) (tDNewH pd wd) := ⟨fun pins s σ H Q I h => by
  subst hp hw
  exact wpAny_Dict_empty ⟨.ref s.heap.objs.size, _, I.laid (a := s.heap.objs.size) (o := DH X.prog X.w s.heap.objs.size []) (t' := s.toks) (fun _ _ q => Heap.get?_push_of_some _ q) (Nat.le_refl _)
    (dh_ok ⟨Nat.zero_le _, beq_eq_false_iff_ne.mpr (Ne.symm (Nat.ne_of_lt I.big)), [], .nil, _, #[], 0, Heap.get?_push_size _ rfl, ⟨rfl, rfl, rfl⟩, rfl, rfl, List.nodup_nil⟩), rfl, h _ (I.hok.fresh (Nat.le_refl _))⟩⟩
/-- what stands at the key y of the dict at a -/
def HGet (P : Program) (w : World) (H : Hp) (a : Addr) (y : V) (r : Option V) : Prop := ∃ es k b, H a = some (DH P w a es) ∧ KeyAt H es ∧ y = .ref b ∧ NkV H k y ∧ k.depth ≤ 8 ∧ r = valH es k
theorem room_in1 {A : Around} (hu : A.units + 65 < cLine) : (nestedKind pd wd).room A.in1 := by
  show A.in1.units + 8 < cLine
  have : A.in1.units = A.units + 1 := rfl
  omega
/-- y not in d -/
def tHNotIn (P : Program) (w : World) (ty td : TE) : TE := fun σ H Q => ty σ H fun y H1 => td σ H1 fun x H2 => ∃ a r, x = .ref a ∧ HGet P w H2 a y r ∧ Q (.bl (!r.isSome)) H2
theorem pc_hnotin (hp : X.prog = pd) (hw : X.w = wd) (hu : X.A.units + 65 < cLine) (hi : PE X i ty) (ho : PE X o td) : PC X .NotIn i o (tHNotIn pd wd ty td) := by
  subst hp hw
  refine ⟨fun pins s σ H Q I h => ?_⟩
  refine thn (hi.run pins s σ H _ I h) fun iv s1 ⟨y, H1, I1, ry, q1⟩ => thn (ho.run pins s1 σ H1 _ I1 q1) fun u s2 ⟨x, H2, I2, rx, a, r, ex, ⟨es, k, b, hd, ka, ey, nk, dp, er⟩, q2⟩ => ?_
  subst ex ey er
  obtain rfl : u = Value.ref a := rx
  obtain rfl : iv = Value.ref b := ry
  obtain ⟨z, hs, xs, rel, dd⟩ := dh_rd I2.hok hd ka
  refine wpAny_notIn_heap (room_in1 hu) ⟨NkV.is I2.hok _ _ _ nk rfl, dp⟩ hs dd ?_
  have q := (rel.val k).isSome_eq
  rw [Option.isSome_map] at q
  rw [← q]
  exact ⟨.bl _, H2, I2.tok _, rfl, q2⟩
/-- d[y] -/
def tHGet (P : Program) (w : World) (td ty : TE) : TE := fun σ H Q => td σ H fun x H1 => ty σ H1 fun y H2 => ∃ a v, x = .ref a ∧ HGet P w H2 a y (some v) ∧ Q v H2
theorem pe_hget (hp : X.prog = pd) (hw : X.w = wd) (hu : X.A.units + 65 < cLine) (ho : PE X o td) (hi : PE X i ty) (hs : NoSl i) : PE X (.Subscript o i pos) (tHGet pd wd td ty) := by
  subst hp hw
  refine ⟨fun pins s σ H Q I h => ?_⟩
  refine subD_of PySem.F.slot_dict_getitem.lookup hs (thn (ho.run pins s σ H _ I h) fun u s1 ⟨x, H1, I1, rx, q1⟩ => thn (hi.run pins s1 σ H1 _ I1 q1) fun iv s2 ⟨y, H2, I2, ry, a, v, ex, ⟨es, k, b, hd, ka, ey, nk, dp, er⟩, q2⟩ => ?_)
  subst ex ey
  obtain rfl : u = Value.ref a := rx
  obtain rfl : iv = Value.ref b := ry
  obtain ⟨z, hs', xs, rel, dd⟩ := dh_rd I2.hok hd ka
  obtain ⟨w', hw', rw'⟩ := RelO.some_of (v := v) (o := (atKey xs k).map (·.2)) (by rw [er]; exact rel.val k)
  obtain ⟨p, hp, hp2⟩ := Option.map_eq_some_iff.mp hw'
  refine ⟨dd.typeIs, wpAny_getItem_heap (room_in1 hu) ⟨NkV.is I2.hok _ _ _ nk rfl, dp⟩ dd hp ?_⟩
  rw [hp2]
  exact ⟨v, H2, I2.tok _, rw', q2⟩
/-- d[y] = v, where y is new -/
def sHPut (P : Program) (w : World) (td ty tv : TE) : TS := fun D σ H => tv σ H fun v H1 => td σ H1 fun x H2 => ty σ H2 fun y H3 => ∃ a es k b, x = .ref a ∧ H3 a = some (DH P w a es) ∧ KeyAt H3 es ∧ y = .ref b ∧ NkV H3 k y ∧ k.depth ≤ 8 ∧ valH es k = none ∧ es.length < sizeLine ∧
  D.nx σ (upd H3 a (DH P w a (es ++ [(k, b, v)])))
theorem ps_hput (hp : X.prog = pd) (hw : X.w = wd) (hu : X.A.units + 65 < cLine) (ho : PE X o td) (hi : PE X i ty) (hv : PE X value tv) (hs : swapsWith value (some (.Subscript o i pos')) pos.line X.env = pure false) :
    PS X (.Assign [.Subscript o i pos'] value pos) (sHPut pd wd td ty tv) := by
  subst hp hw
  refine ⟨fun pins s σ H D I h => ?_⟩
  refine wpAny_Assign_Subscript (thn (hv.run pins s σ H _ I h) fun r s1 ⟨v, H1, I1, rv, q1⟩ => thn (ho.run pins s1 σ H1 _ I1 q1) fun u s2 ⟨x, H2, I2, rx, q2⟩ => thn (hi.run pins s2 σ H2 _ I2 q2) fun iv s3 ⟨y, H3, I3, ry, a, es, k, b, ex, hd, ka, ey, nk, dp, no, hl, q3⟩ => ?_) hs
  subst ex ey
  obtain rfl : u = Value.ref a := rx
  obtain rfl : iv = Value.ref b := ry
  obtain ⟨z, hs', xs, rel, dd⟩ := dh_rd I3.hok hd ka
  have hz : xs.length ≤ sizeLine := by rw [← Paired.length rel]; exact z
  have no' : (atKey xs k).isSome = false := by
    have q := (rel.val k).isSome_eq
    rw [Option.isSome_map, no] at q
    exact q.symm
  have est : storedH xs k b r = xs ++ [(k, b, r)] := by
    unfold storedH
    rw [if_neg (by rw [no']; decide)]
  refine wpAny_setItem_heap (hsz := hz) (room_in1 hu) ⟨NkV.is I3.hok _ _ _ nk rfl, dp⟩ dd fun h' dd' hs2 => ?_
  rw [est] at dd'
  obtain ⟨q, ds, ep, hq, h2, h3, h4, _, h5⟩ := dd'
  exact ⟨σ, _, d_write I3 (by rw [hd]; exact True.intro) hs2 ⟨q, hq⟩ (dh_ok ⟨by rw [List.length_append]; show es.length + 1 ≤ sizeLine; omega, hs', _, Paired.snoc rel ⟨rfl, rfl, rv⟩, q, ds, ep, hq, h2, h3, h4, h5⟩), q3⟩
end
end Cw

/-! a lambda of one name that captures nothing; min(.., key=lambda ..) over a tuple -/
namespace Cw
open PySem PySem.Spec PyProof.Rows L2 LamX NdefX
structure LamF where
  qual : Str
  params : Arguments
  body : Expr
  scope : Scope
  c : Addr
/-- as if it were a def within a def: its frame is the same -/
abbrev LamF.nf (F : LamF) : NF := ⟨"<lambda>", F.qual, F.params, [], F.scope, [], F.c⟩
def LamO (f : Addr) (F : LamF) : HO := .ext fun h => ∃ pm ctv, h.get? f = some (PySem.W.kla_obj "<lambda>" F.qual F.params F.body F.scope [] pm F.c ctv)
theorem lamO_at {P : Program} {w : World} {H : Hp} {h : Heap} {f : Addr} {F : LamF} (ok : HOk P w H h) (e : H f = some (LamO f F)) : ∃ pm ctv, h.get? f = some (PySem.W.kla_obj "<lambda>" F.qual F.params F.body F.scope [] pm F.c ctv) := (show ObjOk P w H h f (LamO f F) from ok f _ e).1
theorem inv_lam {X : Cx} {pins : List (Addr × Obj)} {σ : L2.St} {H : Hp} {s : Shared} {F : LamF} {t' : Nat} {pm ctv : Value} (I : Inv X pins σ H s) :
    Inv X pins σ (upd H s.heap.objs.size (LamO s.heap.objs.size F)) { s with heap := s.heap.push (PySem.W.kla_obj "<lambda>" F.qual F.params F.body F.scope [] pm F.c ctv), toks := t' } := by
  refine I.laid (a := s.heap.objs.size) (fun b u e => Heap.get?_push_of_some _ e) (Nat.le_refl _) ?_
  have e : (s.heap.push (PySem.W.kla_obj "<lambda>" F.qual F.params F.body F.scope [] pm F.c ctv)).get? s.heap.objs.size = some (PySem.W.kla_obj "<lambda>" F.qual F.params F.body F.scope [] pm F.c ctv) := Heap.get?_push_size _ rfl
  exact ⟨⟨pm, ctv, e⟩, ⟨_, e⟩, fun h1 h2 ⟨p, t, z⟩ st => ⟨p, t, st _ z⟩⟩
/-- the table at P: each code object that it tells bears the name q, and stands not where N says -/
def TabN (N : Addr → Prop) (H : Hp) (P : Addr) (q : Str) : Prop := ∃ ps : Array Value, H P = some (.tbl ps) ∧ TriplesOk ps.toList ∧ ∀ (pos : Pos) (cv : Value), codeAmong pos ps.toList = some cv → ∃ c, cv = .ref c ∧ ¬ N c ∧ H c = some (CodeO c q)
/-- what is not the table stays -/
theorem lam_evals {X : Cx} {pins : List (Addr × Obj)} {σ : L2.St} {H : Hp} {s : Shared} {c P : Addr} {q : Str} {params : Arguments} {body : Expr} {scope : Scope} {pos : Pos} {E : Value → Shared → Prop} {Q : Value → Shared → Prop} (I : Inv X pins σ H s) (TB : TabB X.base X.mg c P) (hcode : X.env.code = .ref c) (hq : X.env.qual ++ "<lambda>" = q)
    (N : Addr → Prop) (hT : TabN N H P q) (hN : ∀ b, N b → H b ≠ none) (hdef : defaultsOf params X.env = ([], [])) (hfree : ∀ y ∈ scope.names, y.2 ≠ .free)
    (h : ∀ (f c' : Addr) (H1 : Hp) (s' : Shared), Inv X pins σ H1 s' → (∀ b o, b ≠ P → H b = some o → H1 b = some o) → TabN N H1 P q → H f = none → f ≠ P → H1 f = some (LamO f ⟨q, params, body, scope, c'⟩) → H1 c' = some (CodeO c' q) → Q (.ref f) s') :
    wpAny (model X.prog X.w) X.A (eval (.Lambda params body scope pos) X.env) Q E s := by
  subst hq
  obtain ⟨ps, hP, ht, ha⟩ := hT
  refine PySem.W.kla_eval hdef ?_
  have bP : s.heap.BuiltinsAt X.mg P := TB.bm.keeps I.bk
  have hP' : s.heap.get? P = some { cls := .none, data := .fields ps } := I.hok P _ hP
  have nofree : ∀ y ∈ scope.names, y.2 = .free → ∃ c, X.env.cells.lookup y.1 = some c := fun y hy e => absurd e (hfree y hy)
  have ecl : cloFrom X.env.cells scope.names [] = [] := by
    cases e : cloFrom X.env.cells scope.names [] with
    | nil => rfl
    | cons p l =>
      have hm : (p.1, p.2) ∈ cloFrom X.env.cells scope.names [] := by rw [e]; exact List.mem_cons_self
      rcases cloFrom_mem hm with z | ⟨z, _⟩
      · cases z
      · exact absurd rfl (hfree _ z)
  have hclo := closure_ok (env := X.env) nofree
  rw [ecl] at hclo
  cases hc : codeAmong pos ps.toList with
  | none =>
    refine PySem.W.kla_makeFunction (mg := X.mg) (c := c) (P := P) (ps := ps) hclo I.ok.glob (I.mod.glob.keeps I.bk) hcode (TB.code.keeps I.bk) hP' ht hc TB.gP bP fun c' ctv h' tk hx hge hlt hrec htb => ?_
    obtain ⟨c2, oc, vs, t, e2, hoc, hd, hv⟩ := hrec
    cases e2
    have hsz : s.heap.objs.size ≤ h'.objs.size := Nat.le_trans hge (Nat.le_of_lt hlt)
    have nC : H c' = none := I.hok.fresh hge
    have nF : H h'.objs.size = none := I.hok.fresh hsz
    have n1 : h'.objs.size ≠ c' := Nat.ne_of_gt hlt
    have n2 : h'.objs.size ≠ P := Nat.ne_of_gt (Nat.lt_of_lt_of_le (Heap.lt_size hP') hsz)
    have nPc : P ≠ c' := ne_of_none hP nC
    have I0 := inv_table (t' := tk) (more := #[rawInt pos.line, rawInt pos.col, .ref c']) (h' := h') I hP hx htb hge ⟨oc, vs, t, hoc, hd, hv⟩
    have I1 := inv_lam (F := ⟨X.env.qual ++ "<lambda>", params, body, scope, c'⟩) (t' := tk) (pm := (X.mg "__name__").getD .none) (ctv := ctv) I0
    have eL : (ps ++ #[rawInt pos.line, rawInt pos.col, .ref c']).toList = ps.toList ++ [rawInt pos.line, rawInt pos.col, .ref c'] := by simp
    have up : ∀ b, b ≠ P → b ≠ c' → b ≠ h'.objs.size → upd (upd (upd H P (.tbl (ps ++ #[rawInt pos.line, rawInt pos.col, .ref c']))) c' (CodeO c' (X.env.qual ++ "<lambda>"))) h'.objs.size (LamO h'.objs.size ⟨X.env.qual ++ "<lambda>", params, body, scope, c'⟩) b = H b := fun b b1 b2 b3 => by
      rw [upd_ne b3, upd_ne b2, upd_ne b1]
    have kept : ∀ b o, b ≠ P → H b = some o → upd (upd (upd H P (.tbl (ps ++ #[rawInt pos.line, rawInt pos.col, .ref c']))) c' (CodeO c' (X.env.qual ++ "<lambda>"))) h'.objs.size (LamO h'.objs.size ⟨X.env.qual ++ "<lambda>", params, body, scope, c'⟩) b = some o := fun b o nb e => by
      rw [up b nb (ne_of_none e nC) (ne_of_none e nF)]; exact e
    refine h h'.objs.size c' _ _ I1 kept ⟨_, by rw [upd_ne n2.symm, upd_ne nPc, upd_same], by rw [eL]; exact PySem.TriplesOk_snoc _ _ _ _ ht, fun p' cv hcv => ?_⟩ nF n2 upd_same (by rw [upd_ne n1.symm, upd_same])
    rw [eL] at hcv
    rcases among_app _ ht hcv with z | z
    · obtain ⟨c0, e1, e3, e2⟩ := ha p' cv z
      refine ⟨c0, e1, e3, kept _ _ (fun z => ?_) e2⟩
      rw [z, hP] at e2
      exact codeO_ne _ (Option.some.inj e2).symm
    · exact ⟨c', z, fun y => hN _ y nC, by rw [upd_ne n1.symm, upd_same]⟩
  | some cv =>
    obtain ⟨c', e, _, hco⟩ := ha pos cv hc
    subst e
    refine PySem.W.kla_makeFunctionHit (mg := X.mg) (c := c) (P := P) (ps := ps) hclo I.ok.glob (I.mod.glob.keeps I.bk) hcode (TB.code.keeps I.bk) hP' ht hc bP fun ctv h' tk hx hsz => ?_
    have nF : H h'.objs.size = none := I.hok.fresh hsz
    have n2 : h'.objs.size ≠ P := Nat.ne_of_gt (Nat.lt_of_lt_of_le (Heap.lt_size hP') hsz)
    have I0 : Inv X pins σ H { s with heap := h', toks := tk } := I.kept hx
    have I1 := inv_lam (F := ⟨X.env.qual ++ "<lambda>", params, body, scope, c'⟩) (t' := tk) (pm := (X.mg "__name__").getD .none) (ctv := ctv) I0
    have kept : ∀ b o, H b = some o → upd H h'.objs.size (LamO h'.objs.size ⟨X.env.qual ++ "<lambda>", params, body, scope, c'⟩) b = some o := fun b o e => by rw [upd_ne (ne_of_none e nF)]; exact e
    exact h h'.objs.size c' _ _ I1 (fun b o _ e => kept b o e) ⟨ps, kept _ _ hP, ht, fun p' cv hcv => let ⟨c0, e1, e3, e2⟩ := ha p' cv hcv; ⟨c0, e1, e3, kept _ _ e2⟩⟩ nF n2 upd_same (kept _ _ hco)
/-- the lambda as a value -/
def tLamb (P : Addr) (q : Str) (params : Arguments) (body : Expr) (scope : Scope) : TE := fun σ H Q => ∃ N : Addr → Prop, TabN N H P q ∧ (∀ b, N b → H b ≠ none) ∧ ∀ (f c' : Addr) (H1 : Hp), (∀ b o, b ≠ P → H b = some o → H1 b = some o) → TabN N H1 P q → H f = none → H1 f = some (LamO f ⟨q, params, body, scope, c'⟩) → H1 c' = some (CodeO c' q) → Q (.ref f) H1
theorem pe_lamb {X : Cx} {c P : Addr} {q : Str} {params : Arguments} {body : Expr} {scope : Scope} {pos : Pos} (TB : TabB X.base X.mg c P) (hcode : X.env.code = .ref c) (hq : X.env.qual ++ "<lambda>" = q) (hdef : defaultsOf params X.env = ([], [])) (hfree : ∀ y ∈ scope.names, y.2 ≠ .free) :
    PE X (.Lambda params body scope pos) (tLamb P q params body scope) :=
  ⟨fun pins s σ H Q I ⟨N, hT, hN, h⟩ => lam_evals I TB hcode hq N hT hN hdef hfree fun f c' H1 s' I1 k t n _ l co => ⟨.ref f, H1, I1, rfl, h f c' H1 k t n l co⟩⟩
section
variable {P : Program} {w : World} {K : PySem.W.Frag} {mg : Str → Option Value} {base : Heap} {A : Around} {outer : List Env} {s : Shared} {H : Hp} {Q : VK} {f : Addr} {F : LamF} {k : Nat} {x : Str} {u : Value} {v : V} {tb : TE}
/-- the context of its body -/
abbrev lamCxN (P : Program) (w : World) (K : PySem.W.Frag) (mg : Str → Option Value) (base : Heap) (x : Str) (F : LamF) (f : Addr) (A : Around) (outer : List Env) (s : Shared) (H : Hp) : Cx := ncx CX0 P w K mg base [x] F.nf f A outer s H (fun _ _ _ => False)
theorem lam_run (S : NScope [x] [x] [] F.scope) (hb : ∀ (pm ctv u : Value), bindArgs (PySem.W.kla_fn "<lambda>" F.qual F.params F.body F.scope [] pm (.ref F.c) ctv) ⟨[u], []⟩ = pure [(x, u)]) (e0 : Env0 P w K mg base A outer s H) (hr : Room (k + 1) A)
    (hf : H f = some (LamO f F)) (hc : H F.c = some (CodeO F.c F.qual)) (body : ∀ s : Shared, Room k (A.deeper (envF F.nf f s.heap.objs.size)) → PE (lamCxN P w K mg base x F f A outer s H) F.body tb) (rv : RelV v u) (q : tb [some v] H Q) :
    codeAny (model P w) A (.call (.ref f) ⟨[u], []⟩) (CR CX0 outer P w H s Q (fun _ _ _ => False)) s := by
  have lim : s.heap.NoLimit := e0.mod.nolimit.keeps fun b o e => (e0.bs b o e).1
  obtain ⟨pm, ctv, ho⟩ := lamO_at e0.hok hf
  obtain ⟨oc, vs, t, hoc, hdc, hvc⟩ := (show ObjOk P w H s.heap F.c (CodeO F.c F.qual) from e0.hok _ _ hc).1
  refine PySem.W.kla_callFunE hr.depth ho rfl S.co S.gen rfl ⟨F.c, oc, vs, t, rfl, hoc, hdc, hvc⟩ ?_
  rw [hb pm ctv u]
  refine wpAny_pure (wpAny_newFunctionEnv S.nocell (fun ⟨n, _⟩ hy => S.par n (by
    have z := List.mem_singleton.mp hy
    cases z
    exact List.mem_cons_self)) (fun h₁ hns hsb => ⟨lim.fresh _ hsb, ?_⟩) S.kind)
  show codeAny _ _ (.expr F.body (envF F.nf f s.heap.objs.size)) _ _
  have kp : ∀ b o, s.heap.get? b = some o → h₁.get? b = some o := fun b o e => hsb.extBut b o (Nat.ne_of_lt (Heap.lt_size e)) (Heap.get?_push_of_some _ e)
  have C : CellsAt F.nf.cl [] [] s.heap H := ⟨rfl, (fun y c e => nomatch e), (fun a b c e => nomatch e), (fun i y e => nomatch e)⟩
  have I : Inv (lamCxN P w K mg base x F f A outer s H) [] (startF [x] [v] []) H { s with heap := h₁, toks := s.toks + [(x, u)].length } :=
    inv_startN (ps := [x]) (us := [u]) S hr.hd e0 rfl (.cons rv .nil) C hns kp
  refine PySem.W.kla_codeExpr (wpAny_mono ((body s (hr.deeper _)).run [] _ _ H Q I q) (fun v' s' hq => ?_) fun e s' hq => hq)
  obtain ⟨w', H', J', rv', q'⟩ := hq
  exact ⟨w', H', J'.os, J'.bare, J'.base, J'.hok, rv', q'⟩
end
/-- records of ours have turned -/
theorem inv_moved {X : Cx} {pins : List (Addr × Obj)} {σ : L2.St} {H : Hp} {s s' : Shared} {ch : List Addr} (I : Inv X pins σ H s) (hf : ∀ b ∈ ch, FpOk X pins H b) (m : Moved ch (fun a b => b = a) s s') : Inv X pins σ H s' := by
  obtain ⟨hh, g, d, t, o'⟩ := s'
  obtain rfl : g = s.gens := m.gens
  obtain rfl : d = s.drawn := m.drawn
  obtain rfl : o' = s.os := m.os
  have nit : ∀ b u, H b = some u → b ∉ ch := fun b u e z => by
    have q := (hf b z).1
    rw [q] at e; cases e
  refine I.step (g' := s.gens) (d' := s.drawn) (ch := ch) (fun b hb => ⟨(hf b hb).2.2.2.1, (hf b hb).2.1, (hf b hb).2.2.2.2.1, (hf b hb).2.2.2.2.2⟩) (fun b o _ _ hc e _ => m.heap b o hc e) (fun b o _ _ hc e _ => ⟨o.slots, m.heap b o hc e⟩) (fun _ _ _ _ n => n)
    (fun b o hc e => ⟨o, m.heap b o hc e⟩) (fun _ _ e => e) (fun _ _ _ e => e) (fun b ps e => ⟨#[], by rw [e]; simp⟩) (fun m' hm => ?_) (fun b u e => ?_) I.bare
  · obtain ⟨o, es, ep, ho, r⟩ := hm
    exact ⟨o, es, ep, m.heap _ o (fun z => (hf _ z).2.1 rfl) ho, r⟩
  · refine (I.hok b u e).stay (fun c v hc q => m.heap c v ?_ q) (fun _ q => q) fun _ _ q => q
    rcases hc with z | z
    · rw [z]; exact nit b u e
    · exact nit c _ z
/-- a tuple's items, told by what stands for them -/
theorem walks_vals {prog : Program} {w : World} {A : Around} (hh : A.handled = none) (I t : Addr) (ne : t ≠ I) (xs : List V) : WalksS prog w A I [I, t] [I] (fun a b => b = a) xs.length (fun i v => ∃ x, xs[i]? = some x ∧ RelV x v)
    (fun i s => s.heap.IsTupleIter I t i ∧ ∃ its : List Value, Vals xs its ∧ s.heap.IsTuple t its.toArray) := by
  have W : ∀ its : List Value, WalksS prog w A I [I, t] [I] (fun a b => b = a) its.toArray.size (fun i v => its.toArray[i]? = some v) (fun i s => s.heap.IsTupleIter I t i ∧ s.heap.IsTuple t its.toArray) := fun its => (Walks.tuple (A := A) hh I t ne its.toArray).toS
  refine ⟨(W []).sub, (W []).grefl, (W []).gtrans, ?_, ?_, ?_, ?_⟩
  · rintro i s h' tk ⟨a, its, r, b⟩ le k
    obtain ⟨a', b'⟩ := (W its).frame i s h' tk ⟨a, b⟩ le k
    exact ⟨a', its, r, b'⟩
  · rintro i s Q E hi ⟨a, its, r, b⟩ cont
    have hl : xs.length = its.length := Paired.length r
    refine (W its).item i s Q E (by simp; omega) ⟨a, b⟩ fun v s' hp st m => ?_
    obtain ⟨y, hy, ry⟩ := paired_get r (List.getElem?_eq_getElem hi)
    rw [List.getElem?_toArray, hy] at hp
    cases hp
    exact cont _ s' ⟨_, List.getElem?_eq_getElem hi, ry⟩ ⟨st.1, its, r, st.2⟩ m
  · rintro s Q E ⟨a, its, r, b⟩ cont
    have hl : xs.length = its.length := Paired.length r
    have a' : s.heap.IsTupleIter I t its.toArray.size := by
      have e : its.toArray.size = xs.length := by simp [hl]
      rw [e]; exact a
    exact (W its).done s Q E ⟨a', b⟩ cont
  · rintro i s Q E ⟨a, its, r, b⟩ h
    exact (W its).self i s Q E ⟨a, b⟩ h
/-- min(t, key=f): the items' numbers, the first of the least -/
def rMinKey (K : PySem.W.Frag) (mk : Addr → LamF) (tb : TE) : List V → List V → Hp → VK → Prop := fun vs zs H Q => ∃ (t f c : Addr) (xs : List V) (num : Nat → Int), vs = [.ref t] ∧ zs = [.ref f] ∧ SqT K H t xs ∧ 0 < xs.length ∧ H f = some (LamO f (mk c)) ∧ H (mk c).c = some (CodeO (mk c).c (mk c).qual) ∧
  (∀ (i : Nat) (v : V) (H1 : Hp), xs[i]? = some v → Same H H1 → tb [some v] H1 fun r H2 => r = .int (num i) ∧ Same H1 H2) ∧
  ∀ (i : Nat) (v : V) (H1 : Hp), xs[i]? = some v → (∀ j, j < xs.length → num i ≤ num j) → Same H H1 → Q v H1
theorem cr_minKey {X : Cx} {mk : Addr → LamF} {tb : TE} {x : Str} {k : Nat} (hcalm : X.calm = true) (S : ∀ c, NScope [x] [x] [] (mk c).scope) (hb : ∀ (c : Addr) (pm ctv u : Value), bindArgs (PySem.W.kla_fn "<lambda>" (mk c).qual (mk c).params (mk c).body (mk c).scope [] pm (.ref (mk c).c) ctv) ⟨[u], []⟩ = pure [(x, u)]) (hr : Room (k + 2) X.A)
    (body : ∀ (c f : Addr) (A : Around) (outer : List Env) (s : Shared) (H : Hp), Room k (A.deeper (envF (mk c).nf f s.heap.objs.size)) → PE (lamCxN X.prog X.w X.K X.mg X.base x (mk c) f A outer s H) (mk c).body tb) :
    CallRK X (.builtin "min") [Str.ofString "key"] (rMinKey X.K mk tb) := by
  intro pins s σ H vs zs us ws Q I r r2 h
  obtain ⟨t, f, c0, xs, num, rfl, rfl, ht, hn, hf, hc, step, fin⟩ := h
  obtain ⟨u, rfl, ru⟩ := vals1 r
  obtain rfl : u = Value.ref t := ru
  obtain ⟨u, rfl, ru⟩ := vals1 r2
  obtain rfl : u = Value.ref f := ru
  obtain ⟨its, rx, hit, _⟩ := I.tuple ht
  have hl : its.length = xs.length := (Paired.length rx).symm
  have hd := I.ok.hd hcalm
  show wpAny _ _ (call (.builtin "min") [.ref t] [(Str.ofString "key", .ref f)]) _ _ _
  have hlt : t < s.heap.objs.size := by obtain ⟨_, e, _⟩ := hit; exact Heap.lt_size e
  have W := walks_vals (prog := X.prog) (w := X.w) (A := X.A.in1) (show X.A.in1.handled = none from hd) s.heap.objs.size t (Nat.ne_of_lt hlt) xs
  refine call_min_walkK (wpAny_pyIter_tuple hit ?_)
  have fpb : ∀ b ∈ [s.heap.objs.size, t], b < (s.heap.push { cls := .type "tuple_iterator", data := .fields #[.ref t, .int 0 0] }).objs.size := fun b hb => by
    rw [Heap.size_push]
    rcases List.mem_cons.mp hb with rfl | hb
    · exact Nat.lt_succ_self _
    · rw [List.mem_singleton.mp hb]; exact Nat.lt_succ_of_lt hlt
  refine ⟨_, _, _, _, _, _, _, fun s' => ∃ H', Inv X pins σ H' s' ∧ Same H H' ∧ FpOk X pins H' s.heap.objs.size ∧ FpOk X pins H' (s.heap.push { cls := .type "tuple_iterator", data := .fields #[.ref t, .int 0 0] }).objs.size, fun i v s' => ∃ t, v = .int (num i) t, fun i j => decide (num i < num j), rfl, W,
    ⟨⟨_, Heap.get?_push_size _ rfl, rfl, rfl⟩, its, rx, hit.push _⟩, fpb, hn, ⟨?_, ?_, ?_, ?_⟩, ?_, ?_⟩
  · rintro s1 s2 ⟨H', I', sm, f1, f2⟩ m
    refine ⟨H', inv_moved I' (fun b hb => ?_) m, sm, f1, f2⟩
    rcases List.mem_cons.mp hb with rfl | hb
    · exact f2
    · rw [List.mem_singleton.mp hb]; exact f1
  · exact fun i k s1 s2 h _ => h
  · rintro i v s1 o Q' E' hi ⟨x0, hx, rv⟩ ⟨H', I', sm, f1, f2⟩ ⟨st1, _⟩ hS cont
    have hr' : Room (k + 1) X.A.in1 := hr.in1
    refine wpAny_call (codeAny_mono (lam_run (S c0) (hb c0) I'.env0.in1 hr' (sm _ _ hf) (sm _ _ hc) (fun s rm => body c0 f _ _ s H' rm) rv (step i x0 H' hx sm)) fun r s' hq => ?_)
    cases r with
    | error e => exact False.elim hq
    | ok fl =>
      cases fl with
      | next => exact False.elim hq
      | brk => exact False.elim hq
      | cont => exact False.elim hq
      | ret u =>
        obtain ⟨v2, H2, os, bare, un, hok, rv2, e2, s2⟩ := hq
        obtain ⟨hh, g, d, t', os'⟩ := s'
        obtain rfl : os' = s1.os := os
        have I2 : Inv X pins σ H2 { s1 with heap := hh, gens := g, drawn := d, toks := t' } := I'.call (h' := hh) (g' := g) (d' := d) (t' := t') (ch := []) un hok bare (fun b z => absurd z (by simp))
        have nfs : ∀ b, FpOk X pins H' b → b ∉ frs X.stack := fun b fb z => (List.mem_cons.mp (I'.stkSub b z)).elim fb.2.1 fb.2.2.1
        have stays : ∀ b ob, s1.heap.get? b = some ob → FpOk X pins H' b → hh.get? b = some ob ∧ FpOk X pins H2 b := fun b ob e fb => ⟨un.keep b ob e fb.1 (nfs b fb) (by simp), un.free b ob e fb.1 (by simp), fb.2⟩
        obtain ⟨oi, ei, ci, di⟩ := st1
        obtain ⟨its2, rx2, hit2, _⟩ := I2.tuple (Same.sqt (Same.trans sm s2) ht)
        rw [e2] at rv2
        obtain ⟨t3, e3⟩ := rv2
        exact cont u _ ⟨H2, I2, Same.trans sm s2, (stays _ _ ei f1).2, (stays _ _ hS f2).2⟩ ⟨⟨oi, (stays _ _ ei f1).1, ci, di⟩, its2, rx2, hit2⟩ (stays _ _ hS f2).1 ⟨t3, e3⟩ (fun _ _ h => h)
  · rintro i j ki kj s1 Q' E' _ ⟨t1, rfl⟩ ⟨t2, rfl⟩ hQ
    show wpAny _ _ (compareOp .Lt _ _) _ _ _
    exact wpAny_lt_int hQ
  · exact ⟨H, I.kept (t' := s.toks) fun b o q => Heap.get?_push_of_some _ q, Same.refl _, I.fpOk (Nat.le_refl _) (I.hok.fresh (Nat.le_refl _)), I.fpOk (by rw [Heap.size_push]; exact Nat.le_succ _) (I.hok.fresh (by rw [Heap.size_push]; exact Nat.le_succ _))⟩
  · rintro v s' ⟨x0, hx, rv⟩ ⟨H', I', sm, _, _⟩
    obtain ⟨_, best⟩ := argBest_lt num (xs.length - 1)
    exact ⟨x0, H', I', rv, fin _ x0 H' hx (fun j hj => best j (by omega)) sm⟩
end Cw

namespace Cw
open PySem PySem.Spec PyProof.Rows L2
/-! ### the end of a law of whose defs some hold generator expressions (their tables are tracked, and may grow), some lambdas (their tables are told, and grow) -/
def entryL (T L : List Addr) (K : PySem.W.Frag) (a : Addr) (o : Obj) (xs : List V) : Hp := fun b => if b ∈ L then some (.tbl #[]) else if b ∈ T then some (TbX b) else if b = a ∧ (K.lookup a).isNone = true then some (.frz o (.lst xs)) else none
section
variable {T L : List Addr} {K : PySem.W.Frag} {a b : Addr} {o : Obj} {xs : List V} {u : HO}
theorem entryL_lam (h : b ∈ L) : entryL T L K a o xs b = some (.tbl #[]) := if_pos h
theorem entryL_tab (h : b ∈ T) (n : b ∉ L) : entryL T L K a o xs b = some (TbX b) := by unfold entryL; rw [if_neg n, if_pos h]
theorem entryL_cases (h : entryL T L K a o xs b = some u) : (b ∈ L ∧ u = .tbl #[]) ∨ (b ∉ L ∧ b ∈ T ∧ u = TbX b) ∨ (b ∉ L ∧ b ∉ T ∧ b = a ∧ K.lookup a = none ∧ u = .frz o (.lst xs)) := by
  unfold entryL at h
  split at h
  · rename_i hb; exact .inl ⟨hb, (Option.some.inj h).symm⟩
  · rename_i hl
    split at h
    · rename_i hb; exact .inr (.inl ⟨hl, hb, (Option.some.inj h).symm⟩)
    · rename_i hb
      split at h
      · rename_i ha; exact .inr (.inr ⟨hl, hb, ha.1, Option.isNone_iff_eq_none.mp ha.2, (Option.some.inj h).symm⟩)
      · cases h
theorem entryL_none (hL : b ∉ L) (hT : b ∉ T) (ha : b ≠ a ∨ ∃ z, K.lookup a = some z) : entryL T L K a o xs b = none := by
  cases e : entryL T L K a o xs b with
  | none => rfl
  | some u =>
    rcases entryL_cases e with ⟨h, _⟩ | ⟨_, h, _⟩ | ⟨_, _, h, h2, _⟩
    · exact absurd h hL
    · exact absurd h hT
    · rcases ha with z | ⟨z, e2⟩
      · exact absurd h z
      · rw [h2] at e2; cases e2
end
theorem law_tabsL {P : Program} {w : World} {K : PySem.W.Frag} {mg mb : Str → Option Value} {fa a : Addr} {cs ls : List (Addr × Addr)} {fd : FuncData} {x : Str} {sp : Sp} {s : Shared} {vs : List Value} {ns : List Int}
    (KX : K.In s.heap) (hns : s.heap.Ns mainGlobals mg) (hb : s.heap.Ns builtinsNs mb) (hbb : ∀ x : Str, x ≠ "__name__" → mb x = bootBuiltins x) (hlim : s.heap.NoLimit) (hg : s.gens = #[])
    (hT : ∀ p ∈ cs ++ ls, s.heap.get? p.2 = some tab0) (nT : ∀ p ∈ cs ++ ls, K.lookup p.2 = none) (C : ∀ p ∈ cs ++ ls, PySem.W.CodeHd s.heap p.1 p.2) (dis : ∀ p ∈ cs, p.2 ∉ ls.map (·.2))
    (hbm : ∃ (bm : Addr) (ob : Obj), mg "__builtins__" = some (.ref bm) ∧ bm ≠ builtinsNs ∧ s.heap.get? bm = some ob ∧ ob.cls = .type "module" ∧ ob.dict = some builtinsNs ∧ ob.data = .plain)
    (ha : s.heap.get? a = some { cls := .type "list", data := .seq vs.toArray }) (hi : IntsAre vs ns) (hl : ns.length ≤ sizeLine)
    (F : ∀ base : Heap, K.In base → base.Ns mainGlobals mg → (∀ p ∈ cs, GxR.TabB base mg p.1 p.2) → (∀ p ∈ ls, LamX.TabB base mg p.1 p.2) → FnAt P w K mg base callerA fa fd [x] sp) (hbind : ∀ (s : Shared) (u : Value), BindsTo s fd ⟨[u], []⟩ [(x, u)])
    (hsp : ∀ H : Hp, (∀ p ∈ cs, H p.2 = some (TbX p.2)) → (∀ p ∈ ls, H p.2 = some (.tbl #[])) → SqL K H a (ns.map V.int) → sp [.ref a] H (fun v H' => v = .bl true ∧ ∀ p ∈ cs, H' p.2 = some (TbX p.2)) fun _ _ _ => False)
    :
    codeAny (model P w) callerA (.call (.ref fa) ⟨[.ref a], []⟩) (fun r s' => r = .ok (.ret (.bool true)) ∧ OldK s.heap s'.heap ∧ s'.os = s.os ∧ AllBare s'.gens) s := by
  have inT : ∀ {b}, b ∈ (cs ++ ls).map (·.2) → ∃ p ∈ cs ++ ls, p.2 = b := fun h => let ⟨p, hp, e⟩ := List.mem_map.mp h; ⟨p, hp, e⟩
  have atT : ∀ {b}, b ∈ (cs ++ ls).map (·.2) → s.heap.get? b = some tab0 := fun h => let ⟨p, hp, e⟩ := inT h; e ▸ hT p hp
  have cI : ∀ {b}, b ∈ cs.map (·.2) → b ∈ (cs ++ ls).map (·.2) := fun h => by rw [List.map_append]; exact List.mem_append_left _ h
  have lI : ∀ {b}, b ∈ ls.map (·.2) → b ∈ (cs ++ ls).map (·.2) := fun h => by rw [List.map_append]; exact List.mem_append_right _ h
  have rv : Vals (ns.map V.int) vs := vals_ints hi
  have lv : (ns.map V.int).length = vs.length := rv.length
  generalize hH : entryL (cs.map (·.2)) (ls.map (·.2)) K a { cls := .type "list", data := .seq vs.toArray } (ns.map V.int) = H
  have tabH : ∀ p ∈ cs, H p.2 = some (TbX p.2) := fun p hp => by rw [← hH]; exact entryL_tab (List.mem_map.mpr ⟨p, hp, rfl⟩) (dis p hp)
  have lamH : ∀ p ∈ ls, H p.2 = some (.tbl #[]) := fun p hp => by rw [← hH]; exact entryL_lam (List.mem_map.mpr ⟨p, hp, rfl⟩)
  -- what is neither a table nor a list is not tracked
  have off : ∀ {b : Addr} {o : Obj}, s.heap.get? b = some o → o.data ≠ .fields #[] → (∀ zs n, o.data ≠ .seq zs n) → H b = none := fun {b o} e d1 d2 => by
    rw [← hH]
    refine entryL_none (fun z => ?_) (fun z => ?_) (.inl fun z => ?_)
    · rw [atT (lI z)] at e; cases e; exact d1 rfl
    · rw [atT (cI z)] at e; cases e; exact d1 rfl
    · rw [z, ha] at e; cases e; exact d2 _ _ rfl
  have okH : HOk P w H s.heap := fun b u e => by
    rw [← hH] at e
    rcases entryL_cases e with ⟨h, rfl⟩ | ⟨_, h, rfl⟩ | ⟨_, _, rfl, _, rfl⟩
    · exact atT (lI h)
    · exact ⟨⟨#[], atT (cI h), trivial⟩, ⟨_, atT (cI h)⟩, fun h1 h2 ⟨ps, z, zt⟩ st => ⟨ps, st _ z, zt⟩⟩
    · exact ⟨ha, by rw [List.length_map]; exact hl, vs, _, rv, ha⟩
  have hidden : ∀ {b : Addr} {m : Str → Option Value}, s.heap.Ns b m → (hidT s.heap H).Ns b m := fun ⟨o, es, ep, e, d, r⟩ => ⟨o, es, ep, hidT_get e (off e (by rw [d]; exact fun z => nomatch z) (by rw [d]; exact fun _ _ z => nomatch z)), d, r⟩
  have KB : K.In (hidT s.heap H) := fun b o e => hidT_get (KX b o e) (by
    rw [← hH]
    refine entryL_none (fun z => ?_) (fun z => ?_) ?_
    · obtain ⟨p, hp, rfl⟩ := inT (lI z)
      rw [nT p hp] at e; cases e
    · obtain ⟨p, hp, rfl⟩ := inT (cI z)
      rw [nT p hp] at e; cases e
    · by_cases z : b = a
      · exact .inr ⟨o, z ▸ e⟩
      · exact .inl z)
  have TB : ∀ p ∈ cs ++ ls, PySem.W.CodeHd (hidT s.heap H) p.1 p.2 ∧ (hidT s.heap H).BuiltinsAt mg p.2 ∧ mainGlobals ≠ p.2 := fun p hp => by
    refine ⟨?_, ?_, fun z => ?_⟩
    · obtain ⟨o, us, fl, tf, fs, tg, iF, tx, tt, e1, r1, r2, r3, r⟩ := C p hp
      exact ⟨o, us, fl, tf, fs, tg, iF, tx, tt, hidT_get e1 (off e1 (fun z => by rw [r2] at z; cases z; simp at r3) (by rw [r2]; exact fun _ _ z => nomatch z)), r1, r2, r3, r⟩
    · obtain ⟨bm, ob, b1, b2, b3, b4, b5, b6⟩ := hbm
      refine ⟨bm, ob, b1, b2, fun q => ?_, fun q => ?_, hidT_get b3 (off b3 (by rw [b6]; exact fun z => nomatch z) (by rw [b6]; exact fun _ _ z => nomatch z)), b4, b5, b6⟩
      · obtain ⟨o, es, ep, e, d, _⟩ := hns
        rw [← q, b3] at e; cases e; rw [b6] at d; cases d
      · rw [q, hT p hp] at b3; cases b3; cases b6
    · obtain ⟨o, es, ep, e, d, _⟩ := hns
      rw [z, hT p hp] at e; cases e; cases d
  have SQ : SqL K H a (ns.map V.int) := by
    cases e : K.lookup a with
    | some o =>
      have e' := KX a o e
      rw [ha] at e'; cases e'
      exact .inr ⟨_, vs.toArray, _, e, rfl, rfl, rfl, by rw [List.size_toArray, ← lv, List.length_map]; exact hl, by simpa using rv⟩
    | none =>
      refine .inl (.inr ⟨{ cls := .type "list", data := .seq vs.toArray }, ?_⟩)
      rw [← hH]
      unfold entryL
      rw [if_neg (fun z => by have := atT (lI z); rw [ha] at this; cases this), if_neg (fun z => by have := atT (cI z); rw [ha] at this; cases this), if_pos ⟨rfl, by rw [e]; rfl⟩]
  have E0 : Env0 P w K mg (hidT s.heap H) callerA [] s H := ⟨rfl, ⟨KB, hidden hns, ⟨mb, hidden hb, hbb⟩, let ⟨mc, h1, h2⟩ := hlim; ⟨mc, hidden h1, h2⟩⟩, fun b o e => of_hidT e, Nat.le_of_eq (hidT_size _ _), trivial, fun b z => (nomatch z), okH, .of_eq hg⟩
  refine codeAny_mono ((F _ KB (hidden hns) (fun p hp => let ⟨x, y, z⟩ := TB p (List.mem_append_left _ hp); ⟨x, y, z⟩) (fun p hp => let ⟨x, y, z⟩ := TB p (List.mem_append_right _ hp); ⟨x, y, z⟩)).run [] s H ⟨[.ref a], []⟩ [.ref a] [.ref a] _ _ E0 (hbind s (.ref a)) (.cons rfl .nil) (hsp H tabH lamH SQ)) fun r s' h => ?_
  match r, h with
  | .error e, h => exact h.elim
  | .ok .next, h => exact h.elim
  | .ok .brk, h => exact h.elim
  | .ok .cont, h => exact h.elim
  | .ok (.ret u), ⟨v, H', os, bare, un, ok', rel, ev, tabs⟩ =>
    subst ev
    obtain rfl : u = Value.bool true := rel
    have grown : ∀ p ∈ cs ++ ls, ∃ more : Array Value, s'.heap.get? p.2 = some { cls := .none, data := .fields more } := fun p hp => by
      rcases List.mem_append.mp hp with hp | hp
      · exact let ⟨ps, e, _⟩ := (ok' _ _ (tabs p hp)).1; ⟨ps, e⟩
      · obtain ⟨more, e⟩ := un.tbls _ _ (lamH p hp)
        exact ⟨_, ok' _ _ e⟩
    have stays : ∀ b o, b ∉ (cs ++ ls).map (·.2) → s.heap.get? b = some o → s'.heap.get? b = some o := fun b o nb e => by
      cases q : H b with
      | none => exact un.keep b o e q (fun z => nomatch z) (fun z => nomatch z)
      | some u =>
        have q2 := q
        rw [← hH] at q2
        rcases entryL_cases q2 with ⟨z, _⟩ | ⟨_, z, _⟩ | ⟨_, _, _, _, rfl⟩
        · exact absurd (lI z) nb
        · exact absurd (cI z) nb
        · have e1 := (okH b _ q).1
          rw [e] at e1
          rw [e1]
          exact (ok' b _ (un.frzs b _ _ q)).1
    refine ⟨rfl, ⟨fun b o e => ?_, fun b o e => ?_⟩, os, bare⟩ <;> by_cases hb : b ∈ (cs ++ ls).map (·.2)
    · obtain ⟨p, hp, rfl⟩ := inT hb
      obtain ⟨more, hm⟩ := grown p hp
      rw [hT p hp] at e
      cases e
      exact .inr (.inl ⟨((C p hp).tab (hT p hp)).isCodeTable, rfl, #[], more, rfl, by rw [Array.empty_append]; exact hm⟩)
    · exact .inl (stays b o hb e)
    · obtain ⟨p, hp, rfl⟩ := inT hb
      obtain ⟨more, hm⟩ := grown p hp
      exact ⟨_, hm⟩
    · exact ⟨o, stays b o hb e⟩
/-- the law's promise, its tables tracked or told -/
def spLawL (K : PySem.W.Frag) (cs ls : List (Addr × Addr)) : Sp := fun vs H Q _ => ∃ (a : Addr) (ns : List Int), vs = [.ref a] ∧ SqL K H a (ns.map V.int) ∧ ns.length ≤ 63 ∧ (∀ p ∈ cs, H p.2 = some (TbX p.2)) ∧ (∀ p ∈ ls, H p.2 = some (.tbl #[])) ∧ ∀ H', (∀ p ∈ cs, H' p.2 = some (TbX p.2)) → Q (.bl true) H'
def LawL (l : PySem.W.OpenLaw) (w : World) (K : PySem.W.Frag) (mg : Str → Option Value) (fa : Addr) (h : Heap) : Prop := ∃ (fd : FuncData) (cs ls : List (Addr × Addr)), (∀ (s : Shared) (u : Value), BindsTo s fd ⟨[u], []⟩ [("script", u)]) ∧ (∀ p ∈ cs ++ ls, h.get? p.2 = some tab0) ∧ (∀ p ∈ cs ++ ls, K.lookup p.2 = none) ∧ (∀ p ∈ cs ++ ls, PySem.W.CodeHd h p.1 p.2) ∧ (∀ p ∈ cs, p.2 ∉ ls.map (·.2)) ∧
  ∀ base : Heap, K.In base → base.Ns mainGlobals mg → (∀ p ∈ cs, GxR.TabB base mg p.1 p.2) → (∀ p ∈ ls, LamX.TabB base mg p.1 p.2) → FnAt l.prog w K mg base callerA fa fd ["script"] (spLawL K cs ls)
theorem walk_ofL {l : PySem.W.OpenLaw} {q : Program} {loose : List Str} {XP : (Str → Option Value) → Heap → Prop} {YP : World → Heap → Prop} {d : DefRec} {K : Params → PySem.W.Frag} (names : List Str)
    (hn : l.most = some 63) (hdf : d.params.defaults = []) (hrec : (names.all fun x => (recsOf q).any fun e => e.name == x) = true) (hY : ∀ (w : World) (h : Heap), YP w h → (K w.params).In h)
    (F : ∀ (w : World) (mg : Str → Option Value) (fa : Addr) (h : Heap), (K w.params).In h → YP w h → h.Ns mainGlobals mg → mg d.name = some (.ref fa) → (∀ x ∈ names, TabFact mg h x) → LawL l w (K w.params) mg fa h) :
    PySem.W.WalkO q loose XP YP l.row.toRowW d [] (fun f vs => PySem.call f vs) := by
  refine Att.attach_callB hn hdf fun w s₀ s₁ mg mb fa o pm cd doc a vs ns G Y ho hd hcd hmg hobj hints hlen hbits hg => ?_
  have KX := hY w _ Y
  have facts : ∀ x ∈ names, TabFact mg s₁.heap x := fun x hx => by
    obtain ⟨e, he, ee⟩ := List.any_eq_true.mp (List.all_eq_true.mp hrec x hx)
    obtain ⟨a1, o1, fd1, c1, P1, r⟩ := G.T.tab e he
    have : e.name = x := beq_iff_eq.mp ee
    rw [this] at r
    exact ⟨a1, o1, fd1, c1, P1, r⟩
  obtain ⟨fd, cs, ls, hb, hT, nT, C, dis, hF⟩ := F w mg fa _ KX Y G.T.g hmg facts
  exact law_tabsL KX G.T.g G.T.b G.T.builtins G.T.nolimit hg hT nT C dis G.T.bmain hobj hints (Nat.le_trans hlen (by decide)) hF hb (fun H hH hL hS => ⟨a, ns, rfl, hS, hlen, hH, hL, fun H' h' => ⟨rfl, h'⟩⟩)
end Cw

/-! sorted() of a list of told data -/
namespace Cw
open PySem PySem.Spec PyProof.Rows L2
theorem vals_each : ∀ {bs : List (V × PyData)} {its : List Value}, Vals (bs.map (·.1)) its → PySem.W.EachIs (fun v (b : V × PyData) => RelV b.1 v) its bs
  | [], _, r => by
    cases r
    exact .nil
  | b :: bs, _, r => by
    cases r with
    | cons h t => exact .cons h (vals_each t)
theorem each_vals : ∀ {bs : List (V × PyData)} {its : List Value}, PySem.W.EachIs (fun v (b : V × PyData) => RelV b.1 v) its bs → Vals (bs.map (·.1)) its
  | _, _, .nil => .nil
  | _, _, .cons h t => .cons h (each_vals t)
theorem each_imp {α β : Type} {R S : α → β → Prop} : ∀ {as : List α} {bs : List β}, PySem.W.EachIs R as bs → (∀ b ∈ bs, ∀ a, R a b → S a b) → PySem.W.EachIs S as bs
  | _, _, .nil, _ => .nil
  | _, _, .cons h t, f => .cons (f _ List.mem_cons_self _ h) (each_imp t fun b hb => f b (List.mem_cons_of_mem _ hb))
/-- the list sorted by its items' data -/
def sortD (bs : List (V × PyData)) : List (V × PyData) := bs.mergeSort (PySem.W.dataLe false Prod.snd)
def rSortedDat (K : PySem.W.Frag) : List V → Hp → VK → Prop := fun vs H Q => ∃ (a : Addr) (bs : List (V × PyData)), vs = [V.ref a] ∧ SqL K H a (bs.map (·.1)) ∧ (∀ b ∈ bs, Dp K H b.1 b.2) ∧ PySem.W.AllAlike (bs.map (·.2)) ∧ PySem.W.Sortable (bs.map (·.2)) ∧ (∀ b ∈ bs, b.2.depth ≤ 60) ∧
  ∀ p, H p = none → Q (.ref p) (upd H p (.lst ((sortD bs).map (·.1))))
theorem cr_sortedDat {X : Cx} (hu : X.A.units + 65 < cLine) : CallR X (.builtin "sorted") (rSortedDat X.K) := by
  intro pins s σ H vs us Q I r h
  obtain ⟨a, bs, rfl, hs, hd, hal, hk, hdep, q⟩ := h
  obtain ⟨its, rv, hl, hz⟩ := I.list hs
  obtain ⟨u, rfl, ru⟩ := vals1 r
  obtain rfl : u = Value.ref a := ru
  have e := vals_each rv
  have er : PySem.W.EachIs (fun v (b : V × PyData) => ∃ as, Reads s.heap v (Prod.snd b) as) its bs := each_imp e fun b hb v hv => Dp.reads I b.2 b.1 v (hd b hb) hv
  rw [List.length_map] at hz
  refine PySem.W.sorted_data (enc := Prod.snd) hl.isList e er hal hk hz (fun b hb => by have := hdep b hb; omega) fun out lo eo => ?_
  have hvb := each_vals eo
  have ln : ((sortD bs).map (·.1)).length ≤ sizeLine := by
    rw [List.length_map]
    unfold sortD
    rw [List.length_mergeSort]
    exact hz
  obtain ⟨n, hn⟩ := sortedAll_at s.heap its out.toArray
  exact ⟨.ref _, upd H _ (.lst ((sortD bs).map (·.1))), I.laid (t' := s.toks) (fun b o e => sortedAll_old e) (Nat.le_succ _) (show ObjOk X.prog X.w _ _ _ (.lst ((sortD bs).map (·.1))) from ⟨ln, out, n, hvb, hn⟩), rfl, q _ (I.hok.fresh (Nat.le_succ _))⟩
theorem sortD_perm (bs : List (V × PyData)) : (sortD bs).Perm bs := List.mergeSort_perm _ _
end Cw

/-! sets of whole numbers: set(a list), {one}; a def's code told to its body -/
namespace Cw
open PySem PySem.Spec PySem.Calls PyProof.Rows L2
section
variable {P : Program} {w : World} {A : Around} {E : Value → Shared → Prop} {s : Shared}
abbrev noSet (w : World) : Obj := { cls := .type "set", dict := none, data := .set #[] 0 (.fresh 0 0 (!w.params.followText "set-order")) }
set_option maxHeartbeats 3200000 in
theorem call_set_lstI {l : Addr} {items : Array Value} (ns : List Int) {Q : Value → Shared → Prop} (hh : A.handled = none) (lst : s.heap.IsList l items) (nums : IntsAre items.toList ns) (room : ns.length + 1 < scanBound)
    (h : ∀ (h' : Heap) (tk c : Nat), SetR w h' s.heap.objs.size (fun j => decide (j ∈ ns)) c → c ≤ ns.length → (∀ b o, s.heap.get? b = some o → h'.get? b = some o) → Q (.ref s.heap.objs.size) { s with heap := h', toks := tk }) :
    wpAny (model P w) A (call (.type "set") [.ref l]) Q E s := by
  have many : items.size = ns.length := by
    have z := IntsAre.length nums
    rwa [Array.length_toList] at z
  obtain ⟨c, tl, hmro⟩ := F.called_set.mro
  have hmade := F.called_set.made
  have hsub := F.called_set.sub
  (refine wpAny_call (codeAny_of_tree ?_))
  show wpAny _ _ (callAny (.type "set") _) _ _ _
  (refine wpAny_pure ⟨Code.quiet_builtin _ (by decide +kernel), codeAny_builtin F.entry_type_call ?_⟩)
  (rw [Around.under_plain (weight_type_call_type "set" [.ref l] []) rfl])
  have h1 := F.called_set.notType
  have h2 := F.called_set.canCreate
  have hct := F.typeCall_set_1 (.ref l)
  (repeat (any_goals (first | assumption | wp_step)))
  refine codeAny_mono (code_set_led1 (.ref l) (E := E) (Q₁ := fun obj s₁ => obj = .ref s.heap.objs.size ∧ s₁ = { s with heap := s.heap.push (noSet w) }) ⟨rfl, rfl⟩) fun r s₁ hr => ?_
  match r, hr with
  | .error e, hr => exact hr
  | .ok (.next), hr => exact hr.elim
  | .ok (.brk), hr => exact hr.elim
  | .ok (.cont), hr => exact hr.elim
  | .ok (.ret obj), hr =>
    obtain ⟨rfl, rfl⟩ := hr
    have eS : (s.heap.push (noSet w)).get? s.heap.objs.size = some (noSet w) := Heap.get?_push_size _ rfl
    have tyS : Shared.TypeIs { s with heap := s.heap.push (noSet w) } (.ref s.heap.objs.size) "set" := ⟨_, eS, rfl⟩
    have hli := F.called_set.init.lookup
    have hbi := F.called_set.init.bind (.ref s.heap.objs.size)
    (repeat (any_goals (first | assumption | wp_step)))
    refine codeAny_mono (codeAny_call_builtin (R := wants (fun r s₂ => r = .none ∧ ∃ h' tk c, s₂ = { s with heap := h', toks := tk } ∧ SetR w h' s.heap.objs.size (fun j => decide (j ∈ ns)) c ∧ c ≤ ns.length ∧
        (∀ b o, s.heap.get? b = some o → h'.get? b = some o)) E) F.called_set.init.plain F.entry_set_init (check_set_init_1 tyS ?_)) fun r₂ s₂ hr₂ => ?_
    · obtain ⟨ol, eol, cl, nl, dl⟩ := lst
      obtain ⟨lcls, ldict, ldata, lslots⟩ := ol
      simp only at cl dl
      subst cl
      subst dl
      have eol' : (s.heap.push (noSet w)).get? l = some { cls := .type "list", dict := ldict, data := .seq items nl, slots := lslots } := Heap.get?_push_of_some _ eol
      have hsls := F.sub_list_set
      have hslf := F.sub_list_frozenset
      have hne : (Value.type "list" == Value.type "dict") = false := by decide
      have lst1 : (s.heap.push (noSet w)).IsList l items := ⟨_, eol', rfl, nl, rfl⟩
      (unfold Builtin.«set.__init__» noKeywords; unfold Builtin.Frozenset.updateFrom)
      generalize hPI : pyIter = PI
      wp_walk
      subst hPI
      refine wpAny_pyIter_list lst1 ?_
      refine wpAny_bind (wpAny_runValue ?_)
      have below : l < s.heap.objs.size := Heap.lt_size eol
      have hh3 : A.in1.in1.in1.handled = none := by simp [hh]
      have sz1 : (s.heap.push (noSet w)).objs.size = s.heap.objs.size + 1 := Heap.size_push ..
      have neI : l ≠ (s.heap.push (noSet w)).objs.size := by
        rw [sz1]
        exact Nat.ne_of_lt (Nat.lt_succ_of_lt below)
      have apart : s.heap.objs.size ∉ [(s.heap.push (noSet w)).objs.size, l] := by
        rw [sz1]
        intro z
        rcases List.mem_cons.mp z with z | z
        · exact absurd z (Nat.ne_of_lt (Nat.lt_succ_self _))
        · exact absurd (List.mem_singleton.mp z) (Nat.ne_of_gt below)
      have vals : ∀ (i : Nat) (v : Value), items[i]? = some v → ∃ k t, ns[i]? = some k ∧ v = .int k t := fun i v hv => by
        have hi : i < ns.length := by rw [← many]; exact (Array.getElem?_eq_some_iff.mp hv).1
        obtain ⟨t, e⟩ := PyProof.Rows.IntsAre.int_at nums i v (by rw [Array.getElem?_toList]; exact hv)
        exact ⟨ns[i], t, List.getElem?_eq_getElem hi, by rw [e, List.getD_eq_getElem?_getD, List.getElem?_eq_getElem hi]; rfl⟩
      refine set_update_ints ((Walks.list hh3 _ l neI items).toS) s.heap.objs.size apart ns many room vals (items.size - 0) 0 _ (by omega) (Nat.zero_le _) ⟨⟨_, Heap.get?_push_size _ rfl, rfl, rfl⟩, (lst1.push _)⟩ ⟨0, Nat.le_refl 0, setR_new_at (Heap.get?_push_of_some _ eS)⟩ ?_
      intro s' c' mv le' new
      obtain ⟨h', g2, d', tk', os'⟩ := s'
      have eg : g2 = s.gens := mv.gens
      have ed : d' = s.drawn := mv.drawn
      have eo : os' = s.os := mv.os
      subst eg
      subst ed
      subst eo
      show wpAny _ _ _ _ _ _
      refine wpAny_pure ?_
      show wpAny _ _ (ret Value.none) _ _ _
      rw [many] at le'
      refine wpAny_pure ⟨rfl, h', tk', c', rfl, new, le', fun b o e => ?_⟩
      have b0 : b < s.heap.objs.size := Heap.lt_size e
      refine mv.heap b o (fun z => ?_) (Heap.get?_push_of_some _ (Heap.get?_push_of_some _ e))
      rcases List.mem_cons.mp z with z | z
      · exact absurd z (Nat.ne_of_lt b0)
      · have z := List.mem_singleton.mp z
        rw [sz1] at z
        exact absurd z (Nat.ne_of_lt (Nat.lt_succ_of_lt b0))
    · match r₂, hr₂ with
      | .error e, hr₂ => exact hr₂
      | .ok (.next), hr₂ => exact hr₂.elim
      | .ok (.brk), hr₂ => exact hr₂.elim
      | .ok (.cont), hr₂ => exact hr₂.elim
      | .ok (.ret r), hr₂ =>
        obtain ⟨rfl, h', tk, c', rfl, new, le', kept⟩ := hr₂
        (repeat (any_goals (first | assumption | wp_step)))
        exact h _ _ _ new le' kept
end
section
variable {X : Cx}
/-- set(xs), xs a list of whole numbers -/
def rSetL (K : PySem.W.Frag) (w : World) : List V → Hp → VK → Prop := fun xs H Q => ∃ (a : Addr) (ns : List Int), xs = [.ref a] ∧ SqL K H a (ns.map V.int) ∧ ns.length ≤ 1000 ∧
  ∀ p c, c ≤ ns.length → H p = none → Q (.ref p) (upd H p (SetO w p (fun k => decide (k ∈ ns)) c))
theorem cr_setL (hc : X.calm = true) : CallR X (.type "set") (rSetL X.K X.w) := by
  intro pins s σ H xs us Q I r h
  obtain ⟨a, ns, rfl, hx, few, q⟩ := h
  obtain ⟨u, rfl, ru⟩ := vals1 r
  cases ru
  obtain ⟨its, rel, lst, _⟩ := I.list hx
  refine call_set_lstI ns (I.ok.hd hc) lst.isList (by simpa using intsAre_of rel) (by unfold scanBound; omega) fun h' tk c R le kept => ?_
  exact ⟨.ref _, _, I.laid (t' := tk) kept (Nat.le_refl _) (setO_new R), rfl, q _ c le (I.hok.fresh (Nat.le_refl _))⟩
end
/-! ### {one} -/
theorem codeIn_kds {K : PySem.W.Frag} {cd : Value} {q : Str} (h : PySem.W.codeIn K cd q = true) : PySem.W.kdsCode K cd = true := by
  unfold PySem.W.codeIn at h
  unfold PySem.W.kdsCode
  split at h
  · split at h
    · rename_i e
      simp only [e]
    · cases h
  · cases h
section
variable {P : Program} {w : World} {A : Around} {E : Value → Shared → Prop} {s : Shared}
theorem newSet_led {Q : Value → Shared → Prop} (h : Q (.ref s.heap.objs.size) { s with heap := s.heap.push (noSet w) }) : wpAny (model P w) A (newSet (.type "set")) Q E s := by
  unfold newSet
  refine wpAny_bind (wpAny_byText ?_)
  dsimp only
  exact wpAny_newObj_type h
theorem display_one {b : Bool} {T : Sem Value} {Q : Value → Shared → Prop}
    (h : wpAny (model P w) A T (fun v s1 => wpAny (model P w) A (setAdd s.heap.objs.size v) (fun _ s2 => Q (.ref s.heap.objs.size) s2) E s1) E { s with heap := s.heap.push (noSet w) }) :
    wpAny (model P w) A (setDisplay .oneByOne b [(false, T)]) Q E s := by
  unfold setDisplay
  dsimp only
  rw [if_neg (by decide)]
  refine wpAny_bind (newSet_led ?_)
  dsimp only
  refine wpAny_bind (wpAny_holding ?_)
  refine wpAny_bind ?_
  show wpAny _ _ (T >>= fun v => holding [v] (evalAll []) >>= fun r => pure (v :: r)) _ _ _
  refine wpAny_bind (wpAny_mono h (fun v s1 h1 => ?_) fun _ _ x => x)
  refine wpAny_bind (wpAny_holding (wpAny_pure ?_))
  refine wpAny_pure ?_
  refine wpAny_bind (wpAny_holding ?_)
  rw [List.forIn_cons]
  refine wpAny_bind (wpAny_bind (wpAny_bind (wpAny_mono h1 (fun _ s2 h2 => wpAny_pure ?_) fun _ _ x => x)))
  dsimp only
  rw [List.forIn_nil]
  refine wpAny_pure ?_
  rw [if_neg (by decide)]
  refine wpAny_pure ?_
  refine wpAny_bind ?_
  show wpAny _ _ (forIn ([] : List (Bool × Sem Value)) PUnit.unit _) _ _ s2
  rw [List.forIn_nil]
  exact wpAny_pure (wpAny_pure (wpAny_pure h2))
end
def tSet1 (w : World) (te : TE) : TE := fun σ H Q => ∀ p, H p = none → te σ (upd H p (SetO w p (fun _ => false) 0)) fun x H1 => ∃ k : Int, x = .int k ∧ H1 p = some (SetO w p (fun _ => false) 0) ∧ Q (.ref p) (upd H1 p (SetO w p (fun j => false || decide (j = k)) 1))
theorem pe_set1 {X : Cx} {e : Expr} {te : TE} {pos : Pos} {q : Str} {wd : World} (hw : X.w = wd) (hcd : PySem.W.codeIn X.K X.env.code q = true) (he : PE X e te) (hp : PySem.W.kdsPlain e = true := by rfl) : PE X (.Set [e] 0 pos) (tSet1 wd te) := by
  subst hw
  refine ⟨fun pins s σ H Q I h => ?_⟩
  rw [arm_eval_Set]
  refine wpAny_bind (wpAny_standAt ?_)
  refine wpAny_bind (PySem.W.kds_main I.kIn (codeIn_kds hcd) fun bm => ?_)
  rw [PySem.W.kds_star [e] (by simp [hp]), List.map_map, arm_evalEach_cons]
  refine (show wpAny (model X.prog X.w) X.A (setDisplay .oneByOne bm [(false, do let v ← eval e X.env; standAt pos; pure v)]) (EP X pins σ Q) X.xe s from display_one ?_)
  have R0 : SetR X.w (s.heap.push (noSet X.w)) s.heap.objs.size (fun _ => false) 0 := setR_fresh X.w
  have f0 : H s.heap.objs.size = none := I.hok.fresh (Nat.le_refl _)
  have I1 : Inv X pins σ (upd H s.heap.objs.size (SetO X.w s.heap.objs.size (fun _ => false) 0)) { s with heap := s.heap.push (noSet X.w) } := I.laid (t' := s.toks) (fun b u g => Heap.get?_push_of_some _ g) (Nat.le_refl _) (setO_new R0)
  refine wpAny_bind (thn (he.run pins _ σ _ _ I1 (h _ f0)) fun v s1 ⟨x, H1, I2, r1, k, ex, ep, q1⟩ => ?_)
  subst ex
  obtain ⟨tk, rfl⟩ := r1
  refine wpAny_bind (wpAny_standAt (wpAny_pure ?_))
  have R1 := setO_get I2 ep
  unfold setAdd
  refine wpAny_holding ?_
  refine wpAny_bind ((intKind X.prog X.w).pyHash (k := k) (intKind_is _ _ _ _) ?_)
  refine setR_add_hashed (s := { s1 with toks := s1.toks + 1 }) R1 (by decide) fun h' sb new => ?_
  have he' : ∃ u, h'.get? s.heap.objs.size = some u := let ⟨o, _, _, _, ho, _⟩ := new; ⟨o, ho⟩
  exact ⟨.ref _, _, I2.write (e := s.heap.objs.size) (t' := s1.toks + 1) (by rw [ep]; trivial) (.inl rfl) (fun b u hb hu => (sb.2 b hb).trans hu) he' (setO_new new), rfl, q1⟩
end Cw

/-! sets of texts of any size: set(text), sorted of it -/
namespace Cw
open PySem PySem.Spec PySem.Calls PyProof.Rows L2
section
variable {P : Program} {w : World} {A : Around} {E : Value → Shared → Prop} {s : Shared} {a : Addr} {ms : List Str}
def txtOf (e : Int × Value) : Str := match e.2 with | .str x _ => x | _ => Str.empty
def TxtE (P : Program) (w : World) (e : Int × Value) : Prop := ∃ x tk, e.2 = Value.str x tk ∧ e.1 = (PySem.strKind P w).hash x
/-- a set of texts at a: its members in some order -/
def TxtSet (P : Program) (w : World) (h : Heap) (a : Addr) (ms : List Str) : Prop :=
  ∃ ob rows ep tab, h.get? a = some ob ∧ ob.ExactSet ∧ ob.data = .set rows ep tab ∧ (∀ e ∈ rows.toList, TxtE P w e) ∧ (rows.toList.map txtOf).Perm ms ∧ ms.Nodup ∧
    rows.size < scanBound ∧ tab.fits rows.size = true ∧ Ris tab.place.toList ∧ (w.params.followText "set-order" = true ∨ tab.led = true)
def addT (ms : List Str) (x : Str) : List Str := if x ∈ ms then ms else ms ++ [x]
theorem TxtSet.at {h h' : Heap} (z : TxtSet P w h a ms) (k : ∀ u, h.get? a = some u → h'.get? a = some u) : TxtSet P w h' a ms := by
  obtain ⟨ob, rows, ep, tab, e, r⟩ := z
  exact ⟨ob, rows, ep, tab, k ob e, r⟩
theorem txt_is {e : Int × Value} (g : TxtE P w e) (x : Str) : (PySem.strKind P w).is x e.2 = true ↔ txtOf e = x := by
  obtain ⟨y, tk, e1, _⟩ := g
  unfold txtOf
  rw [e1]
  show _ ↔ y = x
  exact ⟨fun h => (PySem.strKind P w).inj _ _ _ (PySem.strKind_is P w y tk) h, fun h => h ▸ PySem.strKind_is P w y tk⟩
theorem txt_elems {l : List (Int × Value)} (g : ∀ e ∈ l, TxtE P w e) : ElemsOf (PySem.strKind P w) l := fun e he => by
  obtain ⟨y, tk, e1, e2⟩ := g e he
  exact ⟨⟨y, by rw [e1]; exact PySem.strKind_is P w y tk, e2⟩, by rw [e1] <;> rfl⟩
/-- laid down, and anew where the table grows -/
theorem txt_tail {gw : Bool → Sem Unit} (hgw : ∀ (b : Bool) (s₂ : Shared) (Q' : Unit → Shared → Prop), Q' () s₂ → wpAny (model P w) A (gw b) Q' E s₂)
    {ob : Obj} {rows : Array (Int × Value)} {ep : Nat} {tab : SetTable} (e0 : s.heap.get? a = some ob) (ex : ob.ExactSet) (ed : ob.data = .set rows ep tab)
    {rows' : Array (Int × Value)} {tab' : SetTable} {ms' : List Str} (gd : ∀ e ∈ rows'.toList, TxtE P w e) (pm : (rows'.toList.map txtOf).Perm ms') (nd : ms'.Nodup)
    (few : rows'.size < scanBound) (ft : tab'.fits rows'.size = true) (ri : Ris tab'.place.toList) (ld : w.params.followText "set-order" = true ∨ tab'.led = true) {wasD : Bool} {R : Option Bool → Shared → Prop}
    (q : ∀ h', Heap.SameBut a s.heap h' → TxtSet P w h' a ms' → R (some true) { s with heap := h' }) :
    wpAny (model P w) A (do
        storeSet a rows' tab'
        if (!wasD && tab'.tooFull) = true then do
            gw (relayAll tab' rows' (SetTable.grown rows'.size)).2.2
            storeSet a (relayAll tab' rows' (SetTable.grown rows'.size)).1 (relayAll tab' rows' (SetTable.grown rows'.size)).2.1
            pure (some true)
          else pure (some true)) R E s := by
  have e1 := store_at (es' := rows') (t' := tab') e0 ed
  have b1 := Heap.SameBut.update s.heap a (Obj.putSet rows' tab')
  refine wpAny_bind (wpAny_storeSet_of e0 ed ?_ (fits_of_scanBound few))
  split
  · have p2 := relayAll_perm tab' rows' (SetTable.grown rows'.size)
    have f2 := relayAll_fits tab' rows' (SetTable.grown rows'.size)
    have r2 := relayAll_ris tab' rows' (SetTable.grown rows'.size)
    have l2 := relayAll_led tab' rows' (SetTable.grown rows'.size)
    generalize relayAll tab' rows' (SetTable.grown rows'.size) = Y at p2 f2 r2 l2 ⊢
    obtain ⟨rows2, tab2, gv⟩ := Y
    dsimp only at p2 f2 r2 l2 ⊢
    have z2 : rows2.size = rows'.size := by rw [← Array.length_toList, p2.length_eq, Array.length_toList]
    have few2 : rows2.size < scanBound := by rw [z2]; exact few
    refine wpAny_bind (hgw _ _ _ ?_)
    refine wpAny_bind (wpAny_storeSet_of e1 rfl ?_ (fits_of_scanBound few2))
    have e2 := store_at (es' := rows2) (t' := tab2) e1 rfl
    exact wpAny_pure (q _ (b1.trans (Heap.SameBut.update _ a _)) ⟨_, rows2, _, tab2, e2, ex, rfl, fun e he => gd e (p2.mem_iff.mp he), (p2.map txtOf).trans pm, nd, few2, f2, r2, ld.imp id fun y => by rw [l2]; exact y⟩)
  · exact wpAny_pure (q _ b1 ⟨_, rows', _, tab', e1, ex, rfl, gd, pm, nd, few, ft, ri, ld⟩)
theorem txt_add {x : Str} {tk : Tok} {Q : Bool → Shared → Prop} (z : TxtSet P w s.heap a ms) (room : ms.length + 1 < scanBound)
    (q : ∀ b h', Heap.SameBut a s.heap h' → TxtSet P w h' a (addT ms x) → Q b { s with heap := h' }) : wpAny (model P w) A (setAddHashed a (.str x tk) ((PySem.strKind P w).hash x)) Q E s := by
  obtain ⟨ob, rows, ep, tab, e0, ex, ed, gd, pm, nd, few, ft, ri, ld⟩ := z
  have key : (PySem.strKind P w).is x (.str x tk) = true := PySem.strKind_is P w x tk
  have sc : (Value.str x tk).scannable = true := rfl
  have els : ElemsOf (PySem.strKind P w) rows.toList := txt_elems gd
  have sz : rows.size = ms.length := by rw [← pm.length_eq, List.length_map, Array.length_toList]
  unfold setAddHashed setAddHashedIn
  refine wpAny_holding (wpAny_bind (wpAny_setState_of e0 ed ft ?_))
  dsimp only
  rw [byScan_of sc few els]
  simp only [↓reduceIte]
  unfold setAddByScan
  refine wpAny_bind ?_
  refine wpAny_bind (wpAny_rule ?_)
  refine wpAny_bind (wpAny_setScan_of key e0 ed ft els ?_)
  cases fi : List.findIdx? (fun e => (PySem.strKind P w).is x e.2) rows.toList with
  | some j =>
    dsimp only
    obtain ⟨hj, pj, _⟩ := List.findIdx?_eq_some_iff_getElem.mp fi
    have hm : x ∈ ms := pm.mem_iff.mp (List.mem_map.mpr ⟨_, List.getElem_mem hj, (txt_is (gd _ (List.getElem_mem hj)) x).mp pj⟩)
    refine wpAny_pure (wpAny_pure (q _ s.heap (Heap.SameBut.refl a s.heap) ⟨ob, rows, ep, tab, e0, ex, ed, gd, ?_, ?_, few, ft, ri, ld⟩))
    · unfold addT; rw [if_pos hm]; exact pm
    · unfold addT; rw [if_pos hm]; exact nd
  | none =>
    dsimp only
    have hm : x ∉ ms := fun y => by
      obtain ⟨e, he, e1⟩ := List.mem_map.mp (pm.mem_iff.mpr y)
      have c := List.findIdx?_eq_none_iff.mp fi e he
      rw [(txt_is (gd e he) x).mpr e1] at c
      cases c
    have eA : addT ms x = ms ++ [x] := by unfold addT; rw [if_neg hm]
    rw [eA] at q
    have gave : ∀ (b : Bool) {s₂ : Shared} {Q' : Unit → Shared → Prop}, Q' () s₂ → wpAny (model P w) A (match b with | true => rule "set.scan.the-table-gave-way" | false => pure ()) Q' E s₂ :=
      fun b s₂ Q' y => by cases b <;> first | exact wpAny_pure y | exact wpAny_rule y
    have p1 := layNew_perm tab rows ((PySem.strKind P w).hash x) (.str x tk)
    have f1 := layNew_fits tab rows ((PySem.strKind P w).hash x) (.str x tk)
    have r1 := layNew_ris tab rows ((PySem.strKind P w).hash x) (.str x tk) ri
    have l1 := layNew_led tab rows ((PySem.strKind P w).hash x) (.str x tk)
    generalize layNew tab rows ((PySem.strKind P w).hash x) (.str x tk) = Y at p1 f1 r1 l1 ⊢
    obtain ⟨rows1, tab1, wasD, gv⟩ := Y
    dsimp only at p1 f1 r1 l1 ⊢
    rw [Array.toList_push] at p1
    have gd1 : ∀ e ∈ rows1.toList, TxtE P w e := fun e he => by
      rcases List.mem_append.mp (p1.mem_iff.mp he) with y | y
      · exact gd e y
      · rw [List.mem_singleton.mp y]; exact ⟨x, tk, rfl, rfl⟩
    have pm1 : (rows1.toList.map txtOf).Perm (ms ++ [x]) := by
      refine (p1.map txtOf).trans ?_
      rw [List.map_append]
      exact pm.append_right _
    have nd1 : (ms ++ [x]).Nodup := List.nodup_append.mpr ⟨nd, by simp, fun u hu v hv => by rw [List.mem_singleton.mp hv]; exact fun y => hm (y ▸ hu)⟩
    have few1 : rows1.size < scanBound := by
      have y := p1.length_eq
      rw [Array.length_toList, List.length_append, Array.length_toList] at y
      rw [y, sz]
      exact room
    have ld1 : w.params.followText "set-order" = true ∨ tab1.led = true := ld.imp id fun y => by rw [l1]; exact y
    refine wpAny_bind (gave _ ?_)
    split
    · refine wpAny_bind ?_
      rw [hashByValue_scannable 8 sc]
      refine wpAny_pure ?_
      refine txt_tail ?_ e0 ex ed gd1 pm1 nd1 few1 ?_ ?_ ?_ ?_
      · intro b s₂ Q' y; cases b <;> first | exact wpAny_pure y | exact wpAny_rule y
      · first | (split <;> first | exact f1 | exact SetTable.fits_plain_off f1) | exact f1
      · first | (split <;> exact r1) | exact r1
      · first | (split <;> exact ld1) | exact ld1
      · intro h' sb r; dsimp only; exact wpAny_pure (q _ h' sb r)
    · refine wpAny_bind (wpAny_pure ?_)
      simp only [↓reduceIte]
      refine txt_tail ?_ e0 ex ed gd1 pm1 nd1 few1 f1 r1 ld1 ?_
      · intro b s₂ Q' y; cases b <;> first | exact wpAny_pure y | exact wpAny_rule y
      · intro h' sb r; dsimp only; exact wpAny_pure (q _ h' sb r)
def uniqT (xs : List Str) : List Str := xs.foldl addT []
theorem uniqT_snoc (xs : List Str) (x : Str) : uniqT (xs ++ [x]) = addT (uniqT xs) x := by unfold uniqT; rw [List.foldl_append]; rfl
theorem addT_len (l : List Str) (x : Str) : (addT l x).length ≤ l.length + 1 := by unfold addT; split <;> simp
theorem addT_mem {l : List Str} {x y : Str} : y ∈ addT l x ↔ y ∈ l ∨ y = x := by
  unfold addT
  split
  · rename_i h
    exact ⟨.inl, fun z => z.elim id fun e => e ▸ h⟩
  · simp
theorem uniqT_take {xs : List Str} {i : Nat} {x : Str} (h : xs[i]? = some x) : uniqT (xs.take (i + 1)) = addT (uniqT (xs.take i)) x := by
  rw [List.take_add_one, h]
  exact uniqT_snoc _ _
theorem uniqT_len (xs : List Str) : ∀ i, (uniqT (xs.take i)).length ≤ i
  | 0 => by simp [uniqT]
  | i + 1 => by
    cases h : xs[i]? with
    | none =>
      rw [List.take_add_one, h]
      have := uniqT_len xs i
      simp
      omega
    | some x =>
      rw [uniqT_take h]
      have := uniqT_len xs i
      have := addT_len (uniqT (xs.take i)) x
      omega
theorem uniqT_mem {y : Str} : ∀ {xs : List Str}, y ∈ uniqT xs ↔ y ∈ xs := by
  intro xs
  have go : ∀ i, y ∈ uniqT (xs.take i) ↔ y ∈ xs.take i := fun i => by
    induction i with
    | zero => simp [uniqT]
    | succ i ih =>
      cases h : xs[i]? with
      | none => rw [List.take_add_one, h]; simpa using ih
      | some x => rw [uniqT_take h, addT_mem, ih, List.take_add_one, h]; simp
  have := go xs.length
  rwa [List.take_length] at this
/-- what is walked goes in, text by text -/
theorem txt_update {I : Addr} {fp wr : List Addr} {G : Array GenState → Array GenState → Prop} {n : Nat} {Pv : Nat → Value → Prop} {St : Nat → Shared → Prop} {R : Result → Shared → Prop}
    (W : WalksS P w A.in1 I fp wr G n Pv St) (D : Addr) (out : D ∉ fp) (xs : List Str) (hn : n = xs.length) (few : xs.length + 1 < scanBound) (vals : ∀ i v, Pv i v → ∃ x t, xs[i]? = some x ∧ v = .str x t) :
    ∀ (k i : Nat) (s : Shared), n - i = k → i ≤ n → St i s → TxtSet P w s.heap D (uniqT (xs.take i)) →
      (∀ s', Moved (D :: wr) G s s' → TxtSet P w s'.heap D (uniqT xs) → R (.ok (.ret .none)) s') → codeAny (model P w) A (.builtin "set.update.loop" ⟨[.ref D, .ref I], []⟩) R s := by
  have offw : D ∉ wr := fun h => out (W.sub _ h)
  have wide : ∀ b ∈ wr, b ∈ D :: wr := fun b hb => List.mem_cons_of_mem _ hb
  intro k
  induction k with
  | zero =>
    intro i s e1 e2 st z q
    obtain rfl : i = n := by omega
    refine codeAny_builtin F.entry_set_update_loop ?_
    rw [Around.under_plainId F.plain_set_update_loop _]
    show wpAny _ A.in1 (pyNext (.ref I) >>= _) _ _ s
    refine wpAny_bind (W.done s _ _ st fun s2 mv => ?_)
    show wpAny _ A.in1 (ret Value.none) _ _ s2
    rw [List.take_of_length_le (by omega)] at z
    exact wpAny_pure (q s2 (mv.mono wide) (z.at fun u e => mv.heap D u offw e))
  | succ k ih =>
    intro i s e1 e2 st z q
    have lt : i < n := by omega
    refine codeAny_builtin F.entry_set_update_loop ?_
    rw [Around.under_plainId F.plain_set_update_loop _]
    show wpAny _ A.in1 (pyNext (.ref I) >>= _) _ _ s
    refine wpAny_bind (W.item i s _ _ lt st fun v s2 pv st2 mv => ?_)
    obtain ⟨x, t, hx, rfl⟩ := vals i v pv
    have z2 : TxtSet P w s2.heap D (uniqT (xs.take i)) := z.at fun u e => mv.heap D u offw e
    have lu := uniqT_len xs i
    show wpAny _ A.in1 (holding [Value.str x t] (setAdd D (.str x t)) >>= _) _ _ s2
    refine wpAny_bind (wpAny_holding ?_)
    unfold setAdd
    refine wpAny_holding ?_
    refine wpAny_bind ((PySem.strKind P w).pyHash (k := x) (PySem.strKind_is P w x t) ?_)
    refine txt_add (s := { s2 with toks := s2.toks + 1 }) z2 (by omega) fun b h' sb z3 => ?_
    rw [← uniqT_take hx] at z3
    refine wpAny_pure ⟨plainId_quiet F.plain_set_update_loop _, ih (i + 1) _ (by omega) lt (W.frame _ s2 _ _ st2 (Nat.le_succ _) fun b hb u e => ?_) z3 fun s3 mv3 z4 => ?_⟩
    · rw [sb.2 b (fun y : b = D => out (by rw [← y]; exact hb))]; exact e
    · refine q s3 (Moved.trans W.gtrans ((mv.mono wide).then_heap (Nat.le_succ _) fun b u hb e => ?_) mv3) z4
      rw [sb.2 b (fun y : b = D => hb (by rw [y]; exact List.mem_cons_self))]; exact e
def signsT (x : Str) : List Str := x.cps.toList.map fun c => (⟨#[c]⟩ : Str)
set_option maxHeartbeats 3200000 in
theorem call_set_text {x : Str} {t : Tok} {Q : Value → Shared → Prop} (hh : A.handled = none) (room : x.cps.size + 1 < scanBound)
    (h : ∀ (h' : Heap) (tk : Nat), TxtSet P w h' s.heap.objs.size (uniqT (signsT x)) → (∀ b o, s.heap.get? b = some o → h'.get? b = some o) → Q (.ref s.heap.objs.size) { s with heap := h', toks := tk }) :
    wpAny (model P w) A (call (.type "set") [.str x t]) Q E s := by
  obtain ⟨c, tl, hmro⟩ := F.called_set.mro
  have hmade := F.called_set.made
  have hsub := F.called_set.sub
  (refine wpAny_call (codeAny_of_tree ?_))
  show wpAny _ _ (callAny (.type "set") _) _ _ _
  (refine wpAny_pure ⟨Code.quiet_builtin _ (by decide +kernel), codeAny_builtin F.entry_type_call ?_⟩)
  (rw [Around.under_plain (weight_type_call_type "set" [.str x t] []) rfl])
  have h1 := F.called_set.notType
  have h2 := F.called_set.canCreate
  have hct := F.typeCall_set_1 (.str x t)
  (repeat (any_goals (first | assumption | wp_step)))
  refine codeAny_mono (code_set_led1 (.str x t) (E := E) (Q₁ := fun obj s₁ => obj = .ref s.heap.objs.size ∧ s₁ = { s with heap := s.heap.push (noSet w) }) ⟨rfl, rfl⟩) fun r s₁ hr => ?_
  match r, hr with
  | .error e, hr => exact hr
  | .ok (.next), hr => exact hr.elim
  | .ok (.brk), hr => exact hr.elim
  | .ok (.cont), hr => exact hr.elim
  | .ok (.ret obj), hr =>
    obtain ⟨rfl, rfl⟩ := hr
    have eS : (s.heap.push (noSet w)).get? s.heap.objs.size = some (noSet w) := Heap.get?_push_size _ rfl
    have tyS : Shared.TypeIs { s with heap := s.heap.push (noSet w) } (.ref s.heap.objs.size) "set" := ⟨_, eS, rfl⟩
    have hli := F.called_set.init.lookup
    have hbi := F.called_set.init.bind (.ref s.heap.objs.size)
    (repeat (any_goals (first | assumption | wp_step)))
    refine codeAny_mono (codeAny_call_builtin (R := wants (fun r s₂ => r = .none ∧ ∃ h' tk, s₂ = { s with heap := h', toks := tk } ∧ TxtSet P w h' s.heap.objs.size (uniqT (signsT x)) ∧
        (∀ b o, s.heap.get? b = some o → h'.get? b = some o)) E) F.called_set.init.plain F.entry_set_init (check_set_init_1 tyS ?_)) fun r₂ s₂ hr₂ => ?_
    · have hsls := PySem.F.sub_str_set
      have hslf := PySem.F.sub_str_frozenset
      have hne : (Value.type "str" == Value.type "dict") = false := by decide
      have tyx : ∀ s' : Shared, s'.TypeIs (.str x t) "str" := fun s' => typeIs_str s' x t
      (unfold Builtin.«set.__init__» noKeywords; unfold Builtin.Frozenset.updateFrom)
      generalize hPI : pyIter = PI
      wp_walk
      subst hPI
      refine wpAny_pyIter_str fun io St Wk st0 => ?_
      refine wpAny_bind (wpAny_runValue ?_)
      have hh3 : A.in1.in1.in1.handled = none := by simp [hh]
      have sz1 : (s.heap.push (noSet w)).objs.size = s.heap.objs.size + 1 := Heap.size_push ..
      have apart : s.heap.objs.size ∉ [(s.heap.push (noSet w)).objs.size] := by
        rw [sz1]
        exact fun z => absurd (List.mem_singleton.mp z) (Nat.ne_of_lt (Nat.lt_succ_self _))
      have lx : (signsT x).length = x.cps.size := by unfold signsT; rw [List.length_map, Array.length_toList]
      have vals : ∀ (i : Nat) (v : Value), SignAt x i v → ∃ y t, (signsT x)[i]? = some y ∧ v = .str y t := fun i v hv => by
        obtain ⟨c, u, hc, rfl⟩ := hv
        refine ⟨_, u, ?_, rfl⟩
        unfold signsT
        rw [List.getElem?_map, Array.getElem?_toList, hc]
        rfl
      have z0 : TxtSet P w ((s.heap.push (noSet w)).push io) s.heap.objs.size (uniqT ((signsT x).take 0)) :=
        ⟨noSet w, #[], 0, _, Heap.get?_push_of_some _ eS, ⟨rfl, rfl, rfl⟩, rfl, (fun e he => by simp at he), by simp [uniqT], by simp [uniqT], (by decide), (by rfl), List.Pairwise.nil, by
          show _ ∨ (!w.params.followText "set-order") = true
          cases w.params.followText "set-order"
          · exact .inr rfl
          · exact .inl rfl⟩
      refine txt_update ((Wk _ hh3).toS) s.heap.objs.size apart (signsT x) lx.symm (by rw [lx]; exact room) vals (x.cps.size - 0) 0 _ (by omega) (Nat.zero_le _) st0 z0 ?_
      intro s' mv new
      obtain ⟨h', g2, d', tk', os'⟩ := s'
      have eg : g2 = s.gens := mv.gens
      have ed : d' = s.drawn := mv.drawn
      have eo : os' = s.os := mv.os
      subst eg
      subst ed
      subst eo
      show wpAny _ _ _ _ _ _
      refine wpAny_pure ?_
      show wpAny _ _ (ret Value.none) _ _ _
      refine wpAny_pure ⟨rfl, h', tk', rfl, new, fun b o e => ?_⟩
      have b0 : b < s.heap.objs.size := Heap.lt_size e
      refine mv.heap b o (fun z => ?_) (Heap.get?_push_of_some _ (Heap.get?_push_of_some _ e))
      rcases List.mem_cons.mp z with z | z
      · exact absurd z (Nat.ne_of_lt b0)
      · have z := List.mem_singleton.mp z
        rw [sz1] at z
        exact absurd z (Nat.ne_of_lt (Nat.lt_succ_of_lt b0))
    · match r₂, hr₂ with
      | .error e, hr₂ => exact hr₂
      | .ok (.next), hr₂ => exact hr₂.elim
      | .ok (.brk), hr₂ => exact hr₂.elim
      | .ok (.cont), hr₂ => exact hr₂.elim
      | .ok (.ret r), hr₂ =>
        obtain ⟨rfl, h', tk, rfl, new, kept⟩ := hr₂
        (repeat (any_goals (first | assumption | wp_step)))
        exact h _ _ new kept
theorem strs_txt : ∀ (l : List Value), (∀ v ∈ l, ∃ y tk, v = Value.str y tk) → ∃ ys : List Str, StrsAre l ys ∧ ∀ g : Value → Str, (∀ y tk, g (.str y tk) = y) → ys = l.map g
  | [], _ => ⟨[], .nil, fun _ _ => rfl⟩
  | v :: l, h => by
    obtain ⟨y, tk, rfl⟩ := h v List.mem_cons_self
    obtain ⟨ys, e1, e2⟩ := strs_txt l fun u hu => h u (List.mem_cons_of_mem _ hu)
    exact ⟨y :: ys, .cons y tk e1, fun g hg => by rw [List.map_cons, hg, e2 g hg]⟩
def ofTxt (v : Value) : Str := match v with | .str x _ => x | _ => Str.empty
/-- sorted(texts) -/
theorem sorted_txt {Q : Value → Shared → Prop} (z : TxtSet P w s.heap a ms) (hh : A.handled = none) (few : ms.length ≤ sizeLine)
    (q : ∀ s' p (out : Array Value) (c : Nat) (ys : List Str), (∀ b o, s.heap.get? b = some o → s'.heap.get? b = some o) → s'.gens = s.gens → s'.os = s.os → s.heap.objs.size ≤ p →
      s'.heap.get? p = some (seqObj "list" out c) → StrsAre out.toList ys → ys.Perm ms → sortedS ys = true → Q (.ref p) s') :
    wpAny (model P w) A (call (.builtin "sorted") [.ref a]) Q E s := by
  obtain ⟨ob, rows, ep, tab, e0, ex, ed, gd, pm, nd, fw, ft, ri, ld⟩ := z
  refine call_function_entry kind_sorted plain_sorted entry_sorted (args_sorted1 _) ?_
  unfold Builtin.«sorted»
  refine wpAny_bind (m := checkCount "sorted" 1 1 _) (wpAny_pure ?_)
  refine wpAny_bind (collect_set (A := A.in1) hh ⟨ob, e0, ex.1, ed⟩ ft fw ri ld fun s1 vs k1 big g1 o1 pv => ?_)
  have hv : ∀ v ∈ vs, ∃ y tk, v = Value.str y tk := fun v hv => by
    obtain ⟨e, he, e1⟩ := List.mem_map.mp (pv.mem_iff.mp hv)
    obtain ⟨y, tk, e2, _⟩ := gd e he
    exact ⟨y, tk, by rw [← e1]; exact e2⟩
  obtain ⟨ys0, hS, hg⟩ := strs_txt vs hv
  have e3 := hg ofTxt fun _ _ => rfl
  have pp : ys0.Perm ms := by
    rw [e3]
    have y := pv.map ofTxt
    rw [List.map_map] at y
    exact y.trans pm
  have lv : vs.length = ms.length := by rw [← pp.length_eq, e3, List.length_map]
  have hL : vs.length ≤ sizeLine := by rw [lv]; exact few
  refine wpAny_bind (wpAny_newList ?_ hL)
  have oL : (s1.heap.push (seqObj "list" vs.toArray 0)).get? s1.heap.objs.size = some (seqObj "list" vs.toArray 0) := Heap.get?_push_size _ rfl
  refine wpAny_bind (wpAny_holding (wpAny_call_entry slot_list_sort ⟨_, oL, rfl⟩ entry_list_sort (list_sort_treeKAny strKind_oneLt oL hS.keysOf (fun v₁ v₂ rest e => keyKind_strs (by rw [← e]; exact hS)) hL fun st' hp hs => ⟨_, rfl, ?_⟩) (args_list_sort _)))
  obtain ⟨ys, h1, h2, h3⟩ := sorted_out_str hS hp hs
  obtain ⟨c, hc⟩ := sortedHeap_at (vs := vs) (out := (arrOf st').map (·.2)) oL
  refine wpAny_pure ⟨_, rfl, q _ s1.heap.objs.size _ c ys (fun b u e => ?_) g1 o1 big hc h1 (h2.trans pp) h3⟩
  have y := k1 b u e
  have lt := Heap.lt_size y
  show (sortedHeap (s1.heap.push (seqObj "list" vs.toArray 0)) s1.heap.objs.size vs _).get? b = some u
  rw [sortedHeap_old (Nat.ne_of_lt lt) (by rw [size_push']; exact Nat.lt_succ_of_lt lt)]
  exact Heap.get?_push_of_some _ y
end
/-- the set of texts at a -/
def TxtO (P : Program) (w : World) (a : Addr) (ms : List Str) : HO := .ext fun h => TxtSet P w h a ms
section
variable {X : Cx}
theorem txtO_new {w : World} {P : Program} {H : Hp} {h : Heap} {a : Addr} {ms : List Str} (z : TxtSet P w h a ms) : ObjOk P w H h a (TxtO P w a ms) := by
  have ⟨ob, _, _, _, e, _⟩ := z
  exact ⟨z, ⟨ob, e⟩, fun h1 h2 p k => TxtSet.at p k⟩
theorem txtO_get {pins : List (Addr × Obj)} {σ : L2.St} {H : Hp} {s : Shared} {a : Addr} {ms : List Str} (I : Inv X pins σ H s) (e : H a = some (TxtO X.prog X.w a ms)) : TxtSet X.prog X.w s.heap a ms := (I.hok a _ e).1
/-- set(text) -/
def rSetTxt (P : Program) (w : World) : List V → Hp → VK → Prop := fun xs H Q => ∃ x : Str, xs = [.str x] ∧ x.cps.size ≤ 1000 ∧ ∀ p, H p = none → Q (.ref p) (upd H p (TxtO P w p (uniqT (signsT x))))
theorem cr_setTxt (hc : X.calm = true) : CallR X (.type "set") (rSetTxt X.prog X.w) := by
  intro pins s σ H xs us Q I r h
  obtain ⟨x, rfl, few, q⟩ := h
  obtain ⟨u, rfl, ru⟩ := vals1 r
  obtain ⟨t, rfl⟩ := ru
  refine call_set_text (I.ok.hd hc) (by unfold scanBound; omega) fun h' tk z kept => ?_
  exact ⟨.ref _, _, I.laid (t' := tk) kept (Nat.le_refl _) (txtO_new z), rfl, q _ (I.hok.fresh (Nat.le_refl _))⟩
/-- sorted(found) -/
def rSortedTxt (P : Program) (w : World) : List V → Hp → VK → Prop := fun vs H Q => ∃ (a : Addr) (ms : List Str), vs = [V.ref a] ∧ H a = some (TxtO P w a ms) ∧ ms.length ≤ 1000 ∧
  ∀ (ys : List Str) p, ys.Perm ms → sortedS ys = true → H p = none → Q (.ref p) (upd H p (.lst (ys.map V.str)))
theorem cr_sortedTxt (hc : X.calm = true) : CallR X (.builtin "sorted") (rSortedTxt X.prog X.w) := by
  intro pins s σ H vs us Q I r h
  obtain ⟨a, ms, rfl, e, few, q⟩ := h
  have h1000 : (1000 : Nat) ≤ sizeLine := by decide
  rw [Vals.ref1 r]
  refine sorted_txt (txtO_get I e) (I.ok.hd hc) (by omega) fun s' p out c ys kept eg eo big hp hS pm so => ?_
  have fp : H p = none := I.hok.fresh big
  have hlen : (ys.map V.str).length ≤ sizeLine := by rw [List.length_map, pm.length_eq]; omega
  have J : Inv X pins σ (upd H p (.lst (ys.map V.str))) { s with heap := s'.heap, gens := s'.gens, drawn := s'.drawn, toks := s'.toks } :=
    I.call (ch := []) (Un.laid kept big fp) (I.hok.laid kept big ⟨hlen, out.toList, c, vals_of_strs hS, hp⟩) (by rw [eg]; exact I.bare) (fun _ y => nomatch y)
  have es : s' = { s with heap := s'.heap, gens := s'.gens, drawn := s'.drawn, toks := s'.toks } := by
    cases s'
    cases s
    cases eo
    rfl
  rw [es]
  exact ⟨.ref p, _, J, rfl, q ys p pm so fp⟩
end
theorem cr_setTxtw {X : Cx} {pd : Program} {wd : World} (hp : X.prog = pd) (hw : X.w = wd) (hc : X.calm = true) : CallR X (.type "set") (rSetTxt pd wd) := by
  subst hp hw
  exact cr_setTxt hc
theorem cr_sortedTxtw {X : Cx} {pd : Program} {wd : World} (hp : X.prog = pd) (hw : X.w = wd) (hc : X.calm = true) : CallR X (.builtin "sorted") (rSortedTxt pd wd) := by
  subst hp hw
  exact cr_sortedTxt hc
theorem uniqT_nodup (xs : List Str) : (uniqT xs).Nodup := by
  have go : ∀ i, (uniqT (xs.take i)).Nodup := fun i => by
    induction i with
    | zero => simp [uniqT]
    | succ i ih =>
      cases h : xs[i]? with
      | none => rw [List.take_add_one, h]; simpa using ih
      | some x =>
        rw [uniqT_take h]
        unfold addT
        split
        · exact ih
        · rename_i n
          exact List.nodup_append.mpr ⟨ih, by simp, fun u hu v hv => by rw [List.mem_singleton.mp hv]; exact fun y => n (y ▸ hu)⟩
  have := go xs.length
  rwa [List.take_length] at this
end Cw

/-! states as they lie in the heap -/
namespace Cw
open PySem PySem.Spec PyProof.Rows L2
/-- a method of the text's class at C, called by its name -/
structure DfM (K : PySem.W.Frag) (C : Addr) (x qual : Str) (st : Stmt) (ps : List Str) where
  f : Addr
  fd : FuncData
  F : Fun K x qual st f fd
  b : Binds K fd ps []
  m : Meth K C x f
theorem ip_of {X : Cx} {op : Operator} {r : V → V → Hp → VK → Prop} (h : OpR X (inplaceOp op) r) : PIp X op r := fun pins s σ H x y u v Q I rx ry q => h pins s σ H x y u v Q I rx ry q
def ClAt (H : Hp) (v : V) (c : Cl) : Prop := ∃ a, v = .ref a ∧ H a = some (.tup [.int (c.1 : Nat), .int (c.2 : Nat)])
def StAt (H : Hp) (v : V) (cs : List Cl) : Prop := ∃ t vs, v = .ref t ∧ H t = some (.tup vs) ∧ Paired (ClAt H) vs cs
theorem ClAt.same {H H' : Hp} {v : V} {c : Cl} (x : ClAt H v c) (s : Same H H') : ClAt H' v c := let ⟨a, e, h⟩ := x; ⟨a, e, s _ _ h⟩
theorem StAt.same {H H' : Hp} {v : V} {cs : List Cl} (x : StAt H v cs) (s : Same H H') : StAt H' v cs := let ⟨t, vs, e, h, p⟩ := x; ⟨t, vs, e, s _ _ h, Paired.imp p fun _ _ z => z.same s⟩
/-- tuples stay -/
def Tups (H H' : Hp) : Prop := ∀ b xs, H b = some (.tup xs) → H' b = some (.tup xs)
theorem Tups.of {H H' : Hp} (s : Same H H') : Tups H H' := fun b xs e => s _ _ e
theorem ClAt.tups {H H' : Hp} {v : V} {c : Cl} (x : ClAt H v c) (s : Tups H H') : ClAt H' v c := let ⟨a, e, h⟩ := x; ⟨a, e, s _ _ h⟩
theorem StAt.tups {H H' : Hp} {v : V} {cs : List Cl} (x : StAt H v cs) (s : Tups H H') : StAt H' v cs := let ⟨t, vs, e, h, p⟩ := x; ⟨t, vs, e, s _ _ h, Paired.imp p fun _ _ z => z.tups s⟩
def nkCl (c : Cl) : NestedKey := .tup [.num (c.1 : Nat), .num (c.2 : Nat)]
def nkSt (cs : List Cl) : NestedKey := .tup (cs.map nkCl)
def nkKey (cs : List Cl) (need : Int) : NestedKey := .tup [nkSt cs, .num need]
theorem ClAt.nk {H : Hp} {v : V} {c : Cl} (x : ClAt H v c) : NkV H (nkCl c) v := by
  obtain ⟨a, rfl, h⟩ := x
  exact .tup h (.cons (.int _) (.cons (.int _) .nil))
theorem StAt.nk {H : Hp} {v : V} {cs : List Cl} (x : StAt H v cs) : NkV H (nkSt cs) v := by
  obtain ⟨t, vs, rfl, h, p⟩ := x
  refine .tup h ?_
  clear h
  induction p with
  | nil => exact .nil
  | cons h t ih => exact .cons h.nk ih
theorem nkSt_depth (cs : List Cl) : (nkSt cs).depth ≤ 2 := by
  have go : ∀ l : List Cl, NestedKey.depthAll (l.map nkCl) ≤ 1 := fun l => by
    induction l with
    | nil => exact Nat.zero_le _
    | cons c l ih =>
      rw [List.map_cons, NestedKey.depthAll]
      have : (nkCl c).depth = 1 := by simp [nkCl, NestedKey.depth, NestedKey.depthAll]
      omega
  unfold nkSt
  rw [NestedKey.depth]
  have := go cs
  omega
theorem nkKey_depth (cs : List Cl) (need : Int) : (nkKey cs need).depth ≤ 8 := by
  have := nkSt_depth cs
  unfold nkKey
  simp only [NestedKey.depth, NestedKey.depthAll]
  omega
theorem nkCl_inj {c d : Cl} (h : nkCl c = nkCl d) : c = d := by
  unfold nkCl at h
  injection h with h
  injection h with h1 h
  injection h with h2 _
  injection h1 with h1
  injection h2 with h2
  exact Prod.ext (by omega) (by omega)
theorem nkSt_inj {cs ds : List Cl} (h : nkSt cs = nkSt ds) : cs = ds := by
  unfold nkSt at h
  injection h with h
  exact (List.map_inj_right fun _ _ => nkCl_inj).mp h
theorem nkKey_inj {cs ds : List Cl} {n m : Int} (h : nkKey cs n = nkKey ds m) : cs = ds ∧ n = m := by
  unfold nkKey at h
  injection h with h
  injection h with h1 h
  injection h with h2 _
  injection h2 with h2
  exact ⟨nkSt_inj h1, h2⟩
/-- what is known is so -/
def KnOk (W : List Cl → Int → Nat) (es : List KEnt) : Prop := ∀ e ∈ es, ∃ cs need, e.1 = nkKey cs need ∧ e.2.2 = .int (W cs need : Nat)
theorem KnOk.get {W : List Cl → Int → Nat} {es : List KEnt} (k : KnOk W es) {cs : List Cl} {need : Int} {v : V} (h : valH es (nkKey cs need) = some v) : v = .int (W cs need : Nat) := by
  unfold valH at h
  obtain ⟨e, he, rfl⟩ := Option.map_eq_some_iff.mp h
  obtain ⟨ds, n, e1, e2⟩ := k e (List.mem_of_find?_eq_some he)
  have z := List.find?_some he
  have z := of_decide_eq_true z
  rw [e1] at z
  obtain ⟨rfl, rfl⟩ := nkKey_inj z
  exact e2
theorem KnOk.put {W : List Cl → Int → Nat} {es : List KEnt} (k : KnOk W es) {cs : List Cl} {need : Int} {a : Addr} : KnOk W (es ++ [(nkKey cs need, a, .int (W cs need : Nat))]) := fun e he => by
  rcases List.mem_append.mp he with he | he
  · exact k e he
  · rw [List.mem_singleton.mp he]; exact ⟨cs, need, rfl, rfl⟩
/-- all but the objects in S is as it was -/
def KS (S : Addr → Prop) (H H' : Hp) : Prop := ∀ b o, ¬ S b → H b = some o → H' b = some o
theorem KS.refl {S : Addr → Prop} (H : Hp) : KS S H H := fun _ _ _ e => e
theorem KS.trans {S : Addr → Prop} {H H1 H2 : Hp} (a : KS S H H1) (b : KS S H1 H2) : KS S H H2 := fun c o n e => b c o n (a c o n e)
theorem KS.of {S : Addr → Prop} {H H' : Hp} (s : Same H H') : KS S H H' := fun c o _ e => s c o e
theorem KS.mono {S T : Addr → Prop} {H H' : Hp} (a : KS S H H') (h : ∀ b, S b → T b) : KS T H H' := fun c o n e => a c o (fun z => n (h c z)) e
theorem KS.put {S : Addr → Prop} {H H' : Hp} {p : Addr} {o : HO} (a : KS S H H') (h : S p) : KS S H (upd H' p o) := fun c u n e => by rw [upd_ne (fun (z : c = p) => n (by rw [z]; exact h))]; exact a c u n e
theorem KS.new {S : Addr → Prop} {H H' : Hp} {p : Addr} {o : HO} (a : KS S H H') (n : H' p = none) : KS S H (upd H' p o) := fun c u nc e => by rw [upd_ne (ne_of_none (a c u nc e) n)]; exact a c u nc e
/-- what was new need not be told -/
theorem KS.out {S T : Addr → Prop} {H H' : Hp} (a : KS T H H') (h : ∀ b, T b → S b ∨ H b = none) : KS S H H' := fun c o n e => a c o (fun z => (h c z).elim n fun q => by rw [q] at e; cases e) e
theorem KS.free {S : Addr → Prop} {H H' : Hp} {p : Addr} (a : KS S H H') (n : ¬ S p) (f : H' p = none) : H p = none := by
  cases e : H p with
  | none => rfl
  | some o => rw [a p o n e] at f; cases f
end Cw

namespace Cw
open PySem PySem.Spec PyProof.Rows L2
theorem LOk.sub {w w' : Web} {ld kd : Lead} (L : LOk w w' ld) (s : kd.Sublist ld) : LOk w w' kd := ⟨L.rise.sublist s, L.ends.sublist (s.map _), fun p hp => L.like p (s.subset hp)⟩
theorem ldAt_iff {ld : Lead} (s : ld.Pairwise (fun x y => x.1 < y.1)) {p q : Nat} : ldAt ld p = some q ↔ (p, q) ∈ ld := by
  refine ⟨ldAt_mem, fun h => ?_⟩
  cases e : ldAt ld p with
  | none =>
    have : ld.find? (fun q => q.1 == p) = none := by
      unfold ldAt at e
      exact Option.map_eq_none_iff.mp e
    have := List.find?_eq_none.mp this _ h
    simp at this
  | some r =>
    have h2 := ldAt_mem e
    obtain ⟨i, hi, e1⟩ := List.getElem_of_mem h
    obtain ⟨j, hj, e2⟩ := List.getElem_of_mem h2
    have pw := List.pairwise_iff_getElem.mp s
    rcases Nat.lt_trichotomy i j with z | z | z
    · have := pw i j hi hj z
      rw [e1, e2] at this
      exact absurd this (Nat.lt_irrefl _)
    · subst z
      rw [e1] at e2
      injection e2 with _ e2
      rw [e2]
    · have := pw j i hj hi z
      rw [e1, e2] at this
      exact absurd this (Nat.lt_irrefl _)
theorem isLed_iff {w' : Web} {ld : Lead} (s : ld.Pairwise (fun x y => x.1 < y.1)) {t : Tie} : isLed w' ld t = true ↔ ∃ a b, (t.1, a) ∈ ld ∧ (t.2.1, b) ∈ ld ∧ tieL w'.2 a b = some t.2.2 := by
  constructor
  · intro h
    cases e1 : ldAt ld t.1 with
    | none => rw [isLed_no (.inl e1)] at h; cases h
    | some a =>
      cases e2 : ldAt ld t.2.1 with
      | none => rw [isLed_no (.inr e2)] at h; cases h
      | some b =>
        rw [isLed_at e1 e2] at h
        exact ⟨a, b, ldAt_mem e1, ldAt_mem e2, of_decide_eq_true h⟩
  · rintro ⟨a, b, h1, h2, h3⟩
    rw [isLed_at ((ldAt_iff s).mpr h1) ((ldAt_iff s).mpr h2)]
    exact decide_eq_true h3
def onT (p : Nat) (t : Tie) : Bool := t.1 == p || t.2.1 == p
/-- the pairs on some ties -/
def tiedL (ts : List Tie) (ld : Lead) : Lead := ld.filter fun p => ts.any (onT p.1)
theorem due_tied {w w' : Web} {ld : Lead} (L : LOk w w' ld) : dueL w w' (tiedL (dueL w w' ld) ld) = dueL w w' ld := by
  have sub : (tiedL (dueL w w' ld) ld).Sublist ld := List.filter_sublist
  refine List.filter_congr fun t ht => ?_
  rw [Bool.eq_iff_iff, isLed_iff (L.rise.sublist sub), isLed_iff L.rise]
  constructor
  · rintro ⟨a, b, h1, h2, h3⟩
    exact ⟨a, b, sub.subset h1, sub.subset h2, h3⟩
  · rintro ⟨a, b, h1, h2, h3⟩
    have hd : t ∈ dueL w w' ld := List.mem_filter.mpr ⟨ht, (isLed_iff L.rise).mpr ⟨a, b, h1, h2, h3⟩⟩
    exact ⟨a, b, List.mem_filter.mpr ⟨h1, List.any_eq_true.mpr ⟨t, hd, by simp [onT]⟩⟩, List.mem_filter.mpr ⟨h2, List.any_eq_true.mpr ⟨t, hd, by simp [onT]⟩⟩, h3⟩
theorem optV_scal2 (a b : Option Nat) : scal (optV a) (optV b) = true := by cases a <;> cases b <;> rfl
theorem optV_inj (a b : Option Nat) : decide (optV a = optV b) = decide (a = b) := by
  rw [Bool.eq_iff_iff, decide_eq_true_eq, decide_eq_true_eq]
  constructor
  · intro z
    cases a <;> cases b
    · rfl
    · cases z
    · cases z
    · injection z with z; rw [sg_inj.mp z]
  · intro z; rw [z]
theorem tiedL_snoc {ts : List Tie} {ld : Lead} {i : Nat} {p : Nat × Nat} (h : ld[i]? = some p) : tiedL ts (ld.take (i + 1)) = tiedL ts (ld.take i) ++ if ts.any (onT p.1) = true then [p] else [] := by
  unfold tiedL
  rw [take_snoc h, List.filter_append]
  congr 1
  by_cases c : ts.any (onT p.1) = true
  · rw [if_pos c, List.filter_cons_of_pos (p := fun p : Nat × Nat => ts.any (onT p.1)) c]; rfl
  · rw [if_neg c, List.filter_cons_of_neg (p := fun p : Nat × Nat => ts.any (onT p.1)) c]; rfl
/-- a block in a block -/
theorem any_ends (ts : List Tie) (p : Nat) : (!(((ts.map ends).filter fun e => e.1 == p || e.2 == p).map pairD).isEmpty) = ts.any (onT p) := by
  induction ts with
  | nil => rfl
  | cons t r ih =>
    rw [List.any_cons, List.map_cons]
    by_cases c : onT p t = true
    · rw [List.filter_cons_of_pos (p := fun e : Nat × Nat => e.1 == p || e.2 == p) (a := ends t) c, c, Bool.true_or]; rfl
    · rw [List.filter_cons_of_neg (p := fun e : Nat × Nat => e.1 == p || e.2 == p) (a := ends t) c, ih, Bool.eq_false_iff.mpr c, Bool.false_or]
theorem sh2 (x y : Int) : SeqAt.shaped (.tuple [.int x, .int y]) = true := by simp [SeqAt.shaped, PyData.canLay0, PyData.canLayAll0, PyData.depth, PyData.depthAll]
theorem two_good (a b : Lead) : SeqAt.shaped (.list [pairsD a, pairsD b]) = true := shaped_list (k := 2) (by decide) fun d hd => by
  have g : ∀ l : Lead, (pairsD l).canLay0 = true ∧ (pairsD l).depth ≤ 2 := fun l => by
    obtain ⟨h1, h2⟩ := lay_all (ds := l.map pairD) (k := 1) fun d hd => by
      obtain ⟨t, ht, rfl⟩ := List.mem_map.mp hd
      exact pairD_lay t
    unfold pairsD
    exact ⟨by simp only [PyData.canLay0]; exact h1, by simp only [PyData.depth]; omega⟩
  rcases List.mem_cons.mp hd with e | hd
  · rw [e]; exact g a
  · rw [List.mem_singleton.mp hd]; exact g b
end Cw

namespace Cw
open PySem PySem.Spec PyProof.Rows L2

/-! ### l.remove(x) where items are data of any depth; least and greatest of texts -/
section
variable {X : Cx}
def rRemD (K : PySem.W.Frag) : V → List V → Hp → VK → Prop := fun x xs H Q => ∃ (l : Addr) (ys : List V) (y : V) (d : PyData) (ds : List PyData) (j : Nat), x = V.ref l ∧ xs = [y] ∧ H l = some (.lst ys) ∧ DpAll K H ys ds ∧ Dp K H y d ∧
  SeqAt.shaped (.list ds) = true ∧ SeqAt.shaped d = true ∧ SeqAt.dataPlace ds d = some j ∧ Q .non (upd H l (.lst (ys.eraseIdx j)))
/-- by the library's own rule for data: the first equal one is gone -/
theorem mt_removeD (hu : X.A.units + 65 < cLine) : MtR X "list.remove" (rRemD X.K) := fun pins s σ H x xs v us Q I rx rxs ⟨l, ys, y, d, ds, j, e1, e2, hH, ha, hy, sl, sd, hj, q⟩ => by
  subst e1 e2
  obtain rfl : v = Value.ref l := rx
  obtain ⟨uy, eu, ry⟩ := rxs.one
  obtain ⟨big, its, n, rv, hlen, ho⟩ := I.lstM hH
  obtain ⟨cs, got⟩ := Dp.readsAll I ds _ its ha rv
  obtain ⟨bs, got2⟩ := Dp.reads I d y uy hy ry
  rw [eu]
  refine SeqAt.remove_list_data (vs := its.toArray) (xs := ds) (d := d) ⟨_, ho, rfl, n, rfl⟩ (by simpa using got) got2 (PyData.plainAll_of_canLay0 ds (SeqAt.canLay_of_shaped sl)) (PyData.plain_of_canLay0 d (SeqAt.canLay_of_shaped sd)) (room_in_shaped sd hu) hj (by simpa [← hlen] using big) ?_
  exact ⟨.non, upd H l (.lst (ys.eraseIdx j)), I.lset (its' := its.eraseIdx j) (f := fun zs => zs.eraseIdxIfInBounds j) hH ho (List.eraseIdxIfInBounds_toArray ..) (rv.eraseIdx j) (Nat.le_trans (List.length_eraseIdx_le ys j) big), rfl, q⟩
end

theorem cmp_gtS {prog : Program} {w : World} {A : Around} {P : Nat → Value → Prop} (val : Nat → Str) (hval : ∀ i v, P i v → ∃ t, v = .str (val i) t) :
    CmpOf prog w A .Gt P (fun i j => decide ((val j).cps.toList < (val i).cps.toList)) := fun i j vi vj s Q E hi hj h => by
  obtain ⟨t, rfl⟩ := hval i vi hi
  obtain ⟨u, rfl⟩ := hval j vj hj
  exact richCompare_gives (op := .Gt) (typeIs_str s _ t) (typeIs_str s _ u) F.slot_str_gt F.entry_str_gt (F.args_str_gt_2 _ _) (gives_str_gt _ _ t u) (fun x => nomatch x) h
theorem cmp_ltS {prog : Program} {w : World} {A : Around} {P : Nat → Value → Prop} (val : Nat → Str) (hval : ∀ i v, P i v → ∃ t, v = .str (val i) t) :
    CmpOf prog w A .Lt P (fun i j => decide ((val i).cps.toList < (val j).cps.toList)) := fun i j vi vj s Q E hi hj h => by
  obtain ⟨t, rfl⟩ := hval i vi hi
  obtain ⟨u, rfl⟩ := hval j vj hj
  exact richCompare_gives (op := .Lt) (typeIs_str s _ t) (typeIs_str s _ u) F.slot_str_lt F.entry_str_lt (F.args_str_lt_2 _ _) (gives_str_lt _ _ t u) (fun x => nomatch x) h
/-- two texts -/
def two (x y : Str) (i : Nat) : Str := if i = 0 then x else y
theorem two_at {x y : Str} {t u : Tok} {i : Nat} {v : Value} (h : (#[Value.str x t, Value.str y u] : Array Value)[i]? = some v) : ∃ t', v = .str (two x y i) t' := by
  match i, h with
  | 0, h => exact ⟨t, (Option.some.inj h).symm⟩
  | 1, h => exact ⟨u, (Option.some.inj h).symm⟩
  | i + 2, h => simp at h
theorem two_max {x y : Str} {t u : Tok} {v : Value} (h : (#[Value.str x t, Value.str y u] : Array Value)[argBest (fun i j => decide ((two x y j).cps.toList < (two x y i).cps.toList)) 1]? = some v) :
    ∃ t', v = .str (if x.cps.toList < y.cps.toList then y else x) t' := by
  by_cases hb : x.cps.toList < y.cps.toList
  · have e : argBest (fun i j => decide ((two x y j).cps.toList < (two x y i).cps.toList)) 1 = 1 := by simp [argBest, two, hb]
    rw [e] at h
    rw [if_pos hb]
    exact ⟨u, (Option.some.inj h).symm⟩
  · have e : argBest (fun i j => decide ((two x y j).cps.toList < (two x y i).cps.toList)) 1 = 0 := by simp [argBest, two, hb]
    rw [e] at h
    rw [if_neg hb]
    exact ⟨t, (Option.some.inj h).symm⟩
theorem two_min {x y : Str} {t u : Tok} {v : Value} (h : (#[Value.str x t, Value.str y u] : Array Value)[argBest (fun i j => decide ((two x y i).cps.toList < (two x y j).cps.toList)) 1]? = some v) :
    ∃ t', v = .str (if y.cps.toList < x.cps.toList then y else x) t' := by
  by_cases hb : y.cps.toList < x.cps.toList
  · have e : argBest (fun i j => decide ((two x y i).cps.toList < (two x y j).cps.toList)) 1 = 1 := by simp [argBest, two, hb]
    rw [e] at h
    rw [if_pos hb]
    exact ⟨u, (Option.some.inj h).symm⟩
  · have e : argBest (fun i j => decide ((two x y i).cps.toList < (two x y j).cps.toList)) 1 = 0 := by simp [argBest, two, hb]
    rw [e] at h
    rw [if_neg hb]
    exact ⟨t, (Option.some.inj h).symm⟩
section
variable {prog : Program} {w : World} {A : Around} {E : Value → Shared → Prop} {s : Shared} {x y : Str} {t u : Tok} {Q : Value → Shared → Prop}
/-- an iterator that was just laid over what stands at l: both are old, what was there ahead of s₂ is kept -/
theorem two_room {h : Heap} {o : Obj} {l : Addr} (hl : l < h.objs.size) : ∀ c ∈ [h.objs.size, l], c < (h.push o).objs.size := fun c hc => by
  rw [Heap.size_push]
  rcases List.mem_cons.mp hc with e | e
  · exact Nat.lt_succ_of_le (Nat.le_of_eq e)
  · rw [List.mem_singleton.mp e]; exact Nat.lt_succ_of_lt hl
theorem two_kept {g h h' : Heap} {o : Obj} (ext : ∀ b ob, g.get? b = some ob → h.get? b = some ob) (sz : g.objs.size ≤ h.objs.size) (k : ∀ b ob, b ∉ [h.objs.size] → (h.push o).get? b = some ob → h'.get? b = some ob) :
    ∀ b ob, g.get? b = some ob → h'.get? b = some ob := fun b ob e => k b ob (by have z := Heap.lt_size e; simp only [List.mem_singleton]; exact Nat.ne_of_lt (Nat.lt_of_lt_of_le z sz)) (Heap.get?_push_of_some _ (ext b ob e))
/-- the two texts as a tuple that is new, as a list that stands -/
theorem two_tup (v1 v2 : Value) : (s.heap.push { cls := .type "tuple", data := .seq #[v1, v2] }).IsTuple s.heap.objs.size #[v1, v2] := ⟨_, Heap.get?_push_size _ rfl, rfl, 0, rfl⟩
theorem max_twoS (hh : A.handled = none) (h : ∀ h' tk t', (∀ c o, s.heap.get? c = some o → h'.get? c = some o) → Q (.str (if x.cps.toList < y.cps.toList then y else x) t') { s with heap := h', toks := tk }) :
    wpAny (model prog w) A (call (.builtin "max") [.str x t, .str y u]) Q E s := by
  have T := two_tup (s := s) (Value.str x t) (Value.str y u)
  have lt : s.heap.objs.size < (s.heap.push { cls := .type "tuple", data := .seq #[Value.str x t, Value.str y u] }).objs.size := by rw [Heap.size_push]; exact Nat.lt_succ_self _
  exact call_max_two (wpAny_pyIter_tuple T ⟨_, [_, s.heap.objs.size], [_], _, _, _, _, rfl, Walks.tuple (A := A.in1) hh _ _ (Nat.ne_of_lt lt) _, ⟨⟨_, Heap.get?_push_size _ rfl, rfl, rfl⟩, T.push _⟩, two_room lt, Nat.succ_pos 1, cmp_gtS (two x y) (fun _ _ => two_at),
    fun v h' tk hP hk => (two_max hP).elim fun t' e => by subst e; exact h h' tk t' (two_kept (fun b o e => Heap.get?_push_of_some _ e) (Nat.le_of_lt lt) hk)⟩)
theorem min_twoS (hh : A.handled = none) (h : ∀ h' tk t', (∀ c o, s.heap.get? c = some o → h'.get? c = some o) → Q (.str (if y.cps.toList < x.cps.toList then y else x) t') { s with heap := h', toks := tk }) :
    wpAny (model prog w) A (call (.builtin "min") [.str x t, .str y u]) Q E s := by
  have T := two_tup (s := s) (Value.str x t) (Value.str y u)
  have lt : s.heap.objs.size < (s.heap.push { cls := .type "tuple", data := .seq #[Value.str x t, Value.str y u] }).objs.size := by rw [Heap.size_push]; exact Nat.lt_succ_self _
  exact call_min_two (wpAny_pyIter_tuple T ⟨_, [_, s.heap.objs.size], [_], _, _, _, _, rfl, Walks.tuple (A := A.in1) hh _ _ (Nat.ne_of_lt lt) _, ⟨⟨_, Heap.get?_push_size _ rfl, rfl, rfl⟩, T.push _⟩, two_room lt, Nat.succ_pos 1, cmp_ltS (two x y) (fun _ _ => two_at),
    fun v h' tk hP hk => (two_min hP).elim fun t' e => by subst e; exact h h' tk t' (two_kept (fun b o e => Heap.get?_push_of_some _ e) (Nat.le_of_lt lt) hk)⟩)
theorem max_listS {l : Addr} (hh : A.handled = none) (hl : s.heap.IsList l #[Value.str x t, Value.str y u]) (h : ∀ h' tk t', (∀ c o, s.heap.get? c = some o → h'.get? c = some o) → Q (.str (if x.cps.toList < y.cps.toList then y else x) t') { s with heap := h', toks := tk }) :
    wpAny (model prog w) A (call (.builtin "max") [.ref l]) Q E s := by
  have lt : l < s.heap.objs.size := hl.elim fun _ e => Heap.lt_size e.1
  exact call_max_walk (wpAny_pyIter_list hl ⟨_, [_, l], [_], _, _, _, _, rfl, Walks.list (A := A.in1) hh _ l (Nat.ne_of_lt lt) _, ⟨⟨_, Heap.get?_push_size _ rfl, rfl, rfl⟩, hl.push _⟩, two_room lt, Nat.succ_pos 1, cmp_gtS (two x y) (fun _ _ => two_at),
    fun v h' tk hP hk => (two_max hP).elim fun t' e => by subst e; exact h h' tk t' (two_kept (fun b o e => e) (Nat.le_refl _) hk)⟩)
theorem min_listS {l : Addr} (hh : A.handled = none) (hl : s.heap.IsList l #[Value.str x t, Value.str y u]) (h : ∀ h' tk t', (∀ c o, s.heap.get? c = some o → h'.get? c = some o) → Q (.str (if y.cps.toList < x.cps.toList then y else x) t') { s with heap := h', toks := tk }) :
    wpAny (model prog w) A (call (.builtin "min") [.ref l]) Q E s := by
  have lt : l < s.heap.objs.size := hl.elim fun _ e => Heap.lt_size e.1
  exact call_min_walk (wpAny_pyIter_list hl ⟨_, [_, l], [_], _, _, _, _, rfl, Walks.list (A := A.in1) hh _ l (Nat.ne_of_lt lt) _, ⟨⟨_, Heap.get?_push_size _ rfl, rfl, rfl⟩, hl.push _⟩, two_room lt, Nat.succ_pos 1, cmp_ltS (two x y) (fun _ _ => two_at),
    fun v h' tk hP hk => (two_min hP).elim fun t' e => by subst e; exact h h' tk t' (two_kept (fun b o e => e) (Nat.le_refl _) hk)⟩)
end
section
variable {X : Cx}
theorem plainL_is {h : Heap} {a : Addr} {its : Array Value} (p : PlainL h a its) : h.IsList a its := by
  obtain ⟨o, n, e, h1, h2, h3⟩ := p
  exact ⟨o, e, h1, n, h3⟩
theorem cr_max2S (hc : X.calm = true) : CallR X (.builtin "max") (fun xs H Q => ∃ x y : Str, xs = [.str x, .str y] ∧ Q (.str (if x.cps.toList < y.cps.toList then y else x)) H) := by
  intro pins s σ H xs us Q I r h
  obtain ⟨x, y, rfl, q⟩ := h
  obtain ⟨u, w', rfl, ⟨t, rfl⟩, ⟨t', rfl⟩⟩ := vals2 r
  exact max_twoS (I.ok.hd hc) fun h' tk t2 k => ⟨.str _, H, I.kept k, ⟨_, rfl⟩, q⟩
theorem cr_min2S (hc : X.calm = true) : CallR X (.builtin "min") (fun xs H Q => ∃ x y : Str, xs = [.str x, .str y] ∧ Q (.str (if y.cps.toList < x.cps.toList then y else x)) H) := by
  intro pins s σ H xs us Q I r h
  obtain ⟨x, y, rfl, q⟩ := h
  obtain ⟨u, w', rfl, ⟨t, rfl⟩, ⟨t', rfl⟩⟩ := vals2 r
  exact min_twoS (I.ok.hd hc) fun h' tk t2 k => ⟨.str _, H, I.kept k, ⟨_, rfl⟩, q⟩
theorem cr_maxLS (hc : X.calm = true) : CallR X (.builtin "max") (fun xs H Q => ∃ (a : Addr) (x y : Str), xs = [.ref a] ∧ SqL X.K H a [.str x, .str y] ∧ Q (.str (if x.cps.toList < y.cps.toList then y else x)) H) := by
  intro pins s σ H xs us Q I r h
  obtain ⟨a, x, y, rfl, hS, q⟩ := h
  obtain ⟨u, rfl, ru⟩ := vals1 r
  cases ru
  obtain ⟨its, rv, pl, _⟩ := I.list hS
  obtain ⟨u1, u2, rfl, ⟨t, rfl⟩, ⟨t', rfl⟩⟩ := rv.two
  exact max_listS (I.ok.hd hc) (plainL_is pl) fun h' tk t2 k => ⟨.str _, H, I.kept k, ⟨_, rfl⟩, q⟩
theorem cr_minLS (hc : X.calm = true) : CallR X (.builtin "min") (fun xs H Q => ∃ (a : Addr) (x y : Str), xs = [.ref a] ∧ SqL X.K H a [.str x, .str y] ∧ Q (.str (if y.cps.toList < x.cps.toList then y else x)) H) := by
  intro pins s σ H xs us Q I r h
  obtain ⟨a, x, y, rfl, hS, q⟩ := h
  obtain ⟨u, rfl, ru⟩ := vals1 r
  cases ru
  obtain ⟨its, rv, pl, _⟩ := I.list hS
  obtain ⟨u1, u2, rfl, ⟨t, rfl⟩, ⟨t', rfl⟩⟩ := rv.two
  exact min_listS (I.ok.hd hc) (plainL_is pl) fun h' tk t2 k => ⟨.str _, H, I.kept k, ⟨_, rfl⟩, q⟩
theorem vals_ix {xs : List V} {us : List Value} (hl : us.length = xs.length) (k : ∀ (j : Nat) (u : Value), us[j]? = some u → ∃ x, xs[j]? = some x ∧ RelV x u) : Vals xs us := by
  induction us generalizing xs with
  | nil =>
    obtain rfl : xs = [] := List.eq_nil_of_length_eq_zero hl.symm
    exact .nil
  | cons u us ih =>
    match xs, hl with
    | x :: xs, hl =>
      obtain ⟨y, e, r⟩ := k 0 u rfl
      obtain rfl : x = y := Option.some.inj e
      exact .cons r (ih (Nat.succ.inj hl) fun j v hj => k (j + 1) v hj)
/-- list(text): its signs -/
theorem cr_listStr (hc : X.calm = true) : CallR X (.type "list") (fun xs H Q => ∃ x : Str, xs = [.str x] ∧ x.length ≤ sizeLine ∧ ∀ l, H l = none → Q (.ref l) (upd H l (.lst (x.cps.toList.map fun c => V.str (sg c))))) := by
  intro pins s σ H xs us Q I r h
  obtain ⟨x, rfl, hl, q⟩ := h
  obtain ⟨u, rfl, ru⟩ := vals1 r
  obtain ⟨t, rfl⟩ := ru
  refine call_list_str (I.ok.hd hc) x t (fun h' tk acc' c' hk hS hit => ?_) (by exact hl)
  have nw : H s.heap.objs.size = none := I.hok.fresh (Nat.le_refl _)
  refine ⟨.ref s.heap.objs.size, _, I.laid (t' := tk) hk (Nat.le_refl _) ?_, rfl, q _ nw⟩
  obtain ⟨hz, hv⟩ := hit
  refine ⟨by rw [List.length_map]; exact hl, acc'.toList, c', vals_ix (by simp [hz]) (fun j u hj => ?_), by simpa using hS⟩
  rw [Array.getElem?_toList] at hj
  obtain ⟨c, k, e, rfl⟩ := hv j u hj
  exact ⟨.str (sg c), by rw [List.getElem?_map, Array.getElem?_toList, e]; rfl, _, rfl⟩
end
end Cw

/-! what hangs together -/
namespace Cw
open PySem PySem.Spec PyProof.Rows L2
noncomputable def dec (p : Prop) : Bool := @decide p (Classical.propDecidable p)
theorem dec_iff {p : Prop} : dec p = true ↔ p := by unfold dec; exact @decide_eq_true_iff p (Classical.propDecidable p)
theorem dec_true {p : Prop} (h : p) : dec p = true := dec_iff.mpr h
theorem dec_false {p : Prop} (h : ¬ p) : dec p = false := by
  cases e : dec p with
  | false => rfl
  | true => exact absurd (dec_iff.mp e) h
theorem dec_congr {p q : Prop} (h : p ↔ q) : dec p = dec q := by
  rw [Bool.eq_iff_iff, dec_iff, dec_iff]; exact h
theorem mem_nb {w : Web} (W : WOk w) {p q : Nat} : q ∈ nb w.2 p ↔ ∃ t ∈ w.2, at2 p q t = true := by
  unfold nb
  rw [List.mem_filterMap]
  constructor
  · rintro ⟨t, ht, h⟩
    exact ⟨t, ht, (beside_iff (W.ends t ht).1).mp h⟩
  · rintro ⟨t, ht, h⟩
    exact ⟨t, ht, (beside_iff (W.ends t ht).1).mpr h⟩
theorem nb_symm {w : Web} (W : WOk w) {p q : Nat} (h : q ∈ nb w.2 p) : p ∈ nb w.2 q := by
  obtain ⟨t, ht, e⟩ := (mem_nb W).mp h
  exact (mem_nb W).mpr ⟨t, ht, by rw [at2_swap]; exact e⟩
theorem nb_lt {w : Web} (W : WOk w) {p q : Nat} (h : q ∈ nb w.2 p) : p < w.1.length ∧ q < w.1.length := by
  obtain ⟨t, ht, e⟩ := (mem_nb W).mp h
  have r := W.ends t ht
  rcases at2_iff.mp e with ⟨a, b⟩ | ⟨a, b⟩ <;> omega
/-- from a one comes to it -/
inductive Rch (ts : List Tie) (a : Nat) : Nat → Prop
  | base : Rch ts a a
  | step {p q : Nat} : Rch ts a p → q ∈ nb ts p → Rch ts a q
theorem Rch.trans {ts : List Tie} {a b c : Nat} (h : Rch ts a b) (k : Rch ts b c) : Rch ts a c := by
  induction k with
  | base => exact h
  | step _ m ih => exact ih.step m
theorem Rch.symm {w : Web} (W : WOk w) {a b : Nat} (h : Rch w.2 a b) : Rch w.2 b a := by
  induction h with
  | base => exact .base
  | step _ m ih => exact Rch.trans (Rch.base.step (nb_symm W m)) ih
theorem Rch.lt {w : Web} (W : WOk w) {a b : Nat} (h : Rch w.2 a b) (ha : a < w.1.length) : b < w.1.length := by
  cases h with
  | base => exact ha
  | step _ m => exact (nb_lt W m).2
/-- the places that hang together with a -/
noncomputable def partL (w : Web) (a : Nat) : List Nat := (List.range w.1.length).filter fun k => dec (Rch w.2 a k)
theorem mem_partL {w : Web} (W : WOk w) {a k : Nat} (ha : a < w.1.length) : k ∈ partL w a ↔ Rch w.2 a k := by
  unfold partL
  rw [List.mem_filter, dec_iff, List.mem_range]
  exact ⟨fun h => h.2, fun h => ⟨h.lt W ha, h⟩⟩
theorem partL_rise (w : Web) (a : Nat) : (partL w a).Pairwise (· < ·) := List.Pairwise.filter _ List.pairwise_lt_range
theorem partL_len (w : Web) (a : Nat) : (partL w a).length ≤ w.1.length := Nat.le_trans (List.length_filter_le _ _) (by rw [List.length_range]; exact Nat.le_refl _)
/-- no lesser place hangs together with it -/
def Lst (w : Web) (a : Nat) : Prop := ∀ b, Rch w.2 a b → a ≤ b
noncomputable def leastsL (w : Web) (n : Nat) : List Nat := (List.range n).filter fun a => dec (Lst w a)
noncomputable def partsN (w : Web) (n : Nat) : List (List Nat) := (leastsL w n).map (partL w)
noncomputable def partsL (w : Web) : List (List Nat) := partsN w w.1.length
theorem leastsL_succ (w : Web) (n : Nat) : leastsL w (n + 1) = leastsL w n ++ if dec (Lst w n) = true then [n] else [] := by
  unfold leastsL
  rw [List.range_succ, List.filter_append]
  congr 1
  by_cases c : dec (Lst w n) = true
  · rw [if_pos c]; simp [c]
  · rw [if_neg c]; simp [c]
theorem partsN_succ (w : Web) (n : Nat) : partsN w (n + 1) = partsN w n ++ if dec (Lst w n) = true then [partL w n] else [] := by
  unfold partsN
  rw [leastsL_succ, List.map_append]
  congr 1
  split <;> rfl
theorem partsN_len (w : Web) (n : Nat) : (partsN w n).length ≤ n := by
  unfold partsN leastsL
  rw [List.length_map]
  exact Nat.le_trans (List.length_filter_le _ _) (by rw [List.length_range]; exact Nat.le_refl _)
/-- a place that none of the lesser ones comes to is least -/
theorem seen_iff {w : Web} (W : WOk w) {n : Nat} : (∃ a, a < n ∧ Rch w.2 a n) ↔ ¬ Lst w n := by
  constructor
  · rintro ⟨a, h1, h2⟩ l
    have := l a (h2.symm W)
    omega
  · intro h
    unfold Lst at h
    obtain ⟨b, hb⟩ := Classical.not_forall.mp h
    obtain ⟨h1, h2⟩ := Classical.not_imp.mp hb
    exact ⟨b, by omega, h1.symm W⟩
/-! ### the least place that one comes to, by turns -/
def Dn (ts : List Tie) : Nat → Nat → Nat → Prop
  | 0, p, q => p = q
  | k + 1, p, q => Dn ts k p q ∨ ∃ r, r ∈ nb ts p ∧ Dn ts k r q
theorem Dn.mono {ts : List Tie} {k p q : Nat} (h : Dn ts k p q) : ∀ m, Dn ts (k + m) p q
  | 0 => h
  | m + 1 => .inl (Dn.mono h m)
theorem filter_lt {α : Type} {P Q : α → Bool} : ∀ {l : List α}, (∀ x ∈ l, P x = true → Q x = true) → (∃ x ∈ l, Q x = true ∧ P x = false) → (l.filter P).length < (l.filter Q).length
  | [], _, ⟨x, h, _⟩ => absurd h (by simp)
  | y :: l, i, ⟨x, h, h1, h2⟩ => by
    have le : ∀ {l : List α}, (∀ x ∈ l, P x = true → Q x = true) → (l.filter P).length ≤ (l.filter Q).length := fun {l} i => by
      induction l with
      | nil => exact Nat.le_refl _
      | cons a r ih =>
        have ihr := ih fun x hx => i x (List.mem_cons_of_mem _ hx)
        by_cases c : P a = true
        · rw [List.filter_cons_of_pos c, List.filter_cons_of_pos (i a List.mem_cons_self c)]
          exact Nat.succ_le_succ ihr
        · rw [List.filter_cons_of_neg c]
          by_cases d : Q a = true
          · rw [List.filter_cons_of_pos d]; exact Nat.le_succ_of_le ihr
          · rw [List.filter_cons_of_neg d]; exact ihr
    have il : ∀ x ∈ l, P x = true → Q x = true := fun x hx => i x (List.mem_cons_of_mem _ hx)
    rcases List.mem_cons.mp h with z | z
    · subst z
      rw [List.filter_cons_of_neg (by rw [h2]; simp), List.filter_cons_of_pos h1]
      exact Nat.lt_succ_of_le (le il)
    · have ih := filter_lt il ⟨x, z, h1, h2⟩
      by_cases c : P y = true
      · rw [List.filter_cons_of_pos c, List.filter_cons_of_pos (i y List.mem_cons_self c)]
        exact Nat.succ_lt_succ ih
      · rw [List.filter_cons_of_neg c]
        by_cases d : Q y = true
        · rw [List.filter_cons_of_pos d]; exact Nat.lt_succ_of_lt ih
        · rw [List.filter_cons_of_neg d]; exact ih
/-- as many turns as there are places are enough -/
theorem dn_all {w : Web} (W : WOk w) {p q : Nat} (hq : q < w.1.length) (h : Rch w.2 p q) : Dn w.2 w.1.length p q := by
  have grow : ∀ k, (∀ a r, r ∈ nb w.2 a → Dn w.2 k r q → Dn w.2 k a q) ∨ k + 1 ≤ ((List.range w.1.length).filter fun a => dec (Dn w.2 k a q)).length := by
    intro k
    induction k with
    | zero =>
      right
      have : q ∈ (List.range w.1.length).filter fun a => dec (Dn w.2 0 a q) := List.mem_filter.mpr ⟨List.mem_range.mpr hq, dec_true rfl⟩
      exact List.length_pos_of_mem this
    | succ k ih =>
      rcases Classical.em (∀ a r, r ∈ nb w.2 a → Dn w.2 k r q → Dn w.2 k a q) with c | c
      · left
        have back : ∀ a, Dn w.2 (k + 1) a q → Dn w.2 k a q := fun a d => by
          rcases d with d | ⟨r, h1, h2⟩
          · exact d
          · exact c a r h1 h2
        intro a r h1 h2
        exact .inl (c a r h1 (back r h2))
      · right
        rcases ih with ih | ih
        · exact absurd ih c
        obtain ⟨a, ha⟩ := Classical.not_forall.mp c
        obtain ⟨r, hr⟩ := Classical.not_forall.mp ha
        obtain ⟨h1, hr⟩ := Classical.not_imp.mp hr
        obtain ⟨h2, h3⟩ := Classical.not_imp.mp hr
        have lt := filter_lt (l := List.range w.1.length) (P := fun a => dec (Dn w.2 k a q)) (Q := fun a => dec (Dn w.2 (k + 1) a q)) (fun x _ hx => dec_true (.inl (dec_iff.mp hx)))
          ⟨a, List.mem_range.mpr (nb_lt W h1).1, dec_true (.inr ⟨r, h1, h2⟩), dec_false h3⟩
        omega
  have closed : ∀ a r, r ∈ nb w.2 a → Dn w.2 w.1.length r q → Dn w.2 w.1.length a q := by
    rcases grow w.1.length with c | c
    · exact c
    · have := List.length_filter_le (fun a => dec (Dn w.2 w.1.length a q)) (List.range w.1.length)
      rw [List.length_range] at this
      omega
  have d0 : Dn w.2 w.1.length q q := by
    have z := Dn.mono (show Dn w.2 0 q q from rfl) w.1.length
    rw [Nat.zero_add] at z
    exact z
  have go : ∀ x, Rch w.2 p x → Dn w.2 w.1.length x q → Dn w.2 w.1.length p q := by
    intro x hx
    induction hx with
    | base => exact id
    | step _ m ih => exact fun d => ih (closed _ _ m d)
  exact go q h d0
/-- what the labels are while they sink: of its own part, and no greater than what k steps come to -/
structure Lab (w : Web) (k : Nat) (ls : List Nat) : Prop where
  len : ls.length = w.1.length
  own : ∀ (p l : Nat), ls[p]? = some l → Rch w.2 p l
  low : ∀ (p l q : Nat), ls[p]? = some l → Dn w.2 k p q → l ≤ q
/-- within a turn: i ties are done -/
structure LabT (w : Web) (k i : Nat) (old ls : List Nat) : Prop where
  len : ls.length = w.1.length
  own : ∀ (p l : Nat), ls[p]? = some l → Rch w.2 p l
  sink : ∀ (p l m : Nat), ls[p]? = some l → old[p]? = some m → l ≤ m
  done : ∀ t ∈ w.2.take i, ∀ (l m : Nat), (ls[t.1]? = some l → old[t.2.1]? = some m → l ≤ m) ∧ (ls[t.2.1]? = some l → old[t.1]? = some m → l ≤ m)
theorem Lab.start (w : Web) : Lab w 0 (List.range w.1.length) := by
  refine ⟨List.length_range, fun p l h => ?_, fun p l q h d => ?_⟩
  · obtain ⟨h1, h2⟩ := List.getElem?_eq_some_iff.mp h
    rw [List.getElem_range] at h2
    subst h2
    exact .base
  · obtain ⟨h1, h2⟩ := List.getElem?_eq_some_iff.mp h
    rw [List.getElem_range] at h2
    have : p = q := d
    omega
theorem LabT.start {w : Web} {k : Nat} {ls : List Nat} (L : Lab w k ls) : LabT w k 0 ls ls :=
  ⟨L.len, L.own, fun p l m h1 h2 => by rw [h1] at h2; cases h2; exact Nat.le_refl _, fun t ht => by simp at ht⟩
theorem LabT.tie {w : Web} (W : WOk w) {k i : Nat} {old ls : List Nat} (T : LabT w k i old ls) {t : Tie} (ht : w.2[i]? = some t) {l m : Nat} (hl : ls[t.1]? = some l) (hm : ls[t.2.1]? = some m) :
    LabT w k (i + 1) old ((ls.set t.1 (min l m)).set t.2.1 (min l m)) := by
  have r := W.ends t (List.mem_of_getElem? ht)
  have n1 : t.1 < ls.length := by rw [T.len]; omega
  have n2 : t.2.1 < ls.length := by rw [T.len]; omega
  have adj : t.2.1 ∈ nb w.2 t.1 := (mem_nb W).mpr ⟨t, List.mem_of_getElem? ht, at2_iff.mpr (.inl ⟨rfl, rfl⟩)⟩
  have at_ : ∀ p, ((ls.set t.1 (min l m)).set t.2.1 (min l m))[p]? = if p = t.1 ∨ p = t.2.1 then some (min l m) else ls[p]? := fun p => by
    by_cases c2 : t.2.1 = p
    · subst c2
      rw [List.getElem?_set_self (by rw [List.length_set]; exact n2), if_pos (.inr rfl)]
    · rw [List.getElem?_set_ne c2]
      by_cases c1 : t.1 = p
      · subst c1
        rw [List.getElem?_set_self n1, if_pos (.inl rfl)]
      · rw [List.getElem?_set_ne c1, if_neg (by intro z; rcases z with z | z; exact c1 z.symm; exact c2 z.symm)]
  have rl := T.own _ _ hl
  have rm := T.own _ _ hm
  have down : ∀ p x y, ((ls.set t.1 (min l m)).set t.2.1 (min l m))[p]? = some x → ls[p]? = some y → x ≤ y := fun p x y hx hy => by
    rw [at_] at hx
    split at hx
    · rename_i c
      have e := (Option.some.inj hx).symm
      subst e
      rcases c with c | c
      · subst c; rw [hl] at hy; cases hy; exact Nat.min_le_left _ _
      · subst c; rw [hm] at hy; cases hy; exact Nat.min_le_right _ _
    · rw [hx] at hy; cases hy; exact Nat.le_refl _
  have here : ∀ p x, ((ls.set t.1 (min l m)).set t.2.1 (min l m))[p]? = some x → ∃ y, ls[p]? = some y := fun p x hx => by
    have := (List.getElem?_eq_some_iff.mp hx).1
    rw [List.length_set, List.length_set] at this
    exact ⟨_, List.getElem?_eq_getElem this⟩
  refine ⟨by rw [List.length_set, List.length_set]; exact T.len, fun p x hx => ?_, fun p x y hx hy => ?_, fun u hu x y => ⟨fun hx hy => ?_, fun hx hy => ?_⟩⟩
  · rw [at_] at hx
    split at hx
    · rename_i c
      have e := (Option.some.inj hx).symm
      subst e
      have to1 : Rch w.2 t.1 (min l m) := by
        rcases Nat.le_total l m with z | z
        · rw [Nat.min_eq_left z]; exact rl
        · rw [Nat.min_eq_right z]; exact Rch.trans (Rch.base.step adj) rm
      rcases c with c | c
      · subst c; exact to1
      · subst c; exact Rch.trans (Rch.base.step (nb_symm W adj)) to1
    · exact T.own p x hx
  · obtain ⟨z, hz⟩ := here p x hx
    exact Nat.le_trans (down p x z hx hz) (T.sink p z y hz hy)
  · rw [take_snoc ht] at hu
    rcases List.mem_append.mp hu with hu | hu
    · obtain ⟨z, hz⟩ := here _ x hx
      exact Nat.le_trans (down _ x z hx hz) ((T.done u hu z y).1 hz hy)
    · rw [List.mem_singleton.mp hu] at hx hy
      rw [at_, if_pos (.inl rfl)] at hx
      cases hx
      exact Nat.le_trans (Nat.min_le_right _ _) (T.sink _ m y hm hy)
  · rw [take_snoc ht] at hu
    rcases List.mem_append.mp hu with hu | hu
    · obtain ⟨z, hz⟩ := here _ x hx
      exact Nat.le_trans (down _ x z hx hz) ((T.done u hu z y).2 hz hy)
    · rw [List.mem_singleton.mp hu] at hx hy
      rw [at_, if_pos (.inr rfl)] at hx
      cases hx
      exact Nat.le_trans (Nat.min_le_left _ _) (T.sink _ l y hl hy)
theorem LabT.turn {w : Web} (W : WOk w) {k : Nat} {old ls : List Nat} (L : Lab w k old) (T : LabT w k w.2.length old ls) : Lab w (k + 1) ls := by
  refine ⟨T.len, T.own, fun p l q hl d => ?_⟩
  have hp : p < old.length := by rw [L.len, ← T.len]; exact (List.getElem?_eq_some_iff.mp hl).1
  have ho := List.getElem?_eq_getElem hp
  rcases d with d | ⟨r, h1, h2⟩
  · exact Nat.le_trans (T.sink p l _ hl ho) (L.low p _ q ho d)
  · obtain ⟨t, ht, e⟩ := (mem_nb W).mp h1
    have hr : r < old.length := by rw [L.len]; exact (nb_lt W h1).2
    have hr' := List.getElem?_eq_getElem hr
    have tm : t ∈ w.2.take w.2.length := by rw [List.take_length]; exact ht
    have dn := T.done t tm l old[r]
    have le : l ≤ old[r] := by
      rcases at2_iff.mp e with ⟨a, b⟩ | ⟨a, b⟩
      · exact dn.1 (by rw [a]; exact hl) (by rw [b]; exact hr')
      · exact dn.2 (by rw [b]; exact hl) (by rw [a]; exact hr')
    exact Nat.le_trans le (L.low r _ q hr' h2)
/-- at the end: each label is the least place of its part -/
theorem Lab.end_ {w : Web} (W : WOk w) {ls : List Nat} (L : Lab w w.1.length ls) {p l : Nat} (h : ls[p]? = some l) : Rch w.2 p l ∧ Lst w l := by
  have hp : p < w.1.length := by rw [← L.len]; exact (List.getElem?_eq_some_iff.mp h).1
  have r := L.own p l h
  refine ⟨r, fun b hb => ?_⟩
  have rb := r.trans hb
  exact L.low p l b h (dn_all W (rb.lt W hp) rb)
theorem lst_uniq {w : Web} (W : WOk w) {a b : Nat} (ha : Lst w a) (hb : Lst w b) (h : Rch w.2 a b) : a = b := by
  have h1 := ha b h
  have h2 := hb a (h.symm W)
  omega
theorem Lab.is_ {w : Web} (W : WOk w) {ls : List Nat} (L : Lab w w.1.length ls) {p l a : Nat} (h : ls[p]? = some l) (ha : Lst w a) : l = a ↔ Rch w.2 a p := by
  obtain ⟨h1, h2⟩ := L.end_ W h
  constructor
  · rintro rfl
    exact h1.symm W
  · intro z
    exact (lst_uniq W ha h2 (z.trans h1)).symm
theorem labs_mem {w : Web} (W : WOk w) {ls : List Nat} (L : Lab w w.1.length ls) (x : Nat) : x ∈ ls ↔ x ∈ leastsL w w.1.length := by
  unfold leastsL
  rw [List.mem_filter, List.mem_range, dec_iff]
  constructor
  · intro h
    obtain ⟨p, hp⟩ := List.getElem?_of_mem h
    obtain ⟨h1, h2⟩ := L.end_ W hp
    have hp' : p < w.1.length := by rw [← L.len]; exact (List.getElem?_eq_some_iff.mp hp).1
    exact ⟨h1.lt W hp', h2⟩
  · rintro ⟨h1, h2⟩
    have hx : x < ls.length := by rw [L.len]; exact h1
    have g := List.getElem?_eq_getElem hx
    have e := (L.is_ W g h2).mpr .base
    rw [e] at g
    exact List.mem_of_getElem? g
theorem leasts_rise (w : Web) (n : Nat) : (leastsL w n).Pairwise (· < ·) := List.Pairwise.filter _ List.pairwise_lt_range
theorem mem_leasts {w : Web} {n x : Nat} (h : x ∈ leastsL w n) : x < n ∧ Lst w x := by
  unfold leastsL at h
  rw [List.mem_filter, List.mem_range, dec_iff] at h
  exact h
theorem labs_part {w : Web} (W : WOk w) {ls : List Nat} (L : Lab w w.1.length ls) {a : Nat} (ha : Lst w a) : ((List.range w.1.length).filter fun p => decide (ls[p]? = some a)) = partL w a := by
  unfold partL
  refine List.filter_congr fun p hp => ?_
  have hp' : p < ls.length := by rw [L.len]; exact List.mem_range.mp hp
  have g := List.getElem?_eq_getElem hp'
  rw [Bool.eq_iff_iff, dec_iff, decide_eq_true_eq, g, Option.some.injEq]
  exact L.is_ W g ha

/-! ### a def's code told to its body -/
section
variable {P : Program} {w : World} {K : PySem.W.Frag} {mg : Str → Option Value} {base : Heap}
theorem funOkC {x qual : Str} {st : Stmt} {f : Addr} {fd : FuncData} {N ps : List Str} {k : Nat} {sp : Sp} (F : Fun K x qual st f fd) (S : FnScope N ps (defScope st)) (len : ∀ vs H Q E, sp vs H Q E → vs.length = ps.length)
    (hbody : ∀ (cdv : Value), PySem.W.codeIn K cdv qual = true → ∀ (A : Around) (outer : List Env) (s : Shared) (H : Hp) (vs : List V) (Q : VK) (E : XK), Room k (A.deeper (envOfC qual (defScope st) s.heap.objs.size f cdv)) → sp vs H Q E →
      ∃ t, PSs (cxOf CX0 P w K mg base N qual (defScope st) f cdv A outer s H E).nox (defBody st) t ∧ t { nx := fun _ H' => Q .non H', rt := Q } (start N vs) H) : FnOk P w K mg base CX0 (k + 1) f fd ps sp := by
  obtain ⟨oc, od, kV, doc, pm, an, cdv, ct, osl, rfl, lk, hcd⟩ := F.ex
  refine fn_of lk hcd S len fun A outer s H vs Q E hr hsp => ?_
  obtain ⟨t, h, q⟩ := hbody cdv hcd A outer s H vs Q E hr hsp
  exact ⟨t, h.nox, q⟩
end
/-! ### a set of places -/
theorem cr_set0w {X : Cx} {wd : World} (hw : X.w = wd) : CallR X (.type "set") (rSet0 wd) := by
  subst hw
  exact cr_set0
def SetN (wd : World) (H : Hp) (S : Addr) (ms : List Nat) : Prop := ∃ Sx n, H S = some (SetO wd S Sx n) ∧ n ≤ ms.length ∧ (ms.Nodup → n = ms.length) ∧ ∀ k : Int, Sx k = true ↔ ∃ q : Nat, k = (q : Int) ∧ q ∈ ms
section
variable {wd : World} {K : PySem.W.Frag} {H H' : Hp} {S : Addr} {ms : List Nat} {q : Nat} {Q : VK}
theorem SetN.new (h : H S = some (SetO wd S (fun _ => false) 0)) : SetN wd H S [] := ⟨_, 0, h, Nat.le_refl _, fun _ => rfl, fun k => by simp⟩
theorem SetN.same (x : SetN wd H S ms) (s : Same H H') : SetN wd H' S ms := by
  obtain ⟨a, n, e, r⟩ := x
  exact ⟨a, n, s _ _ e, r⟩
theorem SetN.at_ (x : SetN wd H S ms) {b : Addr} {o : HO} (n : b ≠ S) : SetN wd (upd H b o) S ms := by
  obtain ⟨a, m, e, r⟩ := x
  exact ⟨a, m, by rw [upd_ne n.symm]; exact e, r⟩
theorem SetN.ne (x : SetN wd H S ms) {b : Addr} {ys : List V} (e : H b = some (.lst ys)) : b ≠ S := by
  obtain ⟨a, m, e', r⟩ := x
  exact ne_of e e' (by intro z; cases z)
theorem d_snotin (x : SetN wd H S ms) (k : Q (.bl (!decide (q ∈ ms))) H) : rSNotIn wd (.int (q : Nat)) (.ref S) H Q := by
  obtain ⟨Sx, n, e, l, l', m⟩ := x
  refine ⟨q, S, Sx, n, rfl, rfl, e, ?_⟩
  have : Sx (q : Nat) = decide (q ∈ ms) := by
    rw [Bool.eq_iff_iff, decide_eq_true_eq, m]
    constructor
    · rintro ⟨q', h1, h2⟩
      have : q = q' := by omega
      rw [this]; exact h2
    · intro h
      exact ⟨q, rfl, h⟩
  rw [this]
  exact k
theorem d_tsadd {to : TE} {t : TA} {σ : L2.St} (h : to σ H fun x H1 => (∃ a S n, x = V.ref a ∧ H1 a = some (SetO wd a S n)) ∧ t σ H1 fun xs H2 => rSAdd wd x xs H2 Q) : tSAdd wd to t σ H Q := h
theorem d_sadd0 (x : SetN wd H S ms) {C : Prop} (h : C) : (∃ a Sx n, V.ref S = V.ref a ∧ H a = some (SetO wd a Sx n)) ∧ C := by
  obtain ⟨a, n, e, r⟩ := x
  exact ⟨⟨S, a, n, rfl, e⟩, h⟩
theorem d_sadd (x : SetN wd H S ms) (few : ms.length ≤ 4000) (k : ∀ o ms', SetN wd (upd H S o) S ms' → (∀ y, y ∈ ms' ↔ y ∈ ms ∨ y = q) → ms'.length ≤ ms.length + 1 → (q ∉ ms → ms' = ms ++ [q]) → Q .non (upd H S o)) : rSAdd wd (.ref S) [.int (q : Nat)] H Q := by
  obtain ⟨Sx, n, e, l, l', m⟩ := x
  refine ⟨S, q, Sx, n, rfl, rfl, e, by unfold scanBound; omega, ?_⟩
  have mem : ∀ j : Int, (Sx j || decide (j = (q : Int))) = true ↔ ∃ y : Nat, j = (y : Int) ∧ (y ∈ ms ∨ y = q) := fun j => by
    rw [Bool.or_eq_true, m, decide_eq_true_eq]
    constructor
    · rintro (⟨y, h1, h2⟩ | h)
      · exact ⟨y, h1, .inl h2⟩
      · exact ⟨q, h, .inr rfl⟩
    · rintro ⟨y, h1, h2 | h2⟩
      · exact .inl ⟨y, h1, h2⟩
      · exact .inr (by rw [h1, h2])
  by_cases c : q ∈ ms
  · have c' : Sx (q : Nat) = true := (m _).mpr ⟨q, rfl, c⟩
    rw [if_pos c']
    refine k _ ms ⟨_, n, upd_same, l, l', fun j => ?_⟩ (fun y => ⟨.inl, fun h => h.elim id fun z => z ▸ c⟩) (by omega) fun z => absurd c z
    rw [mem]
    exact ⟨fun ⟨y, h1, h2⟩ => ⟨y, h1, h2.elim id fun z => z ▸ c⟩, fun ⟨y, h1, h2⟩ => ⟨y, h1, .inl h2⟩⟩
  · have c' : ¬ Sx (q : Nat) = true := fun z => by
      obtain ⟨y, h1, h2⟩ := (m _).mp z
      have : q = y := by omega
      exact c (this ▸ h2)
    rw [if_neg c']
    refine k _ (ms ++ [q]) ⟨_, n + 1, upd_same, by rw [List.length_append]; show n + 1 ≤ ms.length + 1; omega, fun nd => ?_, fun j => ?_⟩ (fun y => by rw [List.mem_append, List.mem_singleton]) (by rw [List.length_append]; exact Nat.le_refl _) fun _ => rfl
    · rw [List.length_append, l' (List.nodup_append.mp nd).1]; rfl
    · rw [mem]
      exact ⟨fun ⟨y, h1, h2⟩ => ⟨y, h1, by rw [List.mem_append, List.mem_singleton]; exact h2⟩, fun ⟨y, h1, h2⟩ => ⟨y, h1, by rw [List.mem_append, List.mem_singleton] at h2; exact h2⟩⟩
theorem nats_of {ns : List Int} {l : List Nat} (s : ns.Pairwise (· < ·)) (sl : l.Pairwise (· < ·)) (m : ∀ k, k ∈ ns ↔ ∃ q : Nat, k = (q : Int) ∧ q ∈ l) : ns = zs l := by
  have nn : ∀ k ∈ ns, 0 ≤ k := fun k hk => by
    obtain ⟨q, h, _⟩ := (m k).mp hk
    omega
  have e1 : zs (ns.map Int.toNat) = ns := by
    unfold zs
    rw [List.map_map]
    refine (List.map_congr_left fun k hk => ?_).trans (List.map_id _)
    show ((k.toNat : Nat) : Int) = k
    exact Int.toNat_of_nonneg (nn k hk)
  rw [← e1]
  congr 1
  refine sorted_ext ?_ sl fun x => ?_
  · rw [List.pairwise_map]
    refine s.imp_of_mem fun {x y} hx hy h => ?_
    have := nn x hx
    have := nn y hy
    omega
  · rw [List.mem_map]
    constructor
    · rintro ⟨k, h1, h2⟩
      obtain ⟨q, h3, h4⟩ := (m k).mp h1
      have : x = q := by omega
      rw [this]; exact h4
    · intro h
      exact ⟨(x : Int), (m _).mpr ⟨x, rfl, h⟩, by simp⟩
theorem d_ssort (x : SetN wd H S ms) {l : List Nat} (nd : ms.Nodup) (few : ms.length < 64) (sl : l.Pairwise (· < ·)) (m : ∀ y, y ∈ ms ↔ y ∈ l) (k : ∀ p, H p = none → Q (.ref p) (upd H p (.lst (l.map fun y => V.int (y : Nat))))) : rSortedSet wd [.ref S] H Q := by
  obtain ⟨Sx, n, e, l1, l2, m1⟩ := x
  refine ⟨S, Sx, n, rfl, e, by have := l2 nd; omega, fun ns p s mem len fp => ?_⟩
  have : ns = zs l := nats_of s sl fun j => by
    rw [mem, m1]
    exact ⟨fun ⟨y, h1, h2⟩ => ⟨y, h1, (m y).mp h2⟩, fun ⟨y, h1, h2⟩ => ⟨y, h1, (m y).mpr h2⟩⟩
  rw [this, ← ints_map]
  exact k p fp
end
/-! ### lists of lists of places -/
abbrev natsV (p : List Nat) : List V := p.map fun q => V.int (q : Nat)
def PartsAt (H : Hp) (rs : List Addr) (ps : List (List Nat)) : Prop := Paired (fun r p => H r = some (.lst (natsV p))) rs ps
def partsD (ps : List (List Nat)) : PyData := .list (ps.map fun p => .list ((zs p).map PyData.int))
section
variable {K : PySem.W.Frag} {H H' : Hp} {rs : List Addr} {ps : List (List Nat)}
theorem PartsAt.same (x : PartsAt H rs ps) (s : Same H H') : PartsAt H' rs ps := Paired.imp x fun _ _ e => s _ _ e
theorem PartsAt.keep {h : Addr} (x : PartsAt H rs ps) (k : Keep h H H') (n : h ∉ rs) : PartsAt H' rs ps := by
  induction x with
  | nil => exact .nil
  | cons e _ ih =>
    exact .cons (k _ _ (fun z => n (z ▸ List.mem_cons_self)) e) (ih fun z => n (List.mem_cons_of_mem _ z))
theorem PartsAt.dpa : ∀ {rs : List Addr} {ps : List (List Nat)}, PartsAt H rs ps → DpAll K H (rs.map V.ref) (ps.map fun p => PyData.list ((zs p).map PyData.int))
  | _, _, .nil => .nil
  | _, _, .cons e r => .cons (dp_nats e) (PartsAt.dpa r)
theorem PartsAt.dp {T : Addr} (x : PartsAt H rs ps) (e : H T = some (.lst (rs.map V.ref))) : Dp K H (.ref T) (partsD ps) := .lst (SqL.of e) x.dpa
theorem partsD_good (ps : List (List Nat)) : SeqAt.shaped (partsD ps) = true := by
  refine shaped_list (k := 1) (by decide) fun d hd => ?_
  obtain ⟨p, _, rfl⟩ := List.mem_map.mp hd
  have h := shaped_ints (zs p)
  refine ⟨SeqAt.canLay_of_shaped h, ?_⟩
  have : PyData.depthAll ((zs p).map PyData.int) ≤ 0 := by
    generalize zs p = l
    induction l with
    | nil => simp [PyData.depthAll]
    | cons a l ih => simp [PyData.depthAll, PyData.depth]; omega
  simp only [PyData.depth]; omega
end
theorem cr_setLw {X : Cx} {wd : World} (hw : X.w = wd) (hc : X.calm = true) : CallR X (.type "set") (rSetL X.K wd) := by
  subst hw
  exact cr_setL hc
/-! ### webs beside one another; a row -/
def shiftT (n : Nat) (t : Tie) : Tie := (t.1 + n, t.2.1 + n, t.2.2)
def joinW (u v : Web) : Web := (u.1 ++ v.1, u.2 ++ v.2.map (shiftT u.1.length))
def rowW (u : Web) : Web := (u.1, (List.range (u.1.length - 1)).map fun j => (j, j + 1, 115))
theorem ties_few {ts : List Tie} {n : Nat} (s : ts.Pairwise tlt) (e : ∀ t ∈ ts, t.1 < n ∧ t.2.1 < n) : ts.length ≤ n * n := by
  have h := nodup_len (n * n) (ts.map fun t => t.1 * n + t.2.1) ?_ ?_
  · rw [List.length_map] at h; exact h
  · unfold List.Nodup
    rw [List.pairwise_map]
    refine s.imp_of_mem fun {x y} hx hy h z => ?_
    obtain ⟨a1, a2⟩ := e x hx
    obtain ⟨b1, b2⟩ := e y hy
    unfold tlt at h
    have e1 : (x.1 * n + x.2.1) / n = x.1 := by rw [Nat.add_comm, Nat.add_mul_div_right _ _ (by omega), Nat.div_eq_of_lt a2, Nat.zero_add]
    have e2 : (y.1 * n + y.2.1) / n = y.1 := by rw [Nat.add_comm, Nat.add_mul_div_right _ _ (by omega), Nat.div_eq_of_lt b2, Nat.zero_add]
    have : x.1 = y.1 := by rw [← e1, ← e2, z]
    rw [this] at z
    omega
  · intro x hx
    obtain ⟨t, ht, rfl⟩ := List.mem_map.mp hx
    obtain ⟨a1, a2⟩ := e t ht
    calc t.1 * n + t.2.1 < t.1 * n + n := by omega
      _ = (t.1 + 1) * n := by rw [Nat.add_mul, Nat.one_mul]
      _ ≤ n * n := Nat.mul_le_mul_right _ a1
theorem few_most {n m : Nat} (h : n ≤ 40) (k : m ≤ n * n) : m ≤ 1600 := Nat.le_trans k (Nat.le_trans (Nat.mul_le_mul h h) (by decide))
theorem joinW_ok {u v : Web} (U : WOk u) (V : WOk v) (h : u.1.length + v.1.length ≤ 40) : WOk (joinW u v) := by
  have en : ∀ t ∈ (joinW u v).2, t.1 < t.2.1 ∧ t.2.1 < (joinW u v).1.length ∧ Ltr t.2.2 := fun t ht => by
    unfold joinW at ht ⊢
    dsimp only at ht ⊢
    rw [List.length_append]
    rcases List.mem_append.mp ht with ht | ht
    · obtain ⟨a, b, c⟩ := U.ends t ht
      exact ⟨a, by omega, c⟩
    · obtain ⟨s, hs, rfl⟩ := List.mem_map.mp ht
      obtain ⟨a, b, c⟩ := V.ends s hs
      unfold shiftT
      exact ⟨by dsimp only; omega, by dsimp only; omega, c⟩
  have ri : (joinW u v).2.Pairwise tlt := by
    unfold joinW
    refine List.pairwise_append.mpr ⟨U.rise, ?_, fun x hx y hy => ?_⟩
    · rw [List.pairwise_map]
      refine V.rise.imp fun {x y} h => ?_
      unfold tlt shiftT at *
      dsimp only
      omega
    · obtain ⟨s, hs, rfl⟩ := List.mem_map.mp hy
      obtain ⟨a, b, c⟩ := U.ends x hx
      unfold tlt shiftT
      left
      dsimp only
      omega
  have le : (joinW u v).1.length ≤ 40 := by unfold joinW; rw [List.length_append]; exact h
  refine ⟨le, few_most le (ties_few ri fun t ht => ?_), fun c hc => ?_, ri, en⟩
  · obtain ⟨a, b, _⟩ := en t ht
    omega
  · unfold joinW at hc
    rcases List.mem_append.mp hc with hc | hc
    · exact U.kinds c hc
    · exact V.kinds c hc
theorem rowW_ok {u : Web} (U : WOk u) : WOk (rowW u) := by
  refine ⟨U.few, ?_, U.kinds, ?_, fun t ht => ?_⟩
  · unfold rowW
    rw [List.length_map, List.length_range]
    have := U.few
    omega
  · unfold rowW
    rw [List.pairwise_map]
    refine List.pairwise_lt_range.imp fun {x y} h => ?_
    unfold tlt
    left
    exact h
  · unfold rowW at ht ⊢
    obtain ⟨j, hj, rfl⟩ := List.mem_map.mp ht
    rw [List.mem_range] at hj
    exact ⟨Nat.lt_succ_self _, by dsimp only; omega, by unfold Ltr; dsimp only; omega⟩
theorem wok_nil : WOk ([], []) := ⟨by decide, by decide, by simp, .nil, by simp⟩
theorem partsL_nil : partsL ([], []) = [] := rfl
end Cw

/-! cuts: their ties, their neighbours, cuts of cuts -/
namespace Cw
open PySem PySem.Spec PyProof.Rows L2
theorem posOf_iff {os : List Nat} (nd : os.Nodup) {p i : Nat} : posOf os p = some i ↔ os[i]? = some p := by
  unfold posOf
  rw [List.findIdx?_eq_some_iff_getElem]
  constructor
  · rintro ⟨h, e, _⟩
    rw [List.getElem?_eq_getElem h, beq_iff_eq.mp e]
  · intro h
    obtain ⟨h1, h2⟩ := List.getElem?_eq_some_iff.mp h
    refine ⟨h1, beq_iff_eq.mpr h2, fun j hj => ?_⟩
    have : os[j] ≠ p := fun z => by
      have z2 : os[j] = os[i] := z.trans h2.symm
      have := (List.getElem_inj nd).mp z2
      omega
    simpa using this
theorem posOf_none {os : List Nat} {p : Nat} : posOf os p = none ↔ p ∉ os := by
  unfold posOf
  rw [List.findIdx?_eq_none_iff]
  constructor
  · intro h z
    have := h p z
    simp at this
  · intro h x hx
    simp only [beq_eq_false_iff_ne]
    exact fun z => h (z ▸ hx)
theorem rise_nodup {os : List Nat} (s : os.Pairwise (· < ·)) : os.Nodup := s.imp fun h => Nat.ne_of_lt h
theorem cutTie_some {os : List Nat} (nd : os.Nodup) {t s : Tie} : cutTie os t = some s ↔ os[s.1]? = some t.1 ∧ os[s.2.1]? = some t.2.1 ∧ s.2.2 = t.2.2 := by
  unfold cutTie
  rw [Option.bind_eq_some_iff]
  constructor
  · rintro ⟨a, h1, h2⟩
    obtain ⟨b, h3, h4⟩ := Option.map_eq_some_iff.mp h2
    subst h4
    exact ⟨(posOf_iff nd).mp h1, (posOf_iff nd).mp h3, rfl⟩
  · rintro ⟨h1, h2, h3⟩
    refine ⟨s.1, (posOf_iff nd).mpr h1, ?_⟩
    rw [(posOf_iff nd).mpr h2]
    show some (s.1, s.2.1, t.2.2) = some s
    rw [← h3]
theorem cutTie_at {os : List Nat} (nd : os.Nodup) {i j p q : Nat} (hi : os[i]? = some p) (hj : os[j]? = some q) (t : Tie) : ((cutTie os t).any (at2 i j)) = at2 p q t := by
  rw [Bool.eq_iff_iff, at2_iff]
  constructor
  · intro h
    obtain ⟨s, h1, h2⟩ := (Option.any_eq_true _ _).mp h
    obtain ⟨a, b, _⟩ := (cutTie_some nd).mp h1
    rcases at2_iff.mp h2 with ⟨e1, e2⟩ | ⟨e1, e2⟩
    · rw [e1, hi] at a; rw [e2, hj] at b
      exact .inl ⟨(Option.some.inj a).symm, (Option.some.inj b).symm⟩
    · rw [e1, hj] at a; rw [e2, hi] at b
      exact .inr ⟨(Option.some.inj a).symm, (Option.some.inj b).symm⟩
  · rintro (⟨e1, e2⟩ | ⟨e1, e2⟩)
    · exact (Option.any_eq_true _ _).mpr ⟨(i, j, t.2.2), (cutTie_some nd).mpr ⟨by rw [e1]; exact hi, by rw [e2]; exact hj, rfl⟩, at2_iff.mpr (.inl ⟨rfl, rfl⟩)⟩
    · exact (Option.any_eq_true _ _).mpr ⟨(j, i, t.2.2), (cutTie_some nd).mpr ⟨by rw [e1]; exact hj, by rw [e2]; exact hi, rfl⟩, at2_iff.mpr (.inr ⟨rfl, rfl⟩)⟩
theorem tieL_cut {u : Web} {os : List Nat} (nd : os.Nodup) {i j p q : Nat} (hi : os[i]? = some p) (hj : os[j]? = some q) : tieL (cutL u os).2 i j = tieL u.2 p q := by
  unfold tieL cutL
  dsimp only
  rw [List.find?_filterMap]
  have e : (fun a => (cutTie os a).any (at2 i j)) = at2 p q := funext fun t => cutTie_at nd hi hj t
  rw [e]
  cases h : u.2.find? (at2 p q) with
  | none => rfl
  | some t =>
    have h1 : at2 p q t = true := List.find?_some h
    rw [← cutTie_at nd hi hj] at h1
    obtain ⟨s, h2, _⟩ := (Option.any_eq_true _ _).mp h1
    show (cutTie os t).map (·.2.2) = some t.2.2
    rw [h2]
    exact congrArg some ((cutTie_some nd).mp h2).2.2
theorem at_rise {os : List Nat} (s : os.Pairwise (· < ·)) {i j p q : Nat} (hi : os[i]? = some p) (hj : os[j]? = some q) : i < j ↔ p < q := by
  obtain ⟨h1, rfl⟩ := List.getElem?_eq_some_iff.mp hi
  obtain ⟨h2, rfl⟩ := List.getElem?_eq_some_iff.mp hj
  have s' := List.pairwise_iff_getElem.mp s
  constructor
  · intro h
    exact s' i j h1 h2 h
  · intro h
    rcases Nat.lt_trichotomy i j with c | c | c
    · exact c
    · subst c; omega
    · have := s' j i h2 h1 c; omega
theorem cutL_ok {u : Web} (U : WOk u) {os : List Nat} (s : os.Pairwise (· < ·)) (b : ∀ p ∈ os, p < u.1.length) : WOk (cutL u os) := by
  have nd := rise_nodup s
  have lo : os.length ≤ u.1.length := nodup_len _ _ nd b
  have l40 := U.few
  refine ⟨by unfold cutL; rw [List.length_map]; omega, ?_, fun c hc => ?_, ?_, fun t ht => ?_⟩
  · have := List.length_filterMap_le (cutTie os) u.2
    have := U.most
    unfold cutL
    dsimp only
    omega
  · unfold cutL at hc
    obtain ⟨p, hp, rfl⟩ := List.mem_map.mp hc
    have := b p hp
    rw [List.getD_eq_getElem?_getD, List.getElem?_eq_getElem this]
    exact U.kinds _ (List.getElem_mem _)
  · unfold cutL
    dsimp only
    refine List.Pairwise.filterMap (cutTie os) (fun a a' h x hx y hy => ?_) U.rise
    obtain ⟨x1, x2, _⟩ := (cutTie_some nd).mp (Option.mem_def.mp hx)
    obtain ⟨y1, y2, _⟩ := (cutTie_some nd).mp (Option.mem_def.mp hy)
    unfold tlt at *
    rcases h with h | ⟨h1, h2⟩
    · exact .inl ((at_rise s x1 y1).mpr h)
    · right
      refine ⟨?_, (at_rise s x2 y2).mpr h2⟩
      rw [h1] at x1
      have e1 := (posOf_iff nd).mpr x1
      have e2 := (posOf_iff nd).mpr y1
      rw [e1] at e2
      exact Option.some.inj e2
  · unfold cutL at ht ⊢
    dsimp only at ht ⊢
    obtain ⟨t0, h0, h1⟩ := List.mem_filterMap.mp ht
    obtain ⟨a, b', c⟩ := (cutTie_some nd).mp h1
    obtain ⟨d, e, f⟩ := U.ends t0 h0
    refine ⟨(at_rise s a b').mpr d, ?_, by rw [c]; exact f⟩
    rw [List.length_map]
    exact (List.getElem?_eq_some_iff.mp b').1
theorem nb_cut {u : Web} (U : WOk u) {os : List Nat} (s : os.Pairwise (· < ·)) (b : ∀ p ∈ os, p < u.1.length) {i p : Nat} (hi : os[i]? = some p) :
    (nb (cutL u os).2 i).map (fun j => os.getD j 0) = (nb u.2 p).filter fun q => decide (q ∈ os) := by
  have nd := rise_nodup s
  have C := cutL_ok U s b
  have lc : (cutL u os).1.length = os.length := by unfold cutL; rw [List.length_map]
  have mem : ∀ j, j ∈ nb (cutL u os).2 i ↔ ∃ q, os[j]? = some q ∧ q ∈ nb u.2 p := fun j => by
    rw [nb_eq C, nb_eq U, List.mem_filter, List.mem_range, lc]
    constructor
    · rintro ⟨h1, h2⟩
      have hj := List.getElem?_eq_getElem h1
      refine ⟨_, hj, List.mem_filter.mpr ⟨List.mem_range.mpr (b _ (List.getElem_mem h1)), ?_⟩⟩
      rw [← tieL_cut nd hi hj]
      exact h2
    · rintro ⟨q, h1, h2⟩
      refine ⟨(List.getElem?_eq_some_iff.mp h1).1, ?_⟩
      rw [tieL_cut nd hi h1]
      exact (List.mem_filter.mp h2).2
  have getD : ∀ {j q}, os[j]? = some q → os.getD j 0 = q := fun {j q} h => by rw [List.getD_eq_getElem?_getD, h]; rfl
  refine sorted_ext ?_ ((nb_rise U.rise (fun t ht => (U.ends t ht).1) p).filter _) fun x => ?_
  · rw [List.pairwise_map]
    refine (nb_rise C.rise (fun t ht => (C.ends t ht).1) i).imp_of_mem fun {x y} hx hy h => ?_
    obtain ⟨q1, h1, _⟩ := (mem x).mp hx
    obtain ⟨q2, h2, _⟩ := (mem y).mp hy
    rw [getD h1, getD h2]
    exact (at_rise s h1 h2).mp h
  · rw [List.mem_map, List.mem_filter, decide_eq_true_eq]
    constructor
    · rintro ⟨j, h1, rfl⟩
      obtain ⟨q, h2, h3⟩ := (mem j).mp h1
      rw [getD h2]
      exact ⟨h3, List.mem_of_getElem? h2⟩
    · rintro ⟨h1, h2⟩
      obtain ⟨j, hj⟩ := List.getElem?_of_mem h2
      exact ⟨j, (mem j).mpr ⟨x, hj, h1⟩, getD hj⟩
theorem posOf_comp {os ls : List Nat} (no : os.Nodup) (nl : ls.Nodup) (b : ∀ k ∈ ls, k < os.length) (x : Nat) : posOf (ls.map fun k => os.getD k 0) x = (posOf os x).bind (posOf ls) := by
  have getD : ∀ {j}, (h : j < os.length) → os.getD j 0 = os[j] := fun {j} h => by rw [List.getD_eq_getElem?_getD, List.getElem?_eq_getElem h]; rfl
  have nm : (ls.map fun k => os.getD k 0).Nodup := by
    unfold List.Nodup
    rw [List.pairwise_map]
    refine nl.imp_of_mem fun {x y} hx hy h z => h ?_
    rw [getD (b x hx), getD (b y hy)] at z
    exact (List.getElem_inj no).mp z
  refine Option.ext fun i => ?_
  rw [posOf_iff nm, Option.bind_eq_some_iff, List.getElem?_map, Option.map_eq_some_iff]
  constructor
  · rintro ⟨k, h1, h2⟩
    have hk := b k (List.mem_of_getElem? h1)
    rw [getD hk] at h2
    refine ⟨k, (posOf_iff no).mpr (by rw [List.getElem?_eq_getElem hk, h2]), (posOf_iff nl).mpr h1⟩
  · rintro ⟨k, h1, h2⟩
    have h1 := (posOf_iff no).mp h1
    refine ⟨k, (posOf_iff nl).mp h2, ?_⟩
    rw [List.getD_eq_getElem?_getD, h1]; rfl
theorem cut_cut (u : Web) {os ls : List Nat} (no : os.Nodup) (nl : ls.Nodup) (b : ∀ k ∈ ls, k < os.length) : cutL (cutL u os) ls = cutL u (ls.map fun k => os.getD k 0) := by
  unfold cutL
  refine Prod.ext ?_ ?_
  · dsimp only
    rw [List.map_map]
    refine List.map_congr_left fun k hk => ?_
    have := b k hk
    simp [List.getD_eq_getElem?_getD, this]
  · dsimp only
    rw [List.filterMap_filterMap]
    congr 1
    funext t
    unfold cutTie
    rw [posOf_comp no nl b, posOf_comp no nl b]
    cases posOf os t.1 <;> cases posOf os t.2.1 <;> simp
end Cw

/-! parts of webs with a tie more, of webs without ties, of cuts -/
namespace Cw
open PySem PySem.Spec PyProof.Rows L2
theorem rch_nil {a b : Nat} : Rch [] a b ↔ a = b := by
  constructor
  · intro h
    induction h with
    | base => rfl
    | step _ m _ => simp [nb] at m
  · rintro rfl
    exact .base
theorem partsL_none (cs : List Nat) : partsL (cs, []) = (List.range cs.length).map fun a => [a] := by
  have l : ∀ a, Lst (cs, []) a := fun a b h => by
    have := rch_nil.mp h
    omega
  have e : leastsL (cs, []) cs.length = List.range cs.length := by
    unfold leastsL
    exact List.filter_eq_self.mpr fun a _ => dec_true (l a)
  unfold partsL partsN
  dsimp only
  rw [e]
  refine List.map_congr_left fun a ha => ?_
  have ha' := List.mem_range.mp ha
  refine sorted_ext (partL_rise _ _) (by simp) fun x => ?_
  unfold partL
  rw [List.mem_filter, dec_iff, List.mem_range, List.mem_singleton]
  constructor
  · rintro ⟨_, h⟩
    exact (rch_nil.mp h).symm
  · rintro rfl
    exact ⟨ha', .base⟩
/-- a tie more, between x and y -/
structure More (u u' : Web) (x y : Nat) : Prop where
  lt : x ≠ y
  same : u'.1.length = u.1.length
  adj : ∀ p q, q ∈ nb u'.2 p ↔ q ∈ nb u.2 p ∨ (p = x ∧ q = y) ∨ (p = y ∧ q = x)
section
variable {u u' : Web} {x y : Nat}
theorem More.swap (M : More u u' x y) : More u u' y x := ⟨M.lt.symm, M.same, fun p q => by rw [M.adj]; exact ⟨fun h => h.elim .inl fun h => .inr h.symm, fun h => h.elim .inl fun h => .inr h.symm⟩⟩
theorem More.up (M : More u u' x y) {a b : Nat} (h : Rch u.2 a b) : Rch u'.2 a b := by
  induction h with
  | base => exact .base
  | step _ m ih => exact ih.step ((M.adj _ _).mpr (.inl m))
theorem More.iff (M : More u u' x y) {a b : Nat} : Rch u'.2 a b ↔ Rch u.2 a b ∨ (Rch u.2 a x ∧ Rch u.2 y b) ∨ (Rch u.2 a y ∧ Rch u.2 x b) := by
  constructor
  · intro h
    induction h with
    | base => exact .inl .base
    | step _ m ih =>
      rcases (M.adj _ _).mp m with m | ⟨rfl, rfl⟩ | ⟨rfl, rfl⟩
      · rcases ih with h | ⟨h1, h2⟩ | ⟨h1, h2⟩
        · exact .inl (h.step m)
        · exact .inr (.inl ⟨h1, h2.step m⟩)
        · exact .inr (.inr ⟨h1, h2.step m⟩)
      · rcases ih with h | ⟨h1, h2⟩ | ⟨h1, h2⟩
        · exact .inr (.inl ⟨h, .base⟩)
        · exact .inr (.inl ⟨h1, .base⟩)
        · exact .inl h1
      · rcases ih with h | ⟨h1, h2⟩ | ⟨h1, h2⟩
        · exact .inr (.inr ⟨h, .base⟩)
        · exact .inl h1
        · exact .inr (.inr ⟨h1, .base⟩)
  · have s1 : Rch u'.2 x y := Rch.base.step ((M.adj _ _).mpr (.inr (.inl ⟨rfl, rfl⟩)))
    have s2 : Rch u'.2 y x := Rch.base.step ((M.adj _ _).mpr (.inr (.inr ⟨rfl, rfl⟩)))
    rintro (h | ⟨h1, h2⟩ | ⟨h1, h2⟩)
    · exact M.up h
    · exact ((M.up h1).trans s1).trans (M.up h2)
    · exact ((M.up h1).trans s2).trans (M.up h2)
/-- it lies within a part: nothing changes -/
theorem More.within (U : WOk u) (M : More u u' x y) (r : Rch u.2 x y) {a b : Nat} : Rch u'.2 a b ↔ Rch u.2 a b := by
  rw [M.iff]
  constructor
  · rintro (h | ⟨h1, h2⟩ | ⟨h1, h2⟩)
    · exact h
    · exact (h1.trans r).trans h2
    · exact (h1.trans (r.symm U)).trans h2
  · exact .inl
end
/-- each place has a least one -/
theorem least_of {u : Web} (U : WOk u) (a : Nat) : ∃ l, Rch u.2 a l ∧ Lst u l := by
  have h : ∀ n a, a ≤ n → ∃ l, Rch u.2 a l ∧ Lst u l := by
    intro n
    induction n with
    | zero =>
      intro a h
      exact ⟨a, .base, fun b _ => by omega⟩
    | succ n ih =>
      intro a h
      rcases Classical.em (Lst u a) with c | c
      · exact ⟨a, .base, c⟩
      · obtain ⟨b, h1, h2⟩ := (seen_iff U).mpr c
        obtain ⟨l, h3, h4⟩ := ih b (by omega)
        exact ⟨l, (h2.symm U).trans h3, h4⟩
  exact h a a (Nat.le_refl _)
section
variable {u u' : Web} {x y lx ly : Nat}
/-- it joins two parts: the greater of the least places is least no more -/
theorem More.least (U : WOk u) (M : More u u' x y) (h1 : Rch u.2 x lx) (h2 : Lst u lx) (h3 : Rch u.2 y ly) (h4 : Lst u ly) (lt : lx < ly) (a : Nat) : Lst u' a ↔ Lst u a ∧ a ≠ ly := by
  constructor
  · intro h
    refine ⟨fun b hb => h b (M.up hb), ?_⟩
    rintro rfl
    have := h lx (M.iff.mpr (.inr (.inr ⟨h3.symm U, h1⟩)))
    omega
  · rintro ⟨h, ne⟩ b hb
    rcases M.iff.mp hb with hb | ⟨b1, b2⟩ | ⟨b1, b2⟩
    · exact h b hb
    · have e : a = lx := lst_uniq U h h2 (b1.trans h1)
      have := h4 b ((h3.symm U).trans b2)
      omega
    · exact absurd (lst_uniq U h h4 (b1.trans h3)) ne
theorem leasts_filter (U : WOk u) (M : More u u' x y) (h1 : Rch u.2 x lx) (h2 : Lst u lx) (h3 : Rch u.2 y ly) (h4 : Lst u ly) (lt : lx < ly) (n : Nat) : leastsL u' n = (leastsL u n).filter fun a => decide (a ≠ ly) := by
  unfold leastsL
  rw [List.filter_filter]
  refine List.filter_congr fun a _ => ?_
  rw [Bool.eq_iff_iff, dec_iff, Bool.and_eq_true, dec_iff, decide_eq_true_eq, M.least U h1 h2 h3 h4 lt a]
  exact And.comm
theorem filter_one {l : List Nat} (s : l.Pairwise (· < ·)) {a : Nat} (h : a ∈ l) : (l.filter fun b => decide (b ≠ a)).length + 1 = l.length := by
  induction l with
  | nil => cases h
  | cons b r ih =>
    have sr := (List.pairwise_cons.mp s)
    by_cases c : b = a
    · subst c
      rw [List.filter_cons_of_neg (by simp)]
      rw [List.filter_eq_self.mpr fun z hz => by
        have := sr.1 z hz
        simp; omega]
      rfl
    · rw [List.filter_cons_of_pos (by simpa using c)]
      have := ih sr.2 (by
        rcases List.mem_cons.mp h with h | h
        · exact absurd h.symm c
        · exact h)
      simp only [List.length_cons]
      omega
/-- a tie more: as many parts, or one fewer -/
theorem More.count (U : WOk u) (M : More u u' x y) (hx : x < u.1.length) (hy : y < u.1.length) : (partsL u').length ≤ (partsL u).length ∧ (partsL u).length ≤ (partsL u').length + 1 := by
  have len : ∀ w : Web, (partsL w).length = (leastsL w w.1.length).length := fun w => by unfold partsL partsN; rw [List.length_map]
  rw [len, len, M.same]
  obtain ⟨lx, h1, h2⟩ := least_of U x
  obtain ⟨ly, h3, h4⟩ := least_of U y
  have go : ∀ {x y lx ly}, More u u' x y → y < u.1.length → Rch u.2 x lx → Lst u lx → Rch u.2 y ly → Lst u ly → lx < ly → (leastsL u' u.1.length).length + 1 = (leastsL u u.1.length).length := fun {x y lx ly} M hy h1 h2 h3 h4 lt => by
    rw [leasts_filter U M h1 h2 h3 h4 lt]
    refine filter_one (leasts_rise u _) ?_
    unfold leastsL
    exact List.mem_filter.mpr ⟨List.mem_range.mpr (h3.lt U hy), dec_true h4⟩
  rcases Nat.lt_trichotomy lx ly with c | c | c
  · have := go M hy h1 h2 h3 h4 c
    omega
  · subst c
    have r : Rch u.2 x y := h1.trans (h3.symm U)
    have e : leastsL u' u.1.length = leastsL u u.1.length := by
      unfold leastsL
      refine List.filter_congr fun a _ => dec_congr ?_
      unfold Lst
      exact ⟨fun h b hb => h b ((M.within U r).mpr hb), fun h b hb => h b ((M.within U r).mp hb)⟩
    rw [e]
    omega
  · have := go M.swap hx h3 h4 h1 h2 c
    omega
end
/-! ### without one place -/
theorem rch_cut {u : Web} (U : WOk u) {os : List Nat} (s : os.Pairwise (· < ·)) (b : ∀ p ∈ os, p < u.1.length) {i p : Nat} (hi : os[i]? = some p) {j : Nat} (h : Rch (cutL u os).2 i j) : ∃ q, os[j]? = some q ∧ Rch u.2 p q := by
  induction h with
  | base => exact ⟨p, hi, .base⟩
  | step _ m ih =>
    obtain ⟨q, h1, h2⟩ := ih
    have e := nb_cut U s b h1
    have m' := List.mem_map_of_mem (f := fun j => os.getD j 0) m
    rw [e, List.mem_filter, decide_eq_true_eq] at m'
    have C := cutL_ok U s b
    have lt := (nb_lt C m).2
    have lc : (cutL u os).1.length = os.length := by unfold cutL; rw [List.length_map]
    rw [lc] at lt
    rename_i r _ _
    have hr := List.getElem?_eq_getElem lt
    refine ⟨_, hr, h2.step ?_⟩
    have z := m'.1
    rw [List.getD_eq_getElem?_getD, hr] at z
    exact z
theorem rch_cut' {u : Web} (U : WOk u) {os : List Nat} (s : os.Pairwise (· < ·)) (b : ∀ p ∈ os, p < u.1.length) {i p : Nat} (hi : os[i]? = some p) (all : ∀ q, Rch u.2 p q → q ∈ os) {q : Nat} (h : Rch u.2 p q) : ∃ j, os[j]? = some q ∧ Rch (cutL u os).2 i j := by
  induction h with
  | base => exact ⟨i, hi, .base⟩
  | step h0 m ih =>
    obtain ⟨j, h1, h2⟩ := ih
    rename_i r z
    have hz := all _ (h0.step m)
    have e := nb_cut U s b h1
    have mz : z ∈ (nb u.2 r).filter fun q => decide (q ∈ os) := List.mem_filter.mpr ⟨m, decide_eq_true hz⟩
    rw [← e] at mz
    obtain ⟨k, h3, h4⟩ := List.mem_map.mp mz
    have C := cutL_ok U s b
    have lt := (nb_lt C h3).2
    have lc : (cutL u os).1.length = os.length := by unfold cutL; rw [List.length_map]
    rw [lc] at lt
    have hk := List.getElem?_eq_getElem lt
    refine ⟨k, ?_, h2.step h3⟩
    have h4' : os.getD k 0 = z := h4
    rw [List.getD_eq_getElem?_getD, hk] at h4'
    rw [hk]
    exact congrArg some h4'
/-- a part all of whose places stay is a part of the cut -/
theorem part_cut {u : Web} (U : WOk u) {os : List Nat} (s : os.Pairwise (· < ·)) (b : ∀ p ∈ os, p < u.1.length) {l : Nat} (hl : Lst u l) (ll : l < u.1.length) (all : ∀ q, Rch u.2 l q → q ∈ os) : partL u l ∈ (partsL (cutL u os)).map fun p => p.map fun j => os.getD j 0 := by
  obtain ⟨i, hi⟩ := List.getElem?_of_mem (all l .base)
  have C := cutL_ok U s b
  have lc : (cutL u os).1.length = os.length := by unfold cutL; rw [List.length_map]
  have ii := (List.getElem?_eq_some_iff.mp hi).1
  have li : Lst (cutL u os) i := fun j hj => by
    obtain ⟨q, h1, h2⟩ := rch_cut U s b hi hj
    have := hl q h2
    rcases Nat.lt_or_ge j i with c | c
    · have := (at_rise s h1 hi).mp c
      omega
    · exact c
  have getD : ∀ {j q}, os[j]? = some q → os.getD j 0 = q := fun {j q} h => by rw [List.getD_eq_getElem?_getD, h]; rfl
  refine List.mem_map.mpr ⟨partL (cutL u os) i, ?_, ?_⟩
  · unfold partsL partsN
    refine List.mem_map.mpr ⟨i, ?_, rfl⟩
    unfold leastsL
    exact List.mem_filter.mpr ⟨List.mem_range.mpr (by omega), dec_true li⟩
  · have mem : ∀ j, j ∈ partL (cutL u os) i ↔ Rch (cutL u os).2 i j := fun j => mem_partL C (by omega)
    refine sorted_ext ?_ (partL_rise u l) fun x => ?_
    · rw [List.pairwise_map]
      refine (partL_rise _ _).imp_of_mem fun {x y} hx hy h => ?_
      obtain ⟨q1, h1, _⟩ := rch_cut U s b hi ((mem x).mp hx)
      obtain ⟨q2, h2, _⟩ := rch_cut U s b hi ((mem y).mp hy)
      rw [getD h1, getD h2]
      exact (at_rise s h1 h2).mp h
    · rw [List.mem_map, mem_partL U ll]
      constructor
      · rintro ⟨j, h1, rfl⟩
        obtain ⟨q, h2, h3⟩ := rch_cut U s b hi ((mem j).mp h1)
        rw [getD h2]
        exact h3
      · intro h
        obtain ⟨j, h1, h2⟩ := rch_cut' U s b hi all h
        exact ⟨j, (mem j).mpr h2, getD h1⟩
end Cw

namespace Cw
open PySem PySem.Spec PyProof.Rows L2 LamX
/-- a test by truth -/
def tTru (K : PySem.W.Frag) (ta : TE) : TT := fun σ H Q => ta σ H fun x H' => ∃ k, TruV K x H' k ∧ Q k H'
theorem d_tru {K : PySem.W.Frag} {ta : TE} {σ : L2.St} {H : Hp} {Q : Bool → Hp → Prop} (h : ta σ H fun x H' => ∃ k, TruV K x H' k ∧ Q k H') : tTru K ta σ H Q := h
def rMin2 : List V → Hp → VK → Prop := fun xs H Q => ∃ i j, xs = [.int i, .int j] ∧ Q (.int (if j < i then j else i)) H
def tAndI (a b : TE) : TE := tOp (rI0 fun i j => V.int (Builtin.bitAnd i j)) a b
theorem d_bits {to : TE} {σ : L2.St} {H : Hp} {Q : VK} (h : to σ H fun x H1 => ∃ i, x = .int i ∧ Q (.int (Builtin.Int.intBits i : Nat)) H1) : tBits to σ H Q := h
theorem one_shl (z : Nat) : (1 : Int) * 2 ^ ((z : Nat) : Int).toNat = ((2 ^ z : Nat) : Int) := by rw [Int.one_mul, Int.toNat_natCast]; norm_cast
theorem bits_le {a n : Nat} (h : a < 2 ^ n) : Builtin.Int.intBits (a : Int) ≤ n := by
  unfold Builtin.Int.intBits
  by_cases z : a = 0
  · subst z; simp
  · rw [if_neg (by simpa using z), Int.natAbs_natCast]
    have := (Nat.log2_lt z).mpr h
    omega
theorem mask_take {ms : List Nat} {i z : Nat} (h : ms[i]? = some z) : maskN (ms.take (i + 1)) = maskN (ms.take i) ||| 2 ^ z := by rw [List.take_add_one, h]; exact mask_snoc _ _
theorem int_tru (k : Nat) : ((k : Int) != 0) = !decide (k = 0) := by
  rw [Bool.eq_iff_iff]; simp
theorem pc_pred' {a : Nat} (h0 : a ≠ 0) : pcN (a - 2 ^ lsb a) + 1 = pcN a := pc_clear (lsb_tb h0).1
/-! ### sorted classes -/
theorem perm_by {α β : Type} {f : α → β} {zs ys : List β} (p : zs.Perm ys) : ∀ es : List α, zs = es.map f → ∃ es' : List α, es'.Perm es ∧ ys = es'.map f := by
  induction p with
  | nil =>
    intro es e
    exact ⟨es, List.Perm.refl _, e⟩
  | cons x _ ih =>
    intro es e
    cases es with
    | nil => cases e
    | cons y r =>
      rw [List.map_cons, List.cons.injEq] at e
      obtain ⟨r', p', e'⟩ := ih r e.2
      exact ⟨y :: r', p'.cons y, by rw [List.map_cons, ← e', e.1]⟩
  | swap x y l =>
    intro es e
    match es, e with
    | a :: b :: r, e =>
      rw [List.map_cons, List.map_cons, List.cons.injEq, List.cons.injEq] at e
      obtain ⟨e1, e2, e3⟩ := e
      exact ⟨b :: a :: r, List.Perm.swap a b r, by rw [List.map_cons, List.map_cons, ← e1, ← e2, ← e3]⟩
  | trans _ _ ih1 ih2 =>
    intro es e
    obtain ⟨es1, p1, e1⟩ := ih1 es e
    obtain ⟨es2, p2, e2⟩ := ih2 es1 e1
    exact ⟨es2, p2.trans p1, e2⟩
def clD (c : Cl) : PyData := .tuple [.int (c.1 : Nat), .int (c.2 : Nat)]
theorem cl_zs {H : Hp} {vs : List V} {cs : List Cl} (p : Paired (ClAt H) vs cs) : ∃ zs : List (V × Cl), zs.map (·.1) = vs ∧ zs.map (·.2) = cs ∧ ∀ z ∈ zs, ClAt H z.1 z.2 := by
  induction p with
  | nil => exact ⟨[], rfl, rfl, by simp⟩
  | @cons v c vs cs h t ih =>
    obtain ⟨zs, e1, e2, e3⟩ := ih
    refine ⟨(v, c) :: zs, by rw [List.map_cons, e1], by rw [List.map_cons, e2], fun b hb => ?_⟩
    rcases List.mem_cons.mp hb with rfl | hb
    · exact h
    · exact e3 b hb
theorem zs_cl {H : Hp} : ∀ {zs : List (V × Cl)}, (∀ z ∈ zs, ClAt H z.1 z.2) → Paired (ClAt H) (zs.map (·.1)) (zs.map (·.2))
  | [], _ => .nil
  | z :: zs, h => .cons (h z List.mem_cons_self) (zs_cl fun y hy => h y (List.mem_cons_of_mem _ hy))
theorem cl_alike (zs : List (V × Cl)) : PySem.W.AllAlike (zs.map fun z => clD z.2) := PySem.W.AllAlike.of fun b b' => by
  show PySem.W.alike (.tuple _) (.tuple _) = true
  simp [PySem.W.alike, PySem.W.alikeAll]
theorem cl_sortable (zs : List (V × Cl)) : PySem.W.Sortable (zs.map fun z => clD z.2) := PySem.W.Sortable.tuples fun b => ⟨_, _, rfl⟩
theorem clD_depth (c : Cl) : (clD c).depth ≤ 60 := by simp [clD, PyData.depth, PyData.depthAll]
theorem d_sortCl {K : PySem.W.Frag} {H : Hp} {a : Addr} {vs : List V} {cs : List Cl} {Q : VK} (hS : SqL K H a vs) (p : Paired (ClAt H) vs cs)
    (q : ∀ r vs' cs', H r = none → Paired (ClAt H) vs' cs' → cs'.Perm cs → Q (.ref r) (upd H r (.lst vs'))) : rSortedDat K [.ref a] H Q := by
  obtain ⟨zs, e1, e2, e3⟩ := cl_zs p
  refine ⟨a, zs.map fun z => (z.1, clD z.2), rfl, by rw [List.map_map]; exact (by rw [← e1] at hS; exact hS), fun b hb => ?_, ?_, ?_, fun b hb => ?_, fun r fr => ?_⟩
  · obtain ⟨z, hz, rfl⟩ := List.mem_map.mp hb
    obtain ⟨t, e, ht⟩ := e3 z hz
    show Dp K H z.1 (clD z.2)
    rw [e]
    exact .tup (SqT.of ht) (.cons (.int _) (.cons (.int _) .nil))
  · rw [List.map_map]; exact cl_alike zs
  · rw [List.map_map]; exact cl_sortable zs
  · obtain ⟨z, _, rfl⟩ := List.mem_map.mp hb
    exact clD_depth _
  · obtain ⟨zs', pm, e⟩ := perm_by (sortD_perm (zs.map fun z => (z.1, clD z.2))).symm zs rfl
    rw [e, List.map_map]
    exact q r _ _ fr (zs_cl fun z hz => e3 z (pm.mem_iff.mp hz)) (by rw [← e2]; exact pm.map _)
theorem out_take {p i : Nat} {cs : List Cl} {c : Cl} (h : cs[i]? = some c) : outL p (cs.take (i + 1)) = outL p (cs.take i) ++ (outC p c).toList := by
  unfold outL
  rw [List.take_add_one, h, List.filterMap_append]
  congr 1
theorem bClear' (a p : Nat) : Builtin.bitAnd (a : Int) (Builtin.bitNot (1 * 2 ^ ((p : Nat) : Int).toNat)) = ((clr a p : Nat) : Int) := by rw [one_shl]; exact bClear a p
theorem out_len (p : Nat) (cs : List Cl) : (outL p cs).length ≤ cs.length := List.length_filterMap_le _ _
theorem bd_take {i : Nat} {cs : List Cl} {c : Cl} (h : cs[i]? = some c) : bdN (cs.take (i + 1)) = bdN (cs.take i) + min (pcN c.1) (pcN c.2) := by
  unfold bdN
  rw [List.take_add_one, h, List.map_append, List.sum_append]
  simp
theorem Tups.lst {H : Hp} {D : Addr} {ws : List V} {o : HO} (e : H D = some (.lst ws)) : Tups H (upd H D o) := fun b xs h => by
  rw [upd_ne (fun z : b = D => by rw [z, e] at h; cases h)]; exact h
theorem Tups.trans {A B C : Hp} (x : Tups A B) (y : Tups B C) : Tups A C := fun b xs e => y _ _ (x _ _ e)
theorem cls_tups {A B : Hp} {vs : List V} {cs : List Cl} (p : Paired (ClAt A) vs cs) (t : Tups A B) : Paired (ClAt B) vs cs := Paired.imp p fun _ _ z => z.tups t
theorem clr_take {p i : Nat} {cs : List Cl} {c : Cl} (h : cs[i]? = some c) (z : clr c.1 p = 0) : outL p (cs.take (i + 1)) = outL p (cs.take i) := by
  rw [out_take h, show outC p c = none from if_neg (by simp [z])]
  exact List.append_nil _
theorem clr_take' {p i : Nat} {cs : List Cl} {c : Cl} (h : cs[i]? = some c) (z : clr c.1 p ≠ 0) : outL p (cs.take (i + 1)) = outL p (cs.take i) ++ [(clr c.1 p, c.2)] := by
  rw [out_take h, show outC p c = some (clr c.1 p, c.2) from if_pos z]
  rfl
theorem nat_sum : ∀ ns : List Nat, (ns.map fun k : Nat => (k : Int)).sum = ((ns.sum : Nat) : Int)
  | [] => rfl
  | k :: ns => by rw [List.map_cons, List.sum_cons, List.sum_cons, nat_sum ns]; omega
theorem nat_ints (ns : List Nat) : (ns.map fun k : Nat => (k : Int)).map V.int = ns.map fun k => V.int (k : Nat) := by rw [List.map_map]; rfl
/-! ### dicts by ties -/
theorem walk_nitems {P : Program} {w : World} {d : Addr} {o : Obj} {kvs : List (NK × V)} : Walk (ItN P w d o kvs) kvs.length (fun H => H d = some (.frz o (DN P w d kvs))) (YPair (fun i => kvs[i]?.map fun kv => nV kv.1) (fun i => kvs[i]?.map Prod.snd)) := by
  refine ⟨fun _ _ hi q => ⟨q, hi⟩, fun _ q => ⟨q, Nat.le_refl _⟩, fun i H x H' _ _ y => ?_⟩
  obtain ⟨T, k, v, h1, h2, h3, h4⟩ := y
  exact ⟨T, nV k, v, h2, h3, h4, by simp [h1], by simp [h1]⟩
/-- the key of a tie, none for no tie -/
def kTie (k : Option Nat) : NK := k.map fun c => Sum.inr (sg c)
theorem nV_tie (k : Option Nat) : nV (kTie k) = (k.map fun c => V.str (sg c)).getD .non := by cases k <;> rfl
theorem kTie_inj {a b : Option Nat} (h : kTie a = kTie b) : a = b := by
  cases a <;> cases b <;> simp [kTie] at h ⊢
  exact h
theorem nV_inj {a b : Option Nat} (h : nV (kTie a) = nV (kTie b)) : a = b := by
  cases a <;> cases b <;> simp [kTie, nV, kV] at h ⊢
  exact h
def obD (u : Web) (p : Nat) (ks : List (Option Nat)) : List (NK × V) := ks.map fun k => (kTie k, V.int (obt u p k : Nat))
theorem obD_get (u : Web) (p : Nat) (k : Option Nat) : ∀ ks : List (Option Nat), valV (obD u p ks) (kTie k) = if k ∈ ks then some (V.int (obt u p k : Nat)) else none
  | [] => rfl
  | j :: ks => by
    show valV ((kTie j, V.int (obt u p j : Nat)) :: obD u p ks) (kTie k) = _
    by_cases e : j = k
    · subst e
      rw [valV_pos rfl, if_pos List.mem_cons_self]
    · rw [valV_neg (fun z => e (kTie_inj z)), obD_get u p k ks]
      by_cases h : k ∈ ks
      · rw [if_pos h, if_pos (List.mem_cons_of_mem _ h)]
      · rw [if_neg h, if_neg (fun z => by
          rcases List.mem_cons.mp z with z | z
          · exact e z.symm
          · exact h z)]
structure TieKs (u : Web) (p : Nat) (ks : List (Option Nat)) : Prop where
  nd : ks.Nodup
  all : ∀ k, obt u p k ≠ 0 → k ∈ ks
  few : ks.length ≤ 40
theorem TieKs.get {u : Web} {p : Nat} {ks : List (Option Nat)} (x : TieKs u p ks) (k : Option Nat) : (valV (obD u p ks) (kTie k)).getD (.int 0) = V.int (obt u p k : Nat) := by
  rw [obD_get]
  by_cases h : k ∈ ks
  · rw [if_pos h]; rfl
  · rw [if_neg h]
    have : obt u p k = 0 := Classical.byContradiction fun z => h (x.all k z)
    rw [this]; rfl
/-- the dicts of a web's places, in a list; none of them stands where N says -/
def TieDs (pd : Program) (wd : World) (N : Addr → Prop) (H : Hp) (v : V) (u : Web) : Prop := ∃ (L : Addr) (ds : List Addr), v = .ref L ∧ H L = some (.lst (ds.map V.ref)) ∧ ds.length = u.1.length ∧ ∀ (p : Nat) (d : Addr), ds[p]? = some d → ¬ N d ∧ ∃ ks, TieKs u p ks ∧ H d = some (DN pd wd d (obD u p ks))
theorem TieDs.ks {pd : Program} {wd : World} {S N : Addr → Prop} {H H' : Hp} {v : V} {u : Web} (x : TieDs pd wd N H v u) (k : KS S H H') (nl : ∀ b ys, S b → H b ≠ some (.lst ys)) (n : ∀ b kvs, S b → ¬ N b → H b ≠ some (DN pd wd b kvs)) : TieDs pd wd N H' v u := by
  obtain ⟨L, ds, e, hL, l, h⟩ := x
  refine ⟨L, ds, e, k _ _ (fun s => nl _ _ s hL) hL, l, fun p d hd => ?_⟩
  obtain ⟨nd, ks, t, e2⟩ := h p d hd
  exact ⟨nd, ks, t, k _ _ (fun s => n _ _ s nd e2) e2⟩
theorem TieDs.same {pd : Program} {wd : World} {N : Addr → Prop} {H H' : Hp} {v : V} {u : Web} (x : TieDs pd wd N H v u) (s : Same H H') : TieDs pd wd N H' v u :=
  TieDs.ks (S := fun _ => False) x (KS.of s) (fun _ _ z => z.elim) fun _ _ z => z.elim
theorem TieDs.mono {pd : Program} {wd : World} {N M : Addr → Prop} {H : Hp} {v : V} {u : Web} (x : TieDs pd wd N H v u) (h : ∀ b o, H b = some o → M b → N b) : TieDs pd wd M H v u := by
  obtain ⟨L, ds, e, hL, l, f⟩ := x
  refine ⟨L, ds, e, hL, l, fun p d hd => ?_⟩
  obtain ⟨nd, ks, t, e2⟩ := f p d hd
  exact ⟨fun z => nd (h _ _ e2 z), ks, t, e2⟩
/-- the rules by ties: what the instance holds -/
def Rules (pd : Program) (wd : World) (N : Addr → Prop) (H : Hp) (me : Addr) (C : Addr) (u u' : Web) : Prop := ∃ dx A B, H me = some (.ins C dx [(Str.ofString "here", A), (Str.ofString "there", B)]) ∧ TieDs pd wd N H A u ∧ TieDs pd wd N H B u'
theorem Rules.ks {pd : Program} {wd : World} {S N : Addr → Prop} {H H' : Hp} {me C : Addr} {u u' : Web} (x : Rules pd wd N H me C u u') (k : KS S H H') (nl : ∀ b ys, S b → H b ≠ some (.lst ys)) (ni : ∀ b C dx fs, S b → H b ≠ some (.ins C dx fs)) (n : ∀ b kvs, S b → ¬ N b → H b ≠ some (DN pd wd b kvs)) : Rules pd wd N H' me C u u' := by
  obtain ⟨dx, A, B, e, x1, x2⟩ := x
  exact ⟨dx, A, B, k _ _ (fun s => ni _ _ _ _ s e) e, x1.ks k nl n, x2.ks k nl n⟩
theorem Rules.same {pd : Program} {wd : World} {N : Addr → Prop} {H H' : Hp} {me C : Addr} {u u' : Web} (x : Rules pd wd N H me C u u') (s : Same H H') : Rules pd wd N H' me C u u' :=
  Rules.ks (S := fun _ => False) x (KS.of s) (fun _ _ z => z.elim) (fun _ _ _ _ z => z.elim) fun _ _ z => z.elim
/-- all but d is as it was, d is locked -/
def Lk (d : Addr) (f : HO) (H H' : Hp) : Prop := (∀ b o, b ≠ d → H b = some o → H' b = some o) ∧ H' d = some f
theorem Lk.first {d : Addr} {f : HO} {H : Hp} : Lk d f H (upd H d f) := ⟨fun b o n e => by rw [upd_ne n]; exact e, upd_same⟩
theorem Lk.new {d p : Addr} {f o : HO} {H H' : Hp} (x : Lk d f H H') (fp : H' p = none) : Lk d f H (upd H' p o) :=
  ⟨fun b u n e => by rw [upd_ne (ne_of_none (x.1 b u n e) fp)]; exact x.1 b u n e, by rw [upd_ne (ne_of_none x.2 fp)]; exact x.2⟩
theorem Lk.same {d : Addr} {f : HO} {H H' H'' : Hp} (x : Lk d f H H') (s : Same H' H'') : Lk d f H H'' := ⟨fun b o n e => s _ _ (x.1 b o n e), s _ _ x.2⟩
theorem Lk.put {d p : Addr} {f o : HO} {H H' : Hp} (x : Lk d f H H') (fp : H p = none) (nd : p ≠ d) : Lk d f H (upd H' p o) :=
  ⟨fun b u n e => by rw [upd_ne (ne_of_none e fp)]; exact x.1 b u n e, by rw [upd_ne nd.symm]; exact x.2⟩
theorem Lk.open_ {d : Addr} {f u : HO} {H H' : Hp} (x : Lk d f H H') (e : H d = some u) : Same H (upd H' d u) := fun b o h => by
  by_cases z : b = d
  · rw [z, upd_same]; rw [z, e] at h; exact h
  · rw [upd_ne z]; exact x.1 b o z h
theorem Lk.rd {d a : Addr} {od : Obj} {u o : HO} {H H' : Hp} (x : Lk d (.frz od u) H H') (e : H d = some u) (h : H a = some o) : Rd H' a o := by
  by_cases z : a = d
  · subst z
    rw [h] at e
    cases e
    exact .inr ⟨od, x.2⟩
  · exact .inl (x.1 a o z h)
theorem d_fldm {K : PySem.W.Frag} {ta : TE} {f : Str} {σ : L2.St} {H : Hp} {Q : VK} (h : ta σ H fun x H1 => ∃ a C dx fs v, x = .ref a ∧ H1 a = some (.ins C dx fs) ∧ Cls K C ∧ NoAttr K C f ∧ fs.lookup f = some v ∧ Q v H1) : tFld K ta f σ H Q := h
theorem d_itN {P : Program} {w : World} {td : TE} {σ : L2.St} {H : Hp} {R : It → Hp → Prop} (h : td σ H fun x H1 => ∃ d o kvs, x = .ref d ∧ H1 d = some (.frz o (DN P w d kvs)) ∧ R (ItN P w d o kvs) H1) : iItemsN P w td σ H R := h
theorem d_nget2 {P : Program} {w : World} {td ty tx : TE} {σ : L2.St} {H : Hp} {Q : VK} (h : td σ H fun x H1 => ∃ a kvs, x = .ref a ∧ Rd H1 a (DN P w a kvs) ∧ ty σ H1 fun y H2 => tx σ H2 fun z H3 => ∃ k, Rd H3 a (DN P w a kvs) ∧ y = nV k ∧ Q ((valV kvs k).getD z) H3) : tNGet2 P w td ty tx σ H Q := h
theorem d_lock {t : TS} {D : Ends} {σ : L2.St} {H : Hp} (h : ∃ d u, H d = some u ∧ Mut (some u) ∧ ∀ od, t ⟨fun σ' H' => H' d = some (.frz od u) ∧ D.nx σ' (upd H' d u), fun v H' => H' d = some (.frz od u) ∧ D.rt v (upd H' d u), fun σ' H' => H' d = some (.frz od u) ∧ D.bk σ' (upd H' d u), fun σ' H' => H' d = some (.frz od u) ∧ D.ct σ' (upd H' d u)⟩ σ (upd H d (.frz od u))) : tLock t D σ H := h
theorem nar_take {ks : List (Option Nat)} {u u' : Web} {p e i : Nat} {cs : List Cl} {k : Option Nat} (h : ks[i]? = some k) : narL (ks.take (i + 1)) u u' p e cs = narL (ks.take i) u u' p e cs ++ cs.filterMap (narC u u' p e k) := by
  unfold narL
  rw [List.take_add_one, h, List.flatMap_append]
  simp
theorem fm_take {f : Cl → Option Cl} {j : Nat} {cs : List Cl} {c : Cl} (h : cs[j]? = some c) : (cs.take (j + 1)).filterMap f = (cs.take j).filterMap f ++ (f c).toList := by
  rw [List.take_add_one, h, List.filterMap_append]
  congr 1
theorem nar_len (u u' : Web) (p e : Nat) (cs : List Cl) : ∀ ks : List (Option Nat), (narL ks u u' p e cs).length ≤ ks.length * cs.length
  | [] => Nat.zero_le _
  | k :: ks => by
    show (cs.filterMap (narC u u' p e k) ++ narL ks u u' p e cs).length ≤ (ks.length + 1) * cs.length
    rw [List.length_append, Nat.add_mul, Nat.one_mul]
    have := nar_len u u' p e cs ks
    have := List.length_filterMap_le (narC u u' p e k) cs
    omega
theorem Tups.frz {H : Hp} {d : Addr} {o : Obj} {f u : HO} (e : H d = some (.frz o f)) : Tups H (upd H d u) := fun b xs h => by
  rw [upd_ne (fun z : b = d => by rw [z, e] at h; cases h)]; exact h
/-! ### choices -/
/-- what a next place led makes: the row ((p, e), 1, state) -/
def NxtAt (H : Hp) (u u' : Web) (cs : List Cl) (p : Nat) (v : V) (e : Nat) : Prop := ∃ r pr st ds, v = .ref r ∧ H r = some (.tup [.ref pr, .int 1, st]) ∧ H pr = some (.tup [.int (p : Nat), .int (e : Nat)]) ∧ StAt H st ds ∧ Nar u.1.length u'.1.length (fitM u u') cs p e ds ∧ szN ds < szN cs
def LastAt (H : Hp) (u u' : Web) (cs : List Cl) (p : Nat) (v : V) : Prop := ∃ r st ds, v = .ref r ∧ H r = some (.tup [.non, .int 0, st]) ∧ StAt H st ds ∧ Wout u.1.length u'.1.length cs p ds ∧ szN ds < szN cs
theorem NxtAt.tups {H H' : Hp} {u u' : Web} {cs : List Cl} {p : Nat} {v : V} {e : Nat} (x : NxtAt H u u' cs p v e) (t : Tups H H') : NxtAt H' u u' cs p v e := by
  obtain ⟨r, pr, st, ds, e1, e2, e3, e4, q⟩ := x
  exact ⟨r, pr, st, ds, e1, t _ _ e2, t _ _ e3, e4.tups t, q⟩
theorem LastAt.tups {H H' : Hp} {u u' : Web} {cs : List Cl} {p : Nat} {v : V} (x : LastAt H u u' cs p v) (t : Tups H H') : LastAt H' u u' cs p v := by
  obtain ⟨r, st, ds, e1, e2, e4, q⟩ := x
  exact ⟨r, st, ds, e1, t _ _ e2, e4.tups t, q⟩
/-- the choices, in a list -/
def ChoAt (H : Hp) (u u' : Web) (cs : List Cl) (L : Addr) : Prop := ∃ c rows last, IsMin cs c ∧ H L = some (.lst (rows ++ [last])) ∧ Paired (NxtAt H u u' cs (lsb c.1)) rows (bitsL c.2) ∧ LastAt H u u' cs (lsb c.1) last
/-- the lambda in the first statement's call -/
def lamOf (st : Stmt) : Option (Arguments × Expr × Scope) :=
  match defBody st with
  | .Assign _ (.Call _ _ (k :: _) _) _ :: _ => (match k.value with | .Lambda a b s _ => some (a, b, s) | _ => none)
  | _ => none
theorem d_lamb {N : Addr → Prop} {P : Addr} {q : Str} {params : Arguments} {body : Expr} {scope : Scope} {σ : L2.St} {H : Hp} {Q : VK} (hT : TabN N H P q) (hN : ∀ b, N b → H b ≠ none) (h : ∀ (f c' : Addr) (H1 : Hp), (∀ b o, b ≠ P → H b = some o → H1 b = some o) → TabN N H1 P q → H f = none → H1 f = some (LamO f ⟨q, params, body, scope, c'⟩) → H1 c' = some (CodeO c' q) → Q (.ref f) H1) : tLamb P q params body scope σ H Q := ⟨N, hT, hN, h⟩
theorem d_ckw {r : List V → List V → Hp → VK → Prop} {ta tk : TA} {σ : L2.St} {H : Hp} {Q : VK} (h : ta σ H fun xs H1 => tk σ H1 fun ys H2 => r xs ys H2 Q) : tCKw r ta tk σ H Q := h
theorem low_pow {m a : Nat} (hm : m ≤ 40) (h : ∀ e, a.testBit e = true → e < m) : a < 2 ^ 41 := by
  refine Nat.lt_pow_two_of_testBit a fun i hi => ?_
  cases z : a.testBit i with
  | false => rfl
  | true => have := h i z; omega
theorem take_snoc' {α : Type} {l : List α} {i : Nat} {x : α} (h : l[i]? = some x) : l.take (i + 1) = l.take i ++ [x] := by rw [List.take_add_one, h]; rfl
theorem d_meth {C : Addr} {m : Str} {sp : Sp} {dvs : List V} {E : XK} {ta : TE} {t : TA} {σ : L2.St} {H : Hp} {Q : VK} (h : ta σ H fun x H1 => ∃ a dx fs, x = .ref a ∧ H1 a = some (.ins C dx fs) ∧ fs.lookup m = none ∧ t σ H1 fun vs H2 => sp (x :: vs ++ dvs) H2 Q E) : tMeth C m sp dvs E ta t σ H Q := h
theorem KS.fresh {S : Addr → Prop} {H H' : Hp} {p : Addr} {o : HO} (a : KS S H H') (f : H p = none) : KS S H (upd H' p o) := fun c u nc e => by rw [upd_ne (ne_of_none e f)]; exact a c u nc e
theorem tabS_same {N : Addr → Prop} {H H' : Hp} {P : Addr} {q : Str} (x : TabN N H P q) (s : Same H H') : TabN N H' P q := by
  obtain ⟨ps, z, y1, y2⟩ := x
  refine ⟨ps, s _ _ z, y1, fun pos cv h => ?_⟩
  obtain ⟨cc, e1, e3, e2⟩ := y2 pos cv h
  exact ⟨cc, e1, e3, s _ _ e2⟩
theorem tabS_lst {N : Addr → Prop} {H : Hp} {P D : Addr} {q : Str} {ws : List V} {o : HO} (x : TabN N H P q) (e : H D = some (.lst ws)) : TabN N (upd H D o) P q := by
  obtain ⟨ps, z, y1, y2⟩ := x
  refine ⟨ps, by rw [upd_ne (fun y : P = D => by rw [y, e] at z; cases z)]; exact z, y1, fun pos cv h => ?_⟩
  obtain ⟨cc, e1, e3, e2⟩ := y2 pos cv h
  exact ⟨cc, e1, e3, by rw [upd_ne (fun y : cc = D => by rw [y, e] at e2; cases e2)]; exact e2⟩
theorem tabN_put {N : Addr → Prop} {H : Hp} {P D : Addr} {q : Str} {o : HO} (x : TabN N H P q) (n : N D) (nP : D ≠ P) : TabN N (upd H D o) P q := by
  obtain ⟨ps, z, y1, y2⟩ := x
  refine ⟨ps, by rw [upd_ne nP.symm]; exact z, y1, fun pos cv h => ?_⟩
  obtain ⟨cc, e1, e3, e2⟩ := y2 pos cv h
  exact ⟨cc, e1, e3, by rw [upd_ne (fun y : cc = D => e3 (y ▸ n))]; exact e2⟩
/-! ### the search -/
theorem KS.tups {S : Addr → Prop} {H H' : Hp} (k : KS S H H') (n : ∀ b xs, S b → H b ≠ some (.tup xs)) : Tups H H' := fun b xs e => k b _ (fun z => n b xs z e) e
structure Srch (pd : Program) (wd : World) (CS CR PP : Addr) (q : Str) (H : Hp) (me : Addr) (u u' : Web) (K : Addr) (es : List KEnt) : Prop where
  obj : ∃ dx R, H me = some (.ins CS dx [(Str.ofString "rules", .ref R), (Str.ofString "known", .ref K)]) ∧ Rules pd wd (fun b => b = K) H R CR u u'
  kn : H K = some (DH pd wd K es)
  key : KeyAt H es
  ok : KnOk (Wc u.1.length u'.1.length (fitM u u')) es
  tab : TabN (fun b => b = K) H PP q
abbrev PK (PP K : Addr) : Addr → Prop := fun b => b = PP ∨ b = K
section
variable {pd : Program} {wd : World} {CS CR PP : Addr} {q : Str} {H H' : Hp} {me : Addr} {u u' : Web} {K : Addr} {es es' : List KEnt}
theorem Srch.at (x : Srch pd wd CS CR PP q H me u u' K es) {b : Addr} (h : PK PP K b) : (∃ t, H b = some (.tbl t)) ∨ (b = K ∧ H b = some (DH pd wd K es)) := by
  rcases h with rfl | rfl
  · obtain ⟨ps, z, _⟩ := x.tab
    exact .inl ⟨ps, z⟩
  · exact .inr ⟨rfl, x.kn⟩
theorem Srch.tups (x : Srch pd wd CS CR PP q H me u u' K es) (k : KS (PK PP K) H H') : Tups H H' := k.tups fun b xs s e => by
  rcases x.at s with ⟨t, z⟩ | ⟨_, z⟩
  · rw [z] at e; cases e
  · rw [z] at e; cases e
theorem Srch.lst (x : Srch pd wd CS CR PP q H me u u' K es) {b : Addr} {ys : List V} (e : H b = some (.lst ys)) : ¬ PK PP K b := fun s => by
  rcases x.at s with ⟨t, z⟩ | ⟨_, z⟩
  · rw [z] at e; cases e
  · rw [z] at e; cases e
theorem Srch.ins (x : Srch pd wd CS CR PP q H me u u' K es) {b C : Addr} {dx : Addr} {fs : List (Str × V)} (e : H b = some (.ins C dx fs)) : ¬ PK PP K b := fun s => by
  rcases x.at s with ⟨t, z⟩ | ⟨_, z⟩
  · rw [z] at e; cases e
  · rw [z] at e; cases e
theorem Srch.step (x : Srch pd wd CS CR PP q H me u u' K es) (k : KS (PK PP K) H H') (kn : H' K = some (DH pd wd K es')) (key : KeyAt H' es') (ok : KnOk (Wc u.1.length u'.1.length (fitM u u')) es') (tab : TabN (fun b => b = K) H' PP q) : Srch pd wd CS CR PP q H' me u u' K es' := by
  obtain ⟨dx, R, e, r⟩ := x.obj
  refine ⟨⟨dx, R, k _ _ (x.ins e) e, r.ks k (fun b ys s z => x.lst z s) (fun b C dx fs s z => x.ins z s) fun b kvs s nK e => ?_⟩, kn, key, ok, tab⟩
  rcases x.at s with ⟨t, z⟩ | ⟨z, _⟩
  · rw [z] at e; cases e
  · exact nK z
theorem Srch.same (x : Srch pd wd CS CR PP q H me u u' K es) (s : Same H H') : Srch pd wd CS CR PP q H' me u u' K es :=
  x.step (KS.of s) (s _ _ x.kn) (x.key.same s) x.ok (tabS_same x.tab s)
/-- all but the table -/
theorem Srch.tabs (x : Srch pd wd CS CR PP q H me u u' K es) (k : KS (fun b => b = PP) H H') (tab : TabN (fun b => b = K) H' PP q) : Srch pd wd CS CR PP q H' me u u' K es := by
  have nK : K ≠ PP := fun z => by
    obtain ⟨ps, e, _⟩ := x.tab
    have := x.kn
    rw [z, e] at this; cases this
  have k2 : KS (PK PP K) H H' := k.mono fun b z => .inl z
  exact x.step k2 (k _ _ nK x.kn) (x.key.tups (x.tups k2)) x.ok tab
end
/-- what was not known, and is, is of states no greater -/
def Grow (es es' : List KEnt) (s : Nat) : Prop := ∀ e ∈ es', e ∈ es ∨ ∃ ds nd, e.1 = nkKey ds nd ∧ szN ds ≤ s
theorem Grow.refl (es : List KEnt) (s : Nat) : Grow es es s := fun e he => .inl he
theorem Grow.trans {a b c : List KEnt} {s t : Nat} (x : Grow a b s) (y : Grow b c t) (h : t ≤ s) : Grow a c s := fun e he => by
  rcases y e he with z | ⟨ds, nd, e1, e2⟩
  · exact x e z
  · exact .inr ⟨ds, nd, e1, Nat.le_trans e2 h⟩
theorem val_none {es : List KEnt} {k : NestedKey} : valH es k = none ↔ ∀ e ∈ es, e.1 ≠ k := by
  unfold valH
  rw [Option.map_eq_none_iff, List.find?_eq_none]
  simp
theorem Grow.new {es es' : List KEnt} {s : Nat} {cs : List Cl} {need : Int} (x : Grow es es' s) (h : valH es (nkKey cs need) = none) (l : s < szN cs) : valH es' (nkKey cs need) = none := val_none.mpr fun e he z => by
  rcases x e he with y | ⟨ds, nd, e1, e2⟩
  · exact val_none.mp h e y z
  · rw [z] at e1
    obtain ⟨rfl, _⟩ := nkKey_inj e1
    omega
/-- how many are found at most -/
def Bd (m : Nat) : Nat → Nat
  | 0 => 0
  | s + 1 => 1 + (m + 1) * Bd m s
theorem Bd_pos (m : Nat) {s : Nat} (h : 1 ≤ s) : 1 ≤ Bd m s := by
  cases s with
  | zero => omega
  | succ s => simp only [Bd]; omega
theorem Bd_mono (m : Nat) {s t : Nat} (h : s ≤ t) : Bd m s ≤ Bd m t := by
  induction h with
  | refl => exact Nat.le_refl _
  | @step t _ ih =>
    refine Nat.le_trans ih ?_
    show Bd m t ≤ 1 + (m + 1) * Bd m t
    have : (m + 1) * Bd m t = m * Bd m t + Bd m t := Nat.succ_mul _ _
    omega
/-- a row of the choices: what it adds, and how many ways go on -/
def RowW (H : Hp) (u u' : Web) (s : Nat) (need : Int) (v : V) (w : Nat) : Prop := ∃ r x st ds g, v = .ref r ∧ H r = some (.tup [x, .int g, st]) ∧ StAt H st ds ∧ VC u.1.length u'.1.length ds ∧ szN ds < s ∧ w = Wc u.1.length u'.1.length (fitM u u') ds (need - g)
theorem RowW.tups {H H' : Hp} {u u' : Web} {s : Nat} {need : Int} {v : V} {w : Nat} (x : RowW H u u' s need v w) (t : Tups H H') : RowW H' u u' s need v w := by
  obtain ⟨r, x, st, ds, g, e1, e2, e3, e4⟩ := x
  exact ⟨r, x, st, ds, g, e1, t _ _ e2, e3.tups t, e4⟩
theorem nar_w {u u' : Web} {cs : List Cl} {c : Cl} (v : VC u.1.length u'.1.length cs) (M : IsMin cs c) {e : Nat} {ds es : List Cl} (a : Nar u.1.length u'.1.length (fitM u u') cs (lsb c.1) e ds) (b : Nar u.1.length u'.1.length (fitM u u') cs (lsb c.1) e es) (k : Int) : Wc u.1.length u'.1.length (fitM u u') ds k = Wc u.1.length u'.1.length (fitM u u') es k := by
  unfold Wc
  rw [a.ext v M, b.ext v M]
theorem paired_map {α β γ : Type} {R : α → β → Prop} {S : α → γ → Prop} {g : β → γ} {as : List α} {bs : List β} (p : Paired R as bs) : (∀ a b, b ∈ bs → R a b → S a (g b)) → Paired S as (bs.map g) := by
  induction p with
  | nil => intro _; exact .nil
  | cons h t ih => intro f; exact .cons (f _ _ List.mem_cons_self h) (ih fun a b hb => f a b (List.mem_cons_of_mem _ hb))
theorem paired_ex {α β : Type} {R : α → β → Prop} {as : List α} {bs : List β} (p : Paired R as bs) : ∀ b ∈ bs, ∃ a, R a b := by
  induction p with
  | nil => simp
  | cons h t ih =>
    intro b hb
    rcases List.mem_cons.mp hb with rfl | hb
    · exact ⟨_, h⟩
    · exact ih b hb
theorem ChoAt.rows {H : Hp} {u u' : Web} {cs : List Cl} {L : Addr} (x : ChoAt H u u' cs L) (v : VC u.1.length u'.1.length cs) {need : Int} (h1 : 1 ≤ need) : ∃ items ws, H L = some (.lst items) ∧ Paired (RowW H u u' (szN cs) need) items ws ∧ ws.sum = Wc u.1.length u'.1.length (fitM u u') cs need ∧ items.length ≤ u'.1.length + 1 := by
  obtain ⟨c, rows, last, M, eL, pr, r, st, os, rfl, er, so, O, lo⟩ := x
  have ex : ∀ e, ∃ ds, e ∈ bitsL c.2 → Nar u.1.length u'.1.length (fitM u u') cs (lsb c.1) e ds := fun e => by
    by_cases he : e ∈ bitsL c.2
    · obtain ⟨a, _, _, _, ds, _, _, _, _, N, _⟩ := paired_ex pr e he
      exact ⟨ds, fun _ => N⟩
    · exact ⟨[], fun z => (he z).elim⟩
  obtain ⟨f, hf⟩ := Classical.axiomOfChoice ex
  have sum := Wc_sum v M h1 (ds := f) (os := os) (fun e he => hf e he) O
  refine ⟨_, _, eL, Paired.snoc (paired_map (g := fun e => Wc u.1.length u'.1.length (fitM u u') (f e) (need - 1)) pr fun a e he z => ?_) (b := Wc u.1.length u'.1.length (fitM u u') os need) ⟨r, _, st, os, 0, rfl, er, so, O.vc, lo, by rw [Int.sub_zero]⟩, ?_, ?_⟩
  · obtain ⟨r, pr, st, ds, rfl, e1, e2, e3, N, l⟩ := z
    exact ⟨r, _, st, ds, 1, rfl, e1, e3, N.vc, l, nar_w v M (hf e he) N _⟩
  · rw [List.sum_append, ← sum]
    simp
  · rw [List.length_append, Paired.length pr]
    have := nodup_len u'.1.length (bitsL c.2) (bits_nodup _) fun e he => (v.low c M.mem).2 e (mem_bits.mp he)
    show _ + 1 ≤ _
    omega
theorem d_hnotin {P : Program} {w : World} {ty td : TE} {σ : L2.St} {H : Hp} {Q : VK} (h : ty σ H fun y H1 => td σ H1 fun x H2 => ∃ a r, x = .ref a ∧ HGet P w H2 a y r ∧ Q (.bl (!r.isSome)) H2) : tHNotIn P w ty td σ H Q := h
theorem d_hget {P : Program} {w : World} {ty td : TE} {σ : L2.St} {H : Hp} {Q : VK} (h : td σ H fun x H1 => ty σ H1 fun y H2 => ∃ a v, x = .ref a ∧ HGet P w H2 a y (some v) ∧ Q v H2) : tHGet P w td ty σ H Q := h
theorem d_hput {P : Program} {w : World} {td ty tv : TE} {D : Ends} {σ : L2.St} {H : Hp} (h : tv σ H fun v H1 => td σ H1 fun x H2 => ty σ H2 fun y H3 => ∃ a es k b, x = .ref a ∧ H3 a = some (DH P w a es) ∧ KeyAt H3 es ∧ y = .ref b ∧ NkV H3 k y ∧ k.depth ≤ 8 ∧ valH es k = none ∧ es.length < sizeLine ∧
  D.nx σ (upd H3 a (DH P w a (es ++ [(k, b, v)])))) : sHPut P w td ty tv D σ H := h
theorem d_ifX {tt : TT} {t1 t2 : TE} {σ : L2.St} {H : Hp} {Q : VK} (h : tt σ H fun b H1 => if b = true then t1 σ H1 Q else t2 σ H1 Q) : tIf tt t1 t2 σ H Q := h
theorem Bd_rows {m s i : Nat} (h : 1 ≤ s) (hi : i ≤ m + 1) : i * Bd m (s - 1) + 1 ≤ Bd m s := by
  cases s with
  | zero => omega
  | succ s =>
    show i * Bd m s + 1 ≤ 1 + (m + 1) * Bd m s
    have := Nat.mul_le_mul_right (Bd m s) hi
    omega
theorem pc_pos {a : Nat} (h : a ≠ 0) : 1 ≤ pcN a := List.length_pos_of_mem (mem_bits.mpr (lsb_tb h).1)
theorem sz_pos {n m : Nat} {cs : List Cl} (v : VC n m cs) (h : cs ≠ []) : 1 ≤ szN cs := by
  cases cs with
  | nil => exact (h rfl).elim
  | cons c cs =>
    have := pc_pos (v.some_ c List.mem_cons_self).1
    unfold szN
    rw [List.map_cons, List.sum_cons]
    omega
theorem val_put {es : List KEnt} {k : NestedKey} {a : Addr} {v : V} (h : valH es k = none) : valH (es ++ [(k, a, v)]) k = some v := by
  unfold valH at h ⊢
  rw [Option.map_eq_none_iff] at h
  rw [List.find?_append, h]
  simp
theorem Grow.put {es es' : List KEnt} {s : Nat} {cs : List Cl} {need : Int} {a : Addr} {v : V} (x : Grow es es' s) (h : s ≤ szN cs) : Grow es (es' ++ [(nkKey cs need, a, v)]) (szN cs) := fun e he => by
  rcases List.mem_append.mp he with he | he
  · rcases x e he with y | ⟨ds, nd, e1, e2⟩
    · exact .inl y
    · exact .inr ⟨ds, nd, e1, Nat.le_trans e2 h⟩
  · rw [List.mem_singleton.mp he]; exact .inr ⟨cs, need, rfl, Nat.le_refl _⟩
section
variable {pd : Program} {wd : World} {CS CR PP : Addr} {q : Str} {H : Hp} {me : Addr} {u u' : Web} {K : Addr} {es : List KEnt}
theorem Srch.put (x : Srch pd wd CS CR PP q H me u u' K es) {cs : List Cl} {need : Int} {ky : Addr} (nk : NkV H (nkKey cs need) (.ref ky)) :
    Srch pd wd CS CR PP q (upd H K (DH pd wd K (es ++ [(nkKey cs need, ky, .int (Wc u.1.length u'.1.length (fitM u u') cs need : Nat))]))) me u u' K (es ++ [(nkKey cs need, ky, .int (Wc u.1.length u'.1.length (fitM u u') cs need : Nat))]) := by
  have k := (KS.refl (S := PK PP K) H).put (p := K) (o := DH pd wd K (es ++ [(nkKey cs need, ky, .int (Wc u.1.length u'.1.length (fitM u u') cs need : Nat))])) (.inr rfl)
  have t := x.tups k
  have nK : K ≠ PP := fun z => by
    obtain ⟨ps, e, _⟩ := x.tab
    have := x.kn
    rw [z, e] at this; cases this
  refine x.step k upd_same (fun e he => ?_) x.ok.put (tabN_put x.tab rfl nK)
  rcases List.mem_append.mp he with he | he
  · exact (x.key.tups t) e he
  · rw [List.mem_singleton.mp he]; exact ⟨NkV.tups t _ _ nk, nkKey_depth _ _⟩
end
theorem Rules.mono {pd : Program} {wd : World} {N M : Addr → Prop} {H : Hp} {me C : Addr} {u u' : Web} (x : Rules pd wd N H me C u u') (h : ∀ b o, H b = some o → M b → N b) : Rules pd wd M H me C u u' := by
  obtain ⟨dx, A, B, e, x1, x2⟩ := x
  exact ⟨dx, A, B, e, x1.mono h, x2.mono h⟩
theorem TabN.mono {N M : Addr → Prop} {H : Hp} {P : Addr} {q : Str} (x : TabN N H P q) (h : ∀ b o, H b = some o → M b → N b) : TabN M H P q := by
  obtain ⟨ps, z, y1, y2⟩ := x
  refine ⟨ps, z, y1, fun pos cv hc => ?_⟩
  obtain ⟨cc, e1, e3, e2⟩ := y2 pos cv hc
  exact ⟨cc, e1, fun m => e3 (h _ _ e2 m), e2⟩
theorem sz_le {n m : Nat} {cs : List Cl} (v : VC n m cs) : szN cs ≤ n := by
  have e : szN cs = (cs.flatMap fun c => bitsL c.1).length := by
    unfold szN
    rw [List.length_flatMap]
    rfl
  rw [e]
  refine nodup_len n _ ?_ fun x hx => ?_
  · unfold List.Nodup
    rw [List.pairwise_flatMap]
    refine ⟨fun c _ => bits_nodup _, v.apart.imp fun {c d} h x hx y hy e => ?_⟩
    subst e
    exact h x (mem_bits.mp hx) (mem_bits.mp hy)
  · obtain ⟨c, hc, h⟩ := List.mem_flatMap.mp hx
    exact (v.low c hc).1 x (mem_bits.mp h)
theorem bd_le {n m : Nat} {cs : List Cl} (v : VC n m cs) : bdN cs ≤ n := by
  refine Nat.le_trans ?_ (sz_le v)
  unfold bdN szN
  clear v
  induction cs with
  | nil => exact Nat.le_refl _
  | cons c cs ih =>
    rw [List.map_cons, List.map_cons, List.sum_cons, List.sum_cons]
    omega
/-- the greatest size -/
structure Gr (n m : Nat) (fit : Nat × Nat → Nat × Nat → Bool) (cs : List Cl) (k : Nat) : Prop where
  some_ : Wc n m fit cs k ≠ 0
  most : ∀ j : Nat, k < j → Wc n m fit cs j = 0
end Cw

/-! dicts by ties, while they are filled -/
namespace Cw
open PySem PySem.Spec PyProof.Rows L2
/-- of the first j places -/
def obJ (u : Web) (p : Nat) (k : Option Nat) (j : Nat) : Nat := maskN ((List.range j).filter fun o => decide (o ≠ p) && decide (tieL u.2 p o = k))
theorem obJ_all (u : Web) (p : Nat) (k : Option Nat) : obJ u p k u.1.length = obt u p k := rfl
theorem obJ_skip (u : Web) (p : Nat) (k : Option Nat) (j : Nat) (h : ¬ (j ≠ p ∧ tieL u.2 p j = k)) : obJ u p k (j + 1) = obJ u p k j := by
  unfold obJ
  rw [List.range_succ, List.filter_append, List.filter_cons_of_neg (by simpa using h), List.filter_nil, List.append_nil]
theorem obJ_put (u : Web) (p j : Nat) (h : j ≠ p) : obJ u p (tieL u.2 p j) (j + 1) = obJ u p (tieL u.2 p j) j ||| 2 ^ j := by
  unfold obJ
  rw [List.range_succ, List.filter_append, List.filter_cons_of_pos (by simp [h]), List.filter_nil, mask_snoc]
/-- what is in the dict behind j places -/
structure ObK (u : Web) (p j : Nat) (kvs : List (NK × V)) (ks : List (Option Nat)) : Prop where
  nd : ks.Nodup
  all : ∀ k, obJ u p k j ≠ 0 → k ∈ ks
  few : ks.length ≤ j
  eq : kvs = ks.map fun k => (kTie k, V.int (obJ u p k j : Nat))
theorem ObK.get {u : Web} {p j : Nat} {kvs : List (NK × V)} {ks : List (Option Nat)} (x : ObK u p j kvs ks) (k : Option Nat) : (valV kvs (kTie k)).getD (.int 0) = V.int (obJ u p k j : Nat) := by
  have go : ∀ l : List (Option Nat), valV (l.map fun k => (kTie k, V.int (obJ u p k j : Nat))) (kTie k) = if k ∈ l then some (V.int (obJ u p k j : Nat)) else none := fun l => by
    induction l with
    | nil => rfl
    | cons i l ih =>
      rw [List.map_cons]
      by_cases e : i = k
      · subst e
        rw [valV_pos rfl, if_pos List.mem_cons_self]
      · rw [valV_neg (fun z => e (kTie_inj z)), ih]
        by_cases h : k ∈ l
        · rw [if_pos h, if_pos (List.mem_cons_of_mem _ h)]
        · rw [if_neg h, if_neg (fun z => by
            rcases List.mem_cons.mp z with z | z
            · exact e z.symm
            · exact h z)]
  rw [x.eq, go]
  by_cases h : k ∈ ks
  · rw [if_pos h]; rfl
  · rw [if_neg h]
    have : obJ u p k j = 0 := Classical.byContradiction fun z => h (x.all k z)
    rw [this]; rfl
theorem ObK.start (u : Web) (p : Nat) : ObK u p 0 [] [] := ⟨.nil, fun k h => (h rfl).elim, Nat.le_refl _, rfl⟩
theorem ObK.skip {u : Web} {p : Nat} {kvs : List (NK × V)} {ks : List (Option Nat)} (x : ObK u p p kvs ks) : ObK u p (p + 1) kvs ks :=
  ⟨x.nd, fun k h => x.all k (by rw [obJ_skip u p k p (fun z => z.1 rfl)] at h; exact h), Nat.le_succ_of_le x.few, by
    rw [x.eq]
    exact List.map_congr_left fun k _ => by rw [obJ_skip u p k p (fun z => z.1 rfl)]⟩
theorem ObK.put {u : Web} {p j : Nat} {kvs : List (NK × V)} {ks : List (Option Nat)} (x : ObK u p j kvs ks) (h : j ≠ p) : ∃ ks', ObK u p (j + 1) (putK kvs (kTie (tieL u.2 p j)) (.int ((obJ u p (tieL u.2 p j) j ||| 2 ^ j : Nat) : Int))) ks' := by
  have e0 := obJ_put u p j h
  have ne : obJ u p (tieL u.2 p j) (j + 1) ≠ 0 := by
    unfold obJ
    rw [Ne, mask_zero, List.filter_eq_nil_iff]
    intro z
    have := z j (List.mem_range.mpr (Nat.lt_succ_self j))
    simp [h] at this
  have other : ∀ k, k ≠ tieL u.2 p j → obJ u p k (j + 1) = obJ u p k j := fun k hk => obJ_skip u p k j fun z => hk z.2.symm
  have hany : (kvs.any fun kv => decide (kv.1 = kTie (tieL u.2 p j))) = decide (tieL u.2 p j ∈ ks) := by
    rw [x.eq, List.any_map, Bool.eq_iff_iff, List.any_eq_true, decide_eq_true_eq]
    constructor
    · rintro ⟨k, hk, e⟩
      have e : kTie k = kTie (tieL u.2 p j) := of_decide_eq_true e
      rw [← kTie_inj e]; exact hk
    · intro hk
      exact ⟨_, hk, decide_eq_true rfl⟩
  unfold putK
  rw [hany]
  by_cases hm : tieL u.2 p j ∈ ks
  · rw [if_pos (decide_eq_true hm)]
    refine ⟨ks, x.nd, fun k hk => ?_, Nat.le_succ_of_le x.few, ?_⟩
    · by_cases e : k = tieL u.2 p j
      · rw [e]; exact hm
      · rw [other k e] at hk; exact x.all k hk
    · rw [x.eq, List.map_map]
      refine List.map_congr_left fun k _ => ?_
      show (if kTie k = kTie (tieL u.2 p j) then (kTie k, V.int ((obJ u p (tieL u.2 p j) j ||| 2 ^ j : Nat) : Int)) else (kTie k, V.int (obJ u p k j : Nat))) = _
      by_cases e : k = tieL u.2 p j
      · rw [if_pos (by rw [e]), e, e0]
      · rw [if_neg (fun z => e (kTie_inj z)), other k e]
  · rw [if_neg (by simpa using hm)]
    refine ⟨ks ++ [tieL u.2 p j], List.nodup_append.mpr ⟨x.nd, by simp, fun a ha b hb => by rw [List.mem_singleton.mp hb]; exact fun e => hm (e ▸ ha)⟩, fun k hk => ?_, by rw [List.length_append]; have := x.few; show ks.length + 1 ≤ j + 1; omega, ?_⟩
    · by_cases e : k = tieL u.2 p j
      · rw [e]; exact List.mem_append_right _ (List.mem_singleton.mpr rfl)
      · rw [other k e] at hk; exact List.mem_append_left _ (x.all k hk)
    · rw [List.map_append, x.eq]
      congr 1
      · exact List.map_congr_left fun k hk => by rw [other k (fun e => hm (e ▸ hk))]
      · rw [List.map_cons, List.map_nil, e0]
theorem ObK.done {u : Web} {p : Nat} {kvs : List (NK × V)} {ks : List (Option Nat)} (x : ObK u p u.1.length kvs ks) (h : u.1.length ≤ 40) : TieKs u p ks ∧ kvs = obD u p ks :=
  ⟨⟨x.nd, x.all, Nat.le_trans x.few h⟩, x.eq⟩
/-- some dicts, told so far -/
def ObDs (pd : Program) (wd : World) (H : Hp) (ds : List Addr) (u : Web) : Prop := ∀ (p : Nat) (d : Addr), ds[p]? = some d → ∃ ks, TieKs u p ks ∧ H d = some (DN pd wd d (obD u p ks))
theorem ObDs.keep {pd : Program} {wd : World} {S : Addr → Prop} {H H' : Hp} {ds : List Addr} {u : Web} (x : ObDs pd wd H ds u) (k : KS S H H') (n : ∀ d ∈ ds, ¬ S d) : ObDs pd wd H' ds u := fun p d hd => by
  obtain ⟨ks, t, e⟩ := x p d hd
  exact ⟨ks, t, k _ _ (n _ (List.mem_of_getElem? hd)) e⟩
theorem ObDs.snoc {pd : Program} {wd : World} {H : Hp} {ds : List Addr} {u : Web} {d : Addr} {ks : List (Option Nat)} (x : ObDs pd wd H ds u) (t : TieKs u ds.length ks) (e : H d = some (DN pd wd d (obD u ds.length ks))) : ObDs pd wd H (ds ++ [d]) u := fun p a h => by
  by_cases c : p < ds.length
  · rw [List.getElem?_append_left c] at h
    exact x p a h
  · rw [List.getElem?_append_right (by omega)] at h
    have : p - ds.length = 0 := by
      cases z : p - ds.length with
      | zero => rfl
      | succ n => rw [z] at h; simp at h
    rw [this] at h
    cases h
    have e2 : p = ds.length := by omega
    rw [e2]
    exact ⟨ks, t, e⟩
theorem d_nput {P : Program} {w : World} {td ty tv : TE} {D : Ends} {σ : L2.St} {H : Hp} (h : tv σ H fun v H1 => td σ H1 fun x H2 => ty σ H2 fun y H3 => ∃ a kvs k, x = .ref a ∧ H3 a = some (DN P w a kvs) ∧ y = nV k ∧ kvs.length < sizeLine ∧ D.nx σ (upd H3 a (DN P w a (putK kvs k v)))) : sNPut P w td ty tv D σ H := h
theorem signs_sg (l : List Nat) : signsT ⟨l.toArray⟩ = l.map sg := rfl
theorem keys_of {l : List Nat} {ys : List Str} (pm : ys.Perm (uniqT (signsT ⟨l.toArray⟩))) : ∃ ks : List Nat, ys = ks.map sg ∧ ks.Nodup ∧ ∀ c, c ∈ ks ↔ c ∈ l := by
  rw [signs_sg] at pm
  have mem : ∀ y, y ∈ ys ↔ ∃ c ∈ l, sg c = y := fun y => by rw [pm.mem_iff, uniqT_mem, List.mem_map]
  have eq : ys = (ys.map fun y => y.cps.toList.headD 0).map sg := by
    rw [List.map_map]
    conv => lhs; rw [← List.map_id ys]
    refine List.map_congr_left fun y hy => ?_
    obtain ⟨c, _, rfl⟩ := (mem y).mp hy
    rfl
  refine ⟨_, eq, ?_, fun c => ?_⟩
  · have nd : ys.Nodup := pm.nodup_iff.mpr (uniqT_nodup _)
    rw [eq] at nd
    exact (List.pairwise_map.mp nd).imp fun h e => h (by rw [e])
  · rw [List.mem_map]
    constructor
    · rintro ⟨y, hy, rfl⟩
      obtain ⟨c, hc, rfl⟩ := (mem y).mp hy
      exact hc
    · intro hc
      exact ⟨sg c, (mem _).mpr ⟨c, hc, rfl⟩, rfl⟩
theorem uniqT_few (xs : List Str) : (uniqT xs).length ≤ xs.length := by
  have := uniqT_len xs xs.length
  rwa [List.take_length] at this
theorem clsL_take {ks : List Nat} {u u' : Web} {ps : List Nat} {i k : Nat} (h : ks[i]? = some k) : clsL (ks.take (i + 1)) u u' ps = clsL (ks.take i) u u' ps ++ (clsC u u' ps k).toList := by
  unfold clsL
  rw [List.take_add_one, h, List.filterMap_append]
  congr 1
theorem clsL_len (ks : List Nat) (u u' : Web) (ps : List Nat) : (clsL ks u u' ps).length ≤ ks.length := List.length_filterMap_le _ _
theorem sg_eqv (a b : Nat) : (decide ((sg a : Str) = sg b)) = decide (a = b) := by
  by_cases h : a = b
  · subst h; simp
  · rw [decide_eq_false h, decide_eq_false (fun z => h (sg_inj.mp z))]
/-- a place's kind -/
theorem d_kindAt {H : Hp} {QB : VK} {u : Web} {n : Nat} (W : WOk u) (hn : n < u.1.length) (q : QB (.str (sg u.1[n])) H) : rIxS (.str ⟨u.1.toArray⟩) (.int (n : Nat)) H QB := by
  have g := List.getElem?_eq_getElem hn
  have l := W.few
  exact ⟨_, _, u.1[n], rfl, rfl, sz (by show u.1.toArray.size ≤ 100000; simp; omega), atI_nat (by show u.1.toArray.toList[n]? = _; simp [g]), q⟩
theorem d_eqSg {H : Hp} {Q : VK} {a b : Nat} (q : Q (.bl (decide (a = b))) H) : rEq (.str (sg a)) (.str (sg b)) H Q := by
  refine ⟨rfl, ?_⟩
  rw [show decide (V.str (sg a) = V.str (sg b)) = decide (a = b) by rw [Bool.eq_iff_iff]; simp]
  exact q
theorem filt_take {α : Type} {f : α → Bool} {l : List α} {j : Nat} {x : α} (h : l[j]? = some x) : (l.take (j + 1)).filter f = (l.take j).filter f ++ (if f x = true then [x] else []) := by
  rw [take_snoc' h, List.filter_append, List.filter_cons, List.filter_nil]
theorem at_kind {l : List Nat} {p k : Nat} (h : p < l.length) : decide (l[p]? = some k) = decide (l[p] = k) := by rw [Bool.eq_iff_iff, decide_eq_true_eq, decide_eq_true_eq, List.getElem?_eq_getElem h, Option.some.injEq]
theorem range_take {n i : Nat} (h : i < n) : (List.range n)[i]? = some i := by rw [List.getElem?_eq_getElem (by rw [List.length_range]; exact h), List.getElem_range]
theorem range_filt {f : Nat → Bool} (i : Nat) : (List.range (i + 1)).filter f = (List.range i).filter f ++ (if f i = true then [i] else []) := by
  rw [List.range_succ, List.filter_append, List.filter_cons, List.filter_nil]
theorem clsC_eq (u u' : Web) (ps : List Nat) (k : Nat) : clsC u u' ps k = if maskN (ps.filter fun p => decide (u.1[p]? = some k)) ≠ 0 ∧ maskN ((List.range u'.1.length).filter fun f => decide (u'.1[f]? = some k)) ≠ 0 then some (maskN (ps.filter fun p => decide (u.1[p]? = some k)), maskN ((List.range u'.1.length).filter fun f => decide (u'.1[f]? = some k))) else none := rfl
theorem d_fldS {K : PySem.W.Frag} {ta tv : TE} {f : Str} {D : Ends} {σ : L2.St} {H : Hp} (h : tv σ H fun y H1 => ta σ H1 fun x H2 => ∃ a C dx fs, x = .ref a ∧ H2 a = some (.ins C dx fs) ∧ Cls K C ∧ NoAttr K C f ∧ fs.length < 1000 ∧
  D.nx σ (upd H2 a (.ins C dx (putF f y fs)))) : sFld K ta tv f D σ H := h
theorem rgV_natsV (n : Nat) : rgV 0 (n : Nat) = natsV (List.range n) := by
  unfold rgV natsV
  refine List.ext_getElem (by simp) fun i h1 h2 => ?_
  simp
theorem d_make {C : Addr} {sp : Sp} {dvs : List V} {E : XK} {t : TA} {σ : L2.St} {H : Hp} {Q : VK} (h : t σ H fun vs H1 => ∀ x dx, H1 x = none → H1 dx = none → dx ≠ x →
  sp (.ref x :: (vs ++ dvs)) (upd (upd H1 dx (.own x)) x (.ins C dx [])) (fun v H2 => v = .non ∧ Q (.ref x) H2) E) : tMake C sp dvs E t σ H Q := h
theorem two_new {H : Hp} {x dx : Addr} {o o' : HO} (fx : H x = none) (fd : H dx = none) (n : dx ≠ x) : Same H (upd (upd H dx o) x o') := fun b u e => by
  rw [upd_ne (ne_of_none e fx), upd_ne (ne_of_none e fd)]; exact e
end Cw

/-! min of a list of told data: one of them -/
namespace Cw
open PySem PySem.Spec PyProof.Rows L2
def rMinDat (K : PySem.W.Frag) : List V → Hp → VK → Prop := fun vs H Q => ∃ (a : Addr) (xs : List V) (d : PyData) (ds : List PyData), vs = [V.ref a] ∧ SqL K H a xs ∧ DpAll K H xs (d :: ds) ∧ PySem.W.AlikeAll (d :: ds) ∧ PyData.depthAll (d :: ds) ≤ 60 ∧ ∀ v ∈ xs, Q v H
theorem vals_at {xs : List V} {us : List Value} (r : Vals xs us) {i : Nat} {u : Value} (h : us[i]? = some u) : ∃ x ∈ xs, RelV x u := by
  induction r generalizing i with
  | nil => simp at h
  | cons a b ih =>
    cases i with
    | zero => simp at h; subst h; exact ⟨_, List.mem_cons_self, a⟩
    | succ i =>
      obtain ⟨x, hx, e⟩ := ih (by simpa using h)
      exact ⟨x, List.mem_cons_of_mem _ hx, e⟩
theorem cr_minDat {X : Cx} (hc : X.calm = true) (hu : X.A.units + 65 < cLine) : CallR X (.builtin "min") (rMinDat X.K) := by
  intro pins s σ H vs us Q I r h
  obtain ⟨a, xs, d, ds, rfl, hs, hd, hal, hdep, q⟩ := h
  obtain ⟨its, rv, hl, hz⟩ := I.list hs
  obtain ⟨u, rfl, ru⟩ := vals1 r
  obtain rfl : u = Value.ref a := ru
  obtain ⟨as, hr⟩ := Dp.readsAll I (d :: ds) xs its hd rv
  refine PySem.W.min_list_data (vs := its.toArray) (I.ok.hd hc) hl.isList hr hal (by omega) fun i v h' tk bs hv _ keep => ?_
  obtain ⟨x, hx, rx⟩ := vals_at rv (u := v) (i := i) (by simpa using hv)
  exact ⟨x, H, I.kept keep, rx, q x hx⟩
end Cw

/-! all leads, place by place -/
namespace Cw
open PySem PySem.Spec PyProof.Rows L2
/-- leads of all places by kinds -/
def knR (u u' : Web) (x e : Nat) : Bool := decide (x < u.1.length) && decide (e < u'.1.length) && decide (u.1[x]? = u'.1[e]?)
def allL (u u' : Web) : List Led := ext u'.1.length (fitM u u') (List.range u.1.length) (knR u u')
/-- may the pair (i, e) be put behind -/
def okE (u u' : Web) (l : Led) (i e : Nat) : Bool := decide (u.1[i]? = u'.1[e]?) && decide (l.filter (fun b => !fitB u u' (i, e) b) = [])
def putP (u u' : Web) (l : Led) (i e : Nat) : Option Led := if okE u u' l i e = true then some (l ++ [(i, e)]) else none
def growL (u u' : Web) (i : Nat) (l : Led) : List Led := l :: (List.range u'.1.length).filterMap (putP u u' l i)
def LLn (u u' : Web) : Nat → List Led
  | 0 => [[]]
  | i + 1 => (LLn u u' i).flatMap (growL u u' i)
theorem optV_inj' {a b : Option Nat} : optV a = optV b ↔ a = b := by
  constructor
  · intro h
    cases a <;> cases b <;> simp [optV] at h ⊢
    exact h
  · rintro rfl; rfl
theorem fitB_iff {u u' : Web} {x y : Nat × Nat} : fitB u u' x y = true ↔ x.1 ≠ y.1 ∧ x.2 ≠ y.2 ∧ tieL u.2 x.1 y.1 = tieL u'.2 x.2 y.2 := by
  unfold fitB
  by_cases h : x.1 = y.1 ∨ x.2 = y.2
  · rw [if_pos h]
    constructor
    · intro z; cases z
    · rintro ⟨a, b, _⟩
      rcases h with h | h
      · exact (a h).elim
      · exact (b h).elim
  · rw [if_neg h, decide_eq_true_eq, optV_inj']
    exact ⟨fun e => ⟨fun z => h (.inl z), fun z => h (.inr z), e⟩, fun e => e.2.2⟩
theorem fit_swap {u u' : Web} {x y : Nat × Nat} : fitB u u' x y = true ↔ fitM u u' y x = true := by
  rw [fitB_iff, fitM_iff, tieL_swap u.2 x.1 y.1, tieL_swap u'.2 x.2 y.2]
  exact ⟨fun ⟨a, b, c⟩ => ⟨Ne.symm a, Ne.symm b, c⟩, fun ⟨a, b, c⟩ => ⟨Ne.symm a, Ne.symm b, c⟩⟩
theorem okE_iff {u u' : Web} {l : Led} {i e : Nat} : okE u u' l i e = true ↔ u.1[i]? = u'.1[e]? ∧ ∀ b ∈ l, fitM u u' b (i, e) = true := by
  unfold okE
  rw [Bool.and_eq_true, decide_eq_true_eq, decide_eq_true_eq, List.filter_eq_nil_iff]
  constructor
  · rintro ⟨a, h⟩
    exact ⟨a, fun b hb => fit_swap.mp (by have := h b hb; simpa using this)⟩
  · rintro ⟨a, h⟩
    exact ⟨a, fun b hb => by have := fit_swap.mpr (h b hb); simp [this]⟩
theorem mem_grow {u u' : Web} {i : Nat} {l x : Led} : x ∈ growL u u' i l ↔ x = l ∨ ∃ e, e < u'.1.length ∧ okE u u' l i e = true ∧ x = l ++ [(i, e)] := by
  unfold growL
  rw [List.mem_cons, List.mem_filterMap]
  refine or_congr Iff.rfl ⟨?_, ?_⟩
  · rintro ⟨e, he, h⟩
    unfold putP at h
    by_cases c : okE u u' l i e = true
    · rw [if_pos c] at h
      exact ⟨e, List.mem_range.mp he, c, (Option.some.inj h).symm⟩
    · rw [if_neg c] at h; cases h
  · rintro ⟨e, he, c, rfl⟩
    exact ⟨e, List.mem_range.mpr he, if_pos c⟩
/-- what the leads of the first i places are -/
def LeadOk (u u' : Web) (i : Nat) (l : Led) : Prop := l.Pairwise (fun a b => a.1 < b.1 ∧ fitM u u' a b = true) ∧ ∀ p ∈ l, p.1 < i ∧ p.2 < u'.1.length ∧ knR u u' p.1 p.2 = true
theorem LLn_mem {u u' : Web} : ∀ {i : Nat} {l : Led}, i ≤ u.1.length → (l ∈ LLn u u' i ↔ LeadOk u u' i l)
  | 0, l, _ => by
    show l ∈ [[]] ↔ _
    rw [List.mem_singleton]
    constructor
    · rintro rfl; exact ⟨.nil, by simp⟩
    · rintro ⟨_, h⟩
      cases l with
      | nil => rfl
      | cons p l => exact absurd (h p List.mem_cons_self).1 (Nat.not_lt_zero _)
  | i + 1, l, hi => by
    show l ∈ (LLn u u' i).flatMap (growL u u' i) ↔ _
    rw [List.mem_flatMap]
    constructor
    · rintro ⟨l0, h0, h⟩
      obtain ⟨pw, al⟩ := (LLn_mem (by omega)).mp h0
      rcases mem_grow.mp h with rfl | ⟨e, he, ok, rfl⟩
      · exact ⟨pw, fun p hp => ⟨by have := (al p hp).1; omega, (al p hp).2⟩⟩
      · obtain ⟨k, f⟩ := okE_iff.mp ok
        refine ⟨List.pairwise_append.mpr ⟨pw, List.pairwise_singleton _ _, fun a ha b hb => ?_⟩, fun p hp => ?_⟩
        · rw [List.mem_singleton.mp hb]
          exact ⟨(al a ha).1, f a ha⟩
        · rcases List.mem_append.mp hp with hp | hp
          · exact ⟨by have := (al p hp).1; omega, (al p hp).2⟩
          · rw [List.mem_singleton.mp hp]
            refine ⟨Nat.lt_succ_self _, he, ?_⟩
            unfold knR
            simp only [Bool.and_eq_true, decide_eq_true_eq]
            exact ⟨⟨by show i < _; omega, he⟩, k⟩
    · rintro ⟨pw, al⟩
      by_cases hn : l = []
      · subst hn
        exact ⟨[], (LLn_mem (by omega)).mpr ⟨.nil, by simp⟩, mem_grow.mpr (.inl rfl)⟩
      · obtain ⟨l0, p, rfl⟩ : ∃ l0 p, l = l0 ++ [p] := ⟨l.dropLast, l.getLast hn, (List.dropLast_concat_getLast hn).symm⟩
        obtain ⟨pw0, _, cr⟩ := List.pairwise_append.mp pw
        have hp := al p (List.mem_append_right _ (List.mem_singleton.mpr rfl))
        have lo : ∀ a ∈ l0, a.1 < p.1 ∧ fitM u u' a p = true := fun a ha => cr a ha p (List.mem_singleton.mpr rfl)
        by_cases c : p.1 = i
        · refine ⟨l0, (LLn_mem (by omega)).mpr ⟨pw0, fun a ha => ⟨by have := (lo a ha).1; omega, (al a (List.mem_append_left _ ha)).2⟩⟩, mem_grow.mpr (.inr ⟨p.2, hp.2.1, okE_iff.mpr ⟨?_, fun b hb => ?_⟩, ?_⟩)⟩
          · have := hp.2.2
            unfold knR at this
            simp only [Bool.and_eq_true, decide_eq_true_eq] at this
            rw [← c]; exact this.2
          · rw [show (i, p.2) = p by rw [← c]]
            exact (lo b hb).2
          · rw [show (i, p.2) = p by rw [← c]]
        · refine ⟨l0 ++ [p], (LLn_mem (by omega)).mpr ⟨pw, fun a ha => ⟨?_, (al a ha).2⟩⟩, mem_grow.mpr (.inl rfl)⟩
          rcases List.mem_append.mp ha with h | h
          · have := (lo a h).1; omega
          · rw [List.mem_singleton.mp h]; omega
theorem grow_back {u u' : Web} {i : Nat} {l x : Led} (h : x ∈ growL u u' i l) (al : ∀ p ∈ l, p.1 < i) : x.filter (fun p => decide (p.1 < i)) = l := by
  have e : l.filter (fun p => decide (p.1 < i)) = l := List.filter_eq_self.mpr fun p hp => decide_eq_true (al p hp)
  rcases mem_grow.mp h with rfl | ⟨f, _, _, rfl⟩
  · exact e
  · rw [List.filter_append, e]
    simp
theorem LLn_nodup {u u' : Web} : ∀ {i : Nat}, i ≤ u.1.length → (LLn u u' i).Nodup
  | 0, _ => by simp [LLn]
  | i + 1, hi => by
    have ih := LLn_nodup (u := u) (u' := u') (i := i) (by omega)
    show ((LLn u u' i).flatMap (growL u u' i)).Nodup
    unfold List.Nodup
    rw [List.pairwise_flatMap]
    have al : ∀ l ∈ LLn u u' i, ∀ p ∈ l, p.1 < i := fun l hl p hp => (((LLn_mem (by omega)).mp hl).2 p hp).1
    refine ⟨fun l hl => ?_, List.Pairwise.imp_of_mem (fun {a b} ha hb ne x hx y hy e => ?_) ih⟩
    · unfold growL
      rw [List.pairwise_cons]
      refine ⟨fun x hx e => ?_, ?_⟩
      · subst e
        rw [List.mem_filterMap] at hx
        obtain ⟨f, _, h⟩ := hx
        unfold putP at h
        split at h
        · have := congrArg List.length (Option.some.inj h)
          simp at this
        · cases h
      · rw [List.pairwise_filterMap]
        refine List.Pairwise.imp ?_ (List.nodup_range (n := u'.1.length))
        intro a b ne x hx y hy e
        unfold putP at hx hy
        split at hx
        · split at hy
          · have h1 := Option.some.inj hx
            have h2 := Option.some.inj hy
            rw [← h1, ← h2] at e
            have := List.append_cancel_left e
            simp at this
            exact ne this
          · cases hy
        · cases hx
    · subst e
      exact ne ((grow_back hx (al a ha)).symm.trans (grow_back hy (al b hb)))
theorem ext_nodup {m : Nat} {fit : Nat × Nat → Nat × Nat → Bool} : ∀ {xs : List Nat} {R : Nat → Nat → Bool}, xs.Pairwise (· < ·) → (ext m fit xs R).Nodup
  | [], R, _ => by simp [ext]
  | x :: xs, R, h => by
    have hx := (List.pairwise_cons.mp h).1
    have hs := (List.pairwise_cons.mp h).2
    unfold ext
    refine List.nodup_append.mpr ⟨?_, ext_nodup hs, ?_⟩
    · unfold List.Nodup
      rw [List.pairwise_flatMap]
      refine ⟨fun e _ => ?_, List.Pairwise.imp ?_ (List.Pairwise.filter _ (List.nodup_range (n := m)))⟩
      · exact List.pairwise_map.mpr ((ext_nodup hs).imp fun ne h => ne (List.cons.inj h).2)
      · intro a b ne y hy z hz e
        obtain ⟨y', _, rfl⟩ := List.mem_map.mp hy
        obtain ⟨z', _, rfl⟩ := List.mem_map.mp hz
        exact ne (congrArg Prod.snd (List.cons.inj e).1)
    · intro a ha b hb e
      subst e
      obtain ⟨f, _, h⟩ := List.mem_flatMap.mp ha
      obtain ⟨y, _, rfl⟩ := List.mem_map.mp h
      have := (((ext_mem hs).mp hb).2 (x, f) List.mem_cons_self).1
      exact Nat.lt_irrefl _ (hx x this)
theorem all_perm (u u' : Web) : (LLn u u' u.1.length).Perm (allL u u') := by
  refine (List.perm_ext_iff_of_nodup (LLn_nodup (Nat.le_refl _)) (ext_nodup List.pairwise_lt_range)).mpr fun l => ?_
  rw [LLn_mem (Nat.le_refl _)]
  rw [ext_mem List.pairwise_lt_range]
  unfold LeadOk
  simp only [List.mem_range]
theorem all_cnt (u u' : Web) (k : Nat) : ((LLn u u' u.1.length).filter fun l => decide (l.length = k)).length = cnt (allL u u') k := ((all_perm u u').filter _).length_eq
theorem grow_len (u u' : Web) (i : Nat) (l : Led) : (growL u u' i l).length ≤ u'.1.length + 1 := by
  unfold growL
  rw [List.length_cons]
  have := List.length_filterMap_le (putP u u' l i) (List.range u'.1.length)
  rw [List.length_range] at this
  omega
theorem flat_len {α β : Type} {f : α → List β} {c : Nat} (h : ∀ a, (f a).length ≤ c) : ∀ l : List α, (l.flatMap f).length ≤ l.length * c
  | [] => by simp
  | a :: l => by
    rw [List.flatMap_cons, List.length_append, List.length_cons, Nat.succ_mul]
    have := h a
    have := flat_len h l
    omega
theorem LLn_len (u u' : Web) : ∀ i, (LLn u u' i).length ≤ (u'.1.length + 1) ^ i
  | 0 => by simp [LLn]
  | i + 1 => by
    show ((LLn u u' i).flatMap (growL u u' i)).length ≤ _
    rw [Nat.pow_succ]
    exact Nat.le_trans (flat_len (grow_len u u' i) _) (Nat.mul_le_mul_right _ (LLn_len u u' i))
theorem lead_len {u u' : Web} {i : Nat} {l : Led} (h : LeadOk u u' i l) : l.length ≤ i := by
  have := nodup_len i (l.map Prod.fst) (List.pairwise_map.mpr (h.1.imp fun z => Nat.ne_of_lt z.1)) fun x hx => by
    obtain ⟨p, hp, rfl⟩ := List.mem_map.mp hx
    exact (h.2 p hp).1
  rwa [List.length_map] at this
theorem nil_mem (u u' : Web) : ∀ i, [] ∈ LLn u u' i
  | 0 => by simp [LLn]
  | i + 1 => List.mem_flatMap.mpr ⟨[], nil_mem u u' i, mem_grow.mpr (.inl rfl)⟩
theorem shaped_pairs (l : Led) : SeqAt.shaped (.list (l.map pairD)) = true := shaped_list (k := 1) (by decide) fun d hd => by
  obtain ⟨t, _, rfl⟩ := List.mem_map.mp hd
  exact pairD_lay t
theorem put_take (u u' : Web) (l : Led) (i e : Nat) : (List.range (e + 1)).filterMap (putP u u' l i) = (List.range e).filterMap (putP u u' l i) ++ (putP u u' l i e).toList := by
  rw [List.range_succ, List.filterMap_append]
  congr 1
theorem flat_take {α β : Type} {f : α → List β} {l : List α} {j : Nat} {x : α} (h : l[j]? = some x) : (l.take (j + 1)).flatMap f = (l.take j).flatMap f ++ f x := by
  rw [take_snoc' h, List.flatMap_append]
  simp
theorem eqv_lead (l : Led) : PyData.eqv (.list (l.map pairD)) (.list []) = decide (l = []) := by
  rw [eqv_nil]
  cases l <;> simp
/-- the greatest of all leads that lie -/
def GrL (u u' : Web) (k : Nat) : Prop := cnt (allL u u') k ≠ 0 ∧ ∀ j : Nat, k < j → cnt (allL u u') j = 0
theorem GrL.one {u u' : Web} {j k : Nat} (a : GrL u u' j) (b : GrL u u' k) : j = k := by
  rcases Nat.lt_trichotomy j k with c | c | c
  · exact (b.1 (a.2 k c)).elim
  · exact c
  · exact (a.1 (b.2 j c)).elim
theorem GrL.of {u u' : Web} {l : Led} (h : l ∈ LLn u u' u.1.length) (m : ∀ x ∈ LLn u u' u.1.length, x.length ≤ l.length) : GrL u u' l.length := by
  refine ⟨fun z => ?_, fun j hj => ?_⟩
  · rw [← all_cnt, List.length_eq_zero_iff, List.filter_eq_nil_iff] at z
    exact z l h (decide_eq_true rfl)
  · rw [← all_cnt, List.length_eq_zero_iff, List.filter_eq_nil_iff]
    intro x hx e
    have := of_decide_eq_true e
    have := m x hx
    omega
theorem alike_leads (ls : List Led) : PySem.W.AlikeAll (ls.map fun l => PyData.list (l.map pairD)) := by
  refine ⟨fun x hx y hy => ?_, fun x hx => ?_⟩
  · obtain ⟨a, _, rfl⟩ := List.mem_map.mp hx
    obtain ⟨b, _, rfl⟩ := List.mem_map.mp hy
    have go : ∀ a b : Led, PySem.W.alikeAll (a.map pairD) (b.map pairD) = true := fun a => by
      induction a with
      | nil => intro b; simp [PySem.W.alikeAll]
      | cons x a ih =>
        intro b
        cases b with
        | nil => simp [PySem.W.alikeAll]
        | cons y b => simp [PySem.W.alikeAll, PySem.W.alike, pairD, ih]
    simp only [PySem.W.alike]
    exact go a b
  · obtain ⟨a, _, rfl⟩ := List.mem_map.mp hx
    exact nofun
theorem depth_leads (ls : List Led) : PyData.depthAll (ls.map fun l => PyData.list (l.map pairD)) ≤ 60 := by
  have one : ∀ l : Led, PyData.depthAll (l.map pairD) ≤ 1 := fun l => by
    induction l with
    | nil => exact Nat.zero_le _
    | cons p l ih =>
      rw [List.map_cons, PyData.depthAll]
      have : (pairD p).depth = 1 := by simp [pairD, PyData.depth, PyData.depthAll]
      omega
  have go : PyData.depthAll (ls.map fun l => PyData.list (l.map pairD)) ≤ 2 := by
    induction ls with
    | nil => exact Nat.zero_le _
    | cons l ls ih =>
      rw [List.map_cons, PyData.depthAll]
      have := one l
      have : (PyData.list (l.map pairD)).depth ≤ 2 := by rw [PyData.depth]; omega
      omega
  omega
def rLenSq (K : PySem.W.Frag) : List V → Hp → VK → Prop := fun xs H Q => ∃ p ys, xs = [.ref p] ∧ (SqL K H p ys ∨ SqT K H p ys) ∧ Q (.int ys.length) H
theorem sql_ks {K : PySem.W.Frag} {H H' : Hp} {P a : Addr} {t : Array Value} {xs : List V} (k : KS (fun b => b = P) H H') (e : H P = some (.tbl t)) (h : SqL K H a xs) : SqL K H' a xs := by
  have st : ∀ b o, H b = some o → (∀ t, o ≠ .tbl t) → H' b = some o := fun b o z n => k b o (fun y => by rw [y, e] at z; cases z; exact n _ rfl) z
  rcases h with (h | ⟨o, h⟩) | r
  · exact .inl (.inl (st _ _ h fun _ => nofun))
  · exact .inl (.inr ⟨o, st _ _ h fun _ => nofun⟩)
  · exact .inr r
theorem sqt_ks {K : PySem.W.Frag} {H H' : Hp} {P a : Addr} {t : Array Value} {xs : List V} (k : KS (fun b => b = P) H H') (e : H P = some (.tbl t)) (h : SqT K H a xs) : SqT K H' a xs := by
  have st : ∀ b o, H b = some o → (∀ t, o ≠ .tbl t) → H' b = some o := fun b o z n => k b o (fun y => by rw [y, e] at z; cases z; exact n _ rfl) z
  rcases h with (h | ⟨o, h⟩) | r
  · exact .inl (.inl (st _ _ h fun _ => nofun))
  · exact .inl (.inr ⟨o, st _ _ h fun _ => nofun⟩)
  · exact .inr r
theorem web_ks {K : PySem.W.Frag} {H H' : Hp} {P : Addr} {t : Array Value} {v : V} {w : Web} (k : KS (fun b => b = P) H H') (e : H P = some (.tbl t)) (x : WebAt K H v w) : WebAt K H' v w := by
  obtain ⟨a, b, tvs, rfl, q1, q2, p⟩ := x
  refine ⟨a, b, tvs, rfl, sqt_ks k e q1, sqt_ks k e q2, Paired.imp p fun _ _ z => ?_⟩
  obtain ⟨c, rfl, q⟩ := z
  exact ⟨c, rfl, sqt_ks k e q⟩
theorem TabN.at {N : Addr → Prop} {H : Hp} {P : Addr} {q : Str} (x : TabN N H P q) : ∃ t, H P = some (.tbl t) := ⟨_, x.choose_spec.1⟩
theorem TabN.empty {N : Addr → Prop} {H : Hp} {P : Addr} {q : Str} (e : H P = some (.tbl #[])) : TabN N H P q := ⟨#[], e, by simp [TriplesOk], fun pos cv h => by simp [codeAmong] at h⟩
/-- a table stays where a list changes -/
theorem tabN_keep {N : Addr → Prop} {H H' : Hp} {P h : Addr} {q : Str} {ys : List V} (x : TabN N H P q) (k : Keep h H H') (e : H h = some (.lst ys)) : TabN N H' P q := by
  obtain ⟨ps, z, y1, y2⟩ := x
  refine ⟨ps, k _ _ (fun y => by rw [y, e] at z; cases z) z, y1, fun pos cv hc => ?_⟩
  obtain ⟨cc, e1, e3, e2⟩ := y2 pos cv hc
  exact ⟨cc, e1, e3, k _ _ (fun y => by rw [y, e] at e2; cases e2) e2⟩
theorem sz_of5 : (5 + 2) * Bd 5 5 ≤ sizeLine := by decide +kernel
theorem one_lead {u u' : Web} {k : Nat} (e : allL u u' = [[]]) (g : GrL u u' k) : cnt (allL u u') k = 1 := by
  have h0 : cnt (allL u u') 0 = 1 := by rw [e]; rfl
  have z : GrL u u' 0 := ⟨by rw [h0]; decide, fun j hj => by rw [e]; unfold cnt; simp; omega⟩
  rw [g.one z]; exact h0
end Cw

/-! the first lead of a length -/
namespace Cw
open PySem PySem.Spec PyProof.Rows L2
/-- the first of this length -/
def fstL (L : List Led) (k : Nat) : Option Led := L.find? fun l => decide (l.length = k)
theorem fst_none {L : List Led} {k : Nat} (h : cnt L k = 0) : fstL L k = none := by
  unfold cnt at h
  rw [List.length_eq_zero_iff, List.filter_eq_nil_iff] at h
  exact List.find?_eq_none.mpr h
theorem fst_some {L : List Led} {k : Nat} (h : cnt L k ≠ 0) : ∃ l, fstL L k = some l ∧ l ∈ L ∧ l.length = k := by
  cases e : fstL L k with
  | none =>
    exfalso
    apply h
    unfold cnt
    rw [List.length_eq_zero_iff, List.filter_eq_nil_iff]
    exact List.find?_eq_none.mp e
  | some l => exact ⟨l, rfl, List.mem_of_find?_eq_some e, of_decide_eq_true (List.find?_some (p := fun l : Led => decide (l.length = k)) e)⟩
theorem fst_app (A B : List Led) (k : Nat) : fstL (A ++ B) k = (fstL A k).or (fstL B k) := by unfold fstL; rw [List.find?_append]
theorem fst_pre (pre : Led) (L : List Led) (k : Nat) : fstL (L.map (pre ++ ·)) (pre.length + k) = (fstL L k).map (pre ++ ·) := by
  unfold fstL
  rw [List.find?_map]
  congr 2
  funext l
  simp only [Function.comp]
  rw [List.length_append]
  exact decide_eq_decide.mpr ⟨fun h => by omega, fun h => by omega⟩
theorem cnt_pre (pre : Led) (L : List Led) (k : Nat) : cnt (L.map (pre ++ ·)) (pre.length + k) = cnt L k := by
  unfold cnt
  rw [List.filter_map, List.length_map]
  congr 2
  funext l
  simp only [Function.comp]
  rw [List.length_append]
  exact decide_eq_decide.mpr ⟨fun h => by omega, fun h => by omega⟩
theorem cnt_pre_low (pre : Led) (L : List Led) {k : Nat} (h : k < pre.length) : cnt (L.map (pre ++ ·)) k = 0 := by
  unfold cnt
  rw [List.length_eq_zero_iff, List.filter_eq_nil_iff]
  intro x hx
  obtain ⟨l, _, rfl⟩ := List.mem_map.mp hx
  simp
  omega
/-- a row of the choices, and the leads that it stands for -/
def RowS (H : Hp) (u u' : Web) (s : Nat) (v : V) (seg : List Led) : Prop := ∃ r x st ds pre, v = .ref r ∧ H r = some (.tup [x, .int ((pre : Led).length : Nat), st]) ∧ StAt H st ds ∧ VC u.1.length u'.1.length ds ∧ szN ds < s ∧ seg = (extC u.1.length u'.1.length (fitM u u') ds).map (pre ++ ·) ∧
  ((x = .non ∧ pre = []) ∨ ∃ pr p e, x = .ref pr ∧ H pr = some (.tup [.int (p : Nat), .int (e : Nat)]) ∧ pre = [(p, e)])
theorem RowS.tups {H H' : Hp} {u u' : Web} {s : Nat} {v : V} {seg : List Led} (x : RowS H u u' s v seg) (t : Tups H H') : RowS H' u u' s v seg := by
  obtain ⟨r, y, st, ds, pre, e1, e2, e3, e4, e5, e6, e7⟩ := x
  refine ⟨r, y, st, ds, pre, e1, t _ _ e2, e3.tups t, e4, e5, e6, ?_⟩
  rcases e7 with z | ⟨pr, p, e, z1, z2, z3⟩
  · exact .inl z
  · exact .inr ⟨pr, p, e, z1, t _ _ z2, z3⟩
theorem ChoAt.segs {H : Hp} {u u' : Web} {cs : List Cl} {L : Addr} (x : ChoAt H u u' cs L) (v : VC u.1.length u'.1.length cs) : ∃ items segs, H L = some (.lst items) ∧ Paired (RowS H u u' (szN cs)) items segs ∧ extC u.1.length u'.1.length (fitM u u') cs = segs.flatten ∧ items.length ≤ u'.1.length + 1 := by
  obtain ⟨c, rows, last, M, eL, pr, r, st, os, rfl, er, so, O, lo⟩ := x
  have sp := ext_split (fit := fitM u u') v M (ds := []) (fun _ _ _ _ _ => trivial)
  rw [← O.ext v M] at sp
  refine ⟨_, _, eL, Paired.snoc (paired_map (g := fun e => (ext u'.1.length (fitM u u') ((List.range u.1.length).drop (lsb c.1 + 1)) fun y f => Rof cs y f && fitM u u' (lsb c.1, e) (y, f)).map ((lsb c.1, e) :: ·)) pr fun a e he z => ?_) (b := extC u.1.length u'.1.length (fitM u u') os) ⟨r, .non, st, os, [], rfl, er, so, O.vc, lo, (List.map_id _).symm, .inl ⟨rfl, rfl⟩⟩, ?_, ?_⟩
  · obtain ⟨r, pr, st, ds, rfl, e1, e2, e3, N, l⟩ := z
    exact ⟨r, .ref pr, st, ds, [(lsb c.1, e)], rfl, e1, e3, N.vc, l, by rw [N.ext v M]; rfl, .inr ⟨pr, lsb c.1, e, rfl, e2, rfl⟩⟩
  · rw [sp, List.flatten_append]
    rw [List.flatten_cons, List.flatten_nil, List.append_nil, List.flatMap_def]
  · rw [List.length_append, Paired.length pr]
    have := nodup_len u'.1.length (bitsL c.2) (bits_nodup _) fun e he => (v.low c M.mem).2 e (mem_bits.mp he)
    show _ + 1 ≤ _
    omega
/-- those that tell none are passed over -/
theorem fst_skip {segs : List (List Led)} {i k : Nat} (h : ∀ s ∈ segs.take i, cnt s k = 0) : fstL segs.flatten k = fstL (segs.drop i).flatten k := by
  conv => lhs; rw [← List.take_append_drop i segs, List.flatten_append, fst_app]
  have : fstL (segs.take i).flatten k = none := by
    unfold fstL
    rw [List.find?_eq_none]
    intro l hl
    obtain ⟨s, hs, hls⟩ := List.mem_flatten.mp hl
    have := h s hs
    unfold cnt at this
    rw [List.length_eq_zero_iff, List.filter_eq_nil_iff] at this
    exact this l hls
  rw [this, Option.none_or]
theorem fst_hit {segs : List (List Led)} {i k : Nat} {s : List Led} (h : ∀ s ∈ segs.take i, cnt s k = 0) (hs : segs[i]? = some s) (hk : cnt s k ≠ 0) : fstL segs.flatten k = fstL s k := by
  rw [fst_skip h]
  obtain ⟨hi, rfl⟩ := List.getElem?_eq_some_iff.mp hs
  rw [List.drop_eq_getElem_cons hi, List.flatten_cons, fst_app]
  obtain ⟨l, e, _⟩ := fst_some hk
  rw [e, Option.some_or]
theorem cnt_none {segs : List (List Led)} {k : Nat} (h : ∀ s ∈ segs, cnt s k = 0) : cnt segs.flatten k = 0 := by
  unfold cnt
  rw [List.length_eq_zero_iff, List.filter_eq_nil_iff]
  intro l hl
  obtain ⟨s, hs, hls⟩ := List.mem_flatten.mp hl
  have := h s hs
  unfold cnt at this
  rw [List.length_eq_zero_iff, List.filter_eq_nil_iff] at this
  exact this l hls
end Cw

/-! min of a list of told data: which -/
namespace Cw
open PySem PySem.Spec PyProof.Rows L2
def rMinI (K : PySem.W.Frag) : List V → Hp → VK → Prop := fun vs H Q => ∃ (a : Addr) (xs : List V) (d : PyData) (ds : List PyData), vs = [V.ref a] ∧ SqL K H a xs ∧ DpAll K H xs (d :: ds) ∧ PySem.W.AlikeAll (d :: ds) ∧ PyData.depthAll (d :: ds) ≤ 60 ∧ ∀ (i : Nat) (v : V), xs[i]? = some v → (d :: ds)[i]? = some (PySem.W.minD d ds) → Q v H
theorem vals_at_ix {xs : List V} {us : List Value} (r : Vals xs us) {i : Nat} {u : Value} (h : us[i]? = some u) : ∃ x, xs[i]? = some x ∧ RelV x u := by
  induction r generalizing i with
  | nil => simp at h
  | cons a b ih =>
    cases i with
    | zero => simp at h; subst h; exact ⟨_, rfl, a⟩
    | succ i =>
      obtain ⟨x, hx, e⟩ := ih (by simpa using h)
      exact ⟨x, by simpa using hx, e⟩
theorem cr_minI {X : Cx} (hc : X.calm = true) (hu : X.A.units + 65 < cLine) : CallR X (.builtin "min") (rMinI X.K) := by
  intro pins s σ H vs us Q I r h
  obtain ⟨a, xs, d, ds, rfl, hs, hd, hal, hdep, q⟩ := h
  obtain ⟨its, rv, hl, hz⟩ := I.list hs
  obtain ⟨u, rfl, ru⟩ := vals1 r
  obtain rfl : u = Value.ref a := ru
  obtain ⟨as, hr⟩ := Dp.readsAll I (d :: ds) xs its hd rv
  refine PySem.W.min_list_data (vs := its.toArray) (I.ok.hd hc) hl.isList hr hal (by omega) fun i v h' tk bs hv hm keep => ?_
  obtain ⟨x, hx, rx⟩ := vals_at_ix rv (u := v) (i := i) (by simpa using hv)
  obtain ⟨d', hd', dp⟩ := dpa_at i hd hx
  obtain ⟨as', r1⟩ := Dp.reads I d' x v dp rx
  have e : d' = PySem.W.minD d ds := (reads_det (fun b o e _ => keep b o e) r1 hm).1.symm
  exact ⟨x, H, I.kept keep, rx, q i x hx (by rw [← e]; exact hd')⟩
end Cw

/-! leads of one length, in order: the first is the least -/
namespace Cw
open PySem PySem.Spec PyProof.Rows L2
/-- ahead, as lists are -/
def ltL (a b : Led) : Bool := PySem.W.dataLt (.list (a.map pairD)) (.list (b.map pairD))
theorem pairD_eqv (p q : Nat × Nat) : PyData.eqv (pairD p) (pairD q) = decide (p = q) := by
  unfold pairD
  simp only [PyData.eqv, PyData.eqvAll, Bool.and_true]
  rw [Bool.eq_iff_iff, Bool.and_eq_true, decide_eq_true_eq]
  constructor
  · rintro ⟨h1, h2⟩
    have h1 : (p.1 : Int) = q.1 := by simpa using h1
    have h2 : (p.2 : Int) = q.2 := by simpa using h2
    exact Prod.ext (by omega) (by omega)
  · rintro rfl; simp
theorem pairD_alike (p q : Nat × Nat) : PySem.W.alike (pairD p) (pairD q) = true := by
  unfold pairD
  simp [PySem.W.alike, PySem.W.alikeAll]
theorem pairD_lt (p q : Nat × Nat) : PySem.W.dataLt (pairD p) (pairD q) = decide (p.1 < q.1 ∨ (p.1 = q.1 ∧ p.2 < q.2)) := by
  unfold pairD
  rw [PySem.W.dataLt_ii]
  exact decide_eq_decide.mpr ⟨fun h => by omega, fun h => by omega⟩
theorem ltL_cons (p q : Nat × Nat) (a b : Led) : ltL (p :: a) (q :: b) = if p = q then ltL a b else decide (p.1 < q.1 ∨ (p.1 = q.1 ∧ p.2 < q.2)) := by
  unfold ltL
  rw [PySem.W.dataLt_list, List.map_cons, List.map_cons, PySem.W.dataLt_cons (pairD_alike p q), pairD_eqv, pairD_lt, PySem.W.dataLt_list]
  by_cases e : p = q
  · rw [if_pos e, if_pos (decide_eq_true e)]
  · rw [if_neg e, if_neg (by simpa using e)]
theorem ltL_asym : ∀ (a b : Led), a.length = b.length → ltL a b = true → ltL b a = false
  | [], [], _, _ => by
    unfold ltL
    rw [PySem.W.dataLt_list]
    first | rfl | decide | simp [PySem.W.keyToksAll, PyProof.Rows.lexLt]
  | [], _ :: _, h, _ => by cases h
  | _ :: _, [], h, _ => by cases h
  | p :: a, q :: b, h, lt => by
    rw [ltL_cons] at lt ⊢
    by_cases e : p = q
    · rw [if_pos e] at lt
      rw [if_pos e.symm]
      exact ltL_asym a b (by simpa using h) lt
    · rw [if_neg e] at lt
      rw [if_neg (Ne.symm e)]
      have := of_decide_eq_true lt
      exact decide_eq_false (by omega)
theorem ltL_irr : ∀ a : Led, ltL a a = false
  | [] => by
    have : ltL [] [] = true ∨ ltL [] [] = false := by cases ltL [] [] <;> simp
    rcases this with h | h
    · exact ltL_asym [] [] rfl h
    · exact h
  | p :: a => by rw [ltL_cons, if_pos rfl]; exact ltL_irr a
/-- of one length, one is ahead -/
def Rl (a b : Led) : Prop := a.length = b.length → ltL a b = true
theorem ext_rise {m : Nat} {fit : Nat × Nat → Nat × Nat → Bool} : ∀ {xs : List Nat} {R : Nat → Nat → Bool}, xs.Pairwise (· < ·) → (ext m fit xs R).Pairwise Rl
  | [], R, _ => by simp [ext]
  | x :: xs, R, h => by
    have hx := (List.pairwise_cons.mp h).1
    have hs := (List.pairwise_cons.mp h).2
    unfold ext
    refine List.pairwise_append.mpr ⟨?_, ext_rise hs, ?_⟩
    · rw [List.pairwise_flatMap]
      refine ⟨fun e _ => ?_, List.Pairwise.imp ?_ (List.Pairwise.filter _ (List.pairwise_lt_range (n := m)))⟩
      · refine List.pairwise_map.mpr ((ext_rise hs).imp fun {a b} r l => ?_)
        rw [ltL_cons, if_pos rfl]
        exact r (by simpa using l)
      · intro a b lt y hy z hz l
        obtain ⟨y', _, rfl⟩ := List.mem_map.mp hy
        obtain ⟨z', _, rfl⟩ := List.mem_map.mp hz
        rw [ltL_cons, if_neg (fun e => Nat.ne_of_lt lt (congrArg Prod.snd e))]
        exact decide_eq_true (.inr ⟨rfl, lt⟩)
    · intro a ha b hb l
      obtain ⟨f, _, h⟩ := List.mem_flatMap.mp ha
      obtain ⟨y, _, rfl⟩ := List.mem_map.mp h
      cases b with
      | nil => cases l
      | cons q b =>
        have hq := hx _ (((ext_mem hs).mp hb).2 q List.mem_cons_self).1
        rw [ltL_cons, if_neg (fun e => Nat.ne_of_lt hq (congrArg Prod.fst e))]
        exact decide_eq_true (.inl hq)
def leadD (l : Led) : PyData := .list (l.map pairD)
/-- the least is found -/
theorem min_found {m : Led} : ∀ (ls : List Led) (a : Led), (a = m ∨ m ∈ ls) → (∀ y ∈ a :: ls, y = m ∨ (ltL m y = true ∧ ltL y m = false)) → PySem.W.minD (leadD a) (ls.map leadD) = leadD m
  | [], a, h, _ => by
    rcases h with rfl | h
    · rfl
    · cases h
  | y :: ls, a, h, al => by
    show PySem.W.minD (if PySem.W.dataLt (leadD y) (leadD a) then leadD y else leadD a) (ls.map leadD) = leadD m
    have hy := al y (List.mem_cons_of_mem _ List.mem_cons_self)
    have ha := al a List.mem_cons_self
    have rest : ∀ z ∈ ls, z = m ∨ (ltL m z = true ∧ ltL z m = false) := fun z hz => al z (List.mem_cons_of_mem _ (List.mem_cons_of_mem _ hz))
    by_cases c : PySem.W.dataLt (leadD y) (leadD a) = true
    · rw [if_pos c]
      refine min_found ls y ?_ fun z hz => ?_
      · rcases h with rfl | h
        · rcases hy with e | ⟨_, e⟩
          · exact .inl e
          · exact absurd (show ltL y a = true from c) (by rw [e]; decide)
        · rcases List.mem_cons.mp h with e | h
          · exact .inl e.symm
          · exact .inr h
      · rcases List.mem_cons.mp hz with rfl | hz
        · exact hy
        · exact rest z hz
    · rw [if_neg c]
      refine min_found ls a ?_ fun z hz => ?_
      · rcases h with e | h
        · exact .inl e
        · rcases List.mem_cons.mp h with e | h
          · rcases ha with e2 | ⟨e2, _⟩
            · exact .inl e2
            · rw [e] at e2
              exact absurd (show PySem.W.dataLt (leadD y) (leadD a) = true from e2) c
          · exact .inr h
      · rcases List.mem_cons.mp hz with rfl | hz
        · exact ha
        · exact rest z hz
/-- the first of this length is the least of this length -/
theorem fst_least {u u' : Web} {k : Nat} {m : Led} (h : fstL (allL u u') k = some m) : ∀ y ∈ (LLn u u' u.1.length).filter (fun l => decide (l.length = k)), y = m ∨ (ltL m y = true ∧ ltL y m = false) := fun y hy => by
  have hy2 := (((all_perm u u').filter fun l => decide (l.length = k)).mem_iff).mp hy
  have pw : ((allL u u').filter fun l => decide (l.length = k)).Pairwise Rl := List.Pairwise.filter _ (ext_rise List.pairwise_lt_range)
  have hd : ((allL u u').filter fun l => decide (l.length = k)).head? = some m := by rw [List.head?_filter]; exact h
  cases e : (allL u u').filter fun l => decide (l.length = k) with
  | nil => rw [e] at hd; cases hd
  | cons a as =>
    rw [e] at hd pw hy2
    obtain rfl : a = m := Option.some.inj hd
    rcases List.mem_cons.mp hy2 with rfl | hm
    · exact .inl rfl
    · have la : a.length = k := by
        have : a ∈ (allL u u').filter fun l => decide (l.length = k) := by rw [e]; exact List.mem_cons_self
        exact of_decide_eq_true (List.mem_filter.mp this).2
      have ly : y.length = k := by
        have : y ∈ (allL u u').filter fun l => decide (l.length = k) := by rw [e]; exact List.mem_cons_of_mem _ hm
        exact of_decide_eq_true (List.mem_filter.mp this).2
      have lt := (List.pairwise_cons.mp pw).1 y hm (by rw [la, ly])
      exact .inr ⟨lt, ltL_asym _ _ (by rw [la, ly]) lt⟩
theorem fst_in {u u' : Web} {k : Nat} {m : Led} (h : fstL (allL u u') k = some m) : m ∈ (LLn u u' u.1.length).filter (fun l => decide (l.length = k)) := by
  refine (((all_perm u u').filter fun l => decide (l.length = k)).mem_iff).mpr (List.mem_filter.mpr ⟨List.mem_of_find?_eq_some h, ?_⟩)
  exact List.find?_some (p := fun l : Led => decide (l.length = k)) h
end Cw

/-! leads that lie, the other way about, of webs named anew, of a web into itself; drawn leads -/
namespace Cw
open PySem PySem.Spec PyProof.Rows L2
theorem lead_pairs {u u' : Web} {i : Nat} {l : Led} (h : LeadOk u u' i l) : ∀ p ∈ l, p ∈ pairsL u u' := fun p hp => by
  obtain ⟨a, b, c⟩ := h.2 p hp
  unfold knR at c
  simp only [Bool.and_eq_true, decide_eq_true_eq] at c
  exact mem_pairsL.mpr ⟨c.1.1, b, c.2⟩
theorem lead_ofp {u u' : Web} {l : Led} (pw : l.Pairwise (fun a b => a.1 < b.1 ∧ fitM u u' a b = true)) (h : ∀ p ∈ l, p ∈ pairsL u u') : LeadOk u u' u.1.length l := ⟨pw, fun p hp => by
  obtain ⟨a, b, c⟩ := mem_pairsL.mp (h p hp)
  refine ⟨a, b, ?_⟩
  unfold knR
  simp only [Bool.and_eq_true, decide_eq_true_eq]
  exact ⟨⟨a, b⟩, c⟩⟩
theorem lead_rise {u u' : Web} {i : Nat} {l : Led} (h : LeadOk u u' i l) : l.Pairwise plt := h.1.imp fun z => .inl z.1
theorem fitM_back {u u' : Web} {a b : Nat × Nat} (h : fitM u u' a b = true) : fitM u u' b a = true := by
  obtain ⟨x, y, z⟩ := fitM_iff.mp h
  exact fitM_iff.mpr ⟨Ne.symm x, Ne.symm y, by rw [tieL_swap u.2 b.1 a.1, tieL_swap u'.2 b.2 a.2]; exact z⟩
theorem pw_two {α : Type} {R : α → α → Prop} (S : ∀ a b, R a b → R b a) : ∀ {l : List α}, l.Pairwise R → ∀ p ∈ l, ∀ q ∈ l, p ≠ q → R p q
  | [], _, p, hp, _, _, _ => nomatch hp
  | a :: l, h, p, hp, q, hq, n => by
    have h1 := List.pairwise_cons.mp h
    rcases List.mem_cons.mp hp with e | hp2
    · rcases List.mem_cons.mp hq with e2 | hq2
      · exact (n (e.trans e2.symm)).elim
      · rw [e]; exact h1.1 q hq2
    · rcases List.mem_cons.mp hq with e2 | hq2
      · rw [e2]; exact S _ _ (h1.1 p hp2)
      · exact pw_two S h1.2 p hp2 q hq2 n
theorem lead_fit {u u' : Web} {i : Nat} {l : Led} (h : LeadOk u u' i l) : ∀ p ∈ l, ∀ q ∈ l, p ≠ q → fitM u u' p q = true := pw_two (fun _ _ => fitM_back) (h.1.imp fun z => z.2)
theorem sub_many {α : Type} [DecidableEq α] : ∀ (ks ns : List α), ks.Nodup → (∀ k ∈ ks, k ∈ ns) → ks.length ≤ ns.length
  | [], _, _, _ => Nat.zero_le _
  | k :: r, ns, nd, sub => by
    have hk := sub k List.mem_cons_self
    have h1 := sub_many r (ns.erase k) (List.nodup_cons.mp nd).2 fun x hx => (List.mem_erase_of_ne fun (z : x = k) => (List.nodup_cons.mp nd).1 (z ▸ hx)).mpr (sub x (List.mem_cons_of_mem _ hx))
    rw [List.length_erase_of_mem hk] at h1
    have := List.length_pos_of_mem hk
    rw [List.length_cons]
    omega
/-- pairs moved to pairs, that fit where they fitted -/
structure Mov (u u' t t' : Web) (f : Nat × Nat → Nat × Nat) : Prop where
  to : ∀ p ∈ pairsL u u', f p ∈ pairsL t t'
  inj : ∀ p ∈ pairsL u u', ∀ q ∈ pairsL u u', f p = f q → p = q
  fit : ∀ p ∈ pairsL u u', ∀ q ∈ pairsL u u', fitM u u' p q = true → fitM t t' (f p) (f q) = true
def moveL (t t' : Web) (f : Nat × Nat → Nat × Nat) (l : Led) : Led := (pairsL t t').filter fun q => decide (q ∈ l.map f)
theorem plt_ne {a b : Nat × Nat} (h : plt a b) : a ≠ b := fun e => by
  subst e
  unfold plt at h
  omega
theorem plt_nodup {l : Led} (h : l.Pairwise plt) : l.Nodup := h.imp plt_ne
theorem mem_move {u u' t t' : Web} {f : Nat × Nat → Nat × Nat} (M : Mov u u' t t' f) {i : Nat} {l : Led} (h : LeadOk u u' i l) {q : Nat × Nat} : q ∈ moveL t t' f l ↔ q ∈ l.map f := by
  unfold moveL
  rw [List.mem_filter, decide_eq_true_eq]
  refine ⟨fun h => h.2, fun z => ⟨?_, z⟩⟩
  obtain ⟨p, hp, rfl⟩ := List.mem_map.mp z
  exact M.to p (lead_pairs h p hp)
theorem move_rise (t t' : Web) (f : Nat × Nat → Nat × Nat) (l : Led) : (moveL t t' f l).Pairwise plt := List.Pairwise.filter _ (pairsL_rise t t')
theorem move_ok {u u' t t' : Web} {f : Nat × Nat → Nat × Nat} (M : Mov u u' t t' f) {i : Nat} {l : Led} (h : LeadOk u u' i l) : LeadOk t t' t.1.length (moveL t t' f l) := by
  refine lead_ofp (List.Pairwise.imp_of_mem (fun {a b} ha hb lt => ?_) (move_rise t t' f l)) fun p hp => (List.mem_filter.mp hp).1
  obtain ⟨p, hp, rfl⟩ := List.mem_map.mp ((mem_move M h).mp ha)
  obtain ⟨q, hq, rfl⟩ := List.mem_map.mp ((mem_move M h).mp hb)
  have ne : p ≠ q := fun e => plt_ne lt (by rw [e])
  have fm := M.fit p (lead_pairs h p hp) q (lead_pairs h q hq) (lead_fit h p hp q hq ne)
  have n1 := (fitM_iff.mp fm).1
  refine ⟨?_, fm⟩
  rcases lt with c | c
  · exact c
  · exact (n1 c.1).elim
theorem move_len {u u' t t' : Web} {f : Nat × Nat → Nat × Nat} (M : Mov u u' t t' f) {i : Nat} {l : Led} (h : LeadOk u u' i l) : (moveL t t' f l).length = l.length := by
  have nd : (l.map f).Nodup := map_nodup (lead_rise h) fun x hx y hy e => M.inj x (lead_pairs h x hx) y (lead_pairs h y hy) e
  have := ((List.perm_ext_iff_of_nodup (plt_nodup (move_rise t t' f l)) nd).mpr fun q => mem_move M h).length_eq
  rw [this, List.length_map]
theorem move_inj {u u' t t' : Web} {f : Nat × Nat → Nat × Nat} (M : Mov u u' t t' f) {i : Nat} {l m : Led} (h : LeadOk u u' i l) (g : LeadOk u u' i m) (e : moveL t t' f l = moveL t t' f m) : l = m := by
  have one : ∀ {l m : Led}, LeadOk u u' i l → LeadOk u u' i m → moveL t t' f l = moveL t t' f m → ∀ p ∈ l, p ∈ m := fun {l m} h g e p hp => by
    have h1 := (mem_move M h).mpr (List.mem_map.mpr ⟨p, hp, rfl⟩)
    rw [e] at h1
    obtain ⟨q, hq, z⟩ := List.mem_map.mp ((mem_move M g).mp h1)
    have := M.inj q (lead_pairs g q hq) p (lead_pairs h p hp) z
    rwa [← this]
  exact plt_ext (lead_rise h) (lead_rise g) fun x => ⟨one h g e x, one g h e.symm x⟩
theorem cnt_le {u u' t t' : Web} {f : Nat × Nat → Nat × Nat} (M : Mov u u' t t' f) (k : Nat) : cnt (allL u u') k ≤ cnt (allL t t') k := by
  rw [← all_cnt, ← all_cnt]
  have ok : ∀ l ∈ (LLn u u' u.1.length).filter (fun l => decide (l.length = k)), LeadOk u u' u.1.length l ∧ l.length = k := fun l hl => by
    obtain ⟨a, b⟩ := List.mem_filter.mp hl
    exact ⟨(LLn_mem (Nat.le_refl _)).mp a, of_decide_eq_true b⟩
  have nd : (((LLn u u' u.1.length).filter (fun l => decide (l.length = k))).map (moveL t t' f)).Nodup := by
    unfold List.Nodup
    rw [List.pairwise_map]
    exact List.Pairwise.imp_of_mem (fun {a b} ha hb ne e => ne (move_inj M (ok a ha).1 (ok b hb).1 e)) (List.Pairwise.filter _ (LLn_nodup (Nat.le_refl _)))
  have := sub_many _ ((LLn t t' t.1.length).filter (fun l => decide (l.length = k))) nd fun x hx => by
    obtain ⟨l, hl, rfl⟩ := List.mem_map.mp hx
    obtain ⟨a, b⟩ := ok l hl
    exact List.mem_filter.mpr ⟨(LLn_mem (Nat.le_refl _)).mpr (move_ok M a), decide_eq_true (by rw [move_len M a]; exact b)⟩
  rwa [List.length_map] at this
theorem cnt_eq {u u' t t' : Web} {f : Nat × Nat → Nat × Nat} (M : Mov u u' t t' f) (on : ∀ q ∈ pairsL t t', ∃ p, p ∈ pairsL u u' ∧ f p = q) (bk : ∀ p ∈ pairsL u u', ∀ q ∈ pairsL u u', fitM t t' (f p) (f q) = true → fitM u u' p q = true) (k : Nat) : cnt (allL u u') k = cnt (allL t t') k := by
  refine Nat.le_antisymm (cnt_le M k) ?_
  have ⟨g, hg⟩ : ∃ g : Nat × Nat → Nat × Nat, ∀ q, q ∈ pairsL t t' → g q ∈ pairsL u u' ∧ f (g q) = q := by
    refine Classical.axiomOfChoice (r := fun q p => q ∈ pairsL t t' → p ∈ pairsL u u' ∧ f p = q) fun q => ?_
    by_cases c : q ∈ pairsL t t'
    · obtain ⟨p, hp⟩ := on q c
      exact ⟨p, fun _ => hp⟩
    · exact ⟨q, fun z => (c z).elim⟩
  exact cnt_le (f := g) ⟨fun q h => (hg q h).1, fun p hp q hq e => by rw [← (hg p hp).2, e, (hg q hq).2], fun p hp q hq z => bk _ (hg p hp).1 _ (hg q hq).1 (by rw [(hg p hp).2, (hg q hq).2]; exact z)⟩ k
theorem GrL.eq {u u' t t' : Web} {k : Nat} (e : ∀ k, cnt (allL u u') k = cnt (allL t t') k) (g : GrL u u' k) : GrL t t' k := ⟨by rw [← e]; exact g.1, fun j h => by rw [← e]; exact g.2 j h⟩
/-- the other way about -/
theorem cnt_swap (u u' : Web) (k : Nat) : cnt (allL u u') k = cnt (allL u' u) k := by
  have mem : ∀ {u u' : Web} {p : Nat × Nat}, p ∈ pairsL u u' → (p.2, p.1) ∈ pairsL u' u := fun h => by
    obtain ⟨a, b, c⟩ := mem_pairsL.mp h
    exact mem_pairsL.mpr ⟨b, a, c.symm⟩
  have fit : ∀ {u u' : Web} {p q : Nat × Nat}, fitM u u' p q = true → fitM u' u (p.2, p.1) (q.2, q.1) = true := fun h => by
    obtain ⟨a, b, c⟩ := fitM_iff.mp h
    exact fitM_iff.mpr ⟨b, a, c.symm⟩
  refine cnt_eq (f := fun p => (p.2, p.1)) ⟨fun p hp => mem hp, fun p _ q _ e => Prod.ext (congrArg Prod.snd e) (congrArg Prod.fst e), fun p _ q _ z => fit z⟩ (fun q hq => ⟨(q.2, q.1), mem hq, rfl⟩) (fun p _ q _ z => ?_) k
  have := fit z
  exact this
/-- of a web named anew -/
theorem cnt_named {u u' t : Web} {qs : List Nat} (U : WOk u) (T : WOk t) (o : Ord qs u.1.length) (N : Named u qs t) (k : Nat) : cnt (allL u u') k = cnt (allL t u') k := by
  refine cnt_eq (f := fun p => (qa qs p.1, p.2)) ⟨fun p hp => ?_, fun p hp q hq e => ?_, fun p hp q hq z => ?_⟩ (fun q hq => ?_) (fun p hp q hq z => ?_) k
  · obtain ⟨a, b, c⟩ := mem_pairsL.mp hp
    exact mem_pairsL.mpr ⟨by rw [N.len]; exact o.lt' a, b, by rw [← c]; exact N.kinds _ a⟩
  · have e2 : (qa qs p.1, p.2) = (qa qs q.1, q.2) := e
    injection e2 with e3 e4
    exact Prod.ext (o.inj (mem_pairsL.mp hp).1 (mem_pairsL.mp hq).1 e3) e4
  · obtain ⟨a, b, c⟩ := fitM_iff.mp z
    have hp := (mem_pairsL.mp hp).1
    have hq := (mem_pairsL.mp hq).1
    exact fitM_iff.mpr ⟨fun e => a (o.inj hp hq e), b, by rw [tieL_named U T o N hp hq]; exact c⟩
  · obtain ⟨a, b, c⟩ := mem_pairsL.mp hq
    rw [N.len] at a
    obtain ⟨i, hi, e⟩ := o.onto a
    refine ⟨(i, q.2), mem_pairsL.mpr ⟨hi, b, ?_⟩, Prod.ext e rfl⟩
    rw [← c, ← e]
    exact (N.kinds i hi).symm
  · obtain ⟨a, b, c⟩ := fitM_iff.mp z
    have hp := (mem_pairsL.mp hp).1
    have hq := (mem_pairsL.mp hq).1
    rw [tieL_named U T o N hp hq] at c
    exact fitM_iff.mpr ⟨fun e => a (by show qa qs _ = qa qs _; rw [e]), b, c⟩
/-- each place into itself -/
def ownL (n : Nat) : Led := (List.range n).map fun p => (p, p)
theorem own_lead (u : Web) : LeadOk u u u.1.length (ownL u.1.length) := by
  refine lead_ofp ?_ fun p hp => ?_
  · unfold ownL
    rw [List.pairwise_map]
    exact List.pairwise_lt_range.imp fun {a b} lt => ⟨lt, fitM_iff.mpr ⟨Nat.ne_of_lt lt, Nat.ne_of_lt lt, rfl⟩⟩
  · obtain ⟨i, hi, rfl⟩ := List.mem_map.mp hp
    have hi := List.mem_range.mp hi
    exact mem_pairsL.mpr ⟨hi, hi, rfl⟩
theorem own_len (n : Nat) : (ownL n).length = n := by unfold ownL; rw [List.length_map, List.length_range]
theorem own_great (u : Web) : GrL u u u.1.length := by
  have := GrL.of ((LLn_mem (Nat.le_refl _)).mpr (own_lead u)) fun x hx => by
    rw [own_len]
    exact lead_len ((LLn_mem (Nat.le_refl _)).mp hx)
  rwa [own_len] at this
theorem own_least : ∀ (a : Led) (s : Nat), (∀ p ∈ a, s ≤ p.1) → (a.Pairwise fun x y => x.1 < y.1 ∧ x.2 ≠ y.2) → (∀ p ∈ a, ∀ j, j < s → p.2 ≠ j) → ltL a ((List.range' s a.length).map fun p => (p, p)) = false
  | [], s, _, _, _ => ltL_irr []
  | p :: a, s, lo, pw, no => by
    rw [List.length_cons, List.range'_succ, List.map_cons, ltL_cons]
    have h1 := List.pairwise_cons.mp pw
    have lp := lo p List.mem_cons_self
    by_cases e : p = (s, s)
    · rw [if_pos e]
      refine own_least a (s + 1) (fun q hq => ?_) h1.2 fun q hq j hj => ?_
      · have := (h1.1 q hq).1
        omega
      · by_cases c : j < s
        · exact no q (List.mem_cons_of_mem _ hq) j c
        · have c : j = s := by omega
          subst c
          have := (h1.1 q hq).2
          rw [e] at this
          exact Ne.symm this
    · rw [if_neg e]
      refine decide_eq_false fun z => ?_
      rcases z with z | ⟨z1, z2⟩
      · exact absurd z (by show ¬ p.1 < s; omega)
      · exact no p List.mem_cons_self p.2 z2 rfl
theorem first_ok {u u' : Web} {k : Nat} {m : Led} (h : fstL (allL u u') k = some m) : LeadOk u u' u.1.length m ∧ m.length = k := by
  obtain ⟨a, b⟩ := List.mem_filter.mp (fst_in h)
  exact ⟨(LLn_mem (Nat.le_refl _)).mp a, of_decide_eq_true b⟩
theorem own_first {u : Web} {m : Led} (h : fstL (allL u u) u.1.length = some m) : m = ownL u.1.length := by
  obtain ⟨ok, len⟩ := first_ok h
  rcases fst_least h _ (List.mem_filter.mpr ⟨(LLn_mem (Nat.le_refl _)).mpr (own_lead u), decide_eq_true (own_len _)⟩) with e | ⟨lt, _⟩
  · exact e.symm
  · have := own_least m 0 (fun _ _ => Nat.zero_le _) (ok.1.imp fun z => ⟨z.1, (fitM_iff.mp z.2).2.1⟩) fun _ _ j hj => absurd hj (Nat.not_lt_zero j)
    rw [len, ← List.range_eq_range'] at this
    have : ltL m (ownL u.1.length) = false := this
    rw [lt] at this
    cases this
/-- drawn pairs that fit are a lead -/
theorem drawn_lead {u u' : Web} {l : Led} (rise : l.Pairwise plt) (h : ∀ p ∈ l, p ∈ pairsL u u') (f : ∀ p ∈ l, ∀ q ∈ l, p ≠ q → fitM u u' p q = true) : LeadOk u u' u.1.length l := by
  refine lead_ofp (List.Pairwise.imp_of_mem (fun {a b} ha hb lt => ?_) rise) h
  have fm := f a ha b hb (plt_ne lt)
  refine ⟨?_, fm⟩
  rcases lt with c | c
  · exact c
  · exact ((fitM_iff.mp fm).1 c.1).elim
theorem lead_most {u u' : Web} {k : Nat} {l : Led} (g : GrL u u' k) (h : LeadOk u u' u.1.length l) : l.length ≤ k := by
  by_cases c : k < l.length
  · have z := g.2 _ c
    rw [← all_cnt, List.length_eq_zero_iff, List.filter_eq_nil_iff] at z
    exact (z l ((LLn_mem (Nat.le_refl _)).mpr h) (decide_eq_true rfl)).elim
  · omega
theorem lead_least {u u' : Web} {k : Nat} {l m : Led} (f : fstL (allL u u') k = some m) (h : LeadOk u u' u.1.length l) (e : l.length = k) : ltL l m = false := by
  rcases fst_least f l (List.mem_filter.mpr ⟨(LLn_mem (Nat.le_refl _)).mpr h, decide_eq_true e⟩) with z | z
  · rw [z]; exact ltL_irr m
  · exact z.2
end Cw

/-! planted webs: bare, whole, rows, rings, stars, of one kind and one kind of tie -/
namespace Cw
open PySem PySem.Spec PyProof.Rows L2
structure PlW (c d n : Nat) (f : Nat → Nat → Bool) (w : Web) : Prop where
  ok : WOk w
  kinds : w.1 = List.replicate n c
  ties : ∀ a b e, (a, b, e) ∈ w.2 ↔ (a < b ∧ b < n ∧ e = d ∧ f a b = true)
def adjB (f : Nat → Nat → Bool) (a b : Nat) : Bool := f (min a b) (max a b)
def fitF (f g : Nat → Nat → Bool) (a b : Nat × Nat) : Bool := (a.1 != b.1) && ((a.2 != b.2) && (adjB f a.1 b.1 == adjB g a.2 b.2))
section
variable {c d n m : Nat} {f g : Nat → Nat → Bool} {w w' : Web}
theorem PlW.len (X : PlW c d n f w) : w.1.length = n := by rw [X.kinds, List.length_replicate]
theorem PlW.tie (X : PlW c d n f w) {a b : Nat} (ha : a < n) (hb : b < n) (ne : a ≠ b) : tieL w.2 a b = if adjB f a b = true then some d else none := by
  refine Option.ext fun e => ?_
  rw [tieL_mem X.ok, X.ties]
  unfold adjB
  by_cases h : f (min a b) (max a b) = true
  · rw [if_pos h]
    constructor
    · rintro ⟨_, _, rfl, _⟩; rfl
    · intro z
      exact ⟨by omega, by omega, (Option.some.inj z).symm, h⟩
  · rw [if_neg h]
    exact ⟨fun z => (h z.2.2.2).elim, fun z => by cases z⟩
theorem PlW.fit (X : PlW c d n f w) (Y : PlW c d m g w') {a b : Nat × Nat} (ha : a.1 < n) (hb : b.1 < n) (ha' : a.2 < m) (hb' : b.2 < m) : fitM w w' a b = fitF f g a b := by
  unfold fitM fitF
  by_cases h1 : a.1 = b.1
  · simp [h1]
  · by_cases h2 : a.2 = b.2
    · simp [h2]
    · rw [X.tie ha hb h1, Y.tie ha' hb' h2]
      cases adjB f a.1 b.1 <;> cases adjB g a.2 b.2 <;> simp [h1, h2]
theorem PlW.kn (X : PlW c d n f w) (Y : PlW c d m g w') {x e : Nat} (hx : x < n) (he : e < m) : knR w w' x e = true := by
  unfold knR
  rw [X.len, Y.len, X.kinds, Y.kinds]
  simp [hx, he]
theorem PlW.pair (X : PlW c d n f w) (Y : PlW c d m g w') {p : Nat × Nat} (h1 : p.1 < n) (h2 : p.2 < m) : p ∈ pairsL w w' := by
  refine mem_pairsL.mpr ⟨by rw [X.len]; exact h1, by rw [Y.len]; exact h2, ?_⟩
  rw [X.kinds, Y.kinds, List.getElem?_replicate, List.getElem?_replicate, if_pos h1, if_pos h2]
theorem ext_fit {m : Nat} {F G : Nat × Nat → Nat × Nat → Bool} : ∀ {xs : List Nat} {R : Nat → Nat → Bool}, (∀ x ∈ xs, ∀ y ∈ xs, ∀ e, e < m → ∀ f, f < m → F (x, e) (y, f) = G (x, e) (y, f)) → ext m F xs R = ext m G xs R
  | [], R, _ => rfl
  | x :: xs, R, h => by
    unfold ext
    rw [ext_fit fun a ha b hb => h a (List.mem_cons_of_mem _ ha) b (List.mem_cons_of_mem _ hb)]
    congr 1
    refine flatMap_cong fun e he => ?_
    have he := List.mem_range.mp (List.mem_filter.mp he).1
    rw [ext_fit fun a ha b hb => h a (List.mem_cons_of_mem _ ha) b (List.mem_cons_of_mem _ hb)]
    congr 1
    exact ext_congr fun y hy z hz => by rw [h x List.mem_cons_self y (List.mem_cons_of_mem _ hy) e he z hz]
theorem PlW.all (X : PlW c d n f w) (Y : PlW c d m g w') : allL w w' = ext m (fitF f g) (List.range n) (fun _ _ => true) := by
  unfold allL
  rw [X.len, Y.len]
  rw [ext_fit (G := fitF f g) fun x hx y hy e he z hz => X.fit Y (List.mem_range.mp hx) (List.mem_range.mp hy) he hz]
  exact ext_congr fun x hx e he => X.kn Y (List.mem_range.mp hx) he
/-! counting -/
theorem cnt_long {m : Nat} {F : Nat × Nat → Nat × Nat → Bool} : ∀ {xs : List Nat} {R : Nat → Nat → Bool} {k : Nat}, xs.length < k → cnt (ext m F xs R) k = 0
  | [], R, k, h => by
    unfold ext cnt
    cases k with
    | zero => exact absurd h (Nat.not_lt_zero _)
    | succ k => rfl
  | x :: xs, R, 0, h => absurd h (Nat.not_lt_zero _)
  | x :: xs, R, k + 1, h => by
    rw [List.length_cons] at h
    unfold ext
    rw [cnt_app, cnt_flat, cnt_long (by omega)]
    rw [sum_zeros fun e _ => by rw [cnt_cons]; exact cnt_long (by omega)]
def fastC (m : Nat) (F : Nat × Nat → Nat × Nat → Bool) : List Nat → (Nat → Nat → Bool) → Nat → Nat
  | [], _, k => if k = 0 then 1 else 0
  | _ :: _, _, 0 => 1
  | x :: xs, R, k + 1 => if xs.length < k then 0 else (((List.range m).filter (R x)).map fun e => fastC m F xs (fun y f => R y f && F (x, e) (y, f)) k).sum + fastC m F xs R (k + 1)
theorem cnt_fast {m : Nat} {F : Nat × Nat → Nat × Nat → Bool} : ∀ (xs : List Nat) (R : Nat → Nat → Bool) (k : Nat), cnt (ext m F xs R) k = fastC m F xs R k
  | [], R, k => by
    unfold ext fastC cnt
    cases k <;> rfl
  | x :: xs, R, 0 => by rw [cnt_zero]; rfl
  | x :: xs, R, k + 1 => by
    unfold fastC
    by_cases c : xs.length < k
    · rw [if_pos c]
      exact cnt_long (by rw [List.length_cons]; omega)
    · rw [if_neg c]
      unfold ext
      rw [cnt_app, cnt_flat, cnt_fast xs R (k + 1)]
      congr 1
      congr 1
      refine List.map_congr_left fun e _ => ?_
      rw [cnt_cons]
      exact cnt_fast xs _ k
/-- injections of some of l things, k of them, into s -/
def Inj : Nat → Nat → Nat → Nat
  | 0, _, k => if k = 0 then 1 else 0
  | _ + 1, _, 0 => 1
  | l + 1, s, k + 1 => s * Inj l (s - 1) k + Inj l s (k + 1)
theorem sum_same {α : Type} {h : α → Nat} {v : Nat} : ∀ {l : List α}, (∀ x ∈ l, h x = v) → (l.map h).sum = l.length * v
  | [], _ => by simp
  | x :: l, e => by
    rw [List.map_cons, List.sum_cons, e x List.mem_cons_self, sum_same fun y hy => e y (List.mem_cons_of_mem _ hy), List.length_cons, Nat.succ_mul]
    omega
theorem cnt_inj {m : Nat} {F : Nat × Nat → Nat × Nat → Bool} (hF : ∀ x e y f, x ≠ y → F (x, e) (y, f) = (e != f)) : ∀ (xs : List Nat) (S : List Nat) (R : Nat → Nat → Bool) (k : Nat), xs.Nodup → S.Nodup → (∀ e ∈ S, e < m) → (∀ x ∈ xs, ∀ e, e < m → R x e = decide (e ∈ S)) → cnt (ext m F xs R) k = Inj xs.length S.length k
  | [], S, R, k, _, _, _, _ => by
    unfold ext cnt
    cases k <;> rfl
  | x :: xs, S, R, 0, _, _, _, _ => by rw [cnt_zero]; rfl
  | x :: xs, S, R, k + 1, nx, nS, lt, hR => by
    have nx' := List.nodup_cons.mp nx
    unfold ext
    rw [cnt_app, cnt_flat, cnt_inj hF xs S R (k + 1) nx'.2 nS lt fun y hy => hR y (List.mem_cons_of_mem _ hy)]
    have pm : ((List.range m).filter (R x)).Perm S := (List.perm_ext_iff_of_nodup (List.Pairwise.filter _ List.nodup_range) nS).mpr fun e => by
      rw [List.mem_filter, List.mem_range]
      constructor
      · rintro ⟨h1, h2⟩
        rw [hR x List.mem_cons_self e h1] at h2
        exact of_decide_eq_true h2
      · intro h
        exact ⟨lt e h, by rw [hR x List.mem_cons_self e (lt e h)]; exact decide_eq_true h⟩
    rw [sum_same (v := Inj xs.length (S.length - 1) k) fun e he => ?_]
    · rw [pm.length_eq, List.length_cons]
      rfl
    · have heS := pm.mem_iff.mp he
      have heM := lt e heS
      rw [cnt_cons, cnt_inj hF xs (S.erase e) _ k nx'.2 (nS.erase e) (fun z hz => lt z (List.mem_of_mem_erase hz)) fun y hy z hz => ?_, List.length_erase_of_mem heS]
      rw [hR y (List.mem_cons_of_mem _ hy) z hz, hF x e y z (fun q => nx'.1 (q ▸ hy)), Bool.eq_iff_iff, Bool.and_eq_true, decide_eq_true_eq, decide_eq_true_eq, bne_iff_ne, nS.mem_erase_iff]
      exact ⟨fun ⟨a, b⟩ => ⟨Ne.symm b, a⟩, fun ⟨a, b⟩ => ⟨b, Ne.symm a⟩⟩
theorem cnt_ones {m : Nat} {F : Nat × Nat → Nat × Nat → Bool} : ∀ (xs : List Nat) (R : Nat → Nat → Bool), (∀ x ∈ xs, ∀ e, e < m → R x e = true) → cnt (ext m F xs R) 1 = xs.length * m
  | [], R, _ => by
    unfold ext cnt
    simp
  | x :: xs, R, hR => by
    unfold ext
    rw [cnt_app, cnt_flat, cnt_ones xs R fun y hy => hR y (List.mem_cons_of_mem _ hy), sum_same (v := 1) fun e _ => by rw [cnt_cons]; exact cnt_zero _ _]
    rw [List.filter_eq_self.mpr fun e he => hR x List.mem_cons_self e (List.mem_range.mp he), List.length_range, List.length_cons, Nat.succ_mul]
    omega
/-! what is told -/
structure Told (u u' : Web) (k : Nat) (l : Led) (c : Nat) : Prop where
  gr : GrL u u' k
  fst : fstL (allL u u') k = some l
  cnt : cnt (allL u u') k = c
theorem great_is {u u' : Web} {k : Nat} {l : Led} (h : LeadOk u u' u.1.length l) (e : l.length = k) (m : ∀ x, LeadOk u u' u.1.length x → x.length ≤ k) : GrL u u' k := by
  subst e
  exact GrL.of ((LLn_mem (Nat.le_refl _)).mpr h) fun x hx => m x ((LLn_mem (Nat.le_refl _)).mp hx)
theorem told_own {u u' : Web} {k : Nat} (h : LeadOk u u' u.1.length (ownL k)) (m : ∀ x, LeadOk u u' u.1.length x → x.length ≤ k) : Told u u' k (ownL k) (Cw.cnt (allL u u') k) := by
  have g := great_is h (own_len k) m
  refine ⟨g, ?_, rfl⟩
  obtain ⟨l, fl, _, ll⟩ := fst_some g.1
  rw [fl]
  rcases fst_least fl (ownL k) (List.mem_filter.mpr ⟨(LLn_mem (Nat.le_refl _)).mpr h, decide_eq_true (own_len k)⟩) with e | ⟨lt, _⟩
  · rw [e]
  · have ok := (first_ok fl).1
    have := own_least l 0 (fun _ _ => Nat.zero_le _) (ok.1.imp fun z => ⟨z.1, (fitM_iff.mp z.2).2.1⟩) fun _ _ j hj => absurd hj (Nat.not_lt_zero j)
    rw [ll, ← List.range_eq_range'] at this
    have this : ltL l (ownL k) = false := this
    rw [lt] at this
    cases this
theorem PlW.own (X : PlW c d n f w) (Y : PlW c d m g w') {k : Nat} (kn : k ≤ n) (km : k ≤ m) (h : ∀ p q, p < q → q < k → f p q = g p q) : LeadOk w w' w.1.length (ownL k) := by
  refine lead_ofp ?_ fun p hp => ?_
  · unfold ownL
    rw [List.pairwise_map]
    refine List.Pairwise.imp_of_mem (fun {a b} ha hb lt => ⟨lt, ?_⟩) (List.pairwise_lt_range (n := k))
    have ha := List.mem_range.mp ha
    have hb := List.mem_range.mp hb
    rw [X.fit Y (by show a < n; omega) (by show b < n; omega) (by show a < m; omega) (by show b < m; omega)]
    unfold fitF adjB
    dsimp only
    rw [Nat.min_eq_left (Nat.le_of_lt lt), Nat.max_eq_right (Nat.le_of_lt lt), h a b lt hb]
    have : a ≠ b := Nat.ne_of_lt lt
    simp [this]
  · obtain ⟨i, hi, rfl⟩ := List.mem_map.mp hp
    have hi := List.mem_range.mp hi
    exact X.pair Y (by show i < n; omega) (by show i < m; omega)
theorem lead_len2 {u u' : Web} {i : Nat} {l : Led} (h : LeadOk u u' i l) : l.length ≤ u'.1.length := by
  have := nodup_len u'.1.length (l.map Prod.snd) (List.pairwise_map.mpr (h.1.imp fun z => (fitM_iff.mp z.2).2.1)) fun x hx => by
    obtain ⟨p, hp, rfl⟩ := List.mem_map.mp hx
    exact (h.2 p hp).2.1
  rwa [List.length_map] at this
/-- how many ways, as the law multiplies them -/
def prodN (a : Nat) : Nat → Nat
  | 0 => 1
  | l + 1 => prodN a l * (a - l)
theorem inj_prod : ∀ n < 8, ∀ m < 8, Inj n m (min n m) = prodN (max n m) (min n m) := by decide +kernel
theorem PlW.bare (X : PlW c d n f w) (Y : PlW c d m g w') (n8 : n < 8) (m8 : m < 8) (h : ∀ p q p' q', f p q = g p' q') : Told w w' (min n m) (ownL (min n m)) (prodN (max n m) (min n m)) := by
  have t := told_own (X.own Y (Nat.min_le_left n m) (Nat.min_le_right n m) fun p q _ _ => h p q p q) fun x hx => by
    have h1 := lead_len hx
    have h2 := lead_len2 hx
    rw [X.len] at h1
    rw [Y.len] at h2
    omega
  refine ⟨t.gr, t.fst, ?_⟩
  rw [X.all Y, cnt_inj (fun x e y z ne => by
    unfold fitF adjB
    dsimp only
    rw [h _ _ (min e z) (max e z)]
    have : (x != y) = true := bne_iff_ne.mpr ne
    rw [this]; simp) (List.range n) (List.range m) _ _ List.nodup_range List.nodup_range (fun e he => List.mem_range.mp he) (fun x _ e he => (decide_eq_true (List.mem_range.mpr he)).symm), List.length_range, List.length_range]
  exact inj_prod n n8 m m8
theorem PlW.apart (X : PlW c d n (fun _ _ => true) w) (Y : PlW c d m (fun _ _ => false) w') (n2 : 2 ≤ n) : Told w w' (min 1 m) (ownL (min 1 m)) (max 1 (n * m)) := by
  have t := told_own (X.own Y (k := min 1 m) (by omega) (by omega) fun p q h1 h2 => by omega) fun x hx => by
    have h2 := lead_len2 hx
    rw [Y.len] at h2
    have : x.length ≤ 1 := by
      match x, hx with
      | [], _ => exact Nat.zero_le _
      | [_], _ => exact Nat.le_refl _
      | p :: q :: r, hx =>
        have f1 := ((List.pairwise_cons.mp hx.1).1 q List.mem_cons_self).2
        have p1 := hx.2 p List.mem_cons_self
        have q1 := hx.2 q (List.mem_cons_of_mem _ List.mem_cons_self)
        rw [X.len, Y.len] at *
        rw [X.fit Y p1.1 q1.1 p1.2.1 q1.2.1] at f1
        unfold fitF adjB at f1
        simp at f1
    omega
  refine ⟨t.gr, t.fst, ?_⟩
  rw [X.all Y]
  by_cases z : m = 0
  · subst z
    rw [show min 1 0 = 0 from rfl, cnt_zero]
    rfl
  · rw [show min 1 m = 1 by omega, cnt_ones _ _ fun _ _ _ _ => rfl, List.length_range]
    have : 1 ≤ n * m := Nat.mul_pos (by omega) (by omega)
    omega
def rowF (a b : Nat) : Bool := a + 1 == b
def ringF (n : Nat) (a b : Nat) : Bool := (a + 1 == b) || ((a == 0) && (b + 1 == n))
def starF (a b : Nat) : Bool := a == 0
theorem PlW.same (X : PlW c d n f w) (Y : PlW c d n f w') {v : Nat} (h : fastC n (fitF f f) (List.range n) (fun _ _ => true) n = v) : Told w w' n (ownL n) v := by
  have t := told_own (X.own Y (Nat.le_refl n) (Nat.le_refl n) fun p q _ _ => rfl) fun x hx => by
    have := lead_len hx
    rwa [X.len] at this
  exact ⟨t.gr, t.fst, by rw [X.all Y, cnt_fast, h]⟩
theorem row_ways : ∀ n < 8, 4 ≤ n → fastC n (fitF rowF rowF) (List.range n) (fun _ _ => true) n = 2 := by decide +kernel
theorem ring_ways : ∀ n < 8, 4 ≤ n → fastC n (fitF (ringF n) (ringF n)) (List.range n) (fun _ _ => true) n = 2 * n := by decide +kernel
theorem rowring_ways : ∀ n < 8, 4 ≤ n → fastC n (fitF rowF (ringF n)) (List.range n) (fun _ _ => true) n = 0 ∧ fastC n (fitF rowF (ringF n)) (List.range n) (fun _ _ => true) (n - 1) = 4 * n := by decide +kernel
theorem star_ways : ∀ n < 8, 4 ≤ n → fastC n (fitF starF starF) (List.range n) (fun _ _ => true) n = prodN (n - 1) (n - 1) := by decide +kernel
theorem PlW.rowring (X : PlW c d n rowF w) (Y : PlW c d n (ringF n) w') (n4 : 4 ≤ n) (n8 : n < 8) : Told w w' (n - 1) (ownL (n - 1)) (4 * n) := by
  obtain ⟨z0, z1⟩ := rowring_ways n n8 n4
  have t := told_own (X.own Y (k := n - 1) (by omega) (by omega) fun p q h1 h2 => by
    unfold rowF ringF
    have : (q + 1 == n) = false := by simp; omega
    rw [this]; simp) fun x hx => by
    have h1 := lead_len hx
    rw [X.len] at h1
    by_cases e : x.length = n
    · have z : cnt (allL w w') n = 0 := by rw [X.all Y, cnt_fast, z0]
      rw [← all_cnt, List.length_eq_zero_iff, List.filter_eq_nil_iff] at z
      exact (z x ((LLn_mem (Nat.le_refl _)).mpr hx) (decide_eq_true e)).elim
    · omega
  exact ⟨t.gr, t.fst, by rw [X.all Y, cnt_fast, z1]⟩
/-- unlike kinds: one way -/
theorem lone_told {u t : Web} {qs : List Nat} (U : WOk u) (T : WOk t) (o : Ord qs u.1.length) (N : Named u qs t) (nd : u.1.Nodup) : Told u t u.1.length ((List.range u.1.length).map fun p => (p, qa qs p)) 1 := by
  have ln : ((List.range u.1.length).map fun p => (p, qa qs p)).length = u.1.length := by rw [List.length_map, List.length_range]
  have ok : LeadOk u t u.1.length ((List.range u.1.length).map fun p => (p, qa qs p)) := by
    refine lead_ofp ?_ fun p hp => ?_
    · rw [List.pairwise_map]
      refine List.Pairwise.imp_of_mem (fun {a b} ha hb lt => ⟨lt, fitM_iff.mpr ⟨Nat.ne_of_lt lt, fun e => Nat.ne_of_lt lt (o.inj (List.mem_range.mp ha) (List.mem_range.mp hb) e), ?_⟩⟩) (List.pairwise_lt_range (n := u.1.length))
      exact (tieL_named U T o N (List.mem_range.mp ha) (List.mem_range.mp hb)).symm
    · obtain ⟨i, hi, rfl⟩ := List.mem_map.mp hp
      have hi := List.mem_range.mp hi
      exact mem_pairsL.mpr ⟨hi, by rw [N.len]; exact o.lt' hi, (N.kinds i hi).symm⟩
  have one : ∀ l, LeadOk u t u.1.length l → l.length = u.1.length → l = (List.range u.1.length).map fun p => (p, qa qs p) := fun l hl el => by
    have sub : ∀ p ∈ l, p ∈ (List.range u.1.length).map fun p => (p, qa qs p) := fun p hp => by
      obtain ⟨a, b, c⟩ := mem_pairsL.mp (lead_pairs hl p hp)
      rw [N.len] at b
      obtain ⟨j, hj, ej⟩ := o.onto b
      have e1 : u.1[p.1]? = u.1[j]? := by rw [c, ← ej]; exact N.kinds j hj
      have e2 : p.1 = j := nodup_at nd (x := u.1[p.1]) (List.getElem?_eq_getElem a) (by rw [← e1]; exact List.getElem?_eq_getElem a)
      exact List.mem_map.mpr ⟨p.1, List.mem_range.mpr a, Prod.ext rfl (by show qa qs p.1 = p.2; rw [e2, ej])⟩
    refine plt_ext (lead_rise hl) (lead_rise ok) fun x => ⟨sub x, fun hx => Classical.byContradiction fun no => ?_⟩
    have := sub_many (x :: l) ((List.range u.1.length).map fun p => (p, qa qs p)) (List.nodup_cons.mpr ⟨no, plt_nodup (lead_rise hl)⟩) fun y hy => by
      rcases List.mem_cons.mp hy with rfl | hy
      · exact hx
      · exact sub y hy
    rw [List.length_cons, ln] at this
    omega
  have g := great_is ok ln fun x hx => lead_len hx
  obtain ⟨l, fl, _, ll⟩ := fst_some g.1
  refine ⟨g, by rw [fl, one l (first_ok fl).1 ll], ?_⟩
  rw [← all_cnt]
  have nF : ((LLn u t u.1.length).filter (fun l => decide (l.length = u.1.length))).Nodup := List.Pairwise.filter _ (LLn_nodup (Nat.le_refl _))
  have pm : ((LLn u t u.1.length).filter (fun l => decide (l.length = u.1.length))).Perm [(List.range u.1.length).map fun p => (p, qa qs p)] := (List.perm_ext_iff_of_nodup nF (List.pairwise_singleton _ _)).mpr fun x => by
    rw [List.mem_filter, LLn_mem (Nat.le_refl _), decide_eq_true_eq, List.mem_singleton]
    exact ⟨fun h => one x h.1 h.2, fun h => by rw [h]; exact ⟨ok, ln⟩⟩
  rw [pm.length_eq]; rfl
end
end Cw

/-! the ties of planted webs, as they are made -/
namespace Cw
open PySem PySem.Spec PyProof.Rows L2
theorem plw_of {c d n : Nat} {f : Nat → Nat → Bool} {ts : List Tie} (lc : Ltr c) (ld : Ltr d) (n40 : n ≤ 40) (most : ts.length ≤ 1600) (rise : ts.Pairwise tlt) (mem : ∀ a b e, (a, b, e) ∈ ts ↔ (a < b ∧ b < n ∧ e = d ∧ f a b = true)) : PlW c d n f (List.replicate n c, ts) := by
  refine ⟨⟨by show (List.replicate n c).length ≤ 40; rw [List.length_replicate]; exact n40, most, fun x hx => by rw [(List.mem_replicate.mp hx).2]; exact lc, rise, fun t ht => ?_⟩, rfl, mem⟩
  obtain ⟨a, b, e⟩ := t
  obtain ⟨h1, h2, h3, _⟩ := (mem a b e).mp ht
  show a < b ∧ b < (List.replicate n c).length ∧ Ltr e
  rw [List.length_replicate, h3]
  exact ⟨h1, h2, ld⟩
def rowT (d k : Nat) : List Tie := (List.range k).map fun p => (p, p + 1, d)
def starT (d k : Nat) : List Tie := (List.range k).map fun p => (0, p + 1, d)
def manyT (d n p k : Nat) : List Tie := (List.range k).map fun q => (p, p + 1 + q, d)
def wholeT (d n k : Nat) : List Tie := (List.range k).flatMap fun p => manyT d n p (n - (p + 1))
theorem bare_plw {c d n : Nat} (lc : Ltr c) (ld : Ltr d) (n40 : n ≤ 40) : PlW c d n (fun _ _ => false) (List.replicate n c, []) :=
  plw_of lc ld n40 (by simp) .nil fun a b e => ⟨fun h => (nomatch h), fun h => (nomatch h.2.2.2)⟩
theorem row_plw {c d n : Nat} (lc : Ltr c) (ld : Ltr d) (n40 : n ≤ 40) : PlW c d n rowF (List.replicate n c, rowT d (n - 1)) := by
  refine plw_of lc ld n40 (by unfold rowT; rw [List.length_map, List.length_range]; omega) ?_ fun a b e => ?_
  · unfold rowT
    rw [List.pairwise_map]
    exact (List.pairwise_lt_range (n := n - 1)).imp fun {x y} h => .inl h
  · unfold rowT rowF
    rw [List.mem_map]
    constructor
    · rintro ⟨p, hp, h⟩
      have hp := List.mem_range.mp hp
      injection h with h1 h2
      injection h2 with h2 h3
      subst h1; subst h2; subst h3
      exact ⟨by omega, by omega, rfl, by simp⟩
    · rintro ⟨h1, h2, rfl, h4⟩
      have h4 : a + 1 = b := by simpa using h4
      exact ⟨a, List.mem_range.mpr (by omega), by rw [h4]⟩
theorem star_plw {c d n : Nat} (lc : Ltr c) (ld : Ltr d) (n40 : n ≤ 40) : PlW c d n starF (List.replicate n c, starT d (n - 1)) := by
  refine plw_of lc ld n40 (by unfold starT; rw [List.length_map, List.length_range]; omega) ?_ fun a b e => ?_
  · unfold starT
    rw [List.pairwise_map]
    exact (List.pairwise_lt_range (n := n - 1)).imp fun {x y} h => .inr ⟨rfl, by show x + 1 < y + 1; omega⟩
  · unfold starT starF
    rw [List.mem_map]
    constructor
    · rintro ⟨p, hp, h⟩
      have hp := List.mem_range.mp hp
      injection h with h1 h2
      injection h2 with h2 h3
      subst h1; subst h2; subst h3
      exact ⟨by omega, by omega, rfl, by simp⟩
    · rintro ⟨h1, h2, rfl, h4⟩
      have h4 : a = 0 := by simpa using h4
      exact ⟨b - 1, List.mem_range.mpr (by omega), by rw [h4, show b - 1 + 1 = b by omega]⟩
theorem many_mem {d n p k : Nat} {t : Tie} : t ∈ manyT d n p k ↔ t.1 = p ∧ p < t.2.1 ∧ t.2.1 < p + 1 + k ∧ t.2.2 = d := by
  unfold manyT
  rw [List.mem_map]
  constructor
  · rintro ⟨q, hq, rfl⟩
    have hq := List.mem_range.mp hq
    exact ⟨rfl, by show p < p + 1 + q; omega, by show p + 1 + q < _; omega, rfl⟩
  · rintro ⟨h1, h2, h3, h4⟩
    refine ⟨t.2.1 - (p + 1), List.mem_range.mpr (by omega), ?_⟩
    exact Prod.ext h1.symm (Prod.ext (by show p + 1 + (t.2.1 - (p + 1)) = t.2.1; omega) h4.symm)
theorem many_rise (d n p k : Nat) : (manyT d n p k).Pairwise tlt := by
  unfold manyT
  rw [List.pairwise_map]
  exact (List.pairwise_lt_range (n := k)).imp fun {x y} h => .inr ⟨rfl, by show p + 1 + x < p + 1 + y; omega⟩
theorem whole_rise (d n k : Nat) : (wholeT d n k).Pairwise tlt := by
  unfold wholeT
  rw [List.pairwise_flatMap]
  refine ⟨fun p _ => many_rise d n p _, (List.pairwise_lt_range (n := k)).imp fun {x y} h a ha b hb => ?_⟩
  have h1 := (many_mem.mp ha).1
  have h2 := (many_mem.mp hb).1
  exact .inl (by omega)
theorem whole_len (d n k : Nat) : (wholeT d n k).length ≤ k * n := by
  unfold wholeT
  induction k with
  | zero => simp
  | succ k ih =>
    rw [List.range_succ, List.flatMap_append, List.length_append, Nat.succ_mul]
    have : ([k].flatMap fun p => manyT d n p (n - (p + 1))).length ≤ n := by
      simp only [List.flatMap_cons, List.flatMap_nil, List.append_nil]
      unfold manyT
      rw [List.length_map, List.length_range]
      omega
    omega
theorem whole_plw {c d n : Nat} (lc : Ltr c) (ld : Ltr d) (n40 : n ≤ 40) : PlW c d n (fun _ _ => true) (List.replicate n c, wholeT d n n) := by
  refine plw_of lc ld n40 ?_ (whole_rise d n n) fun a b e => ?_
  · have := whole_len d n n
    have : n * n ≤ 40 * 40 := Nat.mul_le_mul n40 n40
    omega
  · unfold wholeT
    rw [List.mem_flatMap]
    constructor
    · rintro ⟨p, hp, h⟩
      have hp := List.mem_range.mp hp
      obtain ⟨h1, h2, h3, h4⟩ := many_mem.mp h
      dsimp only at h1 h2 h3 h4
      exact ⟨by omega, by omega, h4, rfl⟩
    · rintro ⟨h1, h2, rfl, _⟩
      exact ⟨a, List.mem_range.mpr (by omega), many_mem.mpr ⟨rfl, h1, by dsimp only; omega, rfl⟩⟩
theorem ring_plw {c d n : Nat} {ts' : List Tie} (lc : Ltr c) (ld : Ltr d) (n40 : n ≤ 40) (n3 : 3 ≤ n) (pm : ts'.Perm (rowT d (n - 1) ++ [(0, n - 1, d)])) (srt : ts'.Pairwise (fun x y => lexT ((y.1 : Int), (y.2.1 : Int), y.2.2) ((x.1 : Int), (x.2.1 : Int), x.2.2) = false)) : PlW c d n (ringF n) (List.replicate n c, ts') := by
  have R := row_plw (n := n) lc ld n40
  have dd : ts'.Pairwise (fun x y => Cw.ends x ≠ Cw.ends y) := by
    refine (List.Perm.pairwise_iff (fun {x y} h => Ne.symm h) pm).mpr (List.pairwise_append.mpr ⟨R.ok.rise.imp fun {x y} h e => ?_, List.pairwise_singleton _ _, fun x hx y hy e => ?_⟩)
    · unfold Cw.ends at e
      simp only [Prod.mk.injEq] at e
      rcases h with h | h <;> omega
    · rw [List.mem_singleton.mp hy] at e
      obtain ⟨a, b, z⟩ := x
      have := ((R.ties a b z).mp hx).2.2.2
      unfold Cw.ends at e
      simp only [Prod.mk.injEq] at e
      unfold rowF at this
      have : a + 1 = b := by simpa using this
      omega
  refine plw_of lc ld n40 (by rw [pm.length_eq, List.length_append]; unfold rowT; rw [List.length_map, List.length_range]; show n - 1 + 1 ≤ 1600; omega) (rise_of srt dd) fun a b e => ?_
  rw [pm.mem_iff, List.mem_append, show ((a, b, e) ∈ rowT d (n - 1)) ↔ _ from R.ties a b e, List.mem_singleton]
  unfold ringF
  rw [Bool.or_eq_true, Bool.and_eq_true]
  unfold rowF
  constructor
  · rintro (⟨h1, h2, h3, h4⟩ | h)
    · exact ⟨h1, h2, h3, .inl h4⟩
    · injection h with h1 h2
      injection h2 with h2 h3
      subst h1; subst h2; subst h3
      exact ⟨by omega, by omega, rfl, .inr ⟨rfl, by simp; omega⟩⟩
  · rintro ⟨h1, h2, h3, h4 | ⟨h4, h5⟩⟩
    · exact .inl ⟨h1, h2, h3, h4⟩
    · have h4 : a = 0 := by simpa using h4
      have h5 : b + 1 = n := by simpa using h5
      exact .inr (by rw [h4, h3, show b = n - 1 by omega])
end Cw

/-! leads that lie of webs side by side, of cut webs, of a web with a place more -/
namespace Cw
open PySem PySem.Spec PyProof.Rows L2
/-- one lead moved, pair by pair -/
theorem lead_moved {u u' t t' : Web} {i : Nat} {l : Led} {f : Nat × Nat → Nat × Nat} (h : LeadOk u u' i l) (to : ∀ p ∈ l, f p ∈ pairsL t t') (fit : ∀ p ∈ l, ∀ q ∈ l, p ≠ q → fitM t t' (f p) (f q) = true) :
    LeadOk t t' t.1.length (moveL t t' f l) ∧ (moveL t t' f l).length = l.length := by
  have mem : ∀ q, q ∈ moveL t t' f l ↔ q ∈ l.map f := fun q => by
    unfold moveL
    rw [List.mem_filter, decide_eq_true_eq]
    refine ⟨fun h => h.2, fun z => ⟨?_, z⟩⟩
    obtain ⟨p, hp, rfl⟩ := List.mem_map.mp z
    exact to p hp
  have inj : ∀ p ∈ l, ∀ q ∈ l, f p = f q → p = q := fun p hp q hq e => Classical.byContradiction fun ne => by
    have := (fitM_iff.mp (fit p hp q hq ne)).1
    rw [e] at this
    exact this rfl
  constructor
  · refine lead_ofp (List.Pairwise.imp_of_mem (fun {a b} ha hb lt => ?_) (move_rise t t' f l)) fun p hp => (List.mem_filter.mp hp).1
    obtain ⟨p, hp, rfl⟩ := List.mem_map.mp ((mem _).mp ha)
    obtain ⟨q, hq, rfl⟩ := List.mem_map.mp ((mem _).mp hb)
    have ne : p ≠ q := fun e => plt_ne lt (by rw [e])
    have fm := fit p hp q hq ne
    have n1 := (fitM_iff.mp fm).1
    refine ⟨?_, fm⟩
    rcases lt with c | c
    · exact c
    · exact (n1 c.1).elim
  · have nd : (l.map f).Nodup := map_nodup (lead_rise h) fun x hx y hy e => inj x hx y hy e
    have := ((List.perm_ext_iff_of_nodup (plt_nodup (move_rise t t' f l)) nd).mpr mem).length_eq
    rw [this, List.length_map]
theorem great_lead {u u' : Web} {k : Nat} (g : GrL u u' k) : ∃ l, LeadOk u u' u.1.length l ∧ l.length = k := by
  obtain ⟨m, fm, _, _⟩ := fst_some g.1
  exact ⟨m, first_ok fm⟩
theorem great_of {u u' : Web} {k : Nat} {l : Led} (h : LeadOk u u' u.1.length l) (e : l.length = k) (m : ∀ x, LeadOk u u' u.1.length x → x.length ≤ k) : GrL u u' k := by
  subst e
  exact GrL.of ((LLn_mem (Nat.le_refl _)).mpr h) fun x hx => m x ((LLn_mem (Nat.le_refl _)).mp hx)
theorem lead_sub {u u' : Web} {i : Nat} {l : Led} (h : LeadOk u u' i l) (f : Nat × Nat → Bool) : LeadOk u u' i (l.filter f) := ⟨List.Pairwise.filter _ h.1, fun p hp => h.2 p (List.mem_filter.mp hp).1⟩
/-! side by side -/
def shT (n : Nat) (t : Tie) : Tie := (t.1 + n, t.2.1 + n, t.2.2)
def sideW (u t : Web) : Web := (u.1 ++ t.1, u.2 ++ t.2.map (shT u.1.length))
def shP (n m : Nat) (p : Nat × Nat) : Nat × Nat := (p.1 + n, p.2 + m)
theorem sideW_ok {u t : Web} (U : WOk u) (T : WOk t) (few : u.1.length + t.1.length ≤ 40) (most : u.2.length + t.2.length ≤ 1600) : WOk (sideW u t) where
  few := by show (u.1 ++ t.1).length ≤ 40; rw [List.length_append]; exact few
  most := by show (u.2 ++ t.2.map _).length ≤ 1600; rw [List.length_append, List.length_map]; exact most
  kinds := fun c hc => by
    rcases List.mem_append.mp hc with hc | hc
    · exact U.kinds c hc
    · exact T.kinds c hc
  rise := by
    refine List.pairwise_append.mpr ⟨U.rise, ?_, fun a ha b hb => ?_⟩
    · rw [List.pairwise_map]
      refine T.rise.imp fun {x y} lt => ?_
      unfold tlt at lt ⊢
      unfold shT
      dsimp only
      omega
    · obtain ⟨y, hy, rfl⟩ := List.mem_map.mp hb
      have := U.ends a ha
      unfold tlt shT
      dsimp only
      omega
  ends := fun x hx => by
    show x.1 < x.2.1 ∧ x.2.1 < (u.1 ++ t.1).length ∧ _
    rw [List.length_append]
    rcases List.mem_append.mp hx with hx | hx
    · have := U.ends x hx
      exact ⟨this.1, by omega, this.2.2⟩
    · obtain ⟨y, hy, rfl⟩ := List.mem_map.mp hx
      have := T.ends y hy
      unfold shT
      exact ⟨by dsimp only; omega, by dsimp only; omega, this.2.2⟩
theorem side_low {u t : Web} (U : WOk u) (T : WOk t) (S : WOk (sideW u t)) {a b : Nat} (ha : a < u.1.length) (hb : b < u.1.length) : tieL (sideW u t).2 a b = tieL u.2 a b := by
  refine Option.ext fun c => ?_
  rw [tieL_mem S, tieL_mem U]
  show _ ∈ u.2 ++ _ ↔ _
  rw [List.mem_append]
  refine ⟨fun h => h.elim id fun h => ?_, .inl⟩
  obtain ⟨y, hy, e⟩ := List.mem_map.mp h
  have e1 : y.1 + u.1.length = min a b := congrArg Prod.fst e
  omega
theorem side_high {u t : Web} (U : WOk u) (T : WOk t) (S : WOk (sideW u t)) (a b : Nat) : tieL (sideW u t).2 (a + u.1.length) (b + u.1.length) = tieL t.2 a b := by
  refine Option.ext fun c => ?_
  rw [tieL_mem S, tieL_mem T]
  show _ ∈ u.2 ++ _ ↔ _
  rw [List.mem_append]
  constructor
  · rintro (h | h)
    · have := U.ends _ h
      dsimp only at this
      omega
    · obtain ⟨y, hy, e⟩ := List.mem_map.mp h
      have e1 : y.1 + u.1.length = min (a + u.1.length) (b + u.1.length) := congrArg Prod.fst e
      have e2 : y.2.1 + u.1.length = max (a + u.1.length) (b + u.1.length) := congrArg (fun x => x.2.1) e
      have e3 : y.2.2 = c := congrArg (fun x => x.2.2) e
      have : y = (min a b, max a b, c) := Prod.ext (by show y.1 = min a b; omega) (Prod.ext (by show y.2.1 = max a b; omega) e3)
      rwa [← this]
  · intro h
    refine .inr (List.mem_map.mpr ⟨_, h, ?_⟩)
    unfold shT
    exact Prod.ext (by dsimp only; omega) (Prod.ext (by dsimp only; omega) rfl)
theorem side_cross {u t : Web} (U : WOk u) (T : WOk t) (S : WOk (sideW u t)) {a b : Nat} (ha : a < u.1.length) (hb : u.1.length ≤ b) : tieL (sideW u t).2 a b = none := by
  cases e : tieL (sideW u t).2 a b with
  | none => rfl
  | some c =>
    have h := (tieL_mem S).mp e
    rcases List.mem_append.mp h with h | h
    · have := U.ends _ h
      dsimp only at this
      omega
    · obtain ⟨y, hy, e⟩ := List.mem_map.mp h
      have e1 : y.1 + u.1.length = min a b := congrArg Prod.fst e
      omega
/-- webs of which the first parts have no kind of the second ones -/
structure Side (u t u' t' : Web) : Prop where
  U : WOk u
  T : WOk t
  U' : WOk u'
  T' : WOk t'
  S : WOk (sideW u t)
  S' : WOk (sideW u' t')
  d1 : ∀ c ∈ u.1, c ∉ t'.1
  d2 : ∀ c ∈ t.1, c ∉ u'.1
section
variable {u t u' t' : Web}
theorem side_len (u t : Web) : (sideW u t).1.length = u.1.length + t.1.length := by show (u.1 ++ t.1).length = _; rw [List.length_append]
theorem Side.pairs (X : Side u t u' t') {p : Nat × Nat} : p ∈ pairsL (sideW u t) (sideW u' t') ↔ p ∈ pairsL u u' ∨ ∃ q, q ∈ pairsL t t' ∧ p = shP u.1.length u'.1.length q := by
  rw [mem_pairsL, side_len, side_len]
  show _ ∧ _ ∧ (u.1 ++ t.1)[p.1]? = (u'.1 ++ t'.1)[p.2]? ↔ _
  constructor
  · rintro ⟨a, b, c⟩
    by_cases h1 : p.1 < u.1.length
    · rw [List.getElem?_append_left h1] at c
      by_cases h2 : p.2 < u'.1.length
      · rw [List.getElem?_append_left h2] at c
        exact .inl (mem_pairsL.mpr ⟨h1, h2, c⟩)
      · rw [List.getElem?_append_right (by omega)] at c
        have e1 := List.getElem?_eq_getElem h1
        rw [e1] at c
        exact (X.d1 _ (List.mem_of_getElem? e1) (List.mem_of_getElem? c.symm)).elim
    · rw [List.getElem?_append_right (by omega)] at c
      have h3 : p.1 - u.1.length < t.1.length := by omega
      by_cases h2 : p.2 < u'.1.length
      · rw [List.getElem?_append_left h2] at c
        have e1 := List.getElem?_eq_getElem h3
        rw [e1] at c
        exact (X.d2 _ (List.mem_of_getElem? e1) (List.mem_of_getElem? c.symm)).elim
      · rw [List.getElem?_append_right (by omega)] at c
        refine .inr ⟨(p.1 - u.1.length, p.2 - u'.1.length), mem_pairsL.mpr ⟨h3, by dsimp only; omega, c⟩, ?_⟩
        unfold shP
        exact Prod.ext (by dsimp only; omega) (by dsimp only; omega)
  · rintro (h | ⟨q, hq, rfl⟩)
    · obtain ⟨a, b, c⟩ := mem_pairsL.mp h
      exact ⟨by omega, by omega, by rw [List.getElem?_append_left a, List.getElem?_append_left b]; exact c⟩
    · obtain ⟨a, b, c⟩ := mem_pairsL.mp hq
      unfold shP
      dsimp only
      exact ⟨by omega, by omega, by rw [List.getElem?_append_right (by omega), List.getElem?_append_right (by omega), Nat.add_sub_cancel, Nat.add_sub_cancel]; exact c⟩
theorem Side.fit_low (X : Side u t u' t') {p q : Nat × Nat} (hp : p ∈ pairsL u u') (hq : q ∈ pairsL u u') : fitM (sideW u t) (sideW u' t') p q = fitM u u' p q := by
  obtain ⟨a, b, _⟩ := mem_pairsL.mp hp
  obtain ⟨c, d, _⟩ := mem_pairsL.mp hq
  unfold fitM
  rw [side_low X.U X.T X.S a c, side_low X.U' X.T' X.S' b d]
theorem Side.fit_high (X : Side u t u' t') (p q : Nat × Nat) : fitM (sideW u t) (sideW u' t') (shP u.1.length u'.1.length p) (shP u.1.length u'.1.length q) = fitM t t' p q := by
  rw [Bool.eq_iff_iff, fitM_iff, fitM_iff]
  unfold shP
  dsimp only
  rw [side_high X.U X.T X.S, side_high X.U' X.T' X.S']
  exact ⟨fun ⟨a, b, c⟩ => ⟨by omega, by omega, c⟩, fun ⟨a, b, c⟩ => ⟨by omega, by omega, c⟩⟩
theorem Side.fit_cross (X : Side u t u' t') {p q : Nat × Nat} (hp : p ∈ pairsL u u') : fitM (sideW u t) (sideW u' t') p (shP u.1.length u'.1.length q) = true := by
  obtain ⟨a, b, _⟩ := mem_pairsL.mp hp
  rw [fitM_iff]
  unfold shP
  dsimp only
  exact ⟨by omega, by omega, by rw [side_cross X.U X.T X.S a (by omega), side_cross X.U' X.T' X.S' b (by omega)]⟩
/-- leads side by side: one of the first parts, and one of the second moved on -/
theorem Side.join (X : Side u t u' t') {l k : Led} (hl : LeadOk u u' u.1.length l) (hk : LeadOk t t' t.1.length k) : LeadOk (sideW u t) (sideW u' t') (sideW u t).1.length (l ++ k.map (shP u.1.length u'.1.length)) := by
  refine lead_ofp (List.pairwise_append.mpr ⟨?_, ?_, fun a ha b hb => ?_⟩) fun p hp => ?_
  · exact List.Pairwise.imp_of_mem (fun {a b} ha hb z => ⟨z.1, by rw [X.fit_low (lead_pairs hl a ha) (lead_pairs hl b hb)]; exact z.2⟩) hl.1
  · rw [List.pairwise_map]
    exact hk.1.imp fun {a b} z => ⟨by unfold shP; dsimp only; omega, by rw [X.fit_high]; exact z.2⟩
  · obtain ⟨q, hq, rfl⟩ := List.mem_map.mp hb
    have := (mem_pairsL.mp (lead_pairs hl a ha)).1
    exact ⟨by unfold shP; dsimp only; omega, X.fit_cross (lead_pairs hl a ha)⟩
  · rcases List.mem_append.mp hp with hp | hp
    · exact X.pairs.mpr (.inl (lead_pairs hl p hp))
    · obtain ⟨q, hq, rfl⟩ := List.mem_map.mp hp
      exact X.pairs.mpr (.inr ⟨q, lead_pairs hk q hq, rfl⟩)
theorem shP_inj {n m : Nat} {p q : Nat × Nat} (h : shP n m p = shP n m q) : p = q := by
  unfold shP at h
  injection h with h1 h2
  exact Prod.ext (by omega) (by omega)
theorem Side.split (X : Side u t u' t') {m : Led} (h : LeadOk (sideW u t) (sideW u' t') (sideW u t).1.length m) : ∃ l k, LeadOk u u' u.1.length l ∧ LeadOk t t' t.1.length k ∧ m = l ++ k.map (shP u.1.length u'.1.length) := by
  have inL : ∀ p ∈ m, p.1 < u.1.length → p ∈ pairsL u u' := fun p hp c => by
    rcases X.pairs.mp (lead_pairs h p hp) with z | ⟨q, _, rfl⟩
    · exact z
    · unfold shP at c; dsimp only at c; omega
  have hl : LeadOk u u' u.1.length (m.filter fun p => decide (p.1 < u.1.length)) := by
    have sub := lead_sub h fun p => decide (p.1 < u.1.length)
    have inl2 : ∀ p ∈ m.filter fun p => decide (p.1 < u.1.length), p ∈ pairsL u u' := fun p hp => inL p (List.mem_filter.mp hp).1 (of_decide_eq_true (List.mem_filter.mp hp).2)
    exact lead_ofp (List.Pairwise.imp_of_mem (fun {a b} ha hb z => ⟨z.1, by rw [← X.fit_low (inl2 a ha) (inl2 b hb)]; exact z.2⟩) sub.1) inl2
  let g : Nat × Nat → Nat × Nat := fun p => (p.1 - u.1.length, p.2 - u'.1.length)
  have high : ∀ p ∈ m.filter fun p => decide (¬ p.1 < u.1.length), g p ∈ pairsL t t' ∧ p = shP u.1.length u'.1.length (g p) := fun p hp => by
    obtain ⟨a, b⟩ := List.mem_filter.mp hp
    have b := of_decide_eq_true b
    rcases X.pairs.mp (lead_pairs h p a) with z | ⟨q, hq, e⟩
    · exact (b (mem_pairsL.mp z).1).elim
    · have : g p = q := by
        subst e
        show (_ - _, _ - _) = q
        unfold shP
        exact Prod.ext (Nat.add_sub_cancel _ _) (Nat.add_sub_cancel _ _)
      rw [this]
      exact ⟨hq, e⟩
  have hk : LeadOk t t' t.1.length ((m.filter fun p => decide (¬ p.1 < u.1.length)).map g) := by
    refine lead_ofp ?_ fun p hp => ?_
    · rw [List.pairwise_map]
      refine List.Pairwise.imp_of_mem (fun {a b} ha hb z => ?_) (lead_sub h fun p => decide (¬ p.1 < u.1.length)).1
      have za := (high a ha).2
      have zb := (high b hb).2
      have na := of_decide_eq_true (List.mem_filter.mp ha).2
      refine ⟨by show a.1 - _ < b.1 - _; omega, ?_⟩
      rw [← X.fit_high, ← za, ← zb]
      exact z.2
    · obtain ⟨q, hq, rfl⟩ := List.mem_map.mp hp
      exact (high q hq).1
  refine ⟨_, _, hl, hk, plt_ext (lead_rise h) (lead_rise (X.join hl hk)) fun x => ?_⟩
  rw [List.mem_append, List.mem_map]
  constructor
  · intro hx
    by_cases c : x.1 < u.1.length
    · exact .inl (List.mem_filter.mpr ⟨hx, decide_eq_true c⟩)
    · have hx2 : x ∈ m.filter fun p => decide (¬ p.1 < u.1.length) := List.mem_filter.mpr ⟨hx, decide_eq_true c⟩
      exact .inr ⟨g x, List.mem_map.mpr ⟨x, hx2, rfl⟩, (high x hx2).2.symm⟩
  · rintro (hx | ⟨q, hq, rfl⟩)
    · exact (List.mem_filter.mp hx).1
    · obtain ⟨y, hy, rfl⟩ := List.mem_map.mp hq
      rw [← (high y hy).2]
      exact (List.mem_filter.mp hy).1
theorem Side.great (X : Side u t u' t') {a b : Nat} (ga : GrL u u' a) (gb : GrL t t' b) : GrL (sideW u t) (sideW u' t') (a + b) := by
  obtain ⟨l, hl, el⟩ := great_lead ga
  obtain ⟨k, hk, ek⟩ := great_lead gb
  refine great_of (X.join hl hk) (by rw [List.length_append, List.length_map, el, ek]) fun x hx => ?_
  obtain ⟨l2, k2, h1, h2, rfl⟩ := X.split hx
  have := lead_most ga h1
  have := lead_most gb h2
  rw [List.length_append, List.length_map]
  omega
theorem ltL_front : ∀ (a b c d : Led), a.length = b.length → ltL (a ++ c) (b ++ d) = true → ltL a b = true ∨ (a = b ∧ ltL c d = true)
  | [], [], c, d, _, h => .inr ⟨rfl, h⟩
  | [], _ :: _, _, _, e, _ => by cases e
  | _ :: _, [], _, _, e, _ => by cases e
  | p :: a, q :: b, c, d, e, h => by
    rw [List.cons_append, List.cons_append, ltL_cons] at h
    rw [ltL_cons]
    by_cases z : p = q
    · rw [if_pos z] at h ⊢
      rcases ltL_front a b c d (by simpa using e) h with y | ⟨y, w⟩
      · exact .inl y
      · exact .inr ⟨by rw [z, y], w⟩
    · rw [if_neg z] at h ⊢
      exact .inl h
theorem ltL_shift (n m : Nat) : ∀ (a b : Led), a.length = b.length → ltL (a.map (shP n m)) (b.map (shP n m)) = ltL a b
  | [], [], _ => rfl
  | [], _ :: _, e => by cases e
  | _ :: _, [], e => by cases e
  | p :: a, q :: b, e => by
    rw [List.map_cons, List.map_cons, ltL_cons, ltL_cons, ltL_shift n m a b (by simpa using e)]
    by_cases z : p = q
    · rw [if_pos z, if_pos (by rw [z])]
    · rw [if_neg z, if_neg fun y => z (shP_inj y)]
      unfold shP
      exact decide_eq_decide.mpr ⟨fun h => by dsimp only at h; omega, fun h => by dsimp only; omega⟩
theorem Side.first (X : Side u t u' t') {a b : Nat} {l k m : Led} (ga : GrL u u' a) (gb : GrL t t' b) (fl : fstL (allL u u') a = some l) (fk : fstL (allL t t') b = some k) (fm : fstL (allL (sideW u t) (sideW u' t')) (a + b) = some m) : m = l ++ k.map (shP u.1.length u'.1.length) := by
  obtain ⟨hl, el⟩ := first_ok fl
  obtain ⟨hk, ek⟩ := first_ok fk
  obtain ⟨hm, em⟩ := first_ok fm
  obtain ⟨l2, k2, h1, h2, rfl⟩ := X.split hm
  have m1 := lead_most ga h1
  have m2 := lead_most gb h2
  rw [List.length_append, List.length_map] at em
  have j := X.join hl hk
  rcases fst_least fm _ (List.mem_filter.mpr ⟨(LLn_mem (Nat.le_refl _)).mpr j, decide_eq_true (by rw [List.length_append, List.length_map, el, ek])⟩) with e | ⟨lt, _⟩
  · exact e.symm
  · rcases ltL_front _ _ _ _ (by omega) lt with z | ⟨_, z⟩
    · have := lead_least fl h1 (by omega)
      rw [z] at this; cases this
    · rw [ltL_shift _ _ _ _ (by omega)] at z
      have := lead_least fk h2 (by omega)
      rw [z] at this; cases this
theorem flat_const {α β : Type} {f : α → List β} {n : Nat} : ∀ {l : List α}, (∀ x ∈ l, (f x).length = n) → (l.flatMap f).length = l.length * n
  | [], _ => by simp
  | x :: l, h => by
    rw [List.flatMap_cons, List.length_append, h x List.mem_cons_self, flat_const fun y hy => h y (List.mem_cons_of_mem _ hy), List.length_cons, Nat.succ_mul]
    omega
theorem Side.count (X : Side u t u' t') {a b : Nat} (ga : GrL u u' a) (gb : GrL t t' b) : cnt (allL (sideW u t) (sideW u' t')) (a + b) = cnt (allL u u') a * cnt (allL t t') b := by
  rw [← all_cnt, ← all_cnt u u', ← all_cnt t t']
  generalize hA : (LLn u u' u.1.length).filter (fun l => decide (l.length = a)) = A
  generalize hB : (LLn t t' t.1.length).filter (fun l => decide (l.length = b)) = B
  have mA : ∀ l, l ∈ A ↔ LeadOk u u' u.1.length l ∧ l.length = a := fun l => by rw [← hA, List.mem_filter, LLn_mem (Nat.le_refl _), decide_eq_true_eq]
  have mB : ∀ l, l ∈ B ↔ LeadOk t t' t.1.length l ∧ l.length = b := fun l => by rw [← hB, List.mem_filter, LLn_mem (Nat.le_refl _), decide_eq_true_eq]
  have nA : A.Nodup := by rw [← hA]; exact List.Pairwise.filter _ (LLn_nodup (Nat.le_refl _))
  have nB : B.Nodup := by rw [← hB]; exact List.Pairwise.filter _ (LLn_nodup (Nat.le_refl _))
  have nS : ((LLn (sideW u t) (sideW u' t') (sideW u t).1.length).filter (fun l => decide (l.length = a + b))).Nodup := List.Pairwise.filter _ (LLn_nodup (Nat.le_refl _))
  have nF : (A.flatMap fun l => B.map fun k => l ++ k.map (shP u.1.length u'.1.length)).Nodup := by
    unfold List.Nodup
    rw [List.pairwise_flatMap]
    refine ⟨fun l hl => ?_, List.Pairwise.imp_of_mem (fun {x y} hx hy ne p hp q hq e => ?_) nA⟩
    · rw [List.pairwise_map]
      exact nB.imp fun {x y} ne e => ne ((List.map_inj_right (fun _ _ => shP_inj)).mp (List.append_cancel_left e))
    · obtain ⟨k1, _, rfl⟩ := List.mem_map.mp hp
      obtain ⟨k2, _, rfl⟩ := List.mem_map.mp hq
      exact ne (List.append_inj e (by rw [((mA x).mp hx).2, ((mA y).mp hy).2])).1
  have pm := (List.perm_ext_iff_of_nodup nS nF).mpr fun x => by
    rw [List.mem_filter, LLn_mem (Nat.le_refl _), decide_eq_true_eq, List.mem_flatMap]
    constructor
    · rintro ⟨hx, ex⟩
      obtain ⟨l, k, h1, h2, rfl⟩ := X.split hx
      have m1 := lead_most ga h1
      have m2 := lead_most gb h2
      rw [List.length_append, List.length_map] at ex
      exact ⟨l, (mA l).mpr ⟨h1, by omega⟩, List.mem_map.mpr ⟨k, (mB k).mpr ⟨h2, by omega⟩, rfl⟩⟩
    · rintro ⟨l, hl, hx⟩
      obtain ⟨k, hk, rfl⟩ := List.mem_map.mp hx
      obtain ⟨h1, e1⟩ := (mA l).mp hl
      obtain ⟨h2, e2⟩ := (mB k).mp hk
      exact ⟨X.join h1 h2, by rw [List.length_append, List.length_map, e1, e2]⟩
  rw [pm.length_eq]
  exact flat_const fun l _ => by rw [List.length_map]
end
end Cw

namespace Cw
open PySem PySem.Spec PyProof.Rows L2
theorem cut_len (u : Web) (os : List Nat) : (cutL u os).1.length = os.length := by unfold cutL; rw [List.length_map]
theorem cut_kind {u : Web} {os : List Nat} {i p : Nat} (h : os[i]? = some p) (hp : p < u.1.length) : (cutL u os).1[i]? = u.1[p]? := by
  unfold cutL
  rw [List.getElem?_map, h, List.getElem?_eq_getElem hp]
  show some (u.1.getD p 0) = _
  rw [List.getD_eq_getElem?_getD, List.getElem?_eq_getElem hp]
  rfl
theorem os_at {os : List Nat} {i : Nat} (h : i < os.length) : os[i]? = some (os.getD i 0) := by
  rw [List.getD_eq_getElem?_getD, List.getElem?_eq_getElem h]; rfl
/-- leads of a cut web are leads of the web -/
theorem cut_lead {u u' : Web} {os : List Nat} {i : Nat} {l : Led} (nd : os.Nodup) (b : ∀ p ∈ os, p < u.1.length) (h : LeadOk (cutL u os) u' i l) : ∃ m, LeadOk u u' u.1.length m ∧ m.length = l.length := by
  have at_ : ∀ p ∈ l, os[p.1]? = some (os.getD p.1 0) ∧ p.2 < u'.1.length ∧ (cutL u os).1[p.1]? = u'.1[p.2]? := fun p hp => by
    obtain ⟨a, b, c⟩ := mem_pairsL.mp (lead_pairs h p hp)
    rw [cut_len] at a
    exact ⟨os_at a, b, c⟩
  obtain ⟨r1, r2⟩ := lead_moved (t := u) (t' := u') (f := fun p => (os.getD p.1 0, p.2)) h (fun p hp => by
    obtain ⟨x, y, z⟩ := at_ p hp
    have hb := b _ (List.mem_of_getElem? x)
    exact mem_pairsL.mpr ⟨hb, y, by rw [← cut_kind x hb]; exact z⟩) fun p hp q hq ne => by
    obtain ⟨n1, n2, n3⟩ := fitM_iff.mp (lead_fit h p hp q hq ne)
    have xp := (at_ p hp).1
    have xq := (at_ q hq).1
    rw [tieL_cut nd xp xq] at n3
    exact fitM_iff.mpr ⟨fun e => n1 (nodup_at nd xp (by dsimp only at e; rw [xq, ← e])), n2, n3⟩
  exact ⟨_, r1, r2⟩
theorem filter_two {α : Type} (f : α → Bool) : ∀ l : List α, l.length = (l.filter f).length + (l.filter fun x => !f x).length
  | [] => rfl
  | x :: l => by
    have := filter_two f l
    cases e : f x <;> simp [List.filter_cons, e] <;> omega
/-- what is left of a lead in a cut web -/
theorem cut_back {u u' : Web} {os : List Nat} {l : Led} (nd : os.Nodup) (b : ∀ p ∈ os, p < u.1.length) (h : LeadOk u u' u.1.length l) : ∃ m, LeadOk (cutL u os) u' (cutL u os).1.length m ∧ l.length + os.length ≤ m.length + u.1.length := by
  have sub := lead_sub h fun p => decide (p.1 ∈ os)
  have pos : ∀ p ∈ l.filter fun p => decide (p.1 ∈ os), os[(posOf os p.1).getD 0]? = some p.1 := fun p hp => by
    obtain ⟨i, hi⟩ := List.mem_iff_getElem?.mp (of_decide_eq_true (List.mem_filter.mp hp).2)
    rw [(posOf_iff nd).mpr hi]
    exact hi
  obtain ⟨r1, r2⟩ := lead_moved (t := cutL u os) (t' := u') (f := fun p => ((posOf os p.1).getD 0, p.2)) sub (fun p hp => by
    obtain ⟨x, y, z⟩ := mem_pairsL.mp (lead_pairs sub p hp)
    have xp := pos p hp
    exact mem_pairsL.mpr ⟨by rw [cut_len]; exact (List.getElem?_eq_some_iff.mp xp).1, y, by rw [cut_kind xp x]; exact z⟩) fun p hp q hq ne => by
    obtain ⟨n1, n2, n3⟩ := fitM_iff.mp (lead_fit sub p hp q hq ne)
    have xp := pos p hp
    have xq := pos q hq
    rw [fitM_iff]
    dsimp only
    rw [tieL_cut nd xp xq]
    refine ⟨fun e => n1 ?_, n2, n3⟩
    rw [e, xq] at xp
    exact (Option.some.inj xp).symm
  refine ⟨_, r1, ?_⟩
  rw [r2]
  have two := filter_two (fun p : Nat × Nat => decide (p.1 ∈ os)) l
  have rest := nodup_len u.1.length (((l.filter fun p => !decide (p.1 ∈ os)).map Prod.fst) ++ os) (List.nodup_append.mpr ⟨by
      unfold List.Nodup
      rw [List.pairwise_map]
      exact (lead_sub h fun p => !decide (p.1 ∈ os)).1.imp fun z => Nat.ne_of_lt z.1, nd, fun a ha c hc e => by
      obtain ⟨p, hp, rfl⟩ := List.mem_map.mp ha
      have := (List.mem_filter.mp hp).2
      rw [e, decide_eq_true hc] at this
      cases this⟩) fun x hx => by
    rcases List.mem_append.mp hx with hx | hx
    · obtain ⟨p, hp, rfl⟩ := List.mem_map.mp hx
      exact (h.2 p (List.mem_filter.mp hp).1).1
    · exact b x hx
  rw [List.length_append, List.length_map] at rest
  omega
theorem cut_size {u u' : Web} {os : List Nat} {k j : Nat} (nd : os.Nodup) (b : ∀ p ∈ os, p < u.1.length) (g : GrL u u' k) (c : GrL (cutL u os) u' j) : j ≤ k ∧ k + os.length ≤ j + u.1.length := by
  constructor
  · obtain ⟨l, hl, el⟩ := great_lead c
    obtain ⟨m, hm, em⟩ := cut_lead nd b hl
    have := lead_most g hm
    omega
  · obtain ⟨l, hl, el⟩ := great_lead g
    obtain ⟨m, hm, em⟩ := cut_back nd b hl
    have := lead_most c hm
    omega
/-- each kept place into itself -/
theorem cut_own {u : Web} {os : List Nat} (nd : os.Nodup) (b : ∀ p ∈ os, p < u.1.length) : GrL (cutL u os) u os.length := by
  have hl : LeadOk (cutL u os) u (cutL u os).1.length ((List.range os.length).map fun i => (i, os.getD i 0)) := by
    refine lead_ofp ?_ fun p hp => ?_
    · rw [List.pairwise_map]
      refine List.Pairwise.imp_of_mem (fun {i j} hi hj lt => ⟨lt, fitM_iff.mpr ⟨Nat.ne_of_lt lt, fun e => Nat.ne_of_lt lt (nodup_at nd (os_at (List.mem_range.mp hi)) (by dsimp only at e; rw [e]; exact os_at (List.mem_range.mp hj))), ?_⟩⟩) List.pairwise_lt_range
      exact tieL_cut nd (os_at (List.mem_range.mp hi)) (os_at (List.mem_range.mp hj))
    · obtain ⟨i, hi, rfl⟩ := List.mem_map.mp hp
      have hi := List.mem_range.mp hi
      have hb := b _ (List.mem_of_getElem? (os_at hi))
      exact mem_pairsL.mpr ⟨by rw [cut_len]; exact hi, hb, cut_kind (os_at hi) hb⟩
  exact great_of hl (by rw [List.length_map, List.length_range]) fun x hx => by
    have := lead_len hx
    rwa [cut_len] at this
/-- a place more -/
structure MoreP (u m : Web) : Prop where
  len : m.1.length = u.1.length + 1
  kind : ∀ i, i < u.1.length → m.1[i]? = u.1[i]?
  tie : ∀ a b, a < u.1.length → b < u.1.length → tieL m.2 a b = tieL u.2 a b
theorem more_size {u m u' : Web} {k j : Nat} (X : MoreP u m) (g : GrL u u' k) (c : GrL m u' j) : k ≤ j ∧ j ≤ k + 1 := by
  constructor
  · obtain ⟨l, hl, el⟩ := great_lead g
    obtain ⟨r1, r2⟩ := lead_moved (t := m) (t' := u') (f := fun p => p) hl (fun p hp => by
      obtain ⟨x, y, z⟩ := mem_pairsL.mp (lead_pairs hl p hp)
      exact mem_pairsL.mpr ⟨by rw [X.len]; omega, y, by rw [X.kind _ x]; exact z⟩) fun p hp q hq ne => by
      obtain ⟨n1, n2, n3⟩ := fitM_iff.mp (lead_fit hl p hp q hq ne)
      exact fitM_iff.mpr ⟨n1, n2, by rw [X.tie _ _ (hl.2 p hp).1 (hl.2 q hq).1]; exact n3⟩
    have := lead_most c r1
    omega
  · obtain ⟨l, hl, el⟩ := great_lead c
    have sub := lead_sub hl fun p => decide (p.1 < u.1.length)
    have lo : ∀ p ∈ l.filter fun p => decide (p.1 < u.1.length), p.1 < u.1.length := fun p hp => of_decide_eq_true (List.mem_filter.mp hp).2
    obtain ⟨r1, r2⟩ := lead_moved (t := u) (t' := u') (f := fun p => p) sub (fun p hp => by
      obtain ⟨x, y, z⟩ := mem_pairsL.mp (lead_pairs sub p hp)
      exact mem_pairsL.mpr ⟨lo p hp, y, by rw [← X.kind _ (lo p hp)]; exact z⟩) fun p hp q hq ne => by
      obtain ⟨n1, n2, n3⟩ := fitM_iff.mp (lead_fit sub p hp q hq ne)
      rw [X.tie _ _ (lo p hp) (lo q hq)] at n3
      exact fitM_iff.mpr ⟨n1, n2, n3⟩
    have := lead_most g r1
    have two := filter_two (fun p : Nat × Nat => decide (p.1 < u.1.length)) l
    have one : (l.filter fun p => !decide (p.1 < u.1.length)).length ≤ 1 := by
      have pw := (lead_sub hl fun p => !decide (p.1 < u.1.length)).1
      have al : ∀ p ∈ l.filter fun p => !decide (p.1 < u.1.length), p.1 = u.1.length := fun p hp => by
        obtain ⟨a, b⟩ := List.mem_filter.mp hp
        have h1 := (hl.2 p a).1
        rw [X.len] at h1
        have : ¬ p.1 < u.1.length := by simpa using b
        omega
      generalize (l.filter fun p => !decide (p.1 < u.1.length)) = F at pw al ⊢
      match F, pw, al with
      | [], _, _ => exact Nat.zero_le _
      | [_], _, _ => exact Nat.le_refl _
      | a :: b :: r, pw, al =>
        have h1 := ((List.pairwise_cons.mp pw).1 b List.mem_cons_self).1
        have h2 := al a List.mem_cons_self
        have h3 := al b (List.mem_cons_of_mem _ List.mem_cons_self)
        omega
    omega
/-! the letters of either half -/
def loW (w : Web) : Web := (w.1.map fun c => 97 + (c - 97) % 13, w.2)
def hiW (w : Web) : Web := (w.1.map fun c => 110 + (c - 97) % 13, w.2)
theorem loW_ok {w : Web} (W : WOk w) : WOk (loW w) := ⟨by show (w.1.map _).length ≤ 40; rw [List.length_map]; exact W.few, W.most, fun c hc => by
  obtain ⟨d, _, rfl⟩ := List.mem_map.mp hc
  unfold Ltr; omega, W.rise, fun t ht => by
  show _ ∧ _ < (w.1.map _).length ∧ _
  rw [List.length_map]; exact W.ends t ht⟩
theorem hiW_ok {w : Web} (W : WOk w) : WOk (hiW w) := ⟨by show (w.1.map _).length ≤ 40; rw [List.length_map]; exact W.few, W.most, fun c hc => by
  obtain ⟨d, _, rfl⟩ := List.mem_map.mp hc
  unfold Ltr; omega, W.rise, fun t ht => by
  show _ ∧ _ < (w.1.map _).length ∧ _
  rw [List.length_map]; exact W.ends t ht⟩
theorem lo_hi {u t : Web} : ∀ c ∈ (loW u).1, c ∉ (hiW t).1 := fun c hc hd => by
  obtain ⟨d, _, rfl⟩ := List.mem_map.mp hc
  obtain ⟨e, _, z⟩ := List.mem_map.mp hd
  omega
theorem hi_lo {u t : Web} : ∀ c ∈ (hiW t).1, c ∉ (loW u).1 := fun c hc hd => lo_hi c hd hc
end Cw

/-! sorted() of a tuple of triples -/
namespace Cw
open PySem PySem.Spec PyProof.Rows L2 Srt SrtO
section
variable {prog : Program} {w : World} {A : Around} {E : Value → Shared → Prop} {s : Shared}
theorem sorted_ordT {l : Addr} {o : Obj} {n : Nat} {vs : List Value} {ltv : Value → Value → Bool} {Q : Value → Shared → Prop} (O : SrtO.Swo ltv) (ho : s.heap.get? l = some o) (hc : o.cls = .type "tuple") (hd : o.data = .seq vs.toArray n) (hz : vs.length ≤ sizeLine)
    (hS : 2 ≤ vs.length → ∀ (h₁ : Heap) (a : Addr), h₁.get? a = some (seqObj "list" vs.toArray 0) → (∀ b o, s.heap.get? b = some o → b ≠ a ∧ h₁.get? b = some o) → SrtO.SortableO prog w A.in1.in1 { s with heap := h₁ } a vs ltv)
    (h : ∀ (h1 h' : Heap) (out : List Value), SrtO.Srtd ltv out → SrtO.Stb ltv out vs → (∀ b o, s.heap.get? b = some o → h1.get? b = some o) → (∀ b o, h1.get? b = some o → h'.get? b = some o) → (∃ n, h'.get? h1.objs.size = some (seqObj "list" out.toArray n)) → Q (.ref h1.objs.size) { s with heap := h' }) :
    wpAny (model prog w) A (call (.builtin "sorted") [.ref l]) Q E s := by
  refine Calls.call_function_entry kind_sorted plain_sorted entry_sorted (args_sorted1 _) ?_
  unfold Builtin.«sorted»
  refine wpAny_bind (m := checkCount "sorted" 1 1 _) (wpAny_pure ?_)
  refine wpAny_bind (PySem.wpAny_collect_seq l (.inr rfl) ho hc hd (fun h1 k1 => ?_) (by simpa using hz))
  rw [show vs.toArray.toList = vs by simp]
  refine wpAny_bind (wpAny_newList ?_ hz)
  have hoL : (h1.push (seqObj "list" vs.toArray 0)).get? h1.objs.size = some (seqObj "list" vs.toArray 0) := Heap.get?_push_size _ rfl
  have keep : ∀ b o, s.heap.get? b = some o → b ≠ h1.objs.size ∧ (h1.push (seqObj "list" vs.toArray 0)).get? b = some o := fun b o q =>
    ⟨Nat.ne_of_lt (Heap.lt_size (k1 _ _ q)), Heap.get?_push_of_some _ (k1 _ _ q)⟩
  show wpAny _ _ _ _ _ { s with heap := h1.push (seqObj "list" vs.toArray 0) }
  refine wpAny_bind (wpAny_holding (wpAny_call_entry slot_list_sort ⟨_, hoL, rfl⟩ entry_list_sort (SrtO.list_sort_ord O hoL hz (fun h2 => hS h2 _ _ hoL keep) fun out hs hb => ⟨_, rfl, ?_⟩) (args_list_sort _)))
  refine wpAny_pure ⟨_, rfl, h h1 _ out hs hb k1 (fun b o q => ?_) (sortedHeap_at hoL)⟩
  rw [sortedHeap_old (Nat.ne_of_lt (Heap.lt_size q)) (by rw [size_push']; exact Nat.lt_succ_of_lt (Heap.lt_size q))]
  exact Heap.get?_push_of_some _ q
theorem sorted_trisT {l : Addr} {o : Obj} {n : Nat} {vs : List Value} {k : Value → Tri} {Q : Value → Shared → Prop} (ho : s.heap.get? l = some o) (hc : o.cls = .type "tuple") (hd : o.data = .seq vs.toArray n) (hz : vs.length ≤ sizeLine) (hp : ∀ v ∈ vs, IsTri s.heap v (k v))
    (h : ∀ (h1 h' : Heap) (out : List Value), SrtO.Srtd (fun v u => lexT (k v) (k u)) out → out.Perm vs → (∀ b o, s.heap.get? b = some o → h1.get? b = some o) → (∀ b o, h1.get? b = some o → h'.get? b = some o) → (∃ n, h'.get? h1.objs.size = some (seqObj "list" out.toArray n)) → Q (.ref h1.objs.size) { s with heap := h' }) :
    wpAny (model prog w) A (call (.builtin "sorted") [.ref l]) Q E s := by
  refine sorted_ordT (swo_T k) ho hc hd hz (fun h2 h₁ a ha kk => tri_sortable (s := { s with heap := h₁ }) (by omega) (fun v hm => (hp v hm).keeps fun b o e _ => (kk b o e).2) fun o e c => ?_) fun h1 h' out hs hb k1 kp at_ => h h1 h' out hs hb.perm k1 kp at_
  have e' : some o = some (seqObj "list" vs.toArray 0) := e.symm.trans ha
  cases e'
  exact absurd (Value.type.inj c) (by decide)
end
theorem triV_inj {p q : Tri} (h : triV p = triV q) : p = q := by
  unfold triV at h
  simp only [List.cons.injEq, V.int.injEq, V.str.injEq] at h
  obtain ⟨h1, h2, h3, _⟩ := h
  exact Prod.ext h1 (Prod.ext h2 (sg_inj.mp h3))
/-- sorted(ties) of a tuple -/
def rSorted3T (K : PySem.W.Frag) : List V → Hp → VK → Prop := fun vs H Q => ∃ (a : Addr) (es : List (Addr × Tri)), vs = [V.ref a] ∧ SqT K H a (es.map fun e => V.ref e.1) ∧ (∀ e ∈ es, SqT K H e.1 (triV e.2)) ∧
  ∀ (es' : List (Addr × Tri)) p, es'.Perm es → (es'.map (·.2)).Pairwise (fun x y => lexT y x = false) → H p = none → Q (.ref p) (upd H p (.lst (es'.map fun e => V.ref e.1)))
section
variable {X : Cx}
theorem cr_sorted3T : CallR X (.builtin "sorted") (rSorted3T X.K) := by
  intro pins s σ H vs us Q I r h
  obtain ⟨a, es, rfl, hs, hx, q⟩ := h
  obtain ⟨its, rv, ⟨o0, g0, c0, n0, d0⟩, hz⟩ := I.tuple hs
  obtain ⟨u, rfl, ru⟩ := vals1 r
  obtain rfl : u = Value.ref a := ru
  -- the items, by their addresses
  have eits : its = es.map fun e => Value.ref e.1 := by
    have : ∀ {xs : List (Addr × Tri)} {us : List Value}, Vals (xs.map fun e => V.ref e.1) us → us = xs.map fun e => Value.ref e.1 := by
      intro xs
      induction xs with
      | nil => intro us r; cases r; rfl
      | cons x xs ih =>
        intro us r
        cases r with
        | cons r1 r2 => rw [ih r2, (show _ = Value.ref x.1 from r1)]; rfl
    exact this rv
  -- the key, read off the heap
  let kA : Addr → Tri := fun b => ((es.find? fun e => e.1 == b).map (·.2)).getD (0, 0, 0)
  have kA_eq : ∀ e ∈ es, kA e.1 = e.2 := fun e he => by
    show ((es.find? fun e' => e'.1 == e.1).map (·.2)).getD (0, 0, 0) = e.2
    cases hf : es.find? fun e' => e'.1 == e.1 with
    | none => exact absurd (beq_self_eq_true e.1) (by simpa using List.find?_eq_none.mp hf e he)
    | some e' =>
      have h1 : e'.1 = e.1 := by simpa using List.find?_some hf
      have h2 := hx e' (List.mem_of_find?_eq_some hf)
      rw [h1] at h2
      exact triV_inj (I.tuple_inj h2 (hx e he))
  let kV' : Value → Tri := fun v => match v with
    | .ref b => kA b
    | _ => (0, 0, 0)
  refine sorted_trisT (k := kV') g0 c0 d0 (by rw [← rv.length]; exact hz) (fun v hv => ?_) fun h0 h' out h1 h2 kp1 kp hn => ?_
  · rw [eits] at hv
    obtain ⟨e, he, rfl⟩ := List.mem_map.mp hv
    obtain ⟨its2, r2, ⟨o, ho, hc, n, hd⟩, _⟩ := I.tuple (hx e he)
    have ek : kV' (Value.ref e.1) = e.2 := kA_eq e he
    rw [ek]
    cases r2 with
    | cons ra rr =>
      cases rr with
      | cons rb rr =>
        cases rr with
        | cons rc rr =>
          cases rr
          obtain ⟨t1, rfl⟩ := ra
          obtain ⟨t2, rfl⟩ := rb
          obtain ⟨t3, rfl⟩ := rc
          exact ⟨e.1, o, t1, t2, t3, n, rfl, ho, hc, hd⟩
  · obtain ⟨n, hn⟩ := hn
    rw [eits] at h2
    have hmem : ∀ v ∈ out, ∃ e ∈ es, v = Value.ref e.1 := fun v hv => by
      obtain ⟨e, he, e'⟩ := List.mem_map.mp (h2.mem_iff.mp hv)
      exact ⟨e, he, e'.symm⟩
    -- back to pairs
    let back : Value → Addr × Tri := fun v => match v with
      | .ref b => (b, kA b)
      | _ => (0, (0, 0, 0))
    have p1 : (out.map back).Perm es := by
      have z := h2.map back
      rw [List.map_map] at z
      have e2 : es.map (back ∘ fun e => Value.ref e.1) = es := by
        conv => rhs; rw [← List.map_id es]
        refine List.map_congr_left fun e he => ?_
        show (e.1, kA e.1) = e
        rw [kA_eq e he]
      rw [e2] at z
      exact z
    have e3 : (out.map back).map (fun e => V.ref e.1) = out.map backV := by
      rw [List.map_map]
      refine List.map_congr_left fun v hv => ?_
      obtain ⟨e, he, rfl⟩ := hmem v hv
      rfl
    have srt : ((out.map back).map (·.2)).Pairwise (fun x y => lexT y x = false) := by
      rw [List.map_map, List.pairwise_map]
      refine h1.imp_of_mem fun {x y} hx' hy' hxy => ?_
      obtain ⟨e, he, rfl⟩ := hmem x hx'
      obtain ⟨e', he', rfl⟩ := hmem y hy'
      exact hxy
    have I1 : Inv X pins σ H { s with heap := h0 } := I.kept (t' := s.toks) kp1
    have g := q (out.map back) h0.objs.size p1 srt (I1.hok.fresh (Nat.le_refl _))
    rw [e3] at g
    have hzo : (out.map backV).length ≤ sizeLine := by
      rw [List.length_map, h2.length_eq, List.length_map]
      rw [List.length_map] at hz
      exact hz
    have hvb : Vals (out.map backV) out := vals_back fun u hu => by
      obtain ⟨e, he, rfl⟩ := hmem u hu
      exact ⟨_, rfl⟩
    exact ⟨.ref h0.objs.size, upd H h0.objs.size (.lst (out.map backV)), I1.laid (t' := s.toks) kp (Nat.le_refl _) (show ObjOk X.prog X.w _ _ _ (.lst (out.map backV)) from ⟨hzo, out, n, hvb, hn⟩), rfl, g⟩

end
end Cw

/-! sorted() of a list of ties as they lie -/
namespace Cw
open PySem PySem.Spec PyProof.Rows L2 Srt SrtO
/-- sorted(ties) of a list, the ties as they lie -/
def rSorted3S (K : PySem.W.Frag) : List V → Hp → VK → Prop := fun vs H Q => ∃ (a : Addr) (es : List (Addr × Tri)), vs = [V.ref a] ∧ SqL K H a (es.map fun e => V.ref e.1) ∧ (∀ e ∈ es, SqT K H e.1 (triV e.2)) ∧
  ∀ (es' : List (Addr × Tri)) p, es'.Perm es → (es'.map (·.2)).Pairwise (fun x y => lexT y x = false) → H p = none → Q (.ref p) (upd H p (.lst (es'.map fun e => V.ref e.1)))
section
variable {X : Cx}
theorem cr_sorted3S : CallR X (.builtin "sorted") (rSorted3S X.K) := by
  intro pins s σ H vs us Q I r h
  obtain ⟨a, es, rfl, hs, hx, q⟩ := h
  obtain ⟨its, rv, hl, hz⟩ := I.list hs
  obtain ⟨u, rfl, ru⟩ := vals1 r
  obtain rfl : u = Value.ref a := ru
  -- the items, by their addresses
  have eits : its = es.map fun e => Value.ref e.1 := by
    have : ∀ {xs : List (Addr × Tri)} {us : List Value}, Vals (xs.map fun e => V.ref e.1) us → us = xs.map fun e => Value.ref e.1 := by
      intro xs
      induction xs with
      | nil => intro us r; cases r; rfl
      | cons x xs ih =>
        intro us r
        cases r with
        | cons r1 r2 => rw [ih r2, (show _ = Value.ref x.1 from r1)]; rfl
    exact this rv
  -- the key, read off the heap
  let kA : Addr → Tri := fun b => ((es.find? fun e => e.1 == b).map (·.2)).getD (0, 0, 0)
  have kA_eq : ∀ e ∈ es, kA e.1 = e.2 := fun e he => by
    show ((es.find? fun e' => e'.1 == e.1).map (·.2)).getD (0, 0, 0) = e.2
    cases hf : es.find? fun e' => e'.1 == e.1 with
    | none => exact absurd (beq_self_eq_true e.1) (by simpa using List.find?_eq_none.mp hf e he)
    | some e' =>
      have h1 : e'.1 = e.1 := by simpa using List.find?_some hf
      have h2 := hx e' (List.mem_of_find?_eq_some hf)
      rw [h1] at h2
      exact triV_inj (I.tuple_inj h2 (hx e he))
  let kV' : Value → Tri := fun v => match v with
    | .ref b => kA b
    | _ => (0, 0, 0)
  refine sorted_tris (k := kV') hl.isList (by rw [← rv.length]; exact hz) (fun v hv => ?_) fun h' d out h1 h2 kp hd hn => ?_
  · rw [eits] at hv
    obtain ⟨e, he, rfl⟩ := List.mem_map.mp hv
    obtain ⟨its2, r2, ⟨o, ho, hc, n, hd⟩, _⟩ := I.tuple (hx e he)
    have ek : kV' (Value.ref e.1) = e.2 := kA_eq e he
    rw [ek]
    cases r2 with
    | cons ra rr =>
      cases rr with
      | cons rb rr =>
        cases rr with
        | cons rc rr =>
          cases rr
          obtain ⟨t1, rfl⟩ := ra
          obtain ⟨t2, rfl⟩ := rb
          obtain ⟨t3, rfl⟩ := rc
          exact ⟨e.1, o, t1, t2, t3, n, rfl, ho, hc, hd⟩
  · obtain ⟨n, hn⟩ := hn
    rw [eits] at h2
    have hmem : ∀ v ∈ out, ∃ e ∈ es, v = Value.ref e.1 := fun v hv => by
      obtain ⟨e, he, e'⟩ := List.mem_map.mp (h2.mem_iff.mp hv)
      exact ⟨e, he, e'.symm⟩
    -- back to pairs
    let back : Value → Addr × Tri := fun v => match v with
      | .ref b => (b, kA b)
      | _ => (0, (0, 0, 0))
    have p1 : (out.map back).Perm es := by
      have z := h2.map back
      rw [List.map_map] at z
      have e2 : es.map (back ∘ fun e => Value.ref e.1) = es := by
        conv => rhs; rw [← List.map_id es]
        refine List.map_congr_left fun e he => ?_
        show (e.1, kA e.1) = e
        rw [kA_eq e he]
      rw [e2] at z
      exact z
    have e3 : (out.map back).map (fun e => V.ref e.1) = out.map backV := by
      rw [List.map_map]
      refine List.map_congr_left fun v hv => ?_
      obtain ⟨e, he, rfl⟩ := hmem v hv
      rfl
    have srt : ((out.map back).map (·.2)).Pairwise (fun x y => lexT y x = false) := by
      rw [List.map_map, List.pairwise_map]
      refine h1.imp_of_mem fun {x y} hx' hy' hxy => ?_
      obtain ⟨e, he, rfl⟩ := hmem x hx'
      obtain ⟨e', he', rfl⟩ := hmem y hy'
      exact hxy
    have g := q (out.map back) d p1 srt (I.hok.fresh hd)
    rw [e3] at g
    have hzo : (out.map backV).length ≤ sizeLine := by
      rw [List.length_map, h2.length_eq, List.length_map]
      rw [List.length_map] at hz
      exact hz
    have hvb : Vals (out.map backV) out := vals_back fun u hu => by
      obtain ⟨e, he, rfl⟩ := hmem u hu
      exact ⟨_, rfl⟩
    exact ⟨.ref d, upd H d (.lst (out.map backV)), I.laid (t' := s.toks) kp hd (show ObjOk X.prog X.w _ _ _ (.lst (out.map backV)) from ⟨hzo, out, n, hvb, hn⟩), rfl, g⟩
end
end Cw

/-! zip of a text and a list, in a loop -/
namespace Cw
open PySem PySem.Spec PyProof.Rows L2
/-- a sign of the text and an item of the list, in a new pair -/
def Itzs (K : PySem.W.Frag) (x : Str) (b : Addr) : It :=
  ⟨fun i H => i < x.cps.size ∧ ∃ ys, SqL K H b ys ∧ i < ys.length,
    fun i H v H' => ∃ T y c, v = .ref T ∧ H T = none ∧ H' = upd H T (.tup [.str ⟨#[c]⟩, y]) ∧ x.cps[i]? = some c ∧ ∀ ys, SqL K H b ys → ys[i]? = some y,
    fun i H => ∃ ys, SqL K H b ys ∧ i ≤ x.cps.size ∧ i ≤ ys.length ∧ (i = x.cps.size ∨ i = ys.length)⟩
theorem sep_five {z TI TO i1 i2 c : Addr} : c ∈ [z, TI, TO, i1, i2] ↔ c = z ∨ c = TI ∨ c = TO ∨ c = i1 ∨ c = i2 := by simp
theorem turn_zipS {P : Program} {w : World} {K : PySem.W.Frag} {es : List Expr} {q : Nat} {ps : Pos} {b z TI TO i1 i2 : Addr} {x : Str} {t : Tok} (S : ZipSep2 z TI TO i1 i2 [i1] [i2, b]) :
    Turn P w K (.Tuple es q ps) (Itzs K x b) [z, TI, TO, i1, i2] z (fun i h => IsZip h z TI TO .none ∧ IsTupOf2 h TI (.ref i1) (.ref i2) ∧ (∃ u v, IsTupOf2 h TO u v) ∧ h.IsStrIter i1 (strIterType x) x t i ∧ h.IsListIter i2 b i) := by
  have i2z : i2 ≠ z := fun e => S.zf2 (by rw [e]; exact List.mem_cons_self)
  have i1z : i1 ≠ z := fun e => S.zf1 (by rw [e]; exact List.mem_cons_self)
  have i2b : b ≠ i2 → True := fun _ => trivial
  refine ⟨List.mem_cons_self, fun i h st c hc => ?_, fun i h h' st k => ?_, ?_, ?_, fun A i s Q E st h => wpAny_pyIter_zip st.1 h⟩
  · obtain ⟨a1, a2, ⟨u, v, a3⟩, ⟨o1, e1, _, d1⟩, ⟨o2, e2, _, d2⟩⟩ := st
    rcases sep_five.mp hc with rfl | rfl | rfl | rfl | rfl
    · exact ⟨_, a1, fun v z => nomatch z⟩
    · exact ⟨_, a2, fun v z => nomatch z⟩
    · exact ⟨_, a3, fun v z => nomatch z⟩
    · exact ⟨o1, e1, fun v z => by rw [d1] at z; cases z⟩
    · exact ⟨o2, e2, fun v z => by rw [d2] at z; cases z⟩
  · obtain ⟨a1, a2, ⟨u, v, a3⟩, ⟨o1, e1, r1⟩, a5⟩ := st
    exact ⟨k _ (sep_five.mpr (.inl rfl)) _ a1, k _ (sep_five.mpr (.inr (.inl rfl))) _ a2, ⟨u, v, k _ (sep_five.mpr (.inr (.inr (.inl rfl)))) _ a3⟩, ⟨o1, k _ (sep_five.mpr (.inr (.inr (.inr (.inl rfl))))) _ e1, r1⟩, a5.at fun o e => k _ (sep_five.mpr (.inr (.inr (.inr (.inr rfl))))) o e⟩
  · intro X hP hw hK hc i pins s σ H E I hf st hg
    subst hP hw hK
    obtain ⟨a1, a2, ⟨u0, v0, a3⟩, a4, a5⟩ := st
    obtain ⟨hi, ys, hq, hlt⟩ := hg
    obtain ⟨its, rv, p, _⟩ := I.list hq
    have lr := rv.length
    have hh : X.A.in1.handled = none := I.ok.hd hc
    have zl : z < s.heap.objs.size := Heap.lt_size a1
    have bi : b ≠ i2 := fun e => by
      obtain ⟨o2, e2, c2, _⟩ := a5
      obtain ⟨o3, e3, c3, _⟩ := p.isList
      rw [e, e2] at e3
      cases e3
      rw [c2] at c3
      exact absurd (Value.type.inj c3) (by decide)
    refine wpAny_pyNext_zipD2_item S (Draws.text hh i1 x t) (Draws.list hh i2 b bi its.toArray) a1 a2 a3 a4 ⟨a5, p.isList⟩ hi (by simp; omega) fun x1 x2 h' tk y1 y2 b1 b2 d1 d2 b5 b6 hk => ?_
    obtain ⟨c, u, hcx, rfl⟩ := y1
    obtain ⟨u2, hu2, ru2⟩ := rv.get (List.getElem?_eq_getElem hlt)
    have eu : u2 = x2 := by
      have y2' : its[i]? = some x2 := by simpa using y2
      rw [hu2] at y2'
      exact Option.some.inj y2'
    subst eu
    refine ⟨_, rfl, wpAny_letOwnedTupleGo_zip (s := { s with heap := h', toks := tk }) b1 fun h2 z2 sb => ?_⟩
    have off : ∀ c, c ≠ z → ∀ o, h'.get? c = some o → h2.get? c = some o := fun c n o e => (sb.2 c n).trans e
    have T2 := off _ (Nat.ne_of_gt zl) _ b5
    have new : ObjOk X.prog X.w (upd H s.heap.objs.size (.tup [.str ⟨#[c]⟩, ys[i]])) h2 s.heap.objs.size (.tup [.str ⟨#[c]⟩, ys[i]]) :=
      ⟨by show 2 ≤ sizeLine; decide, _, .cons ⟨u, rfl⟩ (.cons ru2 .nil), ⟨_, T2, rfl, _, rfl⟩⟩
    have I1 : Inv X pins σ (upd H s.heap.objs.size (.tup [.str ⟨#[c]⟩, ys[i]])) { s with heap := h2, toks := tk } :=
      I.turnedNew (t' := tk) (ch := [z, TI, TO, i1, i2]) (fun d o hd e => by
        have n := fun w => hd (sep_five.mpr w)
        exact off d (fun q => n (.inl q)) o (hk d o (fun q => n (.inl q)) (fun q => n (.inr (.inr (.inl q)))) (fun q => n (.inr (.inr (.inr (.inl q))))) (fun q => n (.inr (.inr (.inr (.inr q))))) e)) hf (Nat.le_refl _) new
    refine ⟨.ref s.heap.objs.size, _, I1, rfl, ⟨_, ys[i], c, rfl, I.hok.fresh (Nat.le_refl _), rfl, hcx, fun l hl => by rw [I.list_inj hl hq]; exact List.getElem?_eq_getElem hlt⟩, ⟨z2, ?_, ⟨_, _, off _ S.TOz _ b2⟩, ?_, ?_⟩, fun d hd => ?_⟩
    · exact off _ S.TIz _ (hk _ _ S.TIz S.TITO S.TIi1 S.TIi2 a2)
    · obtain ⟨o1, e1, r1⟩ := d1
      exact ⟨o1, off _ i1z _ e1, r1⟩
    · exact d2.1.at fun o e => off _ i2z o e
    · have dl : d < s.heap.objs.size := by
        rcases sep_five.mp hd with rfl | rfl | rfl | rfl | rfl
        · exact zl
        · exact Heap.lt_size a2
        · exact Heap.lt_size a3
        · obtain ⟨_, e, _⟩ := a4; exact Heap.lt_size e
        · obtain ⟨_, e, _⟩ := a5; exact Heap.lt_size e
      rw [upd_ne (Nat.ne_of_lt dl)]
      exact (hf d hd).1
  · intro X hP hw hK hc i pins s σ H E I hf st hg
    subst hP hw hK
    obtain ⟨a1, a2, ⟨u0, v0, a3⟩, a4, a5⟩ := st
    obtain ⟨ys, hq, l1, l2, he⟩ := hg
    obtain ⟨its, rv, p, _⟩ := I.list hq
    have lr := rv.length
    have hh : X.A.in1.handled = none := I.ok.hd hc
    have bi : b ≠ i2 := fun e => by
      obtain ⟨o2, e2, c2, _⟩ := a5
      obtain ⟨o3, e3, c3, _⟩ := p.isList
      rw [e, e2] at e3
      cases e3
      rw [c2] at c3
      exact absurd (Value.type.inj c3) (by decide)
    refine wpAny_pyNext_zipD2_end S (Draws.text hh i1 x t) (Draws.list hh i2 b bi its.toArray) a1 a2 a3 a4 ⟨a5, p.isList⟩ l1 (by simp; omega) (by simp; omega) fun h' tk hk => ⟨rfl, I.turnedL (t' := tk) (ch := [z, TI, TO, i1, i2]) (fun d o hd e => ?_) hf⟩
    have n := fun w => hd (sep_five.mpr w)
    exact hk d o (fun q => n (.inl q)) (fun q => n (.inr (.inr (.inl q)))) (fun q => n (.inr (.inr (.inr (.inl q))))) (fun q => n (.inr (.inr (.inr (.inr q))))) e
theorem nm1 {x y : Nat} (h : x ≠ y) : x ∉ [y] := by simp; omega
theorem nm2 {x y z : Nat} (h : x ≠ y) (h2 : x ≠ z) : x ∉ [y, z] := by simp; omega
theorem sep_mk (n b : Nat) (hb : b < n) : ZipSep2 (n + 4) (n + 2) (n + 3) n (n + 1) [n] [n + 1, b] :=
  { TIz := (by omega : n + 2 ≠ n + 4), TOz := (by omega : n + 3 ≠ n + 4), TITO := (by omega : n + 2 ≠ n + 3), TIi1 := (by omega : n + 2 ≠ n), mem1 := List.mem_cons_self, zf1 := nm1 (by omega), Tf1 := nm1 (by omega),
    TIi2 := (by omega : n + 2 ≠ n + 1), mem2 := List.mem_cons_self, zf2 := nm2 (by omega) (by omega), Tf2 := nm2 (by omega) (by omega), sep1_2 := nm2 (by omega) (by omega), sep2_1 := nm1 (by omega) }
def iZipS (K : PySem.W.Frag) (ta : TA) : TI := fun σ H R => ta σ H fun vs H1 => ∃ x b ys, vs = [.str x, .ref b] ∧ SqL K H1 b ys ∧ R (Itzs K x b) H1
theorem pi_zipS {X : Cx} {e e2 : Expr} {ta : TA} {p pos tpos : Pos} {elts : List Expr} {kk : Nat} (hg : Gl X "zip") (hm : X.mg "zip" = none) (ha : PA X [e, e2] ta)
    (h1 : starEach [e, e2] X.env = (false, eval e X.env) :: starEach [e2] X.env := by rfl) (h2 : (backTo pos (starEach [e2] X.env)).any (·.1) = false := by rfl) :
    PI X (.Tuple elts kk tpos) (.Call (.Name "zip" p) [e, e2] [] pos) (iZipS X.K ta) := by
  refine ⟨fun pins s σ H R I h => Call_ (ld_blt I hg hm PyProof.Rows.boot_zip (PyProof.Rows.callWith_type1 (thn (ha.run pos pins s σ H _ I h) fun us s1 ⟨vs, H1, I1, r1, x, b, ys, ex, hq, q⟩ => ?_) h1 h2))⟩
  subst ex
  cases r1 with
  | cons r rr =>
    cases rr with
    | cons r' rr =>
      cases rr
      obtain ⟨t, rfl⟩ := r
      cases r'
      obtain ⟨its, rv, pl, _⟩ := I1.list hq
      have bl : b < s1.heap.objs.size := pl.lt
      refine zip_begins2 (begins_text x t) (begins_list b its.toArray) trivial pl.isList fun h' hz hTI hTO g1 g2 hs hk => wpAny_pyIter_zip hz ?_
      have I2 : Inv X pins σ H1 { s1 with heap := h' } := I1.kept (t' := s1.toks) hk
      have fresh5 : ∀ c, c ∈ [s1.heap.objs.size + 4, s1.heap.objs.size + 2, s1.heap.objs.size + 3, s1.heap.objs.size, s1.heap.objs.size + 1] → FpOk X pins H1 c := fun c hc => by
        have hle : s1.heap.objs.size ≤ c := by
          rcases sep_five.mp hc with z | z | z | z | z
          · rw [z]; exact Nat.le_add_right _ _
          · rw [z]; exact Nat.le_add_right _ _
          · rw [z]; exact Nat.le_add_right _ _
          · rw [z]; exact Nat.le_refl _
          · rw [z]; exact Nat.le_add_right _ _
        exact I1.fpOk hle (I1.hok.fresh hle)
      have sep := sep_mk s1.heap.objs.size b bl
      exact ⟨s1.heap.objs.size + 4, [s1.heap.objs.size + 4, s1.heap.objs.size + 2, s1.heap.objs.size + 3, s1.heap.objs.size, s1.heap.objs.size + 1], _, _, H1, rfl, I2, turn_zipS sep, ⟨hz, hTI, ⟨_, _, hTO⟩, ⟨_, g1, rfl, rfl⟩, ⟨_, g2, rfl, rfl⟩⟩, fresh5, q⟩
theorem walk_zipS {K : PySem.W.Frag} {x : Str} {b : Addr} {ys : List V} (hl : ys.length = x.cps.size) : Walk (Itzs K x b) x.cps.size (fun H => SqL K H b ys) (fun i H v H' => ∃ T y c, v = .ref T ∧ H T = none ∧ H' = upd H T (.tup [.str ⟨#[c]⟩, y]) ∧ x.cps[i]? = some c ∧ ys[i]? = some y) :=
  ⟨fun i H hi q => ⟨hi, ys, q, by omega⟩, fun H q => ⟨ys, q, Nat.le_refl _, by omega, .inl rfl⟩, fun i H v H' hi q y => by
    obtain ⟨T, y', c, h1, h2, h3, h4, h5⟩ := y
    exact ⟨T, y', c, h1, h2, h3, h4, h5 ys q⟩⟩
/-- a text of one sign, so many times -/
def rRepS : R2 := fun x y H Q => ∃ (c n : Nat), x = .str ⟨#[c]⟩ ∧ y = .int (n : Nat) ∧ n ≤ 1000 ∧ Q (.str ⟨(List.replicate n c).toArray⟩) H
theorem fold_one (c : Nat) : ∀ (n : Nat) (a : Array Nat), (List.replicate n (#[c] : Array Nat)).foldl (· ++ ·) a = a ++ (List.replicate n c).toArray
  | 0, a => by simp
  | n + 1, a => by
    rw [List.replicate_succ, List.foldl_cons, fold_one c n, List.replicate_succ]
    apply Array.ext'
    simp
theorem op_repS {X : Cx} : OpR X (binaryOp .Mult) rRepS := by
  intro pins s σ H x y v u Q I rx ry h
  obtain ⟨c, n, rfl, rfl, hn, q⟩ := h
  obtain ⟨t, rfl⟩ := rx
  obtain ⟨t2, rfl⟩ := ry
  have lo : ¬ (n : Int) < -(2 ^ 63 : Int) := by omega
  have hi : ¬ (n : Int) ≥ 2 ^ 63 := by omega
  have l1 : (⟨#[c]⟩ : Str).length = 1 := rfl
  refine PySem.P.mul_str (by rw [decide_eq_false lo, decide_eq_false hi]; rfl) (fun h1 h2 => ?_) (fun h1 h2 => ?_) ?_
  · rw [l1]
    have z : (1 : Int) ≤ (2 ^ 63 - 1) / (n : Int) := Int.le_ediv_of_mul_le (by omega) (by omega)
    omega
  · rw [l1]
    refine decide_eq_false ?_
    have : (n : Int).toNat = n := rfl
    have : (100000 : Nat) ≤ sizeLine := by decide
    omega
  · by_cases h0 : (n : Int) < 1
    · have e : n = 0 := by omega
      subst e
      rw [if_pos h0]
      exact ⟨by decide, .str ⟨#[]⟩, H, I.tok _, ⟨_, rfl⟩, q⟩
    · rw [if_neg h0]
      by_cases h1 : n = 1
      · subst h1
        rw [if_pos (by rfl)]
        exact ⟨.str ⟨#[c]⟩, H, I, ⟨_, rfl⟩, q⟩
      · rw [if_neg (by rw [l1]; simp; omega), show (n : Int).toNat = n from rfl, fold_one]
        refine ⟨?_, .str ⟨#[] ++ (List.replicate n c).toArray⟩, H, I.tok _, ⟨_, rfl⟩, by simpa using q⟩
        show (#[] ++ (List.replicate n c).toArray).size ≤ sizeLine
        have : (100000 : Nat) ≤ sizeLine := by decide
        simp
        omega
/-- a text from behind -/
def tRevS (te : TE) : TE := fun σ H Q => te σ H fun x H1 => ∃ z : Str, x = .str z ∧ z.length ≤ sizeLine ∧ Q (.str ⟨z.cps.toList.reverse.toArray⟩) H1
theorem pe_revS {X : Cx} {e : Expr} {te : TE} {k : Nat} {p1 p2 p3 pos : Pos} (he : PE X e te) : PE X (.Subscript e (.Slice none none (some (.UnaryOp .USub (.Constant (.int 1) k p1) p2)) p3) pos) (tRevS te) := by
  refine ⟨fun pins s σ H Q I h => ?_⟩
  refine Subscript_ (thn (he.run pins s σ H _ I h) fun v s1 ⟨x, H1, I1, r1, q1⟩ => ?_)
  obtain ⟨z, ex, hz, q⟩ := q1
  subst ex
  obtain ⟨t, rfl⟩ := r1
  have hst : PO X (some (.UnaryOp .USub (.Constant (.int 1) k p1) p2)) (tPart (tUn (rU fun i => .int (-i)) (tC (.int 1)))) := po_some (pe_un un_neg pe_int)
  refine wpAny_Slice (thn (po_none.run pins s1 σ H1 (fun o H2 => o = none ∧ H2 = H1) I1 ⟨rfl, rfl⟩) fun vl s2 ⟨l, H2, I2, pl, el, e2⟩ => ?_)
  subst el e2
  refine thn (po_none.run pins s2 σ H2 (fun o H3 => o = none ∧ H3 = H2) I2 ⟨rfl, rfl⟩) fun vu s3 ⟨u, H3, I3, pu, eu, e3⟩ => ?_
  subst eu e3
  refine thn (hst.run pins s3 σ H3 (fun o H4 => o = some (-1) ∧ H4 = H3) I3 ⟨1, rfl, -1, rfl, rfl, rfl⟩) fun vs s4 ⟨o, H4, I4, ps, eo, e4⟩ => ?_
  subst eo e4
  have I5 : Inv X pins σ H4 { s4 with heap := s4.heap.push { cls := .type "slice", data := .fields #[vl, vu, vs] } } := I4.kept (t' := s4.toks) fun b ob q => Heap.get?_push_of_some _ q
  obtain ⟨l, rfl, el⟩ := IsPart.raw pl
  obtain ⟨u, rfl, eu⟩ := IsPart.raw pu
  obtain ⟨st, rfl, est⟩ := IsPart.raw ps
  show wpAny (model X.prog X.w) X.A (subscriptTail e (.Slice none none (some (.UnaryOp .USub (.Constant (.int 1) k p1) p2)) p3) (.str z t) (.ref s4.heap.objs.size)) (EP X pins σ Q) X.xe { s4 with heap := s4.heap.push { cls := .type "slice", data := .fields #[partValue l, partValue u, partValue st] } }
  refine tail_any (ops := [.str z t, .ref s4.heap.objs.size]) (typeIs_str _ z t) (PySem.F.slot_str_getitem.lookup) ?_ (by with_unfolding_all rfl)
  refine wpAny_getItem_str_slice (l := l) (u := u) (st := st) ⟨_, Heap.get?_push_size _ rfl, rfl, rfl⟩ (by rw [est]; rfl) ?_
  unfold sliceMade
  rw [est, if_neg (by simp)]
  have ep : slicePicked z l u st = (List.range z.cps.size).map fun k => z.cps.size - 1 - k := by
    unfold slicePicked
    rw [el, eu, est]
    show sliceRange ((z.cps.size : Int) - 1) (-1) (-1) = _
    exact PySem.W.krv_sliceRange _
  rw [ep, PySem.W.krv_range, List.filterMap_reverse, PySem.W.krv_all]
  refine ⟨?_, .str ⟨z.cps.toList.reverse.toArray⟩, H4, I5.tok _, ⟨_, rfl⟩, q⟩
  show (z.cps.toList.reverse.toArray).size ≤ sizeLine
  have : z.cps.size ≤ sizeLine := hz
  simpa using this
end Cw

namespace Cw
open PySem PySem.Spec PyProof.Rows L2
/-- a text, three times -/
def rRep3 : R2 := fun x y H Q => ∃ z : Str, x = .str z ∧ y = .int 3 ∧ 0 < z.length ∧ z.length ≤ 300 ∧ Q (.str ⟨(List.replicate 3 z.cps).foldl (· ++ ·) #[]⟩) H
theorem op_rep3 {X : Cx} : OpR X (binaryOp .Mult) rRep3 := by
  intro pins s σ H x y v u Q I rx ry h
  obtain ⟨z, rfl, rfl, hz0, hz, q⟩ := h
  obtain ⟨t, rfl⟩ := rx
  obtain ⟨t2, rfl⟩ := ry
  have hs : (100000 : Nat) ≤ sizeLine := by decide
  refine PySem.P.mul_str (by decide) (fun h1 h2 => ?_) (fun h1 h2 => ?_) ?_
  · have : ((2 ^ 63 - 1) / 3 : Int) ≥ 1000 := by decide
    omega
  · refine decide_eq_false ?_
    rw [show (3 : Int).toNat = 3 from rfl]
    omega
  · rw [if_neg (by decide), if_neg (by simp; intro e; rw [e] at hz0; exact absurd hz0 (Nat.lt_irrefl _))]
    refine ⟨?_, .str ⟨(List.replicate 3 z.cps).foldl (· ++ ·) #[]⟩, H, I.tok _, ⟨_, rfl⟩, q⟩
    show ((List.replicate 3 z.cps).foldl (· ++ ·) #[]).size ≤ sizeLine
    have : z.cps.size ≤ 300 := hz
    simp [List.replicate]
    omega
/-! ### the least numbers -/
theorem gcd_step {a b k : Nat} (hk : 0 < k) (ha : a % k = 0) (hb : b % k = 0) : Nat.gcd a b = k * Nat.gcd (a / k) (b / k) := by
  have e1 : a = k * (a / k) := (Nat.mul_div_cancel' (Nat.dvd_of_mod_eq_zero ha)).symm
  have e2 : b = k * (b / k) := (Nat.mul_div_cancel' (Nat.dvd_of_mod_eq_zero hb)).symm
  conv => lhs; rw [e1, e2]
  exact Nat.gcd_mul_left _ _ _
/-- reduced by all numbers from k down to two -/
def shareN : Nat → Nat × Nat → Nat × Nat
  | 0, p => p
  | 1, p => p
  | k + 2, p => shareN (k + 1) (if p.1 % (k + 2) = 0 ∧ p.2 % (k + 2) = 0 then (p.1 / (k + 2), p.2 / (k + 2)) else p)
theorem share_ok : ∀ (k : Nat) (p : Nat × Nat), 0 < p.2 → Nat.gcd p.1 p.2 ≤ k → shareN k p = (p.1 / Nat.gcd p.1 p.2, p.2 / Nat.gcd p.1 p.2)
  | 0, p, h, g => by
    have : 0 < Nat.gcd p.1 p.2 := Nat.gcd_pos_of_pos_right _ h
    omega
  | 1, p, h, g => by
    have : 0 < Nat.gcd p.1 p.2 := Nat.gcd_pos_of_pos_right _ h
    have e : Nat.gcd p.1 p.2 = 1 := by omega
    rw [e, Nat.div_one, Nat.div_one]; rfl
  | k + 2, p, h, g => by
    show shareN (k + 1) _ = _
    by_cases c : p.1 % (k + 2) = 0 ∧ p.2 % (k + 2) = 0
    · rw [if_pos c]
      have e := gcd_step (by omega : 0 < k + 2) c.1 c.2
      have p2 : 0 < p.2 / (k + 2) := Nat.div_pos (Nat.le_of_dvd h (Nat.dvd_of_mod_eq_zero c.2)) (by omega)
      have gp : 0 < Nat.gcd (p.1 / (k + 2)) (p.2 / (k + 2)) := Nat.gcd_pos_of_pos_right _ p2
      have g1 : Nat.gcd (p.1 / (k + 2)) (p.2 / (k + 2)) = 1 := by
        rw [e] at g
        have : (k + 2) * Nat.gcd (p.1 / (k + 2)) (p.2 / (k + 2)) ≤ (k + 2) * 1 := by omega
        have := Nat.le_of_mul_le_mul_left this (by omega)
        omega
      rw [share_ok (k + 1) (p.1 / (k + 2), p.2 / (k + 2)) p2 (by show Nat.gcd (p.1 / (k + 2)) (p.2 / (k + 2)) ≤ k + 1; omega)]
      show (p.1 / (k + 2) / Nat.gcd (p.1 / (k + 2)) (p.2 / (k + 2)), p.2 / (k + 2) / Nat.gcd (p.1 / (k + 2)) (p.2 / (k + 2))) = _
      rw [e, g1, Nat.mul_one, Nat.div_one, Nat.div_one]
    · rw [if_neg c]
      refine share_ok (k + 1) p h ?_
      by_cases z : Nat.gcd p.1 p.2 = k + 2
      · have d1 := Nat.gcd_dvd_left p.1 p.2
        have d2 := Nat.gcd_dvd_right p.1 p.2
        rw [z] at d1 d2
        exact (c ⟨Nat.mod_eq_zero_of_dvd d1, Nat.mod_eq_zero_of_dvd d2⟩).elim
      · omega
end Cw

/-! a web with places of other kinds put in -/
namespace Cw
open PySem PySem.Spec PyProof.Rows L2
structure PutW (u : Web) (ls : List Nat) (P : Web) : Prop where
  len : u.1.length ≤ P.1.length
  old : ∀ i, i < u.1.length → P.1[i]? = u.1[i]?
  new : ∀ i c, u.1.length ≤ i → P.1[i]? = some c → c ∈ ls
  ends : ∀ t ∈ P.2, t.1 < t.2.1 ∧ t.2.1 < P.1.length
  ties : ∀ t ∈ u.2, t ∈ P.2
  back : ∀ t ∈ P.2, t.2.1 < u.1.length → t ∈ u.2
theorem put_tie {u P w' : Web} {ls qs : List Nat} (U : WOk u) (X : PutW u ls P) (W' : WOk w') (o : Ord qs P.1.length) (N : Named P qs w') {a b : Nat} (ha : a < u.1.length) (hb : b < u.1.length) : tieL w'.2 (qa qs a) (qa qs b) = tieL u.2 a b := by
  have hl := X.len
  refine Option.ext fun c => ?_
  rw [tieL_mem W', tieL_mem U, N.ties.mem_iff, List.mem_map]
  constructor
  · rintro ⟨t, ht, e⟩
    have r := X.ends t ht
    unfold mapTie at e
    simp only [Prod.mk.injEq] at e
    obtain ⟨e1, e2, e3⟩ := e
    have key : (t.1 = a ∧ t.2.1 = b) ∨ (t.1 = b ∧ t.2.1 = a) := by
      by_cases c1 : qa qs t.1 = qa qs a
      · have z1 := o.inj (by omega) (by omega) c1
        have z2 := o.inj (p := t.2.1) (r := b) (by omega) (by omega) (by omega)
        exact .inl ⟨z1, z2⟩
      · have z1 := o.inj (p := t.1) (r := b) (by omega) (by omega) (by omega)
        have z2 := o.inj (p := t.2.1) (r := a) (by omega) (by omega) (by omega)
        exact .inr ⟨z1, z2⟩
    have e : (min a b, max a b, c) = t := by
      obtain ⟨t1, t2, t3⟩ := t
      simp only [Prod.mk.injEq]
      dsimp only at key r e3
      omega
    rw [e]
    exact X.back t ht (by omega)
  · intro h
    have r := U.ends _ h
    refine ⟨_, X.ties _ h, ?_⟩
    unfold mapTie
    simp only [Prod.mk.injEq, and_true]
    dsimp only at r
    rcases Nat.le_total a b with c1 | c1
    · rw [Nat.min_eq_left c1, Nat.max_eq_right c1]; exact ⟨rfl, rfl⟩
    · rw [Nat.min_eq_right c1, Nat.max_eq_left c1]
      omega
theorem put_great {u P Q one other : Web} {ls ms qs rs : List Nat} (U : WOk u) (X : PutW u ls P) (Y : PutW u ms Q) (W1 : WOk one) (W2 : WOk other) (o : Ord qs P.1.length) (N : Named P qs one) (o' : Ord rs Q.1.length) (N' : Named Q rs other) (d : ∀ c ∈ ls, c ∉ u.1 ∧ c ∉ ms) : GrL one other u.1.length := by
  have hX := X.len
  have hY := Y.len
  obtain ⟨r1, r2⟩ := lead_moved (t := one) (t' := other) (f := fun p => (qa qs p.1, qa rs p.2)) (own_lead u) (fun p hp => by
    obtain ⟨i, hi, rfl⟩ := List.mem_map.mp hp
    have hi := List.mem_range.mp hi
    refine mem_pairsL.mpr ⟨by rw [N.len]; exact o.lt' (by omega), by rw [N'.len]; exact o'.lt' (by omega), ?_⟩
    dsimp only
    rw [N.kinds i (by omega), N'.kinds i (by omega), X.old i hi, Y.old i hi]) fun p hp q hq ne => by
    obtain ⟨i, hi, rfl⟩ := List.mem_map.mp hp
    obtain ⟨j, hj, rfl⟩ := List.mem_map.mp hq
    have hi := List.mem_range.mp hi
    have hj := List.mem_range.mp hj
    have nij : i ≠ j := fun e => ne (by rw [e])
    refine fitM_iff.mpr ⟨fun e => nij (o.inj (by omega) (by omega) e), fun e => nij (o'.inj (by omega) (by omega) e), ?_⟩
    dsimp only
    rw [put_tie U X W1 o N hi hj, put_tie U Y W2 o' N' hi hj]
  rw [own_len] at r2
  refine great_of r1 r2 fun x hx => ?_
  have sub : ∀ p ∈ x.map Prod.fst, p ∈ (List.range u.1.length).map (qa qs) := fun p hp => by
    obtain ⟨y, hy, rfl⟩ := List.mem_map.mp hp
    obtain ⟨h1, h2, h3⟩ := mem_pairsL.mp (lead_pairs hx y hy)
    rw [N.len] at h1
    rw [N'.len] at h2
    obtain ⟨i, hi, ei⟩ := o.onto h1
    obtain ⟨j, hj, ej⟩ := o'.onto h2
    rw [← ei, ← ej, N.kinds i hi, N'.kinds j hj] at h3
    refine List.mem_map.mpr ⟨i, List.mem_range.mpr (Classical.byContradiction fun ni => ?_), ei⟩
    have gi := List.getElem?_eq_getElem hi
    have c1 := X.new i _ (by omega) gi
    obtain ⟨d1, d2⟩ := d _ c1
    rw [gi] at h3
    by_cases cj : j < u.1.length
    · rw [Y.old j cj] at h3
      exact d1 (List.mem_of_getElem? h3.symm)
    · exact d2 (Y.new j _ (by omega) h3.symm)
  have nd : (x.map Prod.fst).Nodup := by
    unfold List.Nodup
    rw [List.pairwise_map]
    exact hx.1.imp fun z => Nat.ne_of_lt z.1
  have := sub_many _ _ nd sub
  rwa [List.length_map, List.length_map, List.length_range] at this
theorem none_great {u t : Web} (d : ∀ c ∈ u.1, c ∉ t.1) : GrL u t 0 := by
  refine great_of (l := []) ⟨.nil, fun p hp => (nomatch hp)⟩ rfl fun x hx => ?_
  match x, hx with
  | [], _ => exact Nat.le_refl _
  | p :: r, hx =>
    obtain ⟨h1, h2, h3⟩ := mem_pairsL.mp (lead_pairs hx p List.mem_cons_self)
    have gi := List.getElem?_eq_getElem h1
    rw [gi] at h3
    exact (d _ (List.mem_of_getElem? gi) (List.mem_of_getElem? h3.symm)).elim
theorem great_cut {u t : Web} {os qs : List Nat} (U : WOk u) (nd : os.Nodup) (b : ∀ p ∈ os, p < u.1.length) (C : WOk (cutL u os)) (T : WOk t) (o : Ord qs (cutL u os).1.length) (N : Named (cutL u os) qs t) : GrL u t os.length := by
  refine GrL.eq (fun k => ?_) (cut_own nd b)
  rw [cnt_named C T o N k, cnt_swap]
end Cw

/-! a statement that is never reached -/
namespace Cw
open PySem PySem.Spec PyProof.Rows L2
theorem ps_dead {X : Cx} {st : Stmt} : PS X st (fun _ _ _ => False) := ⟨fun _ _ _ _ _ _ h => h.elim⟩
end Cw

/-! leads behind one another, and how far by a third web -/
namespace Cw
open PySem PySem.Spec PyProof.Rows L2
theorem lead_fsts {u u' : Web} {n : Nat} {l : Led} (h : LeadOk u u' n l) : (l.map Prod.fst).Nodup := List.pairwise_map.mpr (h.1.imp fun z => Nat.ne_of_lt z.1)
theorem lead_snds {u u' : Web} {n : Nat} {l : Led} (h : LeadOk u u' n l) : (l.map Prod.snd).Nodup := List.pairwise_map.mpr (h.1.imp fun z => (fitM_iff.mp z.2).2.1)
theorem lead_behind {u t u' : Web} {l m : Led} (h : LeadOk u t u.1.length l) (h' : LeadOk t u' t.1.length m) : ∃ r, LeadOk u u' u.1.length r ∧ l.length + m.length ≤ r.length + t.1.length := by
  have ⟨G, hG⟩ : ∃ G : Nat → Nat, ∀ b, b ∈ m.map Prod.fst → (b, G b) ∈ m := by
    refine Classical.axiomOfChoice (r := fun b c => b ∈ m.map Prod.fst → (b, c) ∈ m) fun b => ?_
    by_cases c : b ∈ m.map Prod.fst
    · obtain ⟨p, hp, rfl⟩ := List.mem_map.mp c
      exact ⟨p.2, fun _ => hp⟩
    · exact ⟨0, fun z => (c z).elim⟩
  refine ⟨(l.filter fun p => decide (p.2 ∈ m.map Prod.fst)).map fun p => (p.1, G p.2), lead_ofp ?_ fun q hq => ?_, ?_⟩
  · rw [List.pairwise_map]
    refine List.Pairwise.imp_of_mem (fun {a b} ha hb lt => ⟨lt.1, ?_⟩) (List.Pairwise.filter _ h.1)
    have ha' := hG _ (of_decide_eq_true (List.mem_filter.mp ha).2)
    have hb' := hG _ (of_decide_eq_true (List.mem_filter.mp hb).2)
    obtain ⟨f1, f2, f3⟩ := fitM_iff.mp lt.2
    have f := lead_fit h' _ ha' _ hb' fun z => f2 (congrArg Prod.fst z)
    obtain ⟨_, g2, g3⟩ := fitM_iff.mp f
    exact fitM_iff.mpr ⟨f1, g2, f3.trans g3⟩
  · obtain ⟨p, hp, rfl⟩ := List.mem_map.mp hq
    obtain ⟨hp1, hp2⟩ := List.mem_filter.mp hp
    obtain ⟨a1, a2, a3⟩ := mem_pairsL.mp (lead_pairs h p hp1)
    obtain ⟨b1, b2, b3⟩ := mem_pairsL.mp (lead_pairs h' _ (hG _ (of_decide_eq_true hp2)))
    exact mem_pairsL.mpr ⟨a1, b2, a3.trans b3⟩
  · rw [List.length_map]
    have nl := lead_snds h
    have nm := lead_fsts h'
    have e : (l.filter fun p => decide (p.2 ∈ m.map Prod.fst)).length + (l.filter fun p => !decide (p.2 ∈ m.map Prod.fst)).length = l.length := by
      rw [← List.countP_eq_length_filter, ← List.countP_eq_length_filter]
      exact (List.length_eq_countP_add_countP (l := l) (fun p => decide (p.2 ∈ m.map Prod.fst))).symm.trans rfl |>.symm ▸ (by simp [List.length_eq_countP_add_countP (l := l) (fun p => decide (p.2 ∈ m.map Prod.fst)), Nat.add_comm])
    have k := nodup_len t.1.length ((l.filter fun p => !decide (p.2 ∈ m.map Prod.fst)).map Prod.snd ++ m.map Prod.fst) ?_ ?_
    · rw [List.length_append, List.length_map, List.length_map] at k
      omega
    · refine List.pairwise_append.mpr ⟨?_, nm, ?_⟩
      · have := List.pairwise_map.mp nl
        exact List.pairwise_map.mpr (List.Pairwise.filter _ this)
      · intro a ha b hb z
        subst z
        obtain ⟨p, hp, rfl⟩ := List.mem_map.mp ha
        have := (List.mem_filter.mp hp).2
        rw [decide_eq_true hb] at this
        cases this
    · intro x hx
      rcases List.mem_append.mp hx with hx | hx
      · obtain ⟨p, hp, rfl⟩ := List.mem_map.mp hx
        exact (h.2 p (List.mem_filter.mp hp).1).2.1
      · obtain ⟨p, hp, rfl⟩ := List.mem_map.mp hx
        exact (h'.2 p hp).1
theorem great_tri {u t u' : Web} {x y z : Nat} (g1 : GrL u t x) (g2 : GrL t u' y) (g : GrL u u' z) : x + y ≤ z + t.1.length := by
  obtain ⟨l, hl, el⟩ := great_lead g1
  obtain ⟨m, hm, em⟩ := great_lead g2
  obtain ⟨r, hr, lr⟩ := lead_behind hl hm
  have := lead_most g hr
  omega
/-- what is not common over the greater one, in least numbers -/
def dueF (m k : Nat) : Nat × Nat := if m = 0 then (0, 1) else ((m - k) / Nat.gcd (m - k) m, m / Nat.gcd (m - k) m)
theorem dueF_at {m k : Nat} (h : m ≠ 0) : ∃ g, 0 < g ∧ m - k = g * (dueF m k).1 ∧ m = g * (dueF m k).2 := by
  refine ⟨Nat.gcd (m - k) m, Nat.gcd_pos_of_pos_right _ (by omega), ?_, ?_⟩
  · rw [show (dueF m k).1 = (m - k) / Nat.gcd (m - k) m by unfold dueF; rw [if_neg h]]
    exact (Nat.mul_div_cancel' (Nat.gcd_dvd_left _ _)).symm
  · rw [show (dueF m k).2 = m / Nat.gcd (m - k) m by unfold dueF; rw [if_neg h]]
    exact (Nat.mul_div_cancel' (Nat.gcd_dvd_right _ _)).symm
theorem dueF_zero (k : Nat) : dueF 0 k = (0, 1) := if_pos rfl
theorem dueF_low {m k : Nat} : (dueF m k).1 ≤ (dueF m k).2 ∧ 0 < (dueF m k).2 ∧ (dueF m k).1 ≤ m ∧ (dueF m k).2 ≤ m + 1 := by
  by_cases h : m = 0
  · subst h; rw [dueF_zero]; exact ⟨by decide, by decide, by decide, by decide⟩
  · obtain ⟨g, g0, e1, e2⟩ := dueF_at (k := k) h
    refine ⟨?_, ?_, ?_, ?_⟩
    · refine Nat.le_of_mul_le_mul_left (c := g) ?_ g0
      rw [← e1, ← e2]; omega
    · refine Nat.pos_of_ne_zero fun z => ?_
      rw [z] at e2; omega
    · have := Nat.le_mul_of_pos_left (dueF m k).1 g0
      omega
    · have := Nat.le_mul_of_pos_left (dueF m k).2 g0
      omega
/-- cross multiplied with what is told -/
theorem dueF_cross {m k : Nat} (hk : k ≤ m) : (dueF m k).1 * m = (m - k) * (dueF m k).2 := by
  by_cases h : m = 0
  · subst h; rw [dueF_zero, Nat.mul_zero, Nat.zero_sub, Nat.zero_mul]
  · obtain ⟨g, g0, e1, e2⟩ := dueF_at (k := k) h
    generalize dueF m k = d at e1 e2
    rw [e1]
    conv => lhs; rw [e2]
    rw [Nat.mul_left_comm, Nat.mul_assoc]
theorem dueF_none {m k : Nat} (hk : k ≤ m) : (dueF m k).1 = 0 ↔ m = k := by
  by_cases h : m = 0
  · subst h; rw [dueF_zero]; exact ⟨fun _ => by omega, fun _ => rfl⟩
  · obtain ⟨g, g0, e1, e2⟩ := dueF_at (k := k) h
    constructor
    · intro z; rw [z] at e1; omega
    · intro z
      rcases Nat.mul_eq_zero.mp (show g * (dueF m k).1 = 0 by omega) with y | y
      · omega
      · exact y
/-- least numbers of nothing -/
theorem dueF_own (m : Nat) : dueF m m = (0, 1) := by
  unfold dueF
  split
  · rfl
  · rename_i h
    rw [Nat.sub_self, Nat.gcd_zero_left, Nat.zero_div, Nat.div_self (by omega)]
theorem far_tri {a b c x y z : Nat} (xa : x ≤ a) (xc : x ≤ c) (yb : y ≤ b) (yc : y ≤ c) (za : z ≤ a) (zb : z ≤ b) (t : x + y ≤ z + c) :
    (max a b - z) * (max a c * max c b) ≤ ((max a c - x) * max c b + (max c b - y) * max a c) * max a b := by
  by_cases c1 : a ≤ c ∧ b ≤ c
  · rw [show max a c = c by omega, show max c b = c by omega]
    generalize hm : max a b = m
    have h1 : c - m + (m - z) ≤ (c - x) + (c - y) := by omega
    have h2 : (m - z) * c ≤ ((c - x) + (c - y)) * m := by
      refine Nat.le_trans ?_ (Nat.mul_le_mul_right m h1)
      rw [Nat.add_mul]
      have e : c = (c - m) + m := by omega
      conv => lhs; rw [e]
      rw [Nat.mul_add]
      refine Nat.add_le_add_right ?_ _
      rw [Nat.mul_comm]
      exact Nat.mul_le_mul_left _ (by omega)
    rw [← Nat.add_mul, ← Nat.mul_assoc]
    refine Nat.le_trans (Nat.mul_le_mul_right c h2) ?_
    rw [Nat.mul_assoc, Nat.mul_comm m c, ← Nat.mul_assoc]
    exact Nat.le_refl _
  · rcases Nat.le_total b a with c2 | c2
    · rw [show max a c = a by omega, show max a b = a by omega]
      generalize hm : max c b = m
      have h1 : a - z ≤ (a - x) + (m - y) := by omega
      have h2 : (a - z) * m ≤ (a - x) * m + (m - y) * a := by
        refine Nat.le_trans (Nat.mul_le_mul_right m h1) ?_
        rw [Nat.add_mul]
        exact Nat.add_le_add_left (Nat.mul_le_mul_left _ (by omega)) _
      refine Nat.le_trans ?_ (Nat.mul_le_mul_right a h2)
      rw [Nat.mul_comm a m, ← Nat.mul_assoc]
      exact Nat.le_refl _
    · rw [show max c b = b by omega, show max a b = b by omega]
      generalize hm : max a c = m
      have h1 : b - z ≤ (m - x) + (b - y) := by omega
      have h2 : (b - z) * m ≤ (m - x) * b + (b - y) * m := by
        refine Nat.le_trans (Nat.mul_le_mul_right m h1) ?_
        rw [Nat.add_mul]
        exact Nat.add_le_add_right (Nat.mul_le_mul_left _ (by omega)) _
      refine Nat.le_trans ?_ (Nat.mul_le_mul_right b h2)
      rw [← Nat.mul_assoc]
      exact Nat.le_refl _
/-- by a third web it is no shorter -/
theorem dueF_tri {a b c x y z : Nat} (xa : x ≤ a) (xc : x ≤ c) (yb : y ≤ b) (yc : y ≤ c) (za : z ≤ a) (zb : z ≤ b) (t : x + y ≤ z + c) :
    (dueF (max a b) z).1 * (dueF (max a c) x).2 * (dueF (max c b) y).2 ≤ ((dueF (max a c) x).1 * (dueF (max c b) y).2 + (dueF (max c b) y).1 * (dueF (max a c) x).2) * (dueF (max a b) z).2 := by
  by_cases n1 : max a b = 0
  · rw [n1, dueF_zero]; simp
  by_cases n2 : max a c = 0
  · have ea : a = 0 := by omega
    have ec : c = 0 := by omega
    subst ea; subst ec
    have ex : x = 0 := by omega
    have ey : y = 0 := by omega
    have ez : z = 0 := by omega
    subst ex; subst ey; subst ez
    rw [show max 0 0 = 0 from rfl, dueF_zero]
    simp
  by_cases n3 : max c b = 0
  · have eb : b = 0 := by omega
    have ec : c = 0 := by omega
    subst eb; subst ec
    have ex : x = 0 := by omega
    have ey : y = 0 := by omega
    have ez : z = 0 := by omega
    subst ex; subst ey; subst ez
    rw [show max 0 0 = 0 from rfl, dueF_zero]
    simp
  have F := far_tri xa xc yb yc za zb t
  obtain ⟨g1, p1, a1, b1⟩ := dueF_at (k := z) n1
  obtain ⟨g2, p2, a2, b2⟩ := dueF_at (k := x) n2
  obtain ⟨g3, p3, a3, b3⟩ := dueF_at (k := y) n3
  rw [a1, a2, a3] at F
  generalize dueF (max a b) z = d1 at *
  generalize dueF (max a c) x = d2 at *
  generalize dueF (max c b) y = d3 at *
  generalize max a b = m1 at *
  generalize max a c = m2 at *
  generalize max c b = m3 at *
  rw [b1, b2, b3] at F
  refine Nat.le_of_mul_le_mul_left (c := g1 * (g2 * g3)) ?_ (Nat.mul_pos p1 (Nat.mul_pos p2 p3))
  have e1 : g1 * (g2 * g3) * (d1.1 * d2.2 * d3.2) = g1 * d1.1 * (g2 * d2.2 * (g3 * d3.2)) := by
    simp only [Nat.mul_assoc, Nat.mul_comm, Nat.mul_left_comm]
  have e2 : g1 * (g2 * g3) * ((d2.1 * d3.2 + d3.1 * d2.2) * d1.2) = (g2 * d2.1 * (g3 * d3.2) + g3 * d3.1 * (g2 * d2.2)) * (g1 * d1.2) := by
    simp only [Nat.mul_add, Nat.add_mul, Nat.mul_assoc, Nat.mul_comm, Nat.mul_left_comm]
  rw [e1, e2]
  exact F
end Cw

/-! there is a greatest lead -/
namespace Cw
open PySem PySem.Spec PyProof.Rows L2
theorem great_ex (u u' : Web) : ∃ k, GrL u u' k := by
  have step : ∀ n, (∀ l ∈ LLn u u' u.1.length, l.length ≤ n) → ∃ l ∈ LLn u u' u.1.length, ∀ x ∈ LLn u u' u.1.length, x.length ≤ l.length := by
    intro n
    induction n with
    | zero => exact fun h => ⟨[], nil_mem u u' _, fun x hx => h x hx⟩
    | succ n ih =>
      intro h
      by_cases c : ∃ l ∈ LLn u u' u.1.length, l.length = n + 1
      · obtain ⟨l, hl, e⟩ := c
        exact ⟨l, hl, fun x hx => by rw [e]; exact h x hx⟩
      · exact ih fun l hl => by
          have := h l hl
          have : l.length ≠ n + 1 := fun z => c ⟨l, hl, z⟩
          omega
  obtain ⟨l, hl, m⟩ := step u.1.length fun l hl => lead_len ((LLn_mem (Nat.le_refl _)).mp hl)
  exact ⟨_, GrL.of hl m⟩
theorem tup_kst {H H' : Hp} {PP p : Addr} {xs : List V} (t : TabN (fun _ => False) H PP qC) (k : KS (fun b => b = PP) H H') (e : H p = some (.tup xs)) : H' p = some (.tup xs) := by
  obtain ⟨t0, et⟩ := t.at
  exact k _ _ (fun z => by rw [z, et] at e; cases e) e
theorem great_few2 {u u' : Web} {k : Nat} (g : GrL u u' k) : k ≤ u'.1.length := by
  obtain ⟨l, hl, el⟩ := great_lead g
  have := lead_len2 hl
  omega
end Cw

/-! the greatest lead, place by place, by a pile of what is begun -/
namespace Cw
open PySem PySem.Spec PyProof.Rows L2
theorem LeadOk.mono {u u' : Web} {i j : Nat} {l : Led} (h : LeadOk u u' i l) (ij : i ≤ j) : LeadOk u u' j l := ⟨h.1, fun p hp => ⟨Nat.lt_of_lt_of_le (h.2 p hp).1 ij, (h.2 p hp).2⟩⟩
def mayB (u u' : Web) (l : Led) (p e : Nat) : Bool := l.all fun x => fitM u u' x (p, e)
theorem LeadOk.snoc {u u' : Web} {p e : Nat} {l : Led} (h : LeadOk u u' p l) (hp : p < u.1.length) (he : e < u'.1.length) (k : u'.1[e]? = u.1[p]?) (m : mayB u u' l p e = true) : LeadOk u u' (p + 1) (l ++ [(p, e)]) := by
  refine ⟨List.pairwise_append.mpr ⟨h.1, List.pairwise_singleton _ _, fun a ha b hb => ?_⟩, fun x hx => ?_⟩
  · rw [List.mem_singleton.mp hb]
    exact ⟨(h.2 a ha).1, List.all_eq_true.mp m a ha⟩
  · rcases List.mem_append.mp hx with hx | hx
    · obtain ⟨a, b⟩ := h.2 x hx
      exact ⟨by omega, b⟩
    · rw [List.mem_singleton.mp hx]
      refine ⟨by show p < p + 1; omega, he, ?_⟩
      unfold knR
      simp only [Bool.and_eq_true, decide_eq_true_eq]
      exact ⟨⟨hp, he⟩, k.symm⟩
abbrev Bgn := Nat × Led
def BgnOk (u u' : Web) (s : Bgn) : Prop := s.1 ≤ u.1.length ∧ LeadOk u u' s.1 s.2
def Wit (u u' : Web) (k : Nat) (s : Bgn) : Prop := ∃ r, LeadOk u u' u.1.length (s.2 ++ r) ∧ (∀ x ∈ r, s.1 ≤ x.1) ∧ (s.2 ++ r).length = k
/-- what one comes to from here -/
def kidF (u u' : Web) (s : Bgn) (e : Nat) : Option Bgn := if u'.1[e]? = u.1[s.1]? ∧ mayB u u' s.2 s.1 e = true then some (s.1 + 1, s.2 ++ [(s.1, e)]) else none
def kids (u u' : Web) (s : Bgn) (j : Nat) : List Bgn := (List.range j).filterMap (kidF u u' s)
theorem kids_snoc (u u' : Web) (s : Bgn) (j : Nat) : kids u u' s (j + 1) = kids u u' s j ++ (kidF u u' s j).toList := by
  unfold kids
  rw [List.range_succ, List.filterMap_append]
  congr 1
theorem kids_len (u u' : Web) (s : Bgn) (j : Nat) : (kids u u' s j).length ≤ j := by
  unfold kids
  exact Nat.le_trans (List.length_filterMap_le _ _) (by rw [List.length_range]; exact Nat.le_refl _)
theorem kids_fst {u u' : Web} {s t : Bgn} {j : Nat} (h : t ∈ kids u u' s j) : t.1 = s.1 + 1 := by
  obtain ⟨e, _, he⟩ := List.mem_filterMap.mp h
  unfold kidF at he
  split at he
  · rw [← Option.some.inj he]
  · cases he
theorem kids_ok {u u' : Web} {s t : Bgn} (S : BgnOk u u' s) (hp : s.1 < u.1.length) (h : t ∈ kids u u' s u'.1.length) : BgnOk u u' t := by
  obtain ⟨e, hr, he⟩ := List.mem_filterMap.mp h
  have hr := List.mem_range.mp hr
  unfold kidF at he
  split at he
  · rename_i c
    rw [← Option.some.inj he]
    exact ⟨hp, S.2.snoc hp hr c.1 c.2⟩
  · cases he
theorem rest_len {u u' : Web} {p : Nat} {l r : Led} (h : LeadOk u u' u.1.length (l ++ r)) (lo : ∀ x ∈ r, p ≤ x.1) : r.length ≤ u.1.length - p := by
  have nd : (r.map fun x => x.1 - p).Nodup := by
    refine List.pairwise_map.mpr (List.Pairwise.imp_of_mem (fun {a b} ha hb lt => ?_) (List.pairwise_append.mp h.1).2.1)
    have := lo a ha
    have := lo b hb
    have := lt.1
    omega
  have := nodup_len (u.1.length - p) _ nd fun x hx => by
    obtain ⟨y, hy, rfl⟩ := List.mem_map.mp hx
    have := lo y hy
    have := (h.2 y (List.mem_append_right _ hy)).1
    omega
  rwa [List.length_map] at this
/-- what the pile and the best so far say -/
structure Pile (u u' : Web) (k best : Nat) (pl : List Bgn) : Prop where
  ok : ∀ s ∈ pl, BgnOk u u' s
  low : best ≤ k
  wit : best = k ∨ ∃ s ∈ pl, Wit u u' k s
theorem Pile.start {u u' : Web} {k : Nat} (g : GrL u u' k) : Pile u u' k 0 [(0, [])] := by
  refine ⟨fun s hs => ?_, Nat.zero_le _, .inr ⟨(0, []), List.mem_singleton.mpr rfl, ?_⟩⟩
  · rw [List.mem_singleton.mp hs]
    exact ⟨Nat.zero_le _, .nil, fun p hp => by cases hp⟩
  · obtain ⟨l, hl, el⟩ := great_lead g
    exact ⟨l, hl, fun _ _ => Nat.zero_le _, el⟩
theorem Pile.low_pop {u u' : Web} {k best : Nat} {pl : List Bgn} {s : Bgn} (g : GrL u u' k) (P : Pile u u' k best (pl ++ [s])) : max best s.2.length ≤ k := by
  have S := P.ok s (List.mem_append_right _ (List.mem_singleton.mpr rfl))
  have := lead_most g (S.2.mono S.1)
  have := P.low
  omega
theorem Pile.drop {u u' : Web} {k best : Nat} {pl : List Bgn} {s : Bgn} (g : GrL u u' k) (P : Pile u u' k best (pl ++ [s])) (c : ¬ (s.1 < u.1.length ∧ max best s.2.length < s.2.length + u.1.length - s.1)) : Pile u u' k (max best s.2.length) pl := by
  have lp := P.low_pop g
  refine ⟨fun t ht => P.ok t (List.mem_append_left _ ht), lp, ?_⟩
  rcases P.wit with e | ⟨t, ht, W⟩
  · exact .inl (by omega)
  · rcases List.mem_append.mp ht with ht | ht
    · exact .inr ⟨t, ht, W⟩
    · rw [List.mem_singleton.mp ht] at W
      obtain ⟨r, h, lo, e⟩ := W
      have rl := rest_len h lo
      rw [List.length_append] at e
      refine .inl ?_
      by_cases c1 : s.1 < u.1.length
      · have : ¬ max best s.2.length < s.2.length + u.1.length - s.1 := fun z => c ⟨c1, z⟩
        omega
      · omega
theorem Pile.grow {u u' : Web} {k best : Nat} {pl : List Bgn} {s : Bgn} (g : GrL u u' k) (P : Pile u u' k best (pl ++ [s])) (hp : s.1 < u.1.length) : Pile u u' k (max best s.2.length) (pl ++ [(s.1 + 1, s.2)] ++ kids u u' s u'.1.length) := by
  have lp := P.low_pop g
  have S := P.ok s (List.mem_append_right _ (List.mem_singleton.mpr rfl))
  refine ⟨fun t ht => ?_, lp, ?_⟩
  · rcases List.mem_append.mp ht with ht | ht
    · rcases List.mem_append.mp ht with ht | ht
      · exact P.ok t (List.mem_append_left _ ht)
      · rw [List.mem_singleton.mp ht]
        exact ⟨hp, S.2.mono (Nat.le_succ _)⟩
    · exact kids_ok S hp ht
  · rcases P.wit with e | ⟨t, ht, W⟩
    · exact .inl (by omega)
    · rcases List.mem_append.mp ht with ht | ht
      · exact .inr ⟨t, List.mem_append_left _ (List.mem_append_left _ ht), W⟩
      · rw [List.mem_singleton.mp ht] at W
        obtain ⟨r, h, lo, e⟩ := W
        refine .inr ?_
        have up : ∀ {r : Led}, LeadOk u u' u.1.length (s.2 ++ r) → (s.2 ++ r).length = k → (∀ x ∈ r, s.1 + 1 ≤ x.1) → ∃ t ∈ pl ++ [(s.1 + 1, s.2)] ++ kids u u' s u'.1.length, Wit u u' k t := fun h e lo => ⟨(s.1 + 1, s.2), List.mem_append_left _ (List.mem_append_right _ (List.mem_singleton.mpr rfl)), _, h, lo, e⟩
        match r, h, lo, e with
        | [], h, lo, e => exact up h e fun x hx => by cases hx
        | x :: r, h, lo, e =>
          have pw := (List.pairwise_append.mp h.1)
          have tail : ∀ y ∈ r, x.1 < y.1 := fun y hy => ((List.pairwise_cons.mp pw.2.1).1 y hy).1
          by_cases c : x.1 = s.1
          · have hx := h.2 x (List.mem_append_right _ List.mem_cons_self)
            obtain ⟨x1, x2, x3⟩ := mem_pairsL.mp (lead_pairs h x (List.mem_append_right _ List.mem_cons_self))
            refine ⟨(s.1 + 1, s.2 ++ [(s.1, x.2)]), List.mem_append_right _ (List.mem_filterMap.mpr ⟨x.2, List.mem_range.mpr x2, ?_⟩), r, ?_, fun y hy => ?_, ?_⟩
            · have all : mayB u u' s.2 s.1 x.2 = true := by
                refine List.all_eq_true.mpr fun y hy => ?_
                have := (pw.2.2 y hy x List.mem_cons_self).2
                rw [← c]
                exact this
              have e0 : u'.1[x.2]? = u.1[s.1]? := by rw [← c]; exact x3.symm
              unfold kidF
              rw [if_pos ⟨e0, all⟩]
            · show LeadOk u u' u.1.length (s.2 ++ [(s.1, x.2)] ++ r)
              rw [← c, List.append_assoc]
              exact h
            · have := tail y hy
              show s.1 + 1 ≤ y.1
              omega
            · show (s.2 ++ [(s.1, x.2)] ++ r).length = k
              rw [List.append_assoc, List.length_append] 
              rw [List.length_append] at e
              exact e
          · refine up h e fun y hy => ?_
            have := lo x List.mem_cons_self
            rcases List.mem_cons.mp hy with rfl | hy
            · omega
            · have := tail y hy
              omega
/-- how much there is to do -/
def bgW (n m : Nat) (s : Bgn) : Nat := (m + 2) ^ (n - s.1)
def pileW (n m : Nat) (pl : List Bgn) : Nat := (pl.map (bgW n m)).sum
theorem pileW_app (n m : Nat) (a b : List Bgn) : pileW n m (a ++ b) = pileW n m a + pileW n m b := by unfold pileW; rw [List.map_append, List.sum_append]
theorem pileW_len (n m : Nat) : ∀ pl : List Bgn, pl.length ≤ pileW n m pl
  | [] => Nat.zero_le _
  | s :: r => by
    have := pileW_len n m r
    have h : 0 < bgW n m s := Nat.pow_pos (by omega)
    show r.length + 1 ≤ bgW n m s + pileW n m r
    omega
theorem pileW_all {n m w : Nat} : ∀ {pl : List Bgn}, (∀ s ∈ pl, bgW n m s = w) → pileW n m pl = pl.length * w
  | [], _ => by simp [pileW]
  | s :: r, h => by
    show bgW n m s + pileW n m r = (r.length + 1) * w
    rw [pileW_all fun t ht => h t (List.mem_cons_of_mem _ ht), h s List.mem_cons_self, Nat.succ_mul, Nat.add_comm]
theorem pileW_grow {u u' : Web} {n m : Nat} {pl : List Bgn} {s : Bgn} (hp : s.1 < n) : pileW n m (pl ++ [(s.1 + 1, s.2)] ++ kids u u' s m) < pileW n m (pl ++ [s]) := by
  rw [pileW_app, pileW_app, pileW_app]
  have e1 : pileW n m [(s.1 + 1, s.2)] = (m + 2) ^ (n - (s.1 + 1)) := by simp [pileW, bgW]
  have e2 : pileW n m (kids u u' s m) = (kids u u' s m).length * (m + 2) ^ (n - (s.1 + 1)) := pileW_all fun t ht => by unfold bgW; rw [kids_fst ht]
  have e3 : pileW n m [s] = (m + 2) * (m + 2) ^ (n - (s.1 + 1)) := by
    show (m + 2) ^ (n - s.1) + 0 = _
    rw [Nat.add_zero, show n - s.1 = n - (s.1 + 1) + 1 by omega, Nat.pow_succ, Nat.mul_comm]
  have w0 : 0 < (m + 2) ^ (n - (s.1 + 1)) := Nat.pow_pos (by omega)
  have kl := Nat.mul_le_mul_right ((m + 2) ^ (n - (s.1 + 1))) (kids_len u u' s m)
  rw [e1, e2, e3, Nat.add_mul]
  omega
theorem pileW_drop {n m : Nat} {pl : List Bgn} {s : Bgn} : pileW n m pl < pileW n m (pl ++ [s]) := by
  rw [pileW_app]
  have : pileW n m [s] = (m + 2) ^ (n - s.1) := by simp [pileW, bgW]
  have w0 : 0 < (m + 2) ^ (n - s.1) := Nat.pow_pos (by omega)
  omega
end Cw

/-! dict(list of pairs), the keys being tuples -/
namespace Cw
open PySem PySem.Spec PyProof.Rows L2
/-- an item: the pair's place, its key's place, the key, the value -/
abbrev KItem := Addr × Addr × List Key × V
def mergeT (es : List KItem) : List (List Key × V) := es.foldl (fun acc e => putK acc e.2.2.1 e.2.2.2) []
def rDictT (K : PySem.W.Frag) : List V → Hp → VK → Prop := fun xs H Q => ∃ (a : Addr) (es : List KItem), xs = [.ref a] ∧ SqL K H a (es.map fun e => V.ref e.1) ∧ (∀ e ∈ es, SqT K H e.1 [.ref e.2.1, e.2.2.2] ∧ H e.2.1 = some (.tup (e.2.2.1.map kV))) ∧ ∀ p, H p = none → Q (.ref p) (upd H p (.dT (mergeT es)))
theorem putK_le (kvs : List (List Key × V)) (k : List Key) (v : V) : (putK kvs k v).length ≤ kvs.length + 1 := by
  unfold putK
  split
  · rw [List.length_map]; omega
  · rw [List.length_append]; exact Nat.le_refl _
section
variable {X : Cx} {pins : List (Addr × Obj)} {s : Shared} {σ : L2.St} {H : Hp}
theorem items_at (I : Inv X pins σ H s) : ∀ {es : List KItem}, (∀ e ∈ es, SqT X.K H e.1 [.ref e.2.1, e.2.2.2] ∧ H e.2.1 = some (.tup (e.2.2.1.map kV))) →
    ∃ us : List Value, us.length = es.length ∧ ∀ (j : Nat) (e : KItem), es[j]? = some e → ∃ u, us[j]? = some u ∧ RelV e.2.2.2 u ∧ s.heap.IsTuple e.1 #[.ref e.2.1, u]
  | [], _ => ⟨[], rfl, fun j e h => by simp at h⟩
  | e :: r, h => by
    obtain ⟨us, l, t⟩ := items_at I (es := r) fun x hx => h x (List.mem_cons_of_mem _ hx)
    obtain ⟨its, rel, tp, _⟩ := I.tuple (h e List.mem_cons_self).1
    obtain ⟨u1, u2, rfl, r1, r2⟩ : ∃ u1 u2, its = [u1, u2] ∧ RelV (.ref e.2.1) u1 ∧ RelV e.2.2.2 u2 := by
      cases rel with
      | cons h1 t1 => cases t1 with
        | cons h2 t2 => cases t2 with
          | nil => exact ⟨_, _, rfl, h1, h2⟩
    cases r1
    refine ⟨u2 :: us, by rw [List.length_cons, List.length_cons, l], fun j x hx => ?_⟩
    match j, hx with
    | 0, hx =>
      obtain rfl := Option.some.inj hx
      obtain ⟨o, a1, a2, a3⟩ := tp
      exact ⟨u2, rfl, r2, o, a1, a2, by first | exact a3 | exact ⟨_, a3⟩ | (obtain ⟨n, a4, _⟩ := a3; exact ⟨n, a4⟩) | (obtain ⟨a4, _⟩ := a3; exact ⟨_, a4⟩)⟩
    | j + 1, hx =>
      have hx : r[j]? = some x := hx
      obtain ⟨u, a1, a2, a3⟩ := t j x hx
      exact ⟨u, a1, a2, a3⟩
end
theorem kt_all {H : Hp} : ∀ (es : List KItem) (us : List Value), us.length = es.length → (∀ (j : Nat) (e : KItem), es[j]? = some e → H e.2.1 = some (.tup (e.2.2.1.map kV)) ∧ ∃ u, us[j]? = some u ∧ RelV e.2.2.2 u) →
    ∀ {kvs : List (List Key × V)} {xs : List (List Key × Addr × Value)}, KT H kvs xs → KT H (es.foldl (fun acc e => putK acc e.2.2.1 e.2.2.2) kvs) (storedAllH xs ((es.zip us).map fun z => (z.1.2.2.1, z.1.2.1, z.2)))
  | [], us, _, _, kvs, xs, k => by
    rw [List.zip_nil_left]
    exact k
  | e :: r, [], l, _, _, _, _ => by cases l
  | e :: r, u :: us, l, h, kvs, xs, k => by
    obtain ⟨h1, u', e1, r1⟩ := h 0 e rfl
    obtain rfl := Option.some.inj e1
    exact kt_all r us (by simpa using l) (fun j x hx => h (j + 1) x hx) (k.put e.2.2.1 h1 r1)
theorem merge_le : ∀ (es : List KItem) (kvs : List (List Key × V)), (es.foldl (fun acc e => putK acc e.2.2.1 e.2.2.2) kvs).length ≤ kvs.length + es.length
  | [], _ => Nat.le_refl _
  | e :: r, kvs => by
    have := merge_le r (putK kvs e.2.2.1 e.2.2.2)
    have := putK_le kvs e.2.2.1 e.2.2.2
    rw [List.foldl_cons, List.length_cons]
    omega
theorem cr_dictT {X : Cx} (hc : X.calm = true) (hu : X.A.units + 65 < cLine) : CallR X (.type "dict") (rDictT X.K) := by
  intro pins s σ H xs us Q I r h
  obtain ⟨a, es, rfl, hx, hp, q⟩ := h
  obtain ⟨u, rfl, ru⟩ := vals1 r
  cases ru
  obtain ⟨its, rel, lst, few⟩ := I.list hx
  rw [List.length_map] at few
  obtain ⟨ws, lw, hw⟩ := items_at I hp
  have lit : its.length = es.length := by rw [← Paired.length rel, List.length_map]
  have hit : ∀ (j : Nat) (e : KItem), es[j]? = some e → its[j]? = some (.ref e.1) := fun j e he => by
    have h1 : (es.map fun e => V.ref e.1)[j]? = some (.ref e.1) := by rw [List.getElem?_map, he]; rfl
    obtain ⟨y, h2, h3⟩ := Paired.at rel h1
    rw [h2, show y = Value.ref e.1 from h3]
  have PS : PlainSeq "list" s.heap a its.toArray := by
    first | exact lst | (obtain ⟨o, n, a1, a2, a3, a4⟩ := lst; exact ⟨o, n, a1, a2, a3, a4⟩) | (obtain ⟨o, a1, a2, a3, n, a4⟩ := lst; exact ⟨o, n, a1, a2, a3, a4⟩)
  have PI : PairItems s.heap its.toArray (fun j => ((es[j]?).map (·.1)).getD 0) ((es.zip ws).map fun z => (.ref z.1.2.1, z.2)) := by
    refine ⟨by simp [lit, lw], fun j k v hj => ?_⟩
    rw [List.getElem?_map] at hj
    obtain ⟨z, hz, ez⟩ := Option.map_eq_some_iff.mp hj
    obtain ⟨h1, h2⟩ := List.getElem?_zip_eq_some.mp hz
    obtain ⟨u, h3, h4, h5⟩ := hw j z.1 h1
    rw [h2] at h3
    obtain rfl := Option.some.inj h3
    injection ez with e1 e2
    subst e1; subst e2
    dsimp only
    rw [h1]
    exact ⟨by rw [List.getElem?_toArray]; exact hit j z.1 h1, .inl h5⟩
  refine call_dict_pairsH (knd := tupleKind (mixKind X.prog X.w)) (ps := (es.zip ws).map fun z => (z.1.2.2.1, z.1.2.1, z.2)) (PairArg.list a its.toArray (fun j => ((es[j]?).map (·.1)).getD 0) ((es.zip ws).map fun z => (.ref z.1.2.1, z.2))) (I.ok.hd hc) ?_ ⟨PS, PI⟩ ⟨by simp, fun i key v hi => ?_⟩ (fun h' keep x hx => ?_) (by simp [lw]; omega) fun h' tk D keep => ?_
  · exact tupleKind_room_in1 (by show X.A.in1.units + 1 < cLine; have : X.A.in1.units = X.A.units + 1 := rfl; omega)
  · have hi : ((es.zip ws).map fun z => ((.ref z.1.2.1, z.2) : Value × Value))[i]? = some (key, v) := hi
    rw [List.getElem?_map] at hi
    obtain ⟨z, hz, ez⟩ := Option.map_eq_some_iff.mp hi
    injection ez with e1 e2
    subst e1; subst e2
    exact ⟨z.1.2.2.1, z.1.2.1, by rw [List.getElem?_map, hz]; rfl, rfl⟩
  · obtain ⟨z, hz, rfl⟩ := List.mem_map.mp hx
    have hz1 := (List.of_mem_zip hz).1
    have kf := key_of I.hok (hp z.1 hz1).2
    refine (tupleKind_stays (knd := mixKind X.prog X.w)).stays (fun b o vs n hb _ => keep b o ?_ (by simp) hb) kf
    exact Nat.ne_of_lt (Heap.lt_size hb)
  · have kt := kt_all (H := H) es ws lw (fun j e he => ⟨(hp e (List.mem_of_getElem? he)).2, by
      obtain ⟨u, h3, h4, _⟩ := hw j e he
      exact ⟨u, h3, h4⟩⟩) (kvs := []) (xs := []) .nil
    obtain ⟨oo, es1, ep, a1, a2, a3, a4, _, a6⟩ := D
    have fr := I.hok.fresh (Nat.le_refl s.heap.objs.size)
    refine ⟨.ref _, _, I.laid (t' := tk) (o := .dT (mergeT es)) (fun b o e => keep b o (by simp) e) (Nat.le_refl _) ⟨?_, ?_, _, kt.keeps fun b ys e => ?_, oo, es1, ep, a1, a2, a3, a4, a6⟩, rfl, q _ fr⟩
    · have := merge_le es []
      rw [List.length_nil, Nat.zero_add] at this
      exact Nat.le_trans this few
    · have := I.big
      exact beq_eq_false_iff_ne.mpr (Nat.ne_of_gt this)
    · rw [upd_ne (fun z => by rw [z, fr] at e; cases e)]
      exact e
/-- what such a dict holds -/
theorem valV_merge : ∀ (es : List KItem) (kvs : List (List Key × V)) (k : List Key), valV (es.foldl (fun acc e => putK acc e.2.2.1 e.2.2.2) kvs) k = (es.reverse.find? (fun e => decide (e.2.2.1 = k))).elim (valV kvs k) (fun e => some e.2.2.2)
  | [], kvs, k => rfl
  | e :: r, kvs, k => by
    rw [List.foldl_cons, valV_merge r, List.reverse_cons, List.find?_append]
    cases h : r.reverse.find? (fun e => decide (e.2.2.1 = k)) with
    | some x => rfl
    | none =>
      rw [valV_put]
      by_cases c : e.2.2.1 = k
      · rw [if_pos c.symm]
        simp [List.find?_cons, c]
      · rw [if_neg fun z => c z.symm]
        simp [List.find?_cons, c]
end Cw

/-! what is begun, as it lies on the pile -/
namespace Cw
open PySem PySem.Spec PyProof.Rows L2
section
variable {K : PySem.W.Frag}
theorem d_catB {xs ys : List V} {a b : Addr} {H : Hp} {Q : VK} (ha : SqT K H a xs) (hb : SqT K H b ys) (hl : xs.length + ys.length ≤ sizeLine) (q : ∀ H' p, Same H H' → SqT K H' p (xs ++ ys) → Q (.ref p) H') : rCatA K (.ref a) (.ref b) H Q := by
  refine ⟨a, b, xs, ys, rfl, rfl, ha, hb, hl, fun e => ?_, fun _ e => ?_, fun _ _ p fp => ?_⟩
  · subst e
    exact q H b (Same.refl _) hb
  · subst e
    refine q H a (Same.refl _) ?_
    rw [List.append_nil]
    exact ha
  · exact q _ p (same_new fp) (SqT.of upd_same)
theorem shaped_tp {ds : List PyData} {k : Nat} (hk : k ≤ 63) (h : ∀ d ∈ ds, d.canLay0 = true ∧ d.depth ≤ k) : SeqAt.shaped (.tuple ds) = true := by
  obtain ⟨h1, h2⟩ := lay_all h
  have : PyData.depth (.tuple ds) ≤ 64 := by simp only [PyData.depth]; omega
  simp [SeqAt.shaped, PyData.canLay0, h1, this]
theorem d_takeB {xs : List V} {a : Addr} {H : Hp} {Q : VK} {n : Nat} (ha : SqT K H a xs) (hn : n < xs.length) (q : ∀ p, H p = none → Q (.ref p) (upd H p (.tup (xs.take n)))) : rSlT K (.ref a) none (some ((n : Nat) : Int)) H Q := by
  refine ⟨a, xs, rfl, ha, fun z => ?_, fun p fp => ?_⟩
  · have e := HT.sIx_nat xs.length xs.length n
    rw [e] at z
    have := z.2
    omega
  · have e : cutV xs none (some (n : Nat)) = xs.take n := by
      unfold cutV
      have e := HT.sIx_nat xs.length xs.length n
      rw [HT.sIx_none, e]
      simp
    rw [e]
    exact q p fp
/-- begun: the next place, and the pairs so far -/
def BgnAt (K : PySem.W.Frag) (H : Hp) (x : V) (s : Bgn) : Prop := ∃ (t lv : Addr) (ls : List V), x = .ref t ∧ SqT K H t [.int (s.1 : Nat), .ref lv] ∧ SqT K H lv ls ∧ Paired (PairAt K H) ls s.2
theorem BgnAt.same {H H' : Hp} {x : V} {s : Bgn} (z : BgnAt K H x s) (sm : Same H H') : BgnAt K H' x s := by
  obtain ⟨t, lv, ls, e, h1, h2, h3⟩ := z
  exact ⟨t, lv, ls, e, Same.sqt sm h1, Same.sqt sm h2, Paired.imp h3 fun _ _ y => y.same sm⟩
theorem BgnAt.put {H : Hp} {L : Addr} {o : HO} {xs : List V} {x : V} {s : Bgn} (z : BgnAt K H x s) (e : H L = some (.lst xs)) : BgnAt K (upd H L o) x s := by
  obtain ⟨t, lv, ls, ex, h1, h2, h3⟩ := z
  exact ⟨t, lv, ls, ex, sqt_upd (.inr ⟨_, e⟩) h1, sqt_upd (.inr ⟨_, e⟩) h2, Paired.imp h3 fun _ _ y => y.keep Keep.put e⟩
def bgnD (s : Bgn) : PyData := .tuple [.int (s.1 : Nat), .tuple (s.2.map pairD)]
theorem dpa_prs {H : Hp} : ∀ {vs : List V} {l : Led}, Paired (PairAt K H) vs l → DpAll K H vs (l.map pairD)
  | _, _, .nil => .nil
  | _, _, .cons h t => by
    obtain ⟨a, rfl, q⟩ := h
    exact .cons (.tup q (.cons (.int _) (.cons (.int _) .nil))) (dpa_prs t)
theorem dpa_bgn {H : Hp} : ∀ {vs : List V} {pl : List Bgn}, Paired (BgnAt K H) vs pl → DpAll K H vs (pl.map bgnD)
  | _, _, .nil => .nil
  | _, _, .cons h t => by
    obtain ⟨a, lv, ls, rfl, h1, h2, h3⟩ := h
    exact .cons (.tup h1 (.cons (.int _) (.cons (.tup h2 (dpa_prs h3)) .nil))) (dpa_bgn t)
theorem prs_lay (l : Led) : (PyData.tuple (l.map pairD)).canLay0 = true ∧ (PyData.tuple (l.map pairD)).depth ≤ 2 := by
  obtain ⟨h1, h2⟩ := lay_all (ds := l.map pairD) (k := 1) fun d hd => by
    obtain ⟨t, _, rfl⟩ := List.mem_map.mp hd
    exact pairD_lay t
  refine ⟨by simp [PyData.canLay0, h1], ?_⟩
  simp only [PyData.depth]; omega
theorem bgnD_lay (s : Bgn) : (bgnD s).canLay0 = true ∧ (bgnD s).depth ≤ 3 := by
  obtain ⟨h1, h2⟩ := prs_lay s.2
  unfold bgnD
  refine ⟨?_, ?_⟩
  · show ((PyData.canLay0 (.int (s.1 : Nat))) && ((PyData.canLay0 (.tuple (s.2.map pairD))) && true)) = true
    rw [h1]; rfl
  · simp only [PyData.depth, PyData.depthAll] at h2 ⊢
    omega
theorem bgns_good (pl : List Bgn) : SeqAt.shaped (.list (pl.map bgnD)) = true := shaped_list (k := 3) (by decide) fun d hd => by
  obtain ⟨t, _, rfl⟩ := List.mem_map.mp hd
  exact bgnD_lay t
end
end Cw

namespace Cw
open PySem PySem.Spec PyProof.Rows L2
local macro_rules | `(tactic| walk_at "rd1") => `(tactic| first
  | (with_reducible refine d_seq ?_) | (with_reducible refine d_asg ?_) | (with_reducible refine d_cons ?_) | (with_reducible refine d_nil ?_)
  | ((with_reducible refine' d_var ?e ?_); (case e => exact rfl))
  | (with_reducible refine d_c ?_) | (with_reducible refine d_op ?_) | (with_reducible refine d_un ?_) | (with_reducible refine d_cb ?_)
  | (with_reducible refine d_rI0 ?_) | (with_reducible refine d_rU ?_) | (with_reducible refine d_eqI ?_) | (with_reducible refine d_neI ?_)
  | ((with_reducible refine d_rI ?hc ?_); (case hc => first | assumption | decide | exact ⟨by decide, by decide⟩ | exact ⟨by omega, by omega⟩ | exact .inl ⟨by omega, by omega⟩ | exact .inr ⟨by omega, by omega⟩ | exact ⟨by omega, by omega, by decide⟩))
  | ((with_reducible refine' d_ixLm ?h ?e ?_); (case h => first | assumption | exact upd_same); (case e => rfl)) | ((with_reducible refine' d_ixTm ?h ?e ?_); (case h => first | assumption | exact upd_same); (case e => rfl))
  | (with_reducible refine d_test ?_) | (with_reducible refine d_tB ?_) | (with_reducible refine d_bl ?_) | (with_reducible refine d_not ?_) | (with_reducible refine d_notV ?_) | (with_reducible refine d_and ?_) | (with_reducible refine d_or ?_)
  | (with_reducible refine d_if ?_) | (with_reducible refine d_andV ?_) | (with_reducible refine d_ifS ?_) | (with_reducible refine iteT ?_) | (with_reducible refine iteF ?_) | (with_reducible refine iteNT ?_) | (with_reducible refine iteNF ?_)
  | (with_reducible refine d_ret ?_) | (with_reducible refine d_retN ?_) | (with_reducible refine d_drop ?_) | (with_reducible refine d_next ?_) | (with_reducible refine d_brk ?_) | (with_reducible refine d_ct ?_)
  | (with_reducible refine d_gname ?_) | (with_reducible refine d_gcons ?_) | (with_reducible refine d_gnil ?_) | (with_reducible refine d_gsub ?_)
  | (with_reducible refine d_call ?_) | (with_reducible refine d_tup ?_) | (with_reducible refine d_lst ?_)
  | (with_reducible refine d_sl ?_) | (with_reducible refine d_nop ?_) | (with_reducible refine d_part ?_) | (with_reducible refine d_in ?_)
  | (with_reducible refine d_bm ?_) | (with_reducible refine d_bm0 ?_) | (with_reducible refine d_m1 ?_) | (with_reducible refine d_exs ?_)
  | ((with_reducible refine' d_setL ?h ?e ?_); (case h => first | assumption | exact upd_same); (case e => rfl))
  | ((with_reducible refine' d_gtupm ?h ?e ?_); (case h => first | assumption | exact upd_same); (case e => rfl))
  | ((with_reducible refine' d_aug ?e ?_); (case e => exact rfl))
  | (with_reducible refine d_for ?_) | (with_reducible refine d_lc ?_) | (with_reducible refine d_dc ?_) | (with_reducible refine d_iR1 ?_) | (with_reducible refine d_iR2 ?_) | (with_reducible refine d_iL ?_) | (with_reducible refine d_iT ?_) | (with_reducible refine d_iS ?_) | (with_reducible refine d_iSe ?_) | (with_reducible refine d_yes ?_) | (with_reducible refine d_lsten ?_) | (with_reducible refine d_iEnS ?_) | (with_reducible refine d_iEnSe ?_) | (with_reducible refine d_iEn ?_) | (with_reducible refine d_dget1 ?_) | (with_reducible refine d_dget2 ?_) | (with_reducible refine d_iCmb ?_) | (with_reducible refine d_dget ?_) | (with_reducible refine d_dput ?_) | (with_reducible refine d_daug ?_) | (with_reducible refine d_par ?_) | (with_reducible refine d_par2 ?_) | (with_reducible refine d_din ?_) | (with_reducible refine d_dnewT ?_) | (with_reducible refine d_dnewK ?_) | ((with_reducible refine d_wipe ?e ?_); (case e => rfl)) | (with_reducible refine d_lrg ?_) | (with_reducible refine d_rg1 ?_)
  | ((with_reducible refine d_iR1e ?a ?b ?_); (case a => omega); (case b => omega)) | ((with_reducible refine d_iR2e ?a ?_); (case a => omega))
  | (with_reducible refine d_isN ?_))
local macro_rules | `(tactic| walk_at "rd") => `(tactic| (repeat walk_at "rd1"))

def topS (i : Nat) : Stmt := PySem.Challenge.pw_commonweb_k77_distances.main.body.getD i (.Pass ⟨0, 0, 0, 0⟩)
abbrev s_mask_of : Stmt := topS 2
abbrev s_numbers_of : Stmt := topS 3
abbrev s_how_many : Stmt := topS 4
abbrev s_least_of : Stmt := topS 5
abbrev s_Search_init : Stmt := inClass (topS 7) 0
abbrev s_Search_ways : Stmt := inClass (topS 7) 1
abbrev s_Search_most : Stmt := inClass (topS 7) 2
abbrev s_Search_first : Stmt := inClass (topS 7) 3
abbrev s_Search_first_choice : Stmt := inClass (topS 7) 4
abbrev s_greatest : Stmt := topS 8
abbrev s_kinds_by_ends : Stmt := topS 10
abbrev s_greatest_lying : Stmt := topS 12
abbrev s_LyingRules_init : Stmt := inClass (topS 13) 0
abbrev s_LyingRules_bound : Stmt := inClass (topS 13) 1
abbrev s_LyingRules_whole : Stmt := inClass (topS 13) 2
abbrev s_LyingRules_choices : Stmt := inClass (topS 13) 3
abbrev s_LyingRules_narrowed : Stmt := inClass (topS 13) 4
abbrev s_others_by_tie : Stmt := topS 14
abbrev s_all_classes : Stmt := topS 15
abbrev s_classes_of : Stmt := topS 16
abbrev s_without : Stmt := topS 17
abbrev s_distance : Stmt := topS 19
abbrev s_joined_size : Stmt := topS 20
abbrev s_mixed : Stmt := topS 22
abbrev s_pot : Stmt := topS 23
abbrev s_take : Stmt := topS 24
abbrev s_letter : Stmt := topS 25
abbrev s_drawn : Stmt := topS 26
abbrev s_web : Stmt := topS 27
abbrev s_order : Stmt := topS 28
abbrev s_cut : Stmt := topS 29
abbrev s_may : Stmt := topS 30
abbrev s_size : Stmt := topS 31
abbrev s_share : Stmt := topS 32
abbrev s_far : Stmt := topS 33
abbrev s_otherwise : Stmt := topS 34
abbrev s_right : Stmt := topS 35
abbrev s_law : Stmt := topS 36
theorem sc_mask_of : FnScope ["numbers", "told", "number"] ["numbers"] (defScope s_mask_of) := ⟨rfl, rfl, rfl, by decide +kernel, rfl, by decide +kernel, by decide +kernel⟩
theorem sc_numbers_of : FnScope ["mask", "number"] ["mask"] (defScope s_numbers_of) := ⟨rfl, rfl, rfl, by decide +kernel, rfl, by decide +kernel, by decide +kernel⟩
theorem sc_how_many : FnScope ["mask", "many"] ["mask"] (defScope s_how_many) := ⟨rfl, rfl, rfl, by decide +kernel, rfl, by decide +kernel, by decide +kernel⟩
theorem sc_least_of : FnScope ["mask"] ["mask"] (defScope s_least_of) := ⟨rfl, rfl, rfl, by decide +kernel, rfl, by decide +kernel, by decide +kernel⟩
theorem sc_Search_init : FnScope ["self", "rules"] ["self", "rules"] (defScope s_Search_init) := ⟨rfl, rfl, rfl, by decide +kernel, rfl, by decide +kernel, by decide +kernel⟩
theorem sc_Search_ways : FnScope ["self", "state", "need", "key", "choices", "_", "gain", "further"] ["self", "state", "need"] (defScope s_Search_ways) := ⟨rfl, rfl, rfl, by decide +kernel, rfl, by decide +kernel, by decide +kernel⟩
theorem sc_Search_most : FnScope ["self", "state", "need"] ["self", "state"] (defScope s_Search_most) := ⟨rfl, rfl, rfl, by decide +kernel, rfl, by decide +kernel, by decide +kernel⟩
theorem sc_Search_first : FnScope ["self", "state", "need", "lead", "pair", "gain"] ["self", "state", "need"] (defScope s_Search_first) := ⟨rfl, rfl, rfl, by decide +kernel, rfl, by decide +kernel, by decide +kernel⟩
theorem sc_Search_first_choice : FnScope ["self", "state", "need", "pair", "gain", "further"] ["self", "state", "need"] (defScope s_Search_first_choice) := ⟨rfl, rfl, rfl, by decide +kernel, rfl, by decide +kernel, by decide +kernel⟩
theorem sc_greatest : FnScope ["rules", "start", "search", "size"] ["rules", "start"] (defScope s_greatest) := ⟨rfl, rfl, rfl, by decide +kernel, rfl, by decide +kernel, by decide +kernel⟩
theorem sc_kinds_by_ends : FnScope ["web", "kinds", "place", "other", "kind"] ["web"] (defScope s_kinds_by_ends) := ⟨rfl, rfl, rfl, by decide +kernel, rfl, by decide +kernel, by decide +kernel⟩
theorem sc_greatest_lying : FnScope ["one", "other"] ["one", "other"] (defScope s_greatest_lying) := ⟨rfl, rfl, rfl, by decide +kernel, rfl, by decide +kernel, by decide +kernel⟩
theorem sc_LyingRules_init : FnScope ["self", "one", "other"] ["self", "one", "other"] (defScope s_LyingRules_init) := ⟨rfl, rfl, rfl, by decide +kernel, rfl, by decide +kernel, by decide +kernel⟩
theorem sc_LyingRules_bound : FnScope ["self", "classes", "places", "ends"] ["self", "classes"] (defScope s_LyingRules_bound) := ⟨rfl, rfl, rfl, by decide +kernel, rfl, by decide +kernel, by decide +kernel⟩
theorem sc_LyingRules_whole : FnScope ["self", "classes"] ["self", "classes"] (defScope s_LyingRules_whole) := ⟨rfl, rfl, rfl, by decide +kernel, rfl, by decide +kernel, by decide +kernel⟩
theorem sc_LyingRules_choices : FnScope ["self", "classes", "places", "ends", "place", "told", "end"] ["self", "classes"] (defScope s_LyingRules_choices) := ⟨rfl, rfl, rfl, by decide +kernel, rfl, by decide +kernel, by decide +kernel⟩
theorem sc_LyingRules_narrowed : FnScope ["self", "classes", "place", "end", "told", "kind", "beside", "far", "places", "ends"] ["self", "classes", "place", "end"] (defScope s_LyingRules_narrowed) := ⟨rfl, rfl, rfl, by decide +kernel, rfl, by decide +kernel, by decide +kernel⟩
theorem sc_others_by_tie : FnScope ["web", "kinds", "told", "place", "sets", "other", "kind"] ["web"] (defScope s_others_by_tie) := ⟨rfl, rfl, rfl, by decide +kernel, rfl, by decide +kernel, by decide +kernel⟩
theorem sc_all_classes : FnScope ["one", "other"] ["one", "other"] (defScope s_all_classes) := ⟨rfl, rfl, rfl, by decide +kernel, rfl, by decide +kernel, by decide +kernel⟩
theorem sc_classes_of : FnScope ["one", "other", "places", "told", "kind", "left", "ends", "place", "end"] ["one", "other", "places"] (defScope s_classes_of) := ⟨rfl, rfl, rfl, by decide +kernel, rfl, by decide +kernel, by decide +kernel⟩
theorem sc_without : FnScope ["classes", "place", "keep", "places", "ends"] ["classes", "place"] (defScope s_without) := ⟨rfl, rfl, rfl, by decide +kernel, rfl, by decide +kernel, by decide +kernel⟩
theorem sc_distance : FnScope ["one", "other", "size", "_", "most", "common"] ["one", "other"] (defScope s_distance) := ⟨rfl, rfl, rfl, by decide +kernel, rfl, by decide +kernel, by decide +kernel⟩
theorem sc_joined_size : FnScope ["one", "other", "size", "_"] ["one", "other"] (defScope s_joined_size) := ⟨rfl, rfl, rfl, by decide +kernel, rfl, by decide +kernel, by decide +kernel⟩
theorem sc_mixed : FnScope ["cell", "k", "number"] ["cell", "k"] (defScope s_mixed) := ⟨rfl, rfl, rfl, by decide +kernel, rfl, by decide +kernel, by decide +kernel⟩
theorem sc_pot : FnScope ["cell"] ["cell"] (defScope s_pot) := ⟨rfl, rfl, rfl, by decide +kernel, rfl, by decide +kernel, by decide +kernel⟩
theorem sc_take : FnScope ["pot", "many", "told"] ["pot", "many"] (defScope s_take) := ⟨rfl, rfl, rfl, by decide +kernel, rfl, by decide +kernel, by decide +kernel⟩
theorem sc_letter : FnScope ["pot", "few", "letters"] ["pot", "few"] (defScope s_letter) := ⟨rfl, rfl, rfl, by decide +kernel, rfl, by decide +kernel, by decide +kernel⟩
theorem sc_drawn : FnScope ["pot", "many", "few", "kinds", "often", "ties", "place", "beside"] ["pot", "many", "few"] (defScope s_drawn) := ⟨rfl, rfl, rfl, by decide +kernel, rfl, by decide +kernel, by decide +kernel⟩
theorem sc_web : FnScope ["kinds", "ties", "order", "letters", "place", "kind", "found", "beside", "one", "other"] ["kinds", "ties", "order"] (defScope s_web) := ⟨rfl, rfl, rfl, by decide +kernel, rfl, by decide +kernel, by decide +kernel⟩
theorem sc_order : FnScope ["pot", "many", "left", "k"] ["pot", "many"] (defScope s_order) := ⟨rfl, rfl, rfl, by decide +kernel, rfl, by decide +kernel, by decide +kernel⟩
theorem sc_cut : FnScope ["web", "places", "names", "ties", "place", "beside", "kind", "k"] ["web", "places"] (defScope s_cut) := ⟨rfl, rfl, rfl, by decide +kernel, rfl, by decide +kernel, by decide +kernel⟩
theorem sc_may : FnScope ["ties", "others", "lead", "place", "there", "near", "far", "two"] ["ties", "others", "lead", "place", "there"] (defScope s_may) := ⟨rfl, rfl, rfl, by decide +kernel, rfl, by decide +kernel, by decide +kernel⟩
theorem sc_size : FnScope ["one", "other", "ties", "others", "pile", "best", "place", "lead", "there", "tie"] ["one", "other"] (defScope s_size) := ⟨rfl, rfl, rfl, by decide +kernel, rfl, by decide +kernel, by decide +kernel⟩
theorem sc_share : FnScope ["above", "below", "part"] ["above", "below"] (defScope s_share) := ⟨rfl, rfl, rfl, by decide +kernel, rfl, by decide +kernel, by decide +kernel⟩
theorem sc_far : FnScope ["one", "other", "greater"] ["one", "other"] (defScope s_far) := ⟨rfl, rfl, rfl, by decide +kernel, rfl, by decide +kernel, by decide +kernel⟩
theorem sc_otherwise : FnScope ["pot", "web", "kinds", "ties", "way", "off", "place"] ["pot", "web"] (defScope s_otherwise) := ⟨rfl, rfl, rfl, by decide +kernel, rfl, by decide +kernel, by decide +kernel⟩
theorem sc_right : FnScope ["one", "other", "size", "found", "joined", "number"] ["one", "other"] (defScope s_right) := ⟨rfl, rfl, rfl, by decide +kernel, rfl, by decide +kernel, by decide +kernel⟩
theorem sc_law : FnScope ["script", "cell", "pot", "few", "one", "other"] ["script"] (defScope s_law) := ⟨rfl, rfl, rfl, by decide +kernel, rfl, by decide +kernel, by decide +kernel⟩
/-- what the top leaves -/
structure Tx (K : PySem.W.Frag) (mg : Str → Option Value) (base : Heap) where
  C_Search : Addr
  cl_Search : Cls K C_Search
  m_Search : mg "Search" = some (.ref C_Search)
  na_Search_rules : NoAttr K C_Search "rules"
  na_Search_known : NoAttr K C_Search "known"
  C_LyingRules : Addr
  cl_LyingRules : Cls K C_LyingRules
  m_LyingRules : mg "LyingRules" = some (.ref C_LyingRules)
  na_LyingRules_here : NoAttr K C_LyingRules "here"
  na_LyingRules_there : NoAttr K C_LyingRules "there"
  mask_of : Df K mg "mask_of" s_mask_of ["numbers"]
  numbers_of : Df K mg "numbers_of" s_numbers_of ["mask"]
  how_many : Df K mg "how_many" s_how_many ["mask"]
  least_of : Df K mg "least_of" s_least_of ["mask"]
  Search_init : DfM K C_Search "__init__" "Search.__init__" s_Search_init ["self", "rules"]
  Search_ways : DfM K C_Search "ways" "Search.ways" s_Search_ways ["self", "state", "need"]
  Search_most : DfM K C_Search "most" "Search.most" s_Search_most ["self", "state"]
  Search_first : DfM K C_Search "first" "Search.first" s_Search_first ["self", "state", "need"]
  Search_first_choice : DfM K C_Search "first_choice" "Search.first_choice" s_Search_first_choice ["self", "state", "need"]
  greatest : Df K mg "greatest" s_greatest ["rules", "start"]
  kinds_by_ends : Df K mg "kinds_by_ends" s_kinds_by_ends ["web"]
  greatest_lying : Df K mg "greatest_lying" s_greatest_lying ["one", "other"]
  LyingRules_init : DfM K C_LyingRules "__init__" "LyingRules.__init__" s_LyingRules_init ["self", "one", "other"]
  LyingRules_bound : DfM K C_LyingRules "bound" "LyingRules.bound" s_LyingRules_bound ["self", "classes"]
  LyingRules_whole : DfM K C_LyingRules "whole" "LyingRules.whole" s_LyingRules_whole ["self", "classes"]
  LyingRules_choices : DfM K C_LyingRules "choices" "LyingRules.choices" s_LyingRules_choices ["self", "classes"]
  LyingRules_narrowed : DfM K C_LyingRules "narrowed" "LyingRules.narrowed" s_LyingRules_narrowed ["self", "classes", "place", "end"]
  others_by_tie : Df K mg "others_by_tie" s_others_by_tie ["web"]
  all_classes : Df K mg "all_classes" s_all_classes ["one", "other"]
  classes_of : Df K mg "classes_of" s_classes_of ["one", "other", "places"]
  without : Df K mg "without" s_without ["classes", "place"]
  distance : Df K mg "distance" s_distance ["one", "other"]
  joined_size : Df K mg "joined_size" s_joined_size ["one", "other"]
  mixed : Df K mg "_law_mixed" s_mixed ["cell", "k"]
  pot : Df K mg "_law_pot" s_pot ["cell"]
  take : Df K mg "_law_take" s_take ["pot", "many"]
  letter : Df K mg "_law_letter" s_letter ["pot", "few"]
  drawn : Df K mg "_law_drawn" s_drawn ["pot", "many", "few"]
  web : Df K mg "_law_web" s_web ["kinds", "ties", "order"]
  order : Df K mg "_law_order" s_order ["pot", "many"]
  cut : Df K mg "_law_cut" s_cut ["web", "places"]
  may : Df K mg "_law_may" s_may ["ties", "others", "lead", "place", "there"]
  size : Df K mg "_law_size" s_size ["one", "other"]
  share : Df K mg "_law_share" s_share ["above", "below"]
  far : Df K mg "_law_far" s_far ["one", "other"]
  otherwise : Df K mg "_law_otherwise" s_otherwise ["pot", "web"]
  right : Df K mg "_law_right" s_right ["one", "other"]
  law : Df K mg "law" s_law ["script"]
  mk_Search : Mk K C_Search Search_init.f
  mk_LyingRules : Mk K C_LyingRules LyingRules_init.f
  m_bool : mg "bool" = none
  m_dict : mg "dict" = none
  m_enumerate : mg "enumerate" = none
  m_int : mg "int" = none
  m_isinstance : mg "isinstance" = none
  m_len : mg "len" = none
  m_list : mg "list" = none
  m_max : mg "max" = none
  m_min : mg "min" = none
  m_range : mg "range" = none
  m_set : mg "set" = none
  m_sorted : mg "sorted" = none
  m_sum : mg "sum" = none
  m_tuple : mg "tuple" = none
  m_gcd : mg "gcd" = some (.builtin "math.gcd")
  c_LyingRules_choices : Addr
  P_LyingRules_choices : Addr
  hc_LyingRules_choices : LyingRules_choices.fd.code = .ref c_LyingRules_choices
  tl_LyingRules_choices : LamX.TabB base mg c_LyingRules_choices P_LyingRules_choices
def Tx.ls {K : PySem.W.Frag} {mg : Str → Option Value} {base : Heap} (T : Tx K mg base) : List (Addr × Addr) := [(T.c_LyingRules_choices, T.P_LyingRules_choices)]
def Tx.cs {K : PySem.W.Frag} {mg : Str → Option Value} {base : Heap} (T : Tx K mg base) : List (Addr × Addr) := []
section
variable {P : Program} {w : World} {K : PySem.W.Frag} {mg : Str → Option Value} {base : Heap}
/-- the set of these numbers -/
def spMask (K : PySem.W.Frag) : Sp := fun vs H Q _ => ∃ (a : Addr) (ms : List Nat), vs = [.ref a] ∧ SqL K H a (natsV ms) ∧ (∀ k ∈ ms, k ≤ 40) ∧ Q (.int (maskN ms : Nat)) H
theorem ok_mask_of (T : Tx K mg base) : FnOk P w K mg base CX0 1 T.mask_of.f T.mask_of.fd ["numbers"] (spMask K) := by
  refine T.mask_of.F.ok sc_mask_of (fun vs H Q E h => ?_) (fun cdv A outer s H vs Q E hr h => ?_)
  · obtain ⟨_, _, rfl, _⟩ := h; rfl
  · obtain ⟨a, ms, rfl, hS, l40, q⟩ := h
    refine ⟨_, (pss_cons (ps_set (i := 1) sc_mask_of.nd rfl (.inl rfl) pe_int)
      (pss_cons (ps_for PassesOwn.never rfl (pi_list (pv 0)) (pg_name (i := 2) sc_mask_of.nd rfl (.inl rfl))
        (pss_one (ps_aug (i := 1) sc_mask_of.nd rfl (.inl rfl) (pe_op op_shl pe_int (pv 2)) (ip_of iop_or))))
      (pss_one (ps_ret (pv 1))))), ?_⟩
    walk_at "rd"
    refine d_iLe hS ?_
    refine for_it (walk_list (K := K) (xs := natsV ms)) (fun i σ H2 => ∃ y2, σ = [some (.ref a), some (.int (maskN (ms.take i) : Nat)), y2] ∧ H2 = H) ⟨_, rfl, rfl⟩ (fun i σ H2 hi hP => ?_) (fun i y σ H0 H2 hi hP hy => ?_) (fun σ H2 hP => ?_)
    · obtain ⟨_, _, rfl⟩ := hP
      exact hS
    · obtain ⟨y2, rfl, rfl⟩ := hP
      obtain ⟨rfl, hx⟩ := hy
      rw [List.getElem?_map] at hx
      obtain ⟨z, hz, rfl⟩ := Option.map_eq_some_iff.mp hx
      have lz := l40 z (List.mem_of_getElem? hz)
      walk_at "rd"
      rw [one_shl, bOr, ← mask_take hz]
      exact ⟨_, rfl, rfl⟩
    · obtain ⟨y2, rfl, rfl⟩ := hP
      walk_at "rd"
      rw [List.take_of_length_le (by rw [List.length_map]; exact Nat.le_refl _)]
      exact q
/-- the numbers in the set, rising -/
def spNums (K : PySem.W.Frag) : Sp := fun vs H Q _ => ∃ (c : Nat), vs = [.int (c : Nat)] ∧ c < 2 ^ 41 ∧ ∀ H' p, Same H H' → H p = none → H' p = some (.lst (natsV (bitsL c))) → Q (.ref p) H'
theorem ok_numbers_of (T : Tx K mg base) : FnOk P w K mg base CX0 1 T.numbers_of.f T.numbers_of.fd ["mask"] (spNums K) := by
  refine T.numbers_of.F.ok sc_numbers_of (fun vs H Q E h => ?_) (fun cdv A outer s H vs Q E hr h => ?_)
  · obtain ⟨_, rfl, _⟩ := h; rfl
  · obtain ⟨c, rfl, lc, q⟩ := h
    refine ⟨_, (pss_one (ps_ret (pe_lc (own := [("number", 1)]) (g := gName 1) (tt := tTru K (tOp (rI0 fun i j => V.int (Builtin.bitAnd i j)) (tOp (rI (fun _ j => 0 ≤ j) fun i j => V.int (i / 2 ^ j.toNat)) (tVar 0) (tVar 1)) (tC (.int 1)))) (te := tVar 1) rfl sc_numbers_of.nd (pi_range1 (by rfl) T.m_range (pa_cons (pe_bits (pv 0)) pa_nil)) (blkOk_by (N := ["mask", "number"]) (sc := defScope s_numbers_of) (by decide +kernel)) (fun _ _ _ _ _ => (pg_name (i := 1) sc_numbers_of.nd rfl (.inl rfl))) (fun _ _ _ _ _ => pts_one (pt_truth (pe_op op_and (pe_op op_shr (pv 0) (pv 1)) pe_int) (by intro _; rfl))) (fun _ _ _ _ _ => (pv 1))))), ?_⟩
    walk_at "rd"
    refine d_bits ?_
    walk_at "rd"
    have lb := bits_le lc
    refine ⟨_, rfl, ?_⟩
    walk_at "rd"
    refine ⟨by omega, by omega, fun D fD => ?_⟩
    rw [Int.toNat_natCast]
    refine lc_range (fun i H2 => H2 D = some (.lst (natsV ((List.range i).filter fun j => c.testBit j))) ∧ Same H H2) ⟨upd_same, same_new fD⟩ (fun i H2 hi hP => ?_) (fun H2 hP => ?_)
    · obtain ⟨eD, sm⟩ := hP
      rw [Int.zero_add]
      walk_at "rd"
      refine d_tru ?_
      walk_at "rd"
      refine ⟨_, _, rfl, rfl, by omega, ?_⟩
      walk_at "rd"
      refine ⟨_, rfl, ?_⟩
      rw [Int.toNat_natCast]
      have e := bOdd c i
      have e2 : (Builtin.bitAnd ((c : Int) / 2 ^ i) 1 != 0) = c.testBit i := by rw [← e, Bool.eq_iff_iff]; simp
      rw [e2]
      refine ite2 (fun hc => ?_) (fun hc => ?_)
      · have hc : c.testBit i = true := hc
        walk_at "rd"
        refine ⟨_, eD, szl (by rw [List.length_map]; have := List.length_filter_le (fun j => c.testBit j) (List.range i); rw [List.length_range] at this; omega), ?_, same_upd sm fD⟩
        rw [upd_same, List.range_succ, List.filter_append, List.filter_cons_of_pos hc, natsV, natsV, List.map_append]
        rfl
      · refine ⟨?_, sm⟩
        rw [List.range_succ, List.filter_append, List.filter_cons_of_neg hc, List.filter_nil, List.append_nil]
        exact eD
    · obtain ⟨eD, sm⟩ := hP
      rw [bits_range] at eD
      exact q _ _ sm fD eD
/-- how many are in the set -/
def spMany : Sp := fun vs H Q _ => ∃ (c : Nat), vs = [.int (c : Nat)] ∧ Q (.int (pcN c : Nat)) H
theorem ok_how_many (T : Tx K mg base) : FnOk P w K mg base CX0 1 T.how_many.f T.how_many.fd ["mask"] spMany := by
  refine T.how_many.F.ok sc_how_many (fun vs H Q E h => ?_) (fun cdv A outer s H vs Q E hr h => ?_)
  · obtain ⟨_, rfl, _⟩ := h; rfl
  · obtain ⟨c, rfl, q⟩ := h
    refine ⟨_, (pss_cons (ps_set (i := 1) sc_how_many.nd rfl (.inl rfl) pe_int)
      (pss_cons (ps_while PassesOwn.never (pt_truth (pv 0) (by intro _; rfl))
        (pss_cons (ps_aug (i := 0) sc_how_many.nd rfl (.inl rfl) (pe_op op_sub (pv 0) pe_int) (ip_of iop_and))
        (pss_one (ps_aug (i := 1) sc_how_many.nd rfl (.inl rfl) pe_int ip_add))))
      (pss_one (ps_ret (pv 1))))), ?_⟩
    walk_at "rd"
    refine ⟨fun m σ H' => ∃ a k : Nat, m = a ∧ σ = [some (.int (a : Nat)), some (.int (k : Nat))] ∧ H' = H ∧ k + pcN a = pcN c, ⟨_, c, 0, rfl, rfl, rfl, Nat.zero_add _⟩, ?_⟩
    rintro m σ H' ⟨a, k, rfl, rfl, rfl, e⟩
    walk_at "rd"
    refine ⟨_, rfl, ?_⟩
    rw [int_tru]
    by_cases z : m = 0
    · subst z
      refine iteNS (by rfl) ?_
      walk_at "rd"
      have z0 : pcN 0 = 0 := pc_zero
      rw [show k = pcN c by omega]
      exact q
    · have hz : (!decide (m = 0)) = true := by simp [z]
      rw [hz]
      refine iteT ?_
      show ∃ N, _
      · refine ⟨fun σ' H'' => ∃ k' : Nat, σ' = [some (.int ((m - 2 ^ lsb m : Nat) : Int)), some (.int (k' : Nat))] ∧ H'' = H' ∧ k' + pcN (m - 2 ^ lsb m) = pcN c, fun σ' H'' ⟨k', e1, e2, e3⟩ => ⟨_, ?_, _, _, rfl, e1, e2, e3⟩, ?_⟩
        · have := Nat.two_pow_pos (lsb m); omega
        · walk_at "rd"
          rw [show ((m : Nat) : Int) - 1 = ((m - 1 : Nat) : Int) by omega, bAnd, and_pred z]
          have pp := pc_pred' z
          exact ⟨_, _, rfl, rfl, k + 1, rfl, rfl, by omega⟩
/-- the least number in the set -/
def spLeast : Sp := fun vs H Q _ => ∃ (c : Nat), vs = [.int (c : Nat)] ∧ c ≠ 0 ∧ Q (.int (lsb c : Nat)) H
theorem ok_least_of (T : Tx K mg base) : FnOk P w K mg base CX0 1 T.least_of.f T.least_of.fd ["mask"] spLeast := by
  refine T.least_of.F.ok sc_least_of (fun vs H Q E h => ?_) (fun cdv A outer s H vs Q E hr h => ?_)
  · obtain ⟨_, rfl, _⟩ := h; rfl
  · obtain ⟨c, rfl, c0, q⟩ := h
    refine ⟨_, (pss_one (ps_ret (pe_op op_sub (pe_bits (pe_op op_and (pv 0) (pe_un un_neg (pv 0)))) pe_int))), ?_⟩
    walk_at "rd"
    refine d_bits ?_
    walk_at "rd"
    rw [bLow c0, bits_pow]
    rw [show ((lsb c + 1 : Nat) : Int) - 1 = ((lsb c : Nat) : Int) by omega]
    exact q
/-- a pot of draws -/
def Pot (H : Hp) (h : Addr) : Prop := ∃ d c m : Int, H h = some (.lst [.int d, .int c, .int m]) ∧ 0 ≤ d
theorem Pot.same {H H' : Hp} {h : Addr} (x : Pot H h) (s : Same H H') : Pot H' h := by
  obtain ⟨d, c, m, e, r⟩ := x
  exact ⟨d, c, m, s _ _ e, r⟩
theorem Pot.ne {H : Hp} {h p : Addr} (x : Pot H h) (n : H p = none) : p ≠ h := by
  obtain ⟨d, c, m, e, r⟩ := x
  exact fun z => by subst z; rw [n] at e; cases e
theorem Pot.put {H : Hp} {h p : Addr} {o : HO} (x : Pot H h) (n : p ≠ h) : Pot (upd H p o) h := by
  obtain ⟨d, c, m, e, r⟩ := x
  exact ⟨d, c, m, by rw [upd_ne (Ne.symm n)]; exact e, r⟩
theorem Pot.lst {H : Hp} {h : Addr} (x : Pot H h) : ∃ ys, H h = some (.lst ys) := by
  obtain ⟨d, c, m, e, r⟩ := x
  exact ⟨_, e⟩
def spMixed : Sp := fun vs H Q _ => ∃ c k : Int, vs = [.int c, .int k] ∧ ∀ n : Int, Q (.int n) H
theorem ok_mixed (T : Tx K mg base) : FnOk P w K mg base CX0 1 T.mixed.f T.mixed.fd ["cell", "k"] spMixed := by
  refine T.mixed.F.ok sc_mixed (fun vs H Q E h => ?_) (fun cdv A outer s H vs Q E hr h => ?_)
  · obtain ⟨c, k, rfl, _⟩ := h; rfl
  · obtain ⟨c, k, rfl, q⟩ := h
    refine ⟨_, (pss_cons (ps_set (i := 2) sc_mixed.nd rfl (.inl rfl) (pe_op op_mod (pe_op op_mul (pe_op op_add (pe_op op_add (pe_op op_mod (pv 0) pe_int) (pe_op op_mul pe_int (pv 1))) pe_int) pe_int) pe_int))
      (pss_cons (ps_set (i := 2) sc_mixed.nd rfl (.inl rfl) (pe_op op_mod (pe_op op_mul (pv 2) (pv 2)) pe_int))
      (pss_one (ps_ret (pe_op op_fdiv (pe_op op_mod (pe_op op_mul (pe_op op_add (pv 2) (pe_op op_mul pe_int (pe_op op_add (pv 1) pe_int))) pe_int) pe_int) pe_int))))), ?_⟩
    walk_at "rd"
    exact q _
def spPot : Sp := fun vs H Q _ => ∃ c : Int, vs = [.int c] ∧ ∀ H' h, Same H H' → H h = none → Pot H' h → Q (.ref h) H'
theorem ok_pot (T : Tx K mg base) : FnOk P w K mg base CX0 1 T.pot.f T.pot.fd ["cell"] spPot := by
  refine T.pot.F.ok sc_pot (fun vs H Q E h => ?_) (fun cdv A outer s H vs Q E hr h => ?_)
  · obtain ⟨c, rfl, _⟩ := h; rfl
  · obtain ⟨c, rfl, q⟩ := h
    refine ⟨_, (pss_one (ps_ret (pe_lst (pa_cons (pe_op op_mul (pe_op op_mod (pv 0) (pe_op op_mulW (pe_op op_mulW (pe_op op_mulW (pe_op op_pow pe_int pe_int) (pe_op op_pow pe_int pe_int)) (pe_op op_pow pe_int pe_int)) (pe_op op_pow pe_int pe_int))) (pe_callTy call_int1 (by rfl) T.m_int (by decide +kernel) (pa_cons (pe_cmpR op_ge (pv 0) (pe_op op_pow pe_int pe_int) (nomark _)) pa_nil))) (pa_cons (pv 0) (pa_cons pe_int pa_nil)))))), ?_⟩
    walk_at "rd"
    refine ⟨_, _, rfl, rfl, wide_mul (a := 200) (b := 200) (by decide +kernel) (by decide +kernel) (by decide) (by decide) (by decide), ?_⟩
    walk_at "rd"
    refine ⟨_, _, rfl, rfl, wide_mul (a := 400) (b := 200) (by decide +kernel) (by decide +kernel) (by decide) (by decide) (by decide), ?_⟩
    walk_at "rd"
    refine ⟨_, _, rfl, rfl, wide_mul (a := 600) (b := 200) (by decide +kernel) (by decide +kernel) (by decide) (by decide) (by decide), ?_⟩
    walk_at "rd"
    refine .inr ⟨_, rfl, ?_⟩
    refine ⟨_, _, rfl, rfl, .inr (by split <;> decide), ?_⟩
    walk_at "rd"
    refine ⟨sz (by show 3 ≤ 100000; decide), fun p fp => ?_⟩
    exact q _ p (same_new fp) fp ⟨_, _, _, upd_same, Int.mul_nonneg (Int.emod_nonneg _ (by decide +kernel)) (by split <;> decide)⟩
def spTake : Sp := fun vs H Q _ => ∃ (h : Addr) (n : Int), vs = [.ref h, .int n] ∧ 0 < n ∧ n ≤ 1000 ∧ Pot H h ∧ ∀ H' (g : Int), Keep h H H' → Pot H' h → 0 ≤ g → g < n → Q (.int g) H'
theorem ok_take (T : Tx K mg base) : FnOk P w K mg base CX0 2 T.take.f T.take.fd ["pot", "many"] spTake := by
  refine T.take.F.ok sc_take (fun vs H Q E h => ?_) (fun cdv A outer s H vs Q E hr h => ?_)
  · obtain ⟨c, k, rfl, _⟩ := h; rfl
  · obtain ⟨h, n, rfl, n0, n1, ⟨d, c, m, hH, d0⟩, q⟩ := h
    refine ⟨_, (pss_cons (ps_asg (pe_op op_add (pe_ix ix_list (pv 0) pe_int (fun _ _ => rfl)) pe_int) (pg_sub (pv 0) pe_int set_list))
      (pss_cons (ps_if (pt_cmpR op_gt (pe_ix ix_list (pv 0) pe_int (fun _ _ => rfl)) pe_int (nomark _))
        (pss_cons (ps_set (i := 2) sc_take.nd rfl (.inl rfl) (pe_op op_mod (pe_ix ix_list (pv 0) pe_int (fun _ _ => rfl)) (pv 1)))
        (pss_cons (ps_asg (pe_op op_fdiv (pe_ix ix_list (pv 0) pe_int (fun _ _ => rfl)) (pv 1)) (pg_sub (pv 0) pe_int set_list))
        (pss_one (ps_ret (pv 2)))))
        pss_nil)
      (pss_one (ps_ret (pe_op op_mod (pe_call (ok_mixed T) (hr.mono (by decide)) (by rfl) T.mixed.g T.mixed.F.kp T.mixed.b .nil pass0 (pa_cons (pe_ix ix_list (pv 0) pe_int (fun _ _ => rfl)) (pa_cons (pe_ix ix_list (pv 0) pe_int (fun _ _ => rfl)) pa_nil))) (pv 1)))))), ?_⟩
    walk_at "rd"
    refine ite2 (fun e => ?_) (fun e => ?_)
    · have e1 := of_decide_eq_true e
      walk_at "rd"
      exact q _ _ (Keep.trans Keep.put Keep.put) ⟨d / n, c, m + 1, upd_same, Int.ediv_nonneg d0 (by omega)⟩ (Int.emod_nonneg _ (by omega)) (Int.emod_lt_of_pos _ n0)
    · walk_at "rd"
      refine ⟨_, _, rfl, fun z => ?_⟩
      walk_at "rd"
      exact q _ _ Keep.put ⟨d, c, m + 1, upd_same, d0⟩ (Int.emod_nonneg _ (by omega)) (Int.emod_lt_of_pos _ n0)
theorem abc_at : (Str.ofString "abcdefghijklmnopqrstuvwxyz").cps.toList = (List.range 26).map (97 + ·) := by decide +kernel
def spLetter : Sp := fun vs H Q _ => ∃ (h : Addr) (n : Int), vs = [.ref h, .int n] ∧ 0 < n ∧ n ≤ 26 ∧ Pot H h ∧ ∀ H' (c : Nat), Keep h H H' → Pot H' h → Ltr c → Q (.str (sg c)) H'
theorem ok_letter (T : Tx K mg base) : FnOk P w K mg base CX0 3 T.letter.f T.letter.fd ["pot", "few"] spLetter := by
  refine T.letter.F.ok sc_letter (fun vs H Q E h => ?_) (fun cdv A outer s H vs Q E hr h => ?_)
  · obtain ⟨c, k, rfl, _⟩ := h; rfl
  · obtain ⟨h, n, rfl, n0, n1, hp, q⟩ := h
    refine ⟨_, (pss_cons (ps_set (i := 2) sc_letter.nd rfl (.inl rfl) pe_str)
      (pss_one (ps_ret (pe_ix ix_str (pv 2) (pe_call (ok_take T) (hr.mono (by decide)) (by rfl) T.take.g T.take.F.kp T.take.b .nil pass0 (pa_cons (pv 0) (pa_cons (pe_ix ix_list (pe_lst (pa_cons (pv 1) (pa_cons (pv 1) (pa_cons (pv 1) (pa_cons (pv 1) (pa_cons (pv 1) (pa_cons pe_int pa_nil))))))) (pe_call (ok_take T) (hr.mono (by decide)) (by rfl) T.take.g T.take.F.kp T.take.b .nil pass0 (pa_cons (pv 0) (pa_cons pe_int pa_nil))) (fun _ _ => rfl)) pa_nil))) (fun _ _ => rfl))))), ?_⟩
    walk_at "rd"
    refine ⟨sz (by show 6 ≤ 100000; decide), fun p fp => ?_⟩
    have np := hp.ne fp
    walk_at "rd"
    refine ⟨h, 6, rfl, by decide, by decide, hp.put np, fun H1 g k1 hp1 g0 g1 => ?_⟩
    have ep := k1 p _ np upd_same
    have kk : Keep h H H1 := Keep.trans (Same.keep (same_new fp)) k1
    obtain ⟨x, hx, x0, x1⟩ : ∃ x : Int, atI [V.int n, V.int n, V.int n, V.int n, V.int n, V.int 26] g = some (.int x) ∧ 0 < x ∧ x ≤ 26 := by
      have e : g = 0 ∨ g = 1 ∨ g = 2 ∨ g = 3 ∨ g = 4 ∨ g = 5 := by omega
      rcases e with rfl | rfl | rfl | rfl | rfl | rfl
      · exact ⟨n, rfl, n0, n1⟩
      · exact ⟨n, rfl, n0, n1⟩
      · exact ⟨n, rfl, n0, n1⟩
      · exact ⟨n, rfl, n0, n1⟩
      · exact ⟨n, rfl, n0, n1⟩
      · exact ⟨26, rfl, by decide, by decide⟩
    refine d_ixLm ep hx ?_
    walk_at "rd"
    refine ⟨h, x, rfl, x0, by omega, hp1, fun H2 z k2 hp2 z0 z1 => ?_⟩
    obtain ⟨m, rfl⟩ : ∃ m : Nat, z = (m : Int) := ⟨z.toNat, by omega⟩
    refine ⟨_, _, 97 + m, rfl, rfl, by decide +kernel, ?_, ?_⟩
    · rw [abc_at]
      exact atI_nat (by rw [List.getElem?_map, List.getElem?_range (by omega)]; rfl)
    · exact q _ _ (Keep.trans kk k2) hp2 (by unfold Ltr; omega)
/-- a web whose ties stand in any order -/
structure Loose (w : Web) : Prop where
  few : w.1.length ≤ 40
  most : w.2.length ≤ 1600
  kinds : ∀ c ∈ w.1, Ltr c
  diff : w.2.Pairwise (fun x y => ends x ≠ ends y)
  ends : ∀ t ∈ w.2, t.1 < t.2.1 ∧ t.2.1 < w.1.length ∧ Ltr t.2.2
theorem loose_ends {w : Web} {qs : List Nat} (W : Loose w) (o : Ord qs w.1.length) : (w.2.map (mapTie qs)).Pairwise (fun x y => Cw.ends x ≠ Cw.ends y) := by
  rw [List.pairwise_map]
  refine List.Pairwise.imp_of_mem (fun {t u} ht hu lt e => ?_) W.diff
  have r1 := W.ends t ht
  have r2 := W.ends u hu
  have lt : ¬ (t.1 = u.1 ∧ t.2.1 = u.2.1) := fun z => lt (by unfold Cw.ends; rw [z.1, z.2])
  unfold Cw.ends mapTie at e
  simp only [Prod.mk.injEq] at e
  obtain ⟨e1, e2⟩ := e
  by_cases c : qa qs t.1 = qa qs u.1
  · have a := o.inj (by omega) (by omega) c
    have c2 : qa qs t.2.1 = qa qs u.2.1 := by omega
    have b := o.inj (by omega) (by omega) c2
    omega
  · have c1 : qa qs t.1 = qa qs u.2.1 := by omega
    have c2 : qa qs t.2.1 = qa qs u.1 := by omega
    have a := o.inj (by omega) (by omega) c1
    have b := o.inj (by omega) (by omega) c2
    omega
theorem loose_ok {w w' : Web} {qs : List Nat} (W : Loose w) (o : Ord qs w.1.length) (N : Named w qs w') (s : w'.2.Pairwise (fun x y => lexT ((y.1 : Int), (y.2.1 : Int), y.2.2) ((x.1 : Int), (x.2.1 : Int), x.2.2) = false)) : WOk w' := by
  refine ⟨by rw [N.len]; exact W.few, by rw [N.ties.length_eq, List.length_map]; exact W.most, fun c hc => ?_, rise_of s ?_, fun t ht => ?_⟩
  · obtain ⟨j, hj⟩ := List.mem_iff_getElem?.mp hc
    have hj' : j < w.1.length := by rw [← N.len]; exact (List.getElem?_eq_some_iff.mp hj).1
    obtain ⟨p, hp, rfl⟩ := o.onto hj'
    rw [N.kinds p hp] at hj
    exact W.kinds c (List.mem_of_getElem? hj)
  · exact (List.Perm.pairwise_iff (fun {x y} h => h.symm) N.ties).mpr (loose_ends W o)
  · obtain ⟨u, hu, rfl⟩ := List.mem_map.mp (N.ties.mem_iff.mp ht)
    have r := W.ends u hu
    have a := o.lt' (p := u.1) (by omega)
    have b := o.lt' (p := u.2.1) (by omega)
    have n : qa qs u.1 ≠ qa qs u.2.1 := fun z => by
      have := o.inj (by omega) (by omega) z
      omega
    refine ⟨?_, ?_, r.2.2⟩
    · show min _ _ < max _ _; omega
    · show max _ _ < w'.1.length; rw [N.len]; omega
theorem two_sorted {ns : List Int} {a b : Nat} (pm : ns.Perm [(a : Int), (b : Int)]) (s : ns.Pairwise (· ≤ ·)) : ns = [((min a b : Nat) : Int), ((max a b : Nat) : Int)] := by
  have l := pm.length_eq
  match ns, l, pm, s with
  | [x, y], _, pm, s =>
    have le : x ≤ y := (List.pairwise_cons.mp s).1 y List.mem_cons_self
    have mx := pm.mem_iff.mp (List.mem_cons_self : x ∈ [x, y])
    have my := pm.mem_iff.mp (List.mem_cons_of_mem _ List.mem_cons_self : y ∈ [x, y])
    have ma := pm.mem_iff.mpr (List.mem_cons_self : (a : Int) ∈ [(a : Int), (b : Int)])
    have mb := pm.mem_iff.mpr (List.mem_cons_of_mem _ List.mem_cons_self : (b : Int) ∈ [(a : Int), (b : Int)])
    simp only [List.mem_cons, List.not_mem_nil, or_false] at mx my ma mb
    rw [List.cons.injEq, List.cons.injEq]
    refine ⟨by omega, by omega, rfl⟩
/-- a web out of kinds and ties, its places called by an order -/
def spWebN (K : PySem.W.Frag) : Sp := fun vs H Q _ => ∃ (k t o : Addr) (w : Web) (tvs : List V) (qs : List Nat), vs = [.ref k, .ref t, .ref o] ∧ H k = some (.lst (w.1.map fun c => V.str (sg c))) ∧ H t = some (.lst tvs) ∧ Ties K H tvs w.2 ∧ Loose w ∧ H o = some (.lst (natsV qs)) ∧ Ord qs w.1.length ∧
  ∀ H' v' w', Same H H' → WebAt K H' v' w' → WOk w' → Named w qs w' → Q v' H'
theorem ok_web (T : Tx K mg base) : FnOk P w K mg base CX0 1 T.web.f T.web.fd ["kinds", "ties", "order"] (spWebN K) := by
  refine T.web.F.ok sc_web (fun vs H Q E h => ?_) (fun cdv A outer s H vs Q E hr h => ?_)
  · obtain ⟨_, _, _, _, _, _, rfl, _⟩ := h; rfl
  · obtain ⟨k, t, o, w, tvs, qs, rfl, eK0, eT0, pT, W, eO, oo, q⟩ := h
    have lt : tvs.length = w.2.length := Paired.length pT
    have l16 := W.most
    have l40 := W.few
    have lq := oo.len
    refine ⟨_, (pss_cons (ps_set (i := 3) sc_web.nd rfl (.inl rfl) (pe_op op_rep (pe_lst (pa_cons pe_str pa_nil)) (pe_callB call_len_seq (by rfl) T.m_len (by decide +kernel) (pa_cons (pv 0) pa_nil))))
      (pss_cons (ps_for PassesOwn.never rfl (pi_enum (by rfl) T.m_enumerate (pa_cons (pv 0) pa_nil)) (pg_tup rfl (pgs_cons (pg_name (i := 4) sc_web.nd rfl (.inl rfl)) (pgs_cons (pg_name (i := 5) sc_web.nd rfl (.inl rfl)) pgs_nil)))
        (pss_one (ps_asg (pv 5) (pg_sub (pv 3) (pe_ix ix_list (pv 2) (pv 4) (fun _ _ => rfl)) set_list))))
      (pss_cons (ps_set (i := 6) sc_web.nd rfl (.inl rfl) (pe_lst pa_nil))
      (pss_cons (ps_for PassesOwn.never rfl (pi_list (pv 1)) (pg_tup rfl (pgs_cons (pg_name (i := 4) sc_web.nd rfl (.inl rfl)) (pgs_cons (pg_name (i := 7) sc_web.nd rfl (.inl rfl)) (pgs_cons (pg_name (i := 5) sc_web.nd rfl (.inl rfl)) pgs_nil))))
        (pss_cons (ps_asg (pe_callB cr_sortedI (by rfl) T.m_sorted (by decide +kernel) (pa_cons (pe_lst (pa_cons (pe_ix ix_list (pv 2) (pv 4) (fun _ _ => rfl)) (pa_cons (pe_ix ix_list (pv 2) (pv 7) (fun _ _ => rfl)) pa_nil))) pa_nil)) (pg_unl rfl (pgs_cons (pg_name (i := 8) sc_web.nd rfl (.inl rfl)) (pgs_cons (pg_name (i := 9) sc_web.nd rfl (.inl rfl)) pgs_nil))))
        (pss_one (ps_expr (pe_bm PySem.F.plainAttrs_list PySem.F.slot_list_append PySem.F.type_list_append mt_append (pv 6) (pa_cons (pe_tup (pa_cons (pv 8) (pa_cons (pv 9) (pa_cons (pv 5) pa_nil)))) pa_nil))))))
      (pss_one (ps_ret (pe_tup (pa_cons (pe_join pe_str (pv 3)) (pa_cons (pe_callTy call_tuple_of (by rfl) T.m_tuple (by decide +kernel) (pa_cons (pe_callB cr_sorted3 (by rfl) T.m_sorted (by decide +kernel) (pa_cons (pv 6) pa_nil)) pa_nil)) pa_nil))))))))), ?_⟩
    walk_at "rd"
    refine ⟨sz (by decide), fun p1 f1 => ?_⟩
    have s1 := same_new (o := .lst [V.str (Str.ofString "")]) f1
    walk_at "rd"
    refine d_lenL (SqL.of (s1 _ _ eK0)) ?_
    rw [List.length_map]
    walk_at "rd"
    refine ⟨p1, (w.1.length : Nat), _, rfl, rfl, upd_same, by omega, by omega, sz (by simp; omega), fun P fP => ?_⟩
    rw [show ((w.1.length : Nat) : Int).toNat = w.1.length from rfl, flat_rep]
    have s2 := Same.trans s1 (same_new (o := .lst (List.replicate w.1.length (V.str (Str.ofString "")))) fP)
    have eP := upd_same (H := upd H p1 (.lst [V.str (Str.ofString "")])) (a := P) (o := .lst (List.replicate w.1.length (V.str (Str.ofString ""))))
    have fP0 := Same.free s1 fP
    generalize upd (upd H p1 (.lst [V.str (Str.ofString "")])) P (.lst (List.replicate w.1.length (V.str (Str.ofString "")))) = H2 at s2 eP ⊢
    walk_at "rd"
    refine ⟨k, _, rfl, SqL.of (s2 _ _ eK0), ?_⟩
    refine for_it (walk_enum (K := K) (a := k) (xs := w.1.map fun c => V.str (sg c))) (fun i σ H3 => ∃ y4 y5 y6 y7 y8 y9 ks, σ = [some (.ref k), some (.ref t), some (.ref o), some (.ref P), y4, y5, y6, y7, y8, y9] ∧ Same H H3 ∧ H3 P = some (.lst ks) ∧ ks.length = w.1.length ∧ ∀ p, p < i → ∀ c, w.1[p]? = some c → ks[qa qs p]? = some (V.str (sg c)))
      ⟨_, _, _, _, _, _, _, rfl, s2, eP, List.length_replicate, fun p hp => absurd hp (Nat.not_lt_zero _)⟩ (fun i σ H3 _ hP => ?_) (fun i x σ H3' H3 hi hP hy => ?_) (fun σ H3 hP => ?_)
    · obtain ⟨_, _, _, _, _, _, _, _, s3, _⟩ := hP
      exact SqL.of (s3 _ _ eK0)
    · obtain ⟨y4, y5, y6, y7, y8, y9, ks, rfl, s3, eK, lk, hk⟩ := hP
      obtain ⟨T', x', y', rfl, fT, rfl, ex, ey⟩ := hy
      have hi' : i < w.1.length := by simpa using hi
      have ex' : x' = V.int (i : Nat) := (Option.some.inj ex).symm
      subst ex'
      have ey' : y' = V.str (sg w.1[i]) := by
        have z : (w.1.map fun c => V.str (sg c))[i]? = some y' := ey
        rw [List.getElem?_map, List.getElem?_eq_getElem hi'] at z
        exact (Option.some.inj z).symm
      subst ey'
      refine d_gtupm upd_same rfl ?_
      walk_at "rd"
      have eO3 := at_upd (u := .tup [V.int (i : Nat), V.str (sg w.1[i])]) (s3 _ _ eO) fT
      refine d_ixLm eO3 (atI_nat (by unfold natsV; rw [List.getElem?_map, qa_at (by omega)]; rfl)) ?_
      have hq := oo.lt' hi'
      have eK3 := at_upd (u := .tup [V.int (i : Nat), V.str (sg w.1[i])]) eK fT
      refine d_setL eK3 (j := qa qs i) (by unfold ixN; rw [if_pos (by omega), if_pos (by omega)]; simp) ?_
      refine ⟨_, _, _, _, _, _, _, rfl, same_upd (same_upd s3 (Same.free s3 fT)) fP0, upd_same, by rw [List.length_set]; exact lk, fun p hp c hc => ?_⟩
      by_cases e : p = i
      · subst e
        rw [List.getElem?_set_self (by omega)]
        rw [List.getElem?_eq_getElem hi'] at hc
        cases hc; rfl
      · have hp' : p < i := by omega
        have ne : qa qs i ≠ qa qs p := fun z => e (oo.inj (by omega) hi' z.symm)
        rw [List.getElem?_set_ne ne]
        exact hk p hp' c hc
    obtain ⟨y4, y5, y6, y7, y8, y9, ks, rfl, s3, eK, lk, hk⟩ := hP
    let cs : List Nat := ks.map fun v => match v with | .str z => z.cps.toList.headD 0 | _ => 0
    have kat : ∀ p, p < w.1.length → ∃ c, w.1[p]? = some c ∧ ks[qa qs p]? = some (V.str (sg c)) := fun p hp => ⟨_, List.getElem?_eq_getElem hp, hk p (by rw [List.length_map]; exact hp) _ (List.getElem?_eq_getElem hp)⟩
    have ecs : ks = cs.map fun c => V.str (sg c) := by
      refine List.ext_getElem? fun j => ?_
      show ks[j]? = ((ks.map _).map _)[j]?
      rw [List.getElem?_map, List.getElem?_map]
      by_cases hj : j < w.1.length
      · obtain ⟨p, hp, rfl⟩ := oo.onto hj
        obtain ⟨c, _, e⟩ := kat p hp
        rw [e]; rfl
      · rw [List.getElem?_eq_none (by omega)]; rfl
    have lcs : cs.length = w.1.length := by show (ks.map _).length = _; rw [List.length_map]; exact lk
    have hcs : ∀ p, p < w.1.length → cs[qa qs p]? = w.1[p]? := fun p hp => by
      obtain ⟨c, e1, e2⟩ := kat p hp
      show (ks.map _)[qa qs p]? = _
      rw [List.getElem?_map, e2, e1]; rfl
    walk_at "rd"
    refine ⟨sz (by decide), fun L fL => ?_⟩
    walk_at "rd"
    have s4 := same_upd (o := .lst []) s3 (Same.free s3 fL)
    refine d_iLe (SqL.of (s4 _ _ eT0)) ?_
    refine for_it (walk_list (K := K) (xs := tvs)) (fun i σ H5 => ∃ y4 y5 y7 y8 y9, ∃ es : List (Addr × Tie), σ = [some (.ref k), some (.ref t), some (.ref o), some (.ref P), y4, y5, some (.ref L), y7, y8, y9] ∧ Same H H5 ∧ H5 P = some (.lst ks) ∧ H5 L = some (.lst (es.map fun e => V.ref e.1)) ∧ es.map (·.2) = (w.2.take i).map (mapTie qs) ∧ ∀ e ∈ es, H5 e.1 = some (.tup (triV ((e.2.1 : Int), (e.2.2.1 : Int), e.2.2.2))))
      ⟨_, _, _, _, _, [], rfl, s4, at_upd eK fL, upd_same, rfl, by simp⟩ (fun i σ H5 hi hP => ?_) (fun i x σ H5' H5 hi hP hy => ?_) (fun σ H5 hP => ?_)
    · obtain ⟨_, _, _, _, _, _, _, s5, _⟩ := hP
      exact SqL.of (s5 _ _ eT0)
    · obtain ⟨z4, z5, z7, z8, z9, es, rfl, s5, eP5, eL5, ees, hes⟩ := hP
      obtain ⟨rfl, hx⟩ := hy
      obtain ⟨t0, ht, a', rfl, qt⟩ := Paired.at pT hx
      have rt := W.ends t0 (List.mem_of_getElem? ht)
      refine d_gtup (Same.sqt s5 qt) rfl ?_
      walk_at "rd"
      have eO5 := s5 _ _ eO
      have g1 : atI (natsV qs) (t0.1 : Nat) = some (.int (qa qs t0.1 : Nat)) := atI_nat (by unfold natsV; rw [List.getElem?_map, qa_at (by omega)]; rfl)
      have g2 : atI (natsV qs) (t0.2.1 : Nat) = some (.int (qa qs t0.2.1 : Nat)) := atI_nat (by unfold natsV; rw [List.getElem?_map, qa_at (by omega)]; rfl)
      refine d_ixLm eO5 g1 ?_
      walk_at "rd"
      refine d_ixLm eO5 g2 ?_
      walk_at "rd"
      refine ⟨sz (by show 2 ≤ 100000; decide), fun p2 f2 => ?_⟩
      walk_at "rd"
      refine ⟨p2, [((qa qs t0.1 : Nat) : Int), ((qa qs t0.2.1 : Nat) : Int)], rfl, SqL.of upd_same, fun ns o2 pm srt fo2 => ?_⟩
      have ens := two_sorted pm srt
      subst ens
      have s6 := Same.trans (same_new (H := H5) (o := .lst [V.int (qa qs t0.1 : Nat), V.int (qa qs t0.2.1 : Nat)]) f2) (same_new (o := .lst ([((min (qa qs t0.1) (qa qs t0.2.1) : Nat) : Int), ((max (qa qs t0.1) (qa qs t0.2.1) : Nat) : Int)].map V.int)) fo2)
      have e6 := upd_same (H := upd H5 p2 (.lst [V.int (qa qs t0.1 : Nat), V.int (qa qs t0.2.1 : Nat)])) (a := o2) (o := .lst ([((min (qa qs t0.1) (qa qs t0.2.1) : Nat) : Int), ((max (qa qs t0.1) (qa qs t0.2.1) : Nat) : Int)].map V.int))
      refine ⟨o2, _, rfl, SqL.of e6, rfl, ?_⟩
      generalize (upd (upd H5 p2 _) o2 _) = H6 at s6 e6 ⊢
      have eP6 := s6 _ _ eP5
      have eL6 := s6 _ _ eL5
      have s56 := Same.trans s5 s6
      simp only [List.map_cons, List.map_nil]
      walk_at "rd"
      refine d_app eL6 ?_
      walk_at "rd"
      refine ⟨sz (by show 3 ≤ 100000; decide), fun p fp => ?_⟩
      have les : es.length ≤ 1600 := by
        have z := congrArg List.length ees
        rw [List.length_map, List.length_map] at z
        have := List.length_take_le i w.2
        omega
      walk_at "rd"
      refine d_append (at_upd eL6 fp) (szl (by rw [List.length_map]; omega)) ?_
      have npL : p ≠ L := fun z => by rw [z, eL6] at fp; cases fp
      refine ⟨_, _, _, _, _, es ++ [(p, mapTie qs t0)], rfl, ?_, ?_, ?_, ?_, ?_⟩
      · exact same_upd (same_upd s56 (Same.free s56 fp)) (Same.free s3 fL)
      · rw [upd_ne (ne_of_none eK fL), at_upd eP6 fp]
      · rw [upd_same, List.map_append]; rfl
      · rw [take_snoc ht, List.map_append, List.map_append, ees]; rfl
      · intro e he
        rcases List.mem_append.mp he with he | he
        · have h1 := s6 _ _ (hes e he)
          have h2 : e.1 ≠ L := fun z => by rw [z, eL6] at h1; cases h1
          rw [upd_ne h2]
          exact at_upd h1 fp
        · rw [List.mem_singleton.mp he]
          show (upd _ L _) p = _
          rw [upd_ne npL, upd_same]; rfl
    · obtain ⟨z4, z5, z7, z8, z9, es, rfl, s5, eP5, eL5, ees, hes⟩ := hP
      rw [lt, List.take_length] at ees
      walk_at "rd"
      refine ⟨_, P, cs.map sg, rfl, rfl, .inl (SqL.of (by rw [List.map_map]; rw [eP5, ecs]; rfl)), ?_, ?_⟩
      · rw [sum_const _ 1 _ (by intro x hx; obtain ⟨c, _, rfl⟩ := List.mem_map.mp hx; rfl), List.length_map]
        have e0 : (Str.ofString "").length = 0 := by decide +kernel
        rw [e0]; omega
      rw [join_signs]
      walk_at "rd"
      let es3 : List (Addr × Tri) := es.map fun e => (e.1, ((e.2.1 : Int), (e.2.2.1 : Int), e.2.2.2))
      refine ⟨L, es3, rfl, SqL.of (by rw [eL5]; show _ = some (HO.lst ((es.map _).map _)); rw [List.map_map]; rfl), fun e he => ?_, fun es' S pm srt fS => ?_⟩
      · obtain ⟨e0, he0, rfl⟩ := List.mem_map.mp he
        exact hes e0 he0
      walk_at "rd"
      refine ⟨S, _, rfl, .inl ⟨SqL.of upd_same, fun R fR => ?_⟩⟩
      walk_at "rd"
      refine ⟨sz (by show 2 ≤ 100000; decide), fun W' fW => ?_⟩
      let ts' : List Tie := es'.map fun e => (e.2.1.toNat, e.2.2.1.toNat, e.2.2.2)
      have back : ∀ e ∈ es', ∃ e0 ∈ es, e = (e0.1, ((e0.2.1 : Int), (e0.2.2.1 : Int), e0.2.2.2)) := fun e he => by
        obtain ⟨e0, he0, e1⟩ := List.mem_map.mp (pm.mem_iff.mp he)
        exact ⟨e0, he0, e1.symm⟩
      have pts : ts'.Perm (w.2.map (mapTie qs)) := by
        have z := pm.map fun e => ((e.2.1.toNat, e.2.2.1.toNat, e.2.2.2) : Tie)
        rw [← ees]
        have e2 : (es.map (fun e => (e.1, ((e.2.1 : Int), (e.2.2.1 : Int), e.2.2.2)))).map (fun e => ((e.2.1.toNat, e.2.2.1.toNat, e.2.2.2) : Tie)) = es.map (·.2) := by
          rw [List.map_map]; rfl
        rw [← e2]
        exact z
      have N : Named w qs (cs, ts') := ⟨lcs, hcs, pts⟩
      have srt' : ts'.Pairwise (fun x y => lexT ((y.1 : Int), (y.2.1 : Int), y.2.2) ((x.1 : Int), (x.2.1 : Int), x.2.2) = false) := by
        rw [List.pairwise_map] at srt
        show (es'.map _).Pairwise _
        rw [List.pairwise_map]
        refine srt.imp_of_mem fun {x y} hx hy hxy => ?_
        obtain ⟨e0, _, rfl⟩ := back x hx
        obtain ⟨e1, _, rfl⟩ := back y hy
        exact hxy
      have sf : Same H5 (upd (upd (upd H5 S (.lst (es'.map fun e => V.ref e.1))) R (.tup (es'.map fun e => V.ref e.1))) W' (.tup [V.str ⟨cs.toArray⟩, V.ref R])) := Same.trans (same_new fS) (Same.trans (same_new fR) (same_new fW))
      refine q _ _ (cs, ts') (Same.trans s5 sf) ⟨W', R, _, rfl, SqT.of upd_same, SqT.of (at_upd upd_same fW), ?_⟩ (loose_ok W oo N srt') N
      have go : ∀ l : List (Addr × Tri), (∀ e ∈ l, ∃ e0 ∈ es, e = (e0.1, ((e0.2.1 : Int), (e0.2.2.1 : Int), e0.2.2.2))) → Paired (TieAt K (upd (upd (upd H5 S (.lst (es'.map fun e => V.ref e.1))) R (.tup (es'.map fun e => V.ref e.1))) W' (.tup [V.str ⟨cs.toArray⟩, V.ref R]))) (l.map fun e => V.ref e.1) (l.map fun e => ((e.2.1.toNat, e.2.2.1.toNat, e.2.2.2) : Tie)) := by
        intro l
        induction l with
        | nil => intro _; exact .nil
        | cons x l ih =>
          intro hl
          obtain ⟨e0, he0, rfl⟩ := hl x List.mem_cons_self
          exact .cons ⟨e0.1, rfl, SqT.of (sf _ _ (hes e0 he0))⟩ (ih fun e he => hl e (List.mem_cons_of_mem _ he))
      exact go es' back
/-- the places in a drawn order -/
def spOrder : Sp := fun vs H Q _ => ∃ (h : Addr) (n : Int), vs = [.ref h, .int n] ∧ 0 ≤ n ∧ n ≤ 1000 ∧ Pot H h ∧ ∀ H' (p : Addr) (qs : List Nat), Keep h H H' → Pot H' h → H p = none → H' p = some (.lst (qs.map fun q => V.int (q : Nat))) → qs.Perm (List.range n.toNat) → Q (.ref p) H'
theorem ok_order (T : Tx K mg base) : FnOk P w K mg base CX0 3 T.order.f T.order.fd ["pot", "many"] spOrder := by
  refine T.order.F.ok sc_order (fun vs H Q E h => ?_) (fun cdv A outer s H vs Q E hr h => ?_)
  · obtain ⟨h, n, rfl, _⟩ := h; rfl
  · obtain ⟨h, n, rfl, n0, n1, hh, q⟩ := h
    refine ⟨_, (pss_cons (ps_set (i := 2) sc_order.nd rfl (.inr rfl) (pe_listRg rfl (by rfl) T.m_list (prg_1 (by rfl) T.m_range (pv 1))))
      (pss_one (ps_ret (pe_lc (own := [("k", 3)]) (g := gName 3) (tt := tYes) (te := tBM K "list" rPopAt (tVar 2) (tCons (tCall spTake [] E0 (tCons (tVar 0) (tCons (tCB (Evl.rLenS K) (tCons (tVar 2) tNil)) tNil))) tNil)) rfl sc_order.nd (pi_range1 (by rfl) T.m_range (pa_cons (pv 1) pa_nil)) (blkOk_by (N := ["pot", "many", "left", "k"]) (sc := defScope s_order) (by decide +kernel)) (fun _ _ _ _ _ => (pg_name (i := 3) sc_order.nd rfl (.inl rfl))) (fun _ _ _ _ _ => pts_nil) (fun _ _ _ _ _ => (pe_bm PySem.F.plainAttrs_list PySem.F.slot_list_pop PySem.F.type_list_pop mt_popAt (pv 2) (pa_cons (pe_call (ok_take T) (hr.mono (by decide)) (by rfl) T.take.g T.take.F.kp T.take.b .nil pass0 (pa_cons (pv 0) (pa_cons (pe_callB call_len_seq (by rfl) T.m_len (by decide +kernel) (pa_cons (pv 2) pa_nil)) pa_nil))) pa_nil))))))), ?_⟩
    walk_at "rd"
    refine ⟨RgOk.of_le (by omega) (by omega) (by omega) (by omega), fun L fL => ?_⟩
    walk_at "rd"
    have nL := hh.ne fL
    have hh1 := hh.put (o := .lst (rgV 0 n)) nL
    have eL := upd_same (H := H) (a := L) (o := .lst (rgV 0 n))
    rw [rgV_nats] at eL hh1
    have s1 := same_new (o := .lst ((List.range n.toNat).map fun q => V.int (q : Nat))) fL
    intro D fD
    have nD := (show Pot _ h from by rw [rgV_nats]; exact hh1).ne fD
    have nLD : L ≠ D := ne_of_none (upd_same (H := H) (a := L) (o := .lst (rgV 0 n))) fD
    rw [rgV_nats] at fD ⊢
    refine lc_range (fun i H' => ∃ gs ls : List Nat, gs.length = i ∧ (gs ++ ls).Perm (List.range n.toNat) ∧ H' D = some (.lst (gs.map fun q => V.int (q : Nat))) ∧ H' L = some (.lst (ls.map fun q => V.int (q : Nat))) ∧ Keep h H H' ∧ Pot H' h)
      ⟨[], List.range n.toNat, rfl, List.Perm.refl _, upd_same, at_upd eL fD, Keep.new (Same.keep s1) (Same.free s1 fD), hh1.put nD⟩ (fun i H' hi hP => ?_) (fun H' hP => ?_)
    · obtain ⟨gs, ls, lg, pm, eD, eL', kk, hh'⟩ := hP
      have lsum := pm.length_eq
      rw [List.length_append, List.length_range] at lsum
      have hi' : i < n.toNat := by omega
      walk_at "rd"
      refine ⟨.inl ⟨rfl, _, SqL.of eL'⟩, ?_⟩
      walk_at "rd"
      refine d_lenL (SqL.of eL') ?_
      rw [List.length_map]
      walk_at "rd"
      refine ⟨h, (ls.length : Nat), rfl, by omega, by omega, hh', fun H2 g k2 hh2 g0 g1 => ?_⟩
      walk_at "rd"
      obtain ⟨m, rfl⟩ := Int.eq_ofNat_of_zero_le g0
      have hm : m < ls.length := by omega
      have eL2 := k2 L _ nL eL'
      refine ⟨L, _, (m : Nat), m, .int (ls[m] : Nat), rfl, rfl, eL2, by omega, by omega, by rw [List.length_map]; exact seqIndex_of (by omega) (by omega), by rw [List.getElem?_map, List.getElem?_eq_getElem hm]; rfl, ?_⟩
      have eD2 := k2 D _ nD eD
      have nh := nL
      refine ⟨_, by rw [upd_ne nLD.symm]; exact eD2, szl (by rw [List.length_map]; omega), gs ++ [ls[m]], ls.eraseIdx m, by rw [List.length_append, lg]; rfl, ?_, by rw [upd_same, List.map_append]; rfl, ?_, ?_, ?_⟩
      · rw [List.append_assoc]
        exact (List.Perm.append_left gs (erase_perm ls m hm)).trans pm
      · rw [upd_ne nLD, upd_same]
        congr 2
        exact erase_map _ _ _
      · exact Keep.new (Keep.new (Keep.trans kk k2) fL) (Same.free s1 fD)
      · exact (hh2.put nL).put nD
    · obtain ⟨gs, ls, lg, pm, eD, eL', kk, hh'⟩ := hP
      have lsum := pm.length_eq
      rw [List.length_append, List.length_range] at lsum
      have e0 : ls = [] := List.eq_nil_of_length_eq_zero (by omega)
      subst e0
      rw [List.append_nil] at pm
      exact q H' D gs kk hh' (Same.free s1 fD) eD pm
/-- the classes without a place -/
def spWithout (K : PySem.W.Frag) : Sp := fun vs H Q _ => ∃ (v : V) (cs : List Cl) (p : Nat), vs = [v, .int (p : Nat)] ∧ StAt H v cs ∧ cs.length ≤ 40 ∧ p ≤ 40 ∧ ∀ H' v' ds, Same H H' → StAt H' v' ds → ds.Perm (outL p cs) → Q v' H'
theorem ok_without (T : Tx K mg base) : FnOk P w K mg base CX0 1 T.without.f T.without.fd ["classes", "place"] (spWithout K) := by
  refine T.without.F.ok sc_without (fun vs H Q E h => ?_) (fun cdv A outer s H vs Q E hr h => ?_)
  · obtain ⟨_, _, _, rfl, _⟩ := h; rfl
  · obtain ⟨_, cs, p, rfl, ⟨t, vs, rfl, et, pc⟩, l40, p40, q⟩ := h
    have lv := Paired.length pc
    refine ⟨_, (pss_cons (ps_set (i := 2) sc_without.nd rfl (.inr rfl) (pe_un un_inv (pe_op op_shl pe_int (pv 1))))
      (pss_one (ps_ret (pe_callTy call_tuple_of (by rfl) T.m_tuple (by decide +kernel) (pa_cons (pe_callB (cr_sortedDat (units1 hr)) (by rfl) T.m_sorted (by decide +kernel) (pa_cons (pe_lc (own := [("places", 3), ("ends", 4)]) (g := gTup K 2 (gCons (gName 3) (gCons (gName 4) gNil))) (tt := tTru K (tOp (rI0 fun i j => V.int (Builtin.bitAnd i j)) (tVar 3) (tVar 2))) (te := tTup (tCons (tOp (rI0 fun i j => V.int (Builtin.bitAnd i j)) (tVar 3) (tVar 2)) (tCons (tVar 4) tNil))) rfl sc_without.nd (pi_tup (pv 0)) (blkOk_by (N := ["classes", "place", "keep", "places", "ends"]) (sc := defScope s_without) (by decide +kernel)) (fun _ _ _ _ _ => (pg_tup rfl (pgs_cons (pg_name (i := 3) sc_without.nd rfl (.inl rfl)) (pgs_cons (pg_name (i := 4) sc_without.nd rfl (.inl rfl)) pgs_nil)))) (fun _ _ _ _ _ => pts_one (pt_truth (pe_op op_and (pv 3) (pv 2)) (by intro _; rfl))) (fun _ _ _ _ _ => (pe_tup (pa_cons (pe_op op_and (pv 3) (pv 2)) (pa_cons (pv 4) pa_nil))))) pa_nil)) pa_nil))))), ?_⟩
    walk_at "rd"
    refine d_iTe (SqT.of et) ?_
    intro D fD
    refine lc_it (walk_tup (xs := vs)) (fun i H2 => ∃ ws, H2 D = some (.lst ws) ∧ Paired (ClAt H2) ws (outL p (cs.take i)) ∧ Same H H2) ⟨[], upd_same, .nil, same_new fD⟩ (fun i H2 hi hP => ?_) (fun i x H0 H2 hi hP hy => ?_) (fun H2 hP => ?_)
    · obtain ⟨_, _, _, s2⟩ := hP
      exact SqT.of (s2 _ _ et)
    · obtain ⟨ws, eD, pw, s2⟩ := hP
      obtain ⟨rfl, hx⟩ := hy
      obtain ⟨c, hc, a', rfl, ha⟩ := Paired.at pc hx
      have ha2 := s2 _ _ ha
      walk_at "rd"
      refine d_tru ?_
      walk_at "rd"
      rw [bClear']
      refine ⟨_, rfl, ?_⟩
      rw [int_tru]
      by_cases z : clr c.1 p = 0
      · rw [if_neg (by simp [z])]
        exact ⟨ws, eD, by rw [clr_take hc z]; exact pw, s2⟩
      · rw [if_pos (by simp [z])]
        walk_at "rd"
        rw [bClear']
        refine ⟨sz (by show 2 ≤ 100000; decide), fun r fr => ?_⟩
        have sr := same_new (o := .tup [V.int (clr c.1 p : Nat), V.int (c.2 : Nat)]) fr
        refine ⟨ws, sr _ _ eD, szl (by have := Paired.length pw; have := out_len p (cs.take i); rw [List.length_take] at this; omega), ws ++ [V.ref r], upd_same, ?_, same_upd (Same.trans s2 sr) fD⟩
        rw [clr_take' hc z]
        exact cls_tups (Paired.snoc (cls_tups pw (Tups.of sr)) ⟨r, rfl, upd_same⟩) (Tups.lst (sr _ _ eD))
    · obtain ⟨ws, eD, pw, s2⟩ := hP
      rw [lv, List.take_length] at pw
      walk_at "rd"
      refine d_sortCl (SqL.of eD) pw fun r vs' ds fr pr pm => ?_
      walk_at "rd"
      refine ⟨r, vs', rfl, .inl ⟨SqL.of upd_same, fun l fl => ?_⟩⟩
      have s3 := same_new (o := .lst vs') fr
      have s4 := same_new (o := .tup vs') fl
      exact q _ _ _ (Same.trans s2 (Same.trans s3 s4)) ⟨l, vs', rfl, upd_same, cls_tups (cls_tups pr (Tups.of s3)) (Tups.of s4)⟩ pm
/-- no more pairs than that -/
def spBound (K : PySem.W.Frag) : Sp := fun vs H Q _ => ∃ (me v : V) (cs : List Cl), vs = [me, v] ∧ StAt H v cs ∧ cs.length ≤ 40 ∧ ∀ H', Same H H' → Q (.int (bdN cs : Nat)) H'
theorem ok_LyingRules_bound (T : Tx K mg base) : FnOk P w K mg base CX0 2 T.LyingRules_bound.f T.LyingRules_bound.fd ["self", "classes"] (spBound K) := by
  refine T.LyingRules_bound.F.ok sc_LyingRules_bound (fun vs H Q E h => ?_) (fun cdv A outer s H vs Q E hr h => ?_)
  · obtain ⟨_, _, _, rfl, _⟩ := h; rfl
  · obtain ⟨me, _, cs, rfl, ⟨t, vs, rfl, et, pc⟩, l40, q⟩ := h
    have lv := Paired.length pc
    refine ⟨_, (pss_one (ps_ret (pe_callB (cr_sum rfl) (by rfl) T.m_sum (by decide +kernel) (pa_cons (pe_lc (own := [("places", 2), ("ends", 3)]) (g := gTup K 2 (gCons (gName 2) (gCons (gName 3) gNil))) (tt := tYes) (te := tCB rMin2 (tCons (tCall spMany [] E0 (tCons (tVar 2) tNil)) (tCons (tCall spMany [] E0 (tCons (tVar 3) tNil)) tNil))) rfl sc_LyingRules_bound.nd (pi_tup (pv 1)) (blkOk_by (N := ["self", "classes", "places", "ends"]) (sc := defScope s_LyingRules_bound) (by decide +kernel)) (fun _ _ _ _ _ => (pg_tup rfl (pgs_cons (pg_name (i := 2) sc_LyingRules_bound.nd rfl (.inl rfl)) (pgs_cons (pg_name (i := 3) sc_LyingRules_bound.nd rfl (.inl rfl)) pgs_nil)))) (fun _ _ _ _ _ => pts_nil) (fun _ _ _ _ _ => (pe_callB (call_min2 rfl) (by rfl) T.m_min (by decide +kernel) (pa_cons (pe_call (ok_how_many T) (hr.mono (by decide)) (by rfl) T.how_many.g T.how_many.F.kp T.how_many.b .nil pass0 (pa_cons (pv 2) pa_nil)) (pa_cons (pe_call (ok_how_many T) (hr.mono (by decide)) (by rfl) T.how_many.g T.how_many.F.kp T.how_many.b .nil pass0 (pa_cons (pv 3) pa_nil)) pa_nil))))) pa_nil)))), ?_⟩
    walk_at "rd"
    refine ⟨_, rfl, ⟨vs, SqT.of et⟩, fun D fD => ?_⟩
    refine lc_it (walk_tup (xs := vs)) (fun i H2 => ∃ ns : List Nat, ns.length = i ∧ H2 D = some (.lst (ns.map fun k => V.int (k : Nat))) ∧ ns.sum = bdN (cs.take i) ∧ Same H H2) ⟨[], rfl, upd_same, rfl, same_new fD⟩ (fun i H2 hi hP => ?_) (fun i x H0 H2 hi hP hy => ?_) (fun H2 hP => ?_)
    · obtain ⟨_, _, _, _, s2⟩ := hP
      exact SqT.of (s2 _ _ et)
    · obtain ⟨ns, ln, eD, en, s2⟩ := hP
      obtain ⟨rfl, hx⟩ := hy
      obtain ⟨c, hc, a', rfl, ha⟩ := Paired.at pc hx
      have ha2 := s2 _ _ ha
      walk_at "rd"
      refine ⟨_, rfl, ?_⟩
      walk_at "rd"
      refine ⟨_, rfl, ?_⟩
      walk_at "rd"
      refine ⟨_, _, rfl, ?_⟩
      rw [show (if ((pcN c.2 : Nat) : Int) < (pcN c.1 : Nat) then ((pcN c.2 : Nat) : Int) else (pcN c.1 : Nat)) = ((min (pcN c.1) (pcN c.2) : Nat) : Int) by split <;> omega]
      refine ⟨_, eD, szl (by rw [List.length_map]; omega), ns ++ [min (pcN c.1) (pcN c.2)], by rw [List.length_append, ln]; rfl, by rw [upd_same, List.map_append]; rfl, ?_, same_upd s2 fD⟩
      rw [bd_take hc, List.sum_append, en]
      simp
    · obtain ⟨ns, ln, eD, en, s2⟩ := hP
      rw [lv, List.take_length] at en
      walk_at "rd"
      refine ⟨D, ns.map fun k : Nat => (k : Int), rfl, SqL.of (by rw [nat_ints]; exact eD), ?_⟩
      rw [nat_sum, en]
      exact q _ s2
/-- each is a piece -/
def spWhole : Sp := fun vs H Q _ => ∃ (me v : V), vs = [me, v] ∧ Q (.bl true) H
theorem ok_LyingRules_whole (T : Tx K mg base) : FnOk P w K mg base CX0 1 T.LyingRules_whole.f T.LyingRules_whole.fd ["self", "classes"] spWhole := by
  refine T.LyingRules_whole.F.ok sc_LyingRules_whole (fun vs H Q E h => ?_) (fun cdv A outer s H vs Q E hr h => ?_)
  · obtain ⟨_, _, rfl, _⟩ := h; rfl
  · obtain ⟨me, v, rfl, q⟩ := h
    refine ⟨_, (pss_one (ps_ret pe_bl)), ?_⟩
    walk_at "rd"
    exact q
/-- the classes behind a pair -/
def spNarrow (pd : Program) (wd : World) (C : Addr) : Sp := fun vs H Q _ => ∃ (N : Addr → Prop) (me : Addr) (u u' : Web) (v : V) (cs : List Cl) (p e : Nat), vs = [.ref me, v, .int (p : Nat), .int (e : Nat)] ∧ Rules pd wd N H me C u u' ∧ StAt H v cs ∧ cs.length ≤ 40 ∧ p < u.1.length ∧ e < u'.1.length ∧
  ∀ H' v' ds ks, Same H H' → StAt H' v' ds → TieKs u p ks → ds.Perm (narL ks u u' p e cs) → Q v' H'
theorem ok_LyingRules_narrowed (T : Tx K mg base) : FnOk P w K mg base CX0 1 T.LyingRules_narrowed.f T.LyingRules_narrowed.fd ["self", "classes", "place", "end"] (spNarrow P w T.C_LyingRules) := by
  refine T.LyingRules_narrowed.F.ok sc_LyingRules_narrowed (fun vs H Q E h => ?_) (fun cdv A outer s H vs Q E hr h => ?_)
  · obtain ⟨_, _, _, _, _, _, _, _, rfl, _⟩ := h; rfl
  · obtain ⟨N, me, u, u', _, cs, p, e, rfl, ⟨dx, _, _, eme, ⟨L, ds, rfl, eL, ll, hd⟩, ⟨L', ds', rfl, eL', ll', hd'⟩⟩, ⟨t, vs, rfl, et, pc⟩, l40, lp, le, q⟩ := h
    have lv := Paired.length pc
    obtain ⟨d, hdp⟩ : ∃ d, ds[p]? = some d := ⟨_, List.getElem?_eq_getElem (by omega)⟩
    obtain ⟨d', hde⟩ : ∃ d', ds'[e]? = some d' := ⟨_, List.getElem?_eq_getElem (by omega)⟩
    obtain ⟨_, ks, tk, ed⟩ := hd p d hdp
    obtain ⟨_, ks', tk', ed'⟩ := hd' e d' hde
    refine ⟨_, (pss_cons (ps_set (i := 4) sc_LyingRules_narrowed.nd rfl (.inl rfl) (pe_lst pa_nil))
      (pss_cons (ps_lock (ps_for PassesOwn.never rfl (pi_itemsN (pd := P) (wd := w) rfl rfl (pe_ix ix_list (pe_fld (pv 0) rfl) (pv 2) (fun _ _ => rfl))) (pg_tup rfl (pgs_cons (pg_name (i := 5) sc_LyingRules_narrowed.nd rfl (.inl rfl)) (pgs_cons (pg_name (i := 6) sc_LyingRules_narrowed.nd rfl (.inl rfl)) pgs_nil)))
        (pss_cons (ps_set (i := 7) sc_LyingRules_narrowed.nd rfl (.inl rfl) (pe_nget2 (pd := P) (wd := w) rfl rfl (pe_ix ix_list (pe_fld (pv 0) rfl) (pv 3) (fun _ _ => rfl)) (pv 5) pe_int ⟨rfl, rfl, rfl, rfl⟩))
        (pss_one (ps_for PassesOwn.never rfl (pi_tup (pv 1)) (pg_tup rfl (pgs_cons (pg_name (i := 8) sc_LyingRules_narrowed.nd rfl (.inl rfl)) (pgs_cons (pg_name (i := 9) sc_LyingRules_narrowed.nd rfl (.inl rfl)) pgs_nil)))
          (pss_one (ps_if (PW.pt (pw_and (pt_truth (pe_op op_and (pv 8) (pv 6)) (by intro _; rfl)) (pw_and1 (pt_truth (pe_op op_and (pv 9) (pv 7)) (by intro _; rfl)))))
            (pss_one (ps_expr (pe_bm PySem.F.plainAttrs_list PySem.F.slot_list_append PySem.F.type_list_append mt_append (pv 4) (pa_cons (pe_tup (pa_cons (pe_op op_and (pv 8) (pv 6)) (pa_cons (pe_op op_and (pv 9) (pv 7)) pa_nil))) pa_nil))))
            pss_nil)))))))
      (pss_one (ps_ret (pe_callTy call_tuple_of (by rfl) T.m_tuple (by decide +kernel) (pa_cons (pe_callB (cr_sortedDat (units1 hr)) (by rfl) T.m_sorted (by decide +kernel) (pa_cons (pv 4) pa_nil)) pa_nil)))))), ?_⟩
    walk_at "rd"
    refine ⟨sz (by decide), fun D fD => ?_⟩
    have sD := same_new (o := .lst []) fD
    walk_at "rd"
    have ed1 := sD _ _ ed
    have eme1 := sD _ _ eme
    have eL1 := sD _ _ eL
    have nDd : D ≠ d := (ne_of_none ed fD).symm
    refine d_lock ⟨d, _, ed1, trivial, fun od => ?_⟩
    have lk : Lk d (.frz od (DN P w d (obD u p ks))) (upd H D (.lst [])) _ := Lk.first
    have nme : me ≠ d := fun z => by rw [z, ed] at eme; cases eme
    have nL : L ≠ d := fun z => by rw [z, ed] at eL; cases eL
    have eme2 := lk.1 _ _ nme eme1
    have eL2 := lk.1 _ _ nL eL1
    walk_at "rd"
    refine d_itN ?_
    refine d_fldm ?_
    walk_at "rd"
    refine ⟨me, _, _, _, _, rfl, eme2, T.cl_LyingRules, T.na_LyingRules_here, rfl, ?_⟩
    walk_at "rd"
    refine d_ixLm eL2 (atI_nat (by rw [List.getElem?_map, hdp]; rfl)) ?_
    refine ⟨d, od, obD u p ks, rfl, upd_same, ?_⟩
    have lkH : Lk d (.frz od (DN P w d (obD u p ks))) H (upd (upd H D (.lst [])) d (.frz od (DN P w d (obD u p ks)))) := ⟨fun b o n z => by rw [upd_ne n]; exact sD _ _ z, upd_same⟩
    refine for_it walk_nitems (fun i σ H2 => ∃ y5 y6 y7 y8 y9 ws, σ = [some (.ref me), some (.ref t), some (.int (p : Nat)), some (.int (e : Nat)), some (.ref D), y5, y6, y7, y8, y9] ∧ Lk d (.frz od (DN P w d (obD u p ks))) H H2 ∧ H2 D = some (.lst ws) ∧ Paired (ClAt H2) ws (narL (ks.take i) u u' p e cs))
      ⟨_, _, _, _, _, [], rfl, lkH, by rw [upd_ne nDd]; exact upd_same, .nil⟩ (fun i σ H2 hi hP => ?_) (fun i x σ H0 H2 hi hP hy => ?_) (fun σ H2 hP => ?_)
    · obtain ⟨_, _, _, _, _, _, _, l2, _⟩ := hP
      exact l2.2
    · obtain ⟨y5, y6, y7, y8, y9, ws, rfl, l2, eD, pw⟩ := hP
      obtain ⟨R, k0, v0, rfl, fR, rfl, hk, hv⟩ := hy
      obtain ⟨k, hk2, rfl, rfl⟩ : ∃ k, ks[i]? = some k ∧ k0 = nV (kTie k) ∧ v0 = V.int (obt u p k : Nat) := by
        unfold obD at hk hv
        dsimp only at hk hv
        rw [List.getElem?_map] at hk hv
        cases z : ks[i]? with
        | none => rw [z] at hk; cases hk
        | some k => rw [z] at hk hv; exact ⟨k, rfl, (Option.some.inj hk).symm, (Option.some.inj hv).symm⟩
      have sR := same_new (o := .tup [nV (kTie k), V.int (obt u p k : Nat)]) fR
      have l3 := l2.same sR
      have eD3 := sR _ _ eD
      have pw3 := cls_tups pw (Tups.of sR)
      have eR := upd_same (H := H0) (a := R) (o := .tup [nV (kTie k), V.int (obt u p k : Nat)])
      generalize upd H0 R _ = H3 at sR l3 eD3 pw3 eR ⊢
      walk_at "rd"
      refine d_nget2 ?_
      refine d_fldm ?_
      walk_at "rd"
      refine ⟨me, _, _, _, _, rfl, l3.1 _ _ nme eme, T.cl_LyingRules, T.na_LyingRules_there, rfl, ?_⟩
      walk_at "rd"
      have nL' : L' ≠ d := fun z => by rw [z, ed] at eL'; cases eL'
      refine d_ixLm (l3.1 _ _ nL' eL') (atI_nat (by rw [List.getElem?_map, hde]; rfl)) ?_
      refine ⟨d', obD u' e ks', rfl, l3.rd ed ed', ?_⟩
      walk_at "rd"
      refine ⟨kTie k, l3.rd ed ed', rfl, ?_⟩
      rw [tk'.get k]
      walk_at "rd"
      have et3 : H3 t = some (.tup vs) := l3.1 _ _ (fun z => by rw [z, ed] at et; cases et) et
      refine d_iTe (SqT.of et3) ?_
      have li : (narL (ks.take i) u u' p e cs).length ≤ 1600 := by
        have h1 := nar_len u u' p e cs (ks.take i)
        have h2 : (ks.take i).length ≤ 40 := by have := tk.few; rw [List.length_take]; omega
        exact Nat.le_trans h1 (Nat.mul_le_mul h2 l40)
      refine for_it (walk_tup (xs := vs)) (fun j σ H4 => ∃ y8 y9 ws, σ = [some (.ref me), some (.ref t), some (.int (p : Nat)), some (.int (e : Nat)), some (.ref D), some (nV (kTie k)), some (.int (obt u p k : Nat)), some (.int (obt u' e k : Nat)), y8, y9] ∧ Lk d (.frz od (DN P w d (obD u p ks))) H H4 ∧ H4 D = some (.lst ws) ∧ Paired (ClAt H4) ws (narL (ks.take i) u u' p e cs ++ (cs.take j).filterMap (narC u u' p e k)))
        ⟨_, _, ws, rfl, l3, eD3, by rw [List.take_zero, List.filterMap_nil, List.append_nil]; exact pw3⟩ (fun j σ H4 hj hP => ?_) (fun j x σ H5 H4 hj hP hy => ?_) (fun σ H4 hP => ?_)
      · obtain ⟨_, _, _, _, l4, _⟩ := hP
        exact SqT.of (l4.1 _ _ (fun z => by rw [z, ed] at et; cases et) et)
      · obtain ⟨y8, y9, ws4, rfl, l4, eD4, pw4⟩ := hP
        obtain ⟨rfl, hx⟩ := hy
        obtain ⟨c, hc, a', rfl, ha⟩ := Paired.at pc hx
        have ha4 := l4.1 _ _ (fun z => by rw [z, ed] at ha; cases ha) ha
        walk_at "rd"
        have fm := fm_take (f := narC u u' p e k) hc
        rw [bAnd]
        refine ⟨_, rfl, ?_⟩
        rw [int_tru]
        by_cases z1 : c.1 &&& obt u p k = 0
        · rw [show narC u u' p e k c = none from if_neg (fun y => y.1 z1), Option.toList_none, List.append_nil] at fm
          rw [show (!decide (c.1 &&& obt u p k = 0)) = false by simp [z1]]
          refine iteF ?_
          refine iteF ?_
          walk_at "rd"
          exact ⟨_, _, ws4, rfl, l4, eD4, by rw [fm]; exact pw4⟩
        · rw [show (!decide (c.1 &&& obt u p k = 0)) = true by simp [z1]]
          refine iteT ?_
          walk_at "rd"
          rw [bAnd]
          refine ⟨_, rfl, ?_⟩
          rw [int_tru]
          by_cases z2 : c.2 &&& obt u' e k = 0
          · rw [show narC u u' p e k c = none from if_neg (fun y => y.2 z2), Option.toList_none, List.append_nil] at fm
            rw [show (!decide (c.2 &&& obt u' e k = 0)) = false by simp [z2]]
            refine iteF ?_
            walk_at "rd"
            exact ⟨_, _, ws4, rfl, l4, eD4, by rw [fm]; exact pw4⟩
          · rw [show narC u u' p e k c = some (c.1 &&& obt u p k, c.2 &&& obt u' e k) from if_pos ⟨z1, z2⟩, Option.toList_some] at fm
            rw [show (!decide (c.2 &&& obt u' e k = 0)) = true by simp [z2]]
            refine iteT ?_
            walk_at "rd"
            refine d_app eD4 ?_
            walk_at "rd"
            rw [bAnd, bAnd]
            refine ⟨sz (by show 2 ≤ 100000; decide), fun r fr => ?_⟩
            have sr := same_new (o := .tup [V.int (c.1 &&& obt u p k : Nat), V.int (c.2 &&& obt u' e k : Nat)]) fr
            have eD5 := sr _ _ eD4
            have er := upd_same (H := H4) (a := r) (o := .tup [V.int (c.1 &&& obt u p k : Nat), V.int (c.2 &&& obt u' e k : Nat)])
            have l5 := l4.same sr
            have pw5 := cls_tups pw4 (Tups.of sr)
            generalize upd H4 r _ = H6 at sr eD5 er l5 pw5 ⊢
            walk_at "rd"
            have lw := Paired.length pw4
            have lf := List.length_filterMap_le (narC u u' p e k) (cs.take j)
            refine d_append eD5 (szl (by rw [lw, List.length_append]; rw [List.length_take] at lf; omega)) ?_
            refine ⟨_, _, ws4 ++ [V.ref r], rfl, l5.put fD nDd, upd_same, ?_⟩
            rw [fm, ← List.append_assoc]
            exact cls_tups (Paired.snoc pw5 ⟨r, rfl, er⟩) (Tups.lst eD5)
      · obtain ⟨y8, y9, ws4, rfl, l4, eD4, pw4⟩ := hP
        rw [lv, List.take_length, ← nar_take hk2] at pw4
        exact ⟨_, _, _, _, _, _, rfl, l4, eD4, pw4⟩
    · obtain ⟨y5, y6, y7, y8, y9, ws, rfl, l2, eD, pw⟩ := hP
      rw [show (obD u p ks).length = ks.length from List.length_map _, List.take_length] at pw
      refine ⟨l2.2, ?_⟩
      have sm := l2.open_ ed
      have pw2 := cls_tups pw (Tups.frz l2.2 (u := DN P w d (obD u p ks)))
      have eD2 : upd H2 d (DN P w d (obD u p ks)) D = some (.lst ws) := by rw [upd_ne nDd]; exact eD
      generalize upd H2 d _ = H3 at sm eD2 pw2 ⊢
      walk_at "rd"
      refine d_sortCl (SqL.of eD2) pw2 fun r vs' ds fr pr pm => ?_
      walk_at "rd"
      refine ⟨r, vs', rfl, .inl ⟨SqL.of upd_same, fun l fl => ?_⟩⟩
      have s3 := same_new (o := .lst vs') fr
      have s4 := same_new (o := .tup vs') fl
      exact q _ _ _ _ (Same.trans sm (Same.trans s3 s4)) ⟨l, vs', rfl, upd_same, cls_tups (cls_tups pr (Tups.of s3)) (Tups.of s4)⟩ tk pm
open LamX NdefX
def qC : Str := Str.ofString "LyingRules.choices.<locals>.<lambda>"
def mkC (c : Addr) : LamF := ⟨qC, ((lamOf s_LyingRules_choices).get rfl).1, ((lamOf s_LyingRules_choices).get rfl).2.1, ((lamOf s_LyingRules_choices).get rfl).2.2, c⟩
def tbC : TE := tCall spLeast [] E0 (tCons (tOp (rIxT K) (tVar 0) (tC (.int 0))) tNil)
theorem mkC_sc0 : NScope ["row"] ["row"] [] ((lamOf s_LyingRules_choices).get rfl).2.2 := nscope_by (by decide +kernel)
theorem mkC_scope (c : Addr) : NScope ["row"] ["row"] [] (mkC c).scope := mkC_sc0
theorem mkC_bind (c : Addr) (pm ctv u : Value) : bindArgs (PySem.W.kla_fn "<lambda>" (mkC c).qual (mkC c).params (mkC c).body (mkC c).scope [] pm (.ref (mkC c).c) ctv) ⟨[u], []⟩ = pure [(("row" : Str), u)] := rfl
/-- what may become of the next place -/
def spChoices (pd : Program) (wd : World) (C PP : Addr) : Sp := fun vs H Q _ => ∃ (N : Addr → Prop) (me : Addr) (u u' : Web) (v : V) (cs : List Cl), vs = [.ref me, v] ∧ Rules pd wd N H me C u u' ∧ StAt H v cs ∧ VC u.1.length u'.1.length cs ∧ cs ≠ [] ∧ u.1.length ≤ 40 ∧ u'.1.length ≤ 40 ∧ TabN N H PP qC ∧ (∀ b, N b → H b ≠ none) ∧
  ∀ H' L, KS (fun b => b = PP) H H' → TabN N H' PP qC → H L = none → ChoAt H' u u' cs L → Q (.ref L) H'
theorem ok_LyingRules_choices (T : Tx K mg base) : FnOk P w K mg base CX0 4 T.LyingRules_choices.f T.LyingRules_choices.fd ["self", "classes"] (spChoices P w T.C_LyingRules T.P_LyingRules_choices) := by
  refine funOkT T.hc_LyingRules_choices T.LyingRules_choices.F sc_LyingRules_choices (fun vs H Q E h => ?_) (fun A outer s H vs Q E hr h => ?_)
  · obtain ⟨_, _, _, _, _, _, rfl, _⟩ := h; rfl
  · obtain ⟨N, me, u, u', _, cs, rfl, hR, ⟨t, vs, rfl, et, pc⟩, vc, ne, u40, u40', tab, hN, q⟩ := h
    have lv := Paired.length pc
    refine ⟨_, (pss_cons (ps_asg (pe_callBK (id := "min") (ks := [Str.ofString "key"]) (r := rMinKey K mkC tbC) (cr_minKey (x := "row") (k := 1) rfl mkC_scope mkC_bind (hr.mono (by decide)) (fun _ _ _ _ _ _ hr2 => pe_call (ok_least_of T) (hr2.mono (by decide)) (by rfl) T.least_of.g T.least_of.F.kp T.least_of.b .nil pass0 (pa_cons (pe_ix ix_tup (pv 0) pe_int (fun _ _ => rfl)) pa_nil))) (by rfl) T.m_min (by decide +kernel) (pa_cons (pv 1) pa_nil) (pk_cons (pe_lamb (q := qC) T.tl_LyingRules_choices (by rfl) (by rfl) (by rfl) (by decide +kernel)) pk_nil)) (pg_tup rfl (pgs_cons (pg_name (i := 2) sc_LyingRules_choices.nd rfl (.inl rfl)) (pgs_cons (pg_name (i := 3) sc_LyingRules_choices.nd rfl (.inl rfl)) pgs_nil))))
      (pss_cons (ps_set (i := 4) sc_LyingRules_choices.nd rfl (.inr rfl) (pe_call (ok_least_of T) (hr.mono (by decide)) (by rfl) T.least_of.g T.least_of.F.kp T.least_of.b .nil pass0 (pa_cons (pv 2) pa_nil)))
      (pss_cons (ps_setLc (i := 5) (own := [("end", 6)]) (g := gName 6) (tt := tYes) (te := tTup (tCons (tTup (tCons (tVar 4) (tCons (tVar 6) tNil))) (tCons (tC (.int 1)) (tCons (tMeth T.C_LyingRules (Str.ofString "narrowed") (spNarrow P w T.C_LyingRules) [] E0 (tVar 0) (tCons (tVar 1) (tCons (tVar 4) (tCons (tVar 6) tNil)))) tNil)))) rfl sc_LyingRules_choices.nd rfl rfl (sw_true rfl rfl rfl (by decide +kernel)) (pi_list (pe_call (ok_numbers_of T) (hr.mono (by decide)) (by rfl) T.numbers_of.g T.numbers_of.F.kp T.numbers_of.b .nil pass0 (pa_cons (pv 3) pa_nil))) (blkOk_by (N := ["self", "classes", "places", "ends", "place", "told", "end"]) (sc := defScope s_LyingRules_choices) (by decide +kernel)) (fun _ _ _ _ _ => (pg_name (i := 6) sc_LyingRules_choices.nd rfl (.inl rfl))) (fun _ _ _ _ _ => pts_nil) (fun _ _ _ _ _ => (pe_tup (pa_cons (pe_tup (pa_cons (pv 4) (pa_cons (pv 6) pa_nil))) (pa_cons pe_int (pa_cons (pe_meth (pv 0) T.cl_LyingRules T.LyingRules_narrowed.m (ok_LyingRules_narrowed T) (hr.mono (by decide)) T.LyingRules_narrowed.b .nil pass0 (pa_cons (pv 1) (pa_cons (pv 4) (pa_cons (pv 6) pa_nil)))) pa_nil))))))
      (pss_cons (ps_expr (pe_bm PySem.F.plainAttrs_list PySem.F.slot_list_append PySem.F.type_list_append mt_append (pv 5) (pa_cons (pe_tup (pa_cons pe_non (pa_cons pe_int (pa_cons (pe_call (ok_without T) (hr.mono (by decide)) (by rfl) T.without.g T.without.F.kp T.without.b .nil pass0 (pa_cons (pv 1) (pa_cons (pv 4) pa_nil))) pa_nil)))) pa_nil)))
      (pss_one (ps_ret (pv 5))))))), ?_⟩
    walk_at "rd"
    refine d_ckw ?_
    walk_at "rd"
    refine d_lamb tab hN fun f c' H1 k1 tab1 ff ef ec => ?_
    have k1 : KS (fun b => b = T.P_LyingRules_choices) H H1 := k1
    have nP : ∀ xs, H T.P_LyingRules_choices ≠ some (.tup xs) := fun xs z => by
      obtain ⟨ps, e, _⟩ := tab
      rw [e] at z; cases z
    have t1 : Tups H H1 := fun b xs e => k1 b _ (fun z => nP xs (z ▸ e)) e
    have et1 := t1 _ _ et
    have pc1 := cls_tups pc t1
    walk_at "rd"
    refine ⟨t, f, c', vs, fun i => ((lsb ((cs[i]?.map Prod.fst).getD 0) : Nat) : Int), rfl, rfl, SqT.of et1, ?_, ef, ec, fun i v H2 hv s2 => ?_, fun i v H2 hv mn s2 => ?_⟩
    · rw [lv]; exact List.length_pos_iff.mpr ne
    · obtain ⟨c, hc, a', rfl, ha⟩ := Paired.at pc1 hv
      have hc0 := (vc.some_ c (List.mem_of_getElem? hc)).1
      unfold tbC
      walk_at "rd"
      refine d_ixTm (s2 _ _ ha) rfl ?_
      walk_at "rd"
      exact ⟨_, rfl, hc0, by dsimp only; rw [hc]; rfl, Same.refl _⟩
    obtain ⟨c, hc, a', rfl, ha⟩ := Paired.at pc1 hv
    have ha2 := s2 _ _ ha
    have M : IsMin cs c := ⟨List.mem_of_getElem? hc, fun d hd => by
      obtain ⟨j, hj, e⟩ := List.mem_iff_getElem.mp hd
      have m := mn j (by rw [lv]; exact hj)
      dsimp only at m
      rw [hc, List.getElem?_eq_getElem hj, e] at m
      simp only [Option.map_some, Option.getD_some] at m
      omega⟩
    walk_at "rd"
    have lc := vc.low c M.mem
    refine ⟨c.1, rfl, (vc.some_ c M.mem).1, ?_⟩
    walk_at "rd"
    refine ⟨c.2, rfl, low_pow u40' lc.2, fun H3 B s3 fB eB => ?_⟩
    have k3 : KS (fun b => b = T.P_LyingRules_choices) H H3 := KS.trans k1 (KS.of (Same.trans s2 s3))
    have hR3 : Rules P w N H3 me T.C_LyingRules u u' := hR.ks k3 (fun b ys e => by obtain ⟨ps, z, _⟩ := tab; rw [e, z]; intro y; cases y) (fun b C dx fs e => by obtain ⟨ps, z, _⟩ := tab; rw [e, z]; intro y; cases y) fun b kvs e _ => by obtain ⟨ps, z, _⟩ := tab; rw [e, z]; intro y; cases y
    have t3 : Tups H H3 := fun b xs e => k3 b _ (fun z => nP xs (z ▸ e)) e
    have tab3 := tabS_same tab1 (Same.trans s2 s3)
    have et3 := t3 _ _ et
    have pc3 := cls_tups pc t3
    have le40 : (bitsL c.2).length ≤ 40 := by
      have := nodup_len u'.1.length (bitsL c.2) (bits_nodup _) fun e he => lc.2 e (mem_bits.mp he)
      omega
    have lpn : lsb c.1 < u.1.length := lc.1 _ (lsb_tb (vc.some_ c M.mem).1).1
    have lcs : cs.length ≤ 40 := Nat.le_trans vc.few u40
    refine d_iLe (SqL.of eB) ?_
    intro D fD
    refine lc_it (walk_list (K := K) (xs := natsV (bitsL c.2))) (fun i H4 => ∃ rows, H4 D = some (.lst rows) ∧ Paired (NxtAt H4 u u' cs (lsb c.1)) rows ((bitsL c.2).take i) ∧ Same H3 H4) ⟨[], upd_same, .nil, same_new fD⟩ (fun i H4 hi hP => ?_) (fun i x H5 H4 hi hP hy => ?_) (fun H4 hP => ?_)
    · obtain ⟨_, _, _, s4⟩ := hP
      exact SqL.of (s4 _ _ eB)
    · obtain ⟨rows, eD, pw, s4⟩ := hP
      obtain ⟨rfl, hx⟩ := hy
      rw [List.getElem?_map] at hx
      obtain ⟨e, he, rfl⟩ := Option.map_eq_some_iff.mp hx
      have leb := lc.2 e (mem_bits.mp (List.mem_of_getElem? he))
      walk_at "rd"
      refine ⟨sz (by show 2 ≤ 100000; decide), fun pr fpr => ?_⟩
      have spr := same_new (o := .tup [V.int (lsb c.1 : Nat), V.int (e : Nat)]) fpr
      have epr := upd_same (H := H4) (a := pr) (o := .tup [V.int (lsb c.1 : Nat), V.int (e : Nat)])
      generalize upd H4 pr _ = H6 at spr epr ⊢
      have s6 := Same.trans s4 spr
      have hR6 := hR3.same s6
      have pc6 := cls_tups pc3 (Tups.of s6)
      walk_at "rd"
      refine d_meth ?_
      walk_at "rd"
      obtain ⟨dx, A1, B1, eme, _, _⟩ := id hR6
      refine ⟨me, dx, _, rfl, eme, rfl, ?_⟩
      walk_at "rd"
      refine ⟨N, me, u, u', _, cs, lsb c.1, e, rfl, hR6, ⟨t, vs, rfl, s6 _ _ et3, pc6⟩, lcs, lpn, leb, fun H7 st ds ks s7 hst tk pm => ?_⟩
      have nar : Nar u.1.length u'.1.length (fitM u u') cs (lsb c.1) e ds := (nar_ok vc tk.nd tk.all).perm pm
      walk_at "rd"
      refine ⟨sz (by show 3 ≤ 100000; decide), fun r fr => ?_⟩
      have sr := same_new (o := .tup [V.ref pr, V.int 1, st]) fr
      have er := upd_same (H := H7) (a := r) (o := .tup [V.ref pr, V.int 1, st])
      generalize upd H7 r _ = H8 at sr er ⊢
      have s8 := Same.trans spr (Same.trans s7 sr)
      have eD8 := s8 _ _ eD
      have lr := Paired.length pw
      refine ⟨rows, eD8, szl (by rw [lr, List.length_take]; omega), rows ++ [V.ref r], upd_same, ?_, same_upd (Same.trans s4 s8) fD⟩
      rw [take_snoc' he]
      have nx : NxtAt H8 u u' cs (lsb c.1) (V.ref r) e := ⟨r, pr, st, ds, rfl, er, sr _ _ (s7 _ _ epr), (hst.same sr), nar, Nar.sz vc M pm nar.vc⟩
      exact Paired.imp (Paired.snoc (Paired.imp pw fun _ _ z => z.tups (Tups.of s8)) nx) fun _ _ z => z.tups (Tups.lst eD8)
    · obtain ⟨rows, eD, pw, s4⟩ := hP
      rw [List.length_map, List.take_length] at pw
      walk_at "rd"
      refine d_app eD ?_
      walk_at "rd"
      refine ⟨_, cs, lsb c.1, rfl, ⟨t, vs, rfl, s4 _ _ et3, cls_tups pc3 (Tups.of s4)⟩, lcs, by omega, fun H7 st ds s7 hst pm => ?_⟩
      walk_at "rd"
      refine ⟨sz (by show 3 ≤ 100000; decide), fun r fr => ?_⟩
      have sr := same_new (o := .tup [V.non, V.int 0, st]) fr
      have er := upd_same (H := H7) (a := r) (o := .tup [V.non, V.int 0, st])
      generalize upd H7 r _ = H8 at sr er ⊢
      have s8 := Same.trans s7 sr
      have eD8 := s8 _ _ eD
      have lr := Paired.length pw
      walk_at "rd"
      refine d_append eD8 (szl (by rw [lr]; omega)) ?_
      walk_at "rd"
      have fD0 : H D = none := k3.free (fun z => by obtain ⟨ps, y, _⟩ := tab3; rw [z, y] at fD; cases fD) fD
      have tD := Tups.lst (o := .lst (rows ++ [V.ref r])) eD8
      exact q _ D ((KS.trans k3 (KS.of (Same.trans s4 s8))).fresh fD0) (tabS_lst (tabS_same tab3 (Same.trans s4 s8)) eD8) fD0 ⟨c, rows, V.ref r, M, upd_same, Paired.imp (Paired.imp pw fun _ _ z => z.tups (Tups.of s8)) fun _ _ z => z.tups tD, ⟨r, st, ds, rfl, tD _ _ er, (hst.same sr).tups tD, (out_ok vc).perm pm, Wout.sz vc M pm⟩⟩
open LamX NdefX
/-- how many ways go on -/
def spWays (pd : Program) (wd : World) (CS CR PP : Addr) (lim : Nat) : Sp := fun vs H Q _ => ∃ (me : Addr) (u u' : Web) (K : Addr) (es : List KEnt) (v : V) (cs : List Cl) (need : Int), vs = [.ref me, v, .int need] ∧ Srch pd wd CS CR PP qC H me u u' K es ∧ StAt H v cs ∧ VC u.1.length u'.1.length cs ∧ szN cs < lim ∧ u.1.length ≤ 40 ∧ u'.1.length ≤ 40 ∧ es.length + Bd u'.1.length (szN cs) ≤ sizeLine ∧
  ∀ H' es', KS (PK PP K) H H' → Srch pd wd CS CR PP qC H' me u u' K es' → Grow es es' (szN cs) → es'.length ≤ es.length + Bd u'.1.length (szN cs) → Q (.int (Wc u.1.length u'.1.length (fitM u u') cs need : Nat)) H'
theorem ok_ways (T : Tx K mg base) : ∀ lim : Nat, FnOk P w K mg base CX0 (5 + lim) T.Search_ways.f T.Search_ways.fd ["self", "state", "need"] (spWays P w T.C_Search T.C_LyingRules T.P_LyingRules_choices lim)
  | 0 => by
    refine T.Search_ways.F.ok sc_Search_ways (fun vs H Q E h => ?_) (fun cdv A outer s H vs Q E hr h => ?_)
    · obtain ⟨_, _, _, _, _, _, _, _, rfl, _⟩ := h; rfl
    · obtain ⟨_, _, _, _, _, _, _, _, _, _, _, _, l, _⟩ := h
      exact (Nat.not_lt_zero _ l).elim
  | lim + 1 => by
    have ih := ok_ways T lim
    refine T.Search_ways.F.ok (k := 5 + lim) sc_Search_ways (fun vs H Q E h => ?_) (fun cdv A outer s H vs Q E hr h => ?_)
    · obtain ⟨_, _, _, _, _, _, _, _, rfl, _⟩ := h; rfl
    · obtain ⟨me, u, u', Kn, es, v, cs, need, rfl, hS, hst, vc, lsz, u40, u40', few, q⟩ := h
      have lcs : cs.length ≤ 40 := Nat.le_trans vc.few u40
      refine ⟨_, (pss_cons (ps_if (pt_cmpR op_lt (pv 2) pe_int (nomark _))
        (pss_one (ps_ret (pe_ifExp (PW.pt (pw_and (pt_cmpR op_eq (pv 2) pe_int (nomark _)) (pw_and1 (pt_val (pe_meth (pe_fld (pv 0) rfl) T.cl_LyingRules T.LyingRules_whole.m (ok_LyingRules_whole T) (hr.mono (by omega)) T.LyingRules_whole.b .nil pass0 (pa_cons (pv 1) pa_nil)))))) pe_int pe_int)))
        pss_nil)
      (pss_cons (ps_if (pt_cmpR op_lt (pe_meth (pe_fld (pv 0) rfl) T.cl_LyingRules T.LyingRules_bound.m (ok_LyingRules_bound T) (hr.mono (by omega)) T.LyingRules_bound.b .nil pass0 (pa_cons (pv 1) pa_nil)) (pv 2) (nomark _))
        (pss_one (ps_ret pe_int))
        pss_nil)
      (pss_cons (ps_set (i := 3) sc_Search_ways.nd rfl (.inl rfl) (pe_tup (pa_cons (pv 1) (pa_cons (pv 2) pa_nil))))
      (pss_cons (ps_if (pt_cmp (pc_hnotin (pd := P) (wd := w) rfl rfl (units1 hr) (pv 3) (pe_fld (pv 0) rfl)))
        (pss_cons (ps_set (i := 4) sc_Search_ways.nd rfl (.inl rfl) (pe_meth (pe_fld (pv 0) rfl) T.cl_LyingRules T.LyingRules_choices.m (ok_LyingRules_choices T) (hr.mono (by omega)) T.LyingRules_choices.b .nil pass0 (pa_cons (pv 1) pa_nil)))
        (pss_one (ps_hput (pd := P) (wd := w) rfl rfl (units1 hr) (pe_fld (pv 0) rfl) (pv 3) (pe_callB (cr_sum rfl) (by rfl) T.m_sum (by decide +kernel) (pa_cons (pe_lc (own := [("_", 5), ("gain", 6), ("further", 7)]) (g := gTup K 3 (gCons (gName 5) (gCons (gName 6) (gCons (gName 7) gNil)))) (tt := tYes) (te := tMeth T.C_Search (Str.ofString "ways") (spWays P w T.C_Search T.C_LyingRules T.P_LyingRules_choices lim) [] E0 (tVar 0) (tCons (tVar 7) (tCons (tOp (rI0 fun i j => V.int (i - j)) (tVar 2) (tVar 6)) tNil))) rfl sc_Search_ways.nd (pi_list (pv 4)) (blkOk_by (N := ["self", "state", "need", "key", "choices", "_", "gain", "further"]) (sc := defScope s_Search_ways) (by decide +kernel)) (fun _ _ _ _ _ => (pg_tup rfl (pgs_cons (pg_name (i := 5) sc_Search_ways.nd rfl (.inl rfl)) (pgs_cons (pg_name (i := 6) sc_Search_ways.nd rfl (.inl rfl)) (pgs_cons (pg_name (i := 7) sc_Search_ways.nd rfl (.inl rfl)) pgs_nil))))) (fun _ _ _ _ _ => pts_nil) (fun _ _ _ _ _ => (pe_meth (pv 0) T.cl_Search T.Search_ways.m ih (hr.mono (by omega)) T.Search_ways.b .nil pass0 (pa_cons (pv 7) (pa_cons (pe_op op_sub (pv 2) (pv 6)) pa_nil))))) pa_nil)) rfl)))
        pss_nil)
      (pss_one (ps_ret (pe_hget (pd := P) (wd := w) rfl rfl (units1 hr) (pe_fld (pv 0) rfl) (pv 3) (fun _ _ => rfl)))))))), ?_⟩
      walk_at "rd"
      obtain ⟨dx, R, eme, hR⟩ := hS.obj
      obtain ⟨rx, A0, B0, eR, _, _⟩ := id hR
      refine ite2 (fun c => ?_) (fun c => ?_)
      · have c := of_decide_eq_true c
        walk_at "rd"
        have fin : ∀ k : Nat, k = Wc u.1.length u'.1.length (fitM u u') cs need → Q (.int (k : Nat)) H := fun k e => by rw [e]; exact q H es (KS.refl _) hS (Grow.refl _ _) (by omega)
        refine ite2 (fun c0 => ?_) (fun c0 => ?_)
        · have c0 : need = 0 := by simpa using c0
          walk_at "rd"
          refine d_meth ?_
          refine d_fldm ?_
          walk_at "rd"
          refine ⟨me, _, _, _, _, rfl, eme, T.cl_Search, T.na_Search_rules, rfl, ?_⟩
          refine ⟨R, rx, _, rfl, eR, rfl, ?_⟩
          walk_at "rd"
          refine ⟨_, _, rfl, ?_⟩
          walk_at "rd"
          exact fin 1 (by rw [c0, Wc_zero])
        · have c0 : need ≠ 0 := by simpa using c0
          walk_at "rd"
          exact fin 0 (Wc_neg (by omega)).symm
      · have c := of_decide_eq_false (Bool.eq_false_iff.mpr c)
        walk_at "rd"
        refine d_meth ?_
        refine d_fldm ?_
        walk_at "rd"
        refine ⟨me, _, _, _, _, rfl, eme, T.cl_Search, T.na_Search_rules, rfl, ?_⟩
        refine ⟨R, rx, _, rfl, eR, rfl, ?_⟩
        walk_at "rd"
        refine ⟨_, v, cs, rfl, hst, lcs, fun H1 s1 => ?_⟩
        walk_at "rd"
        have S1 := hS.same s1
        refine ite2 (fun c1 => ?_) (fun c1 => ?_)
        · have c1 := of_decide_eq_true c1
          walk_at "rd"
          have e := Wc_bd (fitM_fits u u') (n := u.1.length) (m := u'.1.length) c1
          have z := q H1 es (KS.of s1) S1 (Grow.refl _ _) (by omega)
          rw [e] at z
          exact z
        · walk_at "rd"
          refine ⟨sz (by show 2 ≤ 100000; decide), fun ky fk => ?_⟩
          have s2 := same_new (o := .tup [v, V.int need]) fk
          have ek := upd_same (H := H1) (a := ky) (o := .tup [v, V.int need])
          generalize upd H1 ky _ = H2 at s2 ek ⊢
          have S2 := S1.same s2
          have hst2 := (hst.same s1).same s2
          have nk : NkV H2 (nkKey cs need) (.ref ky) := .tup ek (.cons hst2.nk (.cons (.int _) .nil))
          walk_at "rd"
          refine d_hnotin ?_
          walk_at "rd"
          refine d_fldm ?_
          walk_at "rd"
          obtain ⟨dx2, R2, eme2, hR2⟩ := S2.obj
          refine ⟨me, _, _, _, _, rfl, eme2, T.cl_Search, T.na_Search_known, rfl, ?_⟩
          refine ⟨Kn, _, rfl, ⟨es, _, ky, S2.kn, S2.key, rfl, nk, nkKey_depth _ _, rfl⟩, ?_⟩
          refine ⟨_, rfl, ?_⟩
          have k2 : KS (PK T.P_LyingRules_choices Kn) H H2 := KS.of (Same.trans s1 s2)
          cases hv : valH es (nkKey cs need) with
          | some y =>
            have ey := hS.ok.get hv
            subst ey
            refine iteF ?_
            walk_at "rd"
            refine d_hget ?_
            refine d_fldm ?_
            walk_at "rd"
            refine ⟨me, _, _, _, _, rfl, eme2, T.cl_Search, T.na_Search_known, rfl, ?_⟩
            walk_at "rd"
            refine ⟨Kn, _, rfl, ⟨es, _, ky, S2.kn, S2.key, rfl, nk, nkKey_depth _ _, hv.symm⟩, ?_⟩
            exact q H2 es k2 S2 (Grow.refl _ _) (by omega)
          | none =>
            refine iteT ?_
            walk_at "rd"
            refine d_meth ?_
            refine d_fldm ?_
            walk_at "rd"
            refine ⟨me, _, _, _, _, rfl, eme2, T.cl_Search, T.na_Search_rules, rfl, ?_⟩
            obtain ⟨rx2, A2, B2, eR2, _, _⟩ := id hR2
            refine ⟨R2, rx2, _, rfl, eR2, rfl, ?_⟩
            walk_at "rd"
            have c1' : ¬ (bdN cs : Int) < need := fun z => c1 (decide_eq_true z)
            have ne : cs ≠ [] := fun z => by
              subst z
              have : bdN ([] : List Cl) = 0 := rfl
              omega
            refine ⟨_, R2, u, u', v, cs, rfl, hR2, hst2, vc, ne, u40, u40', S2.tab, fun b e => by rw [e, S2.kn]; exact nofun, fun H3 L k3 tab3 fL cho => ?_⟩
            have S3 := S2.tabs k3 tab3
            have k23 : KS (PK T.P_LyingRules_choices Kn) H2 H3 := k3.mono fun b z => .inl z
            have t23 := S2.tups k23
            have nk3 : NkV H3 (nkKey cs need) (.ref ky) := NkV.tups t23 _ _ nk
            obtain ⟨items, ws, eL, pr, sum, li⟩ := cho.rows vc (need := need) (by omega)
            have lw := Paired.length pr
            walk_at "rd"
            dsimp only
            refine d_hput ?_
            walk_at "rd"
            refine d_iLe (SqL.of eL) ?_
            intro D fD
            have sD := same_new (o := .lst []) fD
            refine lc_it (walk_list (K := K) (xs := items)) (fun i H4 => ∃ es4, H4 D = some (.lst ((ws.take i).map fun k => V.int (k : Nat))) ∧ KS (PK T.P_LyingRules_choices Kn) H3 H4 ∧ Srch P w T.C_Search T.C_LyingRules T.P_LyingRules_choices qC H4 me u u' Kn es4 ∧ Grow es es4 (szN cs - 1) ∧ es4.length ≤ es.length + i * Bd u'.1.length (szN cs - 1)) ⟨es, upd_same, KS.of sD, S3.same sD, Grow.refl _ _, by omega⟩ (fun i H4 hi hP => ?_) (fun i x H5 H4 hi hP hy => ?_) (fun H4 hP => ?_)
            · obtain ⟨_, _, k4, _⟩ := hP
              exact SqL.of (k4 _ _ (S3.lst eL) eL)
            · obtain ⟨es4, eD, k4, S4, g4, l4⟩ := hP
              obtain ⟨rfl, hx⟩ := hy
              obtain ⟨wv, hw, r, x0, st, ds, g, rfl, e2, hst4, vd, lt, rfl⟩ := Paired.at pr hx
              have t34 := S3.tups k4
              have e24 := t34 _ _ e2
              have hst4 := hst4.tups t34
              obtain ⟨dx4, R4, eme4, _⟩ := S4.obj
              walk_at "rd"
              refine d_meth ?_
              walk_at "rd"
              refine ⟨me, _, _, rfl, eme4, rfl, ?_⟩
              walk_at "rd"
              have h1 : 1 ≤ szN cs := by omega
              have m1 := Bd_mono u'.1.length (show szN ds ≤ szN cs - 1 by omega)
              have m2 := Bd_rows (m := u'.1.length) h1 (show i + 1 ≤ u'.1.length + 1 by omega)
              have m3 : (i + 1) * Bd u'.1.length (szN cs - 1) = i * Bd u'.1.length (szN cs - 1) + Bd u'.1.length (szN cs - 1) := Nat.succ_mul _ _
              refine ⟨me, u, u', Kn, es4, st, ds, need - g, rfl, S4, hst4, vd, by omega, u40, u40', by omega, fun H5 es5 k5 S5 g5 l5 => ?_⟩
              have eD5 := k5 _ _ (S4.lst eD) eD
              have nK : D ≠ Kn := fun z => by have := S5.kn; rw [← z, eD5] at this; cases this
              have k35 := (KS.trans k4 k5).fresh (o := .lst ((ws.take i).map (fun k => V.int (k : Nat)) ++ [V.int (Wc u.1.length u'.1.length (fitM u u') ds (need - g) : Nat)])) fD
              have lws := Paired.length pr
              refine ⟨_, eD5, szl (by rw [List.length_map, List.length_take]; omega), es5, ?_, k35, S3.step k35 (by rw [upd_ne nK.symm]; exact S5.kn) (S5.key.tups (Tups.lst eD5)) S5.ok (tabS_lst S5.tab eD5), g4.trans g5 (by omega), by omega⟩
              rw [upd_same, take_snoc' hw, List.map_append]
              rfl
            · obtain ⟨es4, eD, k4, S4, g4, l4⟩ := hP
              rw [lw, List.take_length] at eD
              walk_at "rd"
              refine ⟨D, ws.map fun k : Nat => (k : Int), rfl, SqL.of (by rw [nat_ints]; exact eD), ?_⟩
              rw [nat_sum, sum]
              dsimp only
              refine d_fldm ?_
              walk_at "rd"
              obtain ⟨dx4, R4, eme4, _⟩ := S4.obj
              refine ⟨me, _, _, _, _, rfl, eme4, T.cl_Search, T.na_Search_known, rfl, ?_⟩
              walk_at "rd"
              have nk4 := NkV.tups (S3.tups k4) _ _ nk3
              have h1 := sz_pos vc ne
              have m2 := Bd_rows (m := u'.1.length) h1 li
              have hv4 := g4.new hv (by omega)
              refine ⟨Kn, es4, nkKey cs need, ky, rfl, S4.kn, S4.key, rfl, nk4, nkKey_depth _ _, hv4, by omega, ?_⟩
              have S7 := S4.put nk4
              have k7 := (KS.refl (S := PK T.P_LyingRules_choices Kn) H4).put (p := Kn) (o := DH P w Kn (es4 ++ [(nkKey cs need, ky, .int (Wc u.1.length u'.1.length (fitM u u') cs need : Nat))])) (.inr rfl)
              have nk7 := NkV.tups (S4.tups k7) _ _ nk4
              generalize upd H4 Kn _ = H7 at S7 k7 nk7 ⊢
              walk_at "rd"
              refine d_hget ?_
              refine d_fldm ?_
              walk_at "rd"
              obtain ⟨dx7, R7, eme7, _⟩ := S7.obj
              refine ⟨me, _, _, _, _, rfl, eme7, T.cl_Search, T.na_Search_known, rfl, ?_⟩
              walk_at "rd"
              refine ⟨Kn, _, rfl, ⟨_, _, ky, S7.kn, S7.key, rfl, nk7, nkKey_depth _ _, (val_put hv4).symm⟩, ?_⟩
              exact q H7 _ (KS.trans k2 (KS.trans k23 (KS.trans k4 k7))) S7 (g4.put (by omega)) (by rw [List.length_append]; show es4.length + 1 ≤ _; omega)
/-- the same, far enough -/
theorem ok_Search_ways (T : Tx K mg base) : FnOk P w K mg base CX0 30 T.Search_ways.f T.Search_ways.fd ["self", "state", "need"] (spWays P w T.C_Search T.C_LyingRules T.P_LyingRules_choices 25) := ok_ways T 25
def kEnds (a b : Nat) : List Key := [.inl (a : Nat), .inl (b : Nat)]
theorem kEnds_eq {a b c d : Nat} : kEnds a b = kEnds c d ↔ a = c ∧ b = d := by
  unfold kEnds
  constructor
  · intro h
    simp only [List.cons.injEq, Sum.inl.injEq, and_true] at h
    omega
  · rintro ⟨rfl, rfl⟩; rfl
/-- a dict by both ends -/
def spKinds (K : PySem.W.Frag) : Sp := fun vs H Q _ => ∃ v w, vs = [v] ∧ WebAt K H v w ∧ WOk w ∧ ∀ H' (d : Addr) kvs, Same H H' → H d = none → H' d = some (.dT kvs) → (∀ a b : Nat, valV kvs (kEnds a b) = (tieL w.2 a b).map fun c => V.str (sg c)) → Q (.ref d) H'
theorem kinds_turn {ts : List Tie} {i : Nat} {t : Tie} {kvs : List (List Key × V)} (s : ts.Pairwise tlt) (e : ∀ t ∈ ts, t.1 < t.2.1) (h : ts[i]? = some t) (hk : ∀ a b : Nat, valV kvs (kEnds a b) = (tieL (ts.take i) a b).map fun c => V.str (sg c)) (a b : Nat) :
    valV (putK (putK kvs (kEnds t.1 t.2.1) (.str (sg t.2.2))) (kEnds t.2.1 t.1) (.str (sg t.2.2))) (kEnds a b) = (tieL (ts.take (i + 1)) a b).map fun c => V.str (sg c) := by
  have et := e t (List.mem_of_getElem? h)
  have new := tieL_new s e h
  rw [valV_put, valV_put, take_snoc h, tieL_snoc]
  by_cases h1 : kEnds a b = kEnds t.2.1 t.1
  · obtain ⟨rfl, rfl⟩ := kEnds_eq.mp h1
    rw [if_pos rfl, tieL_swap, new, if_pos (at2_iff.mpr (.inr ⟨rfl, rfl⟩))]; rfl
  · rw [if_neg h1]
    by_cases h2 : kEnds a b = kEnds t.1 t.2.1
    · obtain ⟨rfl, rfl⟩ := kEnds_eq.mp h2
      rw [if_pos rfl, new, if_pos (at2_iff.mpr (.inl ⟨rfl, rfl⟩))]; rfl
    · rw [if_neg h2, hk, if_neg (fun z => by
        rcases at2_iff.mp z with ⟨z1, z2⟩ | ⟨z1, z2⟩
        · exact h2 (kEnds_eq.mpr ⟨z1.symm, z2.symm⟩)
        · exact h1 (kEnds_eq.mpr ⟨z2.symm, z1.symm⟩)), Option.or_none]
theorem ok_kinds_by_ends (T : Tx K mg base) : FnOk P w K mg base CX0 1 T.kinds_by_ends.f T.kinds_by_ends.fd ["web"] (spKinds K) := by
  refine T.kinds_by_ends.F.ok sc_kinds_by_ends (fun vs H Q E h => ?_) (fun cdv A outer s H vs Q E hr h => ?_)
  · obtain ⟨v, w, rfl, _⟩ := h; rfl
  · obtain ⟨v, w, rfl, ⟨a, b, tvs, rfl, q1, q2, pT⟩, W, q⟩ := h
    have lt : tvs.length = w.2.length := Paired.length pT
    refine ⟨_, (pss_cons (ps_set (i := 1) sc_kinds_by_ends.nd rfl (.inl rfl) pe_dnewT)
      (pss_cons (ps_for PassesOwn.never rfl (pi_tup (pe_ix ix_tup (pv 0) pe_int (fun _ _ => rfl))) (pg_tup rfl (pgs_cons (pg_name (i := 2) sc_kinds_by_ends.nd rfl (.inl rfl)) (pgs_cons (pg_name (i := 3) sc_kinds_by_ends.nd rfl (.inl rfl)) (pgs_cons (pg_name (i := 4) sc_kinds_by_ends.nd rfl (.inl rfl)) pgs_nil))))
        (pss_cons (ps_dput (hu_of hr) (pv 1) (pe_tup (pa_cons (pv 2) (pa_cons (pv 3) pa_nil))) (pv 4) rfl)
        (pss_one (ps_dput (hu_of hr) (pv 1) (pe_tup (pa_cons (pv 3) (pa_cons (pv 2) pa_nil))) (pv 4) rfl))))
      (pss_one (ps_ret (pv 1))))), ?_⟩
    walk_at "rd"
    intro d fd
    walk_at "rd"
    have s0 := same_new (o := .dT []) fd
    refine d_ixT (Same.sqt s0 q1) rfl ?_
    refine d_iTe (Same.sqt s0 q2) ?_
    refine for_it (walk_tup (xs := tvs)) (fun i σ H1 => ∃ y2 y3 y4 kvs, σ = [some (.ref a), some (.ref d), y2, y3, y4] ∧ H1 d = some (.dT kvs) ∧ Same H H1 ∧ kvs.length ≤ 2 * i ∧ ∀ a b : Nat, valV kvs (kEnds a b) = (tieL (w.2.take i) a b).map fun c => V.str (sg c))
      ⟨_, _, _, [], rfl, upd_same, s0, by simp, fun _ _ => rfl⟩ (fun i σ H1 hi hP => ?_) (fun i x σ H0 H1 hi hP hy => ?_) (fun σ H1 hP => ?_)
    · obtain ⟨_, _, _, _, _, _, sm, _⟩ := hP
      exact Same.sqt sm q2
    · obtain ⟨y2, y3, y4, kvs, rfl, eD, sm, lk, hk⟩ := hP
      obtain ⟨rfl, hx⟩ := hy
      obtain ⟨t, ht, a', rfl, qt⟩ := Paired.at pT hx
      refine d_gtup (Same.sqt sm qt) rfl ?_
      walk_at "rd"
      refine ⟨sz (by show 2 ≤ 100000; decide), fun p1 f1 => ?_⟩
      have l16 := W.most
      have eD1 := at_upd (o := .dT kvs) (u := .tup [V.int (t.1 : Nat), V.int (t.2.1 : Nat)]) eD f1
      refine ⟨d, _, rfl, DPut.t (k := kEnds t.1 t.2.1) eD1 upd_same (szl (by omega)), ?_⟩
      walk_at "rd"
      refine ⟨sz (by show 2 ≤ 100000; decide), fun p2 f2 => ?_⟩
      have ln := length_putK kvs (kEnds t.1 t.2.1) (.str (sg t.2.2))
      have eD2 := at_upd (u := .tup [V.int (t.2.1 : Nat), V.int (t.1 : Nat)]) (upd_same (H := upd H1 p1 (.tup [V.int (t.1 : Nat), V.int (t.2.1 : Nat)])) (a := d) (o := .dT (putK kvs (kEnds t.1 t.2.1) (.str (sg t.2.2))))) f2
      refine ⟨d, _, rfl, DPut.t (k := kEnds t.2.1 t.1) eD2 upd_same (szl (by omega)), ?_⟩
      have ln2 := length_putK (putK kvs (kEnds t.1 t.2.1) (.str (sg t.2.2))) (kEnds t.2.1 t.1) (.str (sg t.2.2))
      refine ⟨_, _, _, _, rfl, upd_same, ?_, by omega, kinds_turn W.rise (fun t ht => (W.ends t ht).1) ht hk⟩
      have g1 : H p1 = none := Same.free sm f1
      have g2 : H p2 = none := Same.free (same_upd (same_upd sm g1) fd) f2
      exact same_upd (same_upd (same_upd (same_upd sm g1) fd) g2) fd
    · obtain ⟨y2, y3, y4, kvs, rfl, eD, sm, lk, hk⟩ := hP
      walk_at "rd"
      rw [lt, List.take_length] at hk
      exact q _ d kvs sm fd eD hk
/-- the others by their tie, of each place -/
def spOthers (pd : Program) (wd : World) (K : PySem.W.Frag) : Sp := fun vs H Q _ => ∃ v u, vs = [v] ∧ WebAt K H v u ∧ WOk u ∧ ∀ H' L, Same H H' → H L = none → TieDs pd wd (fun _ => False) H' (.ref L) u → Q (.ref L) H'
theorem ok_others_by_tie (T : Tx K mg base) : FnOk P w K mg base CX0 2 T.others_by_tie.f T.others_by_tie.fd ["web"] (spOthers P w K) := by
  refine T.others_by_tie.F.ok sc_others_by_tie (fun vs H Q E h => ?_) (fun cdv A outer s H vs Q E hr h => ?_)
  · obtain ⟨v, w, rfl, _⟩ := h; rfl
  · obtain ⟨v, u, rfl, hw, U, q⟩ := h
    have l40 := U.few
    refine ⟨_, (pss_cons (ps_set (i := 1) sc_others_by_tie.nd rfl (.inl rfl) (pe_call (ok_kinds_by_ends T) (hr.mono (by decide)) (by rfl) T.kinds_by_ends.g T.kinds_by_ends.F.kp T.kinds_by_ends.b .nil pass0 (pa_cons (pv 0) pa_nil)))
      (pss_cons (ps_set (i := 2) sc_others_by_tie.nd rfl (.inl rfl) (pe_lst pa_nil))
      (pss_cons (ps_for PassesOwn.never rfl (pi_range1 (by rfl) T.m_range (pa_cons (pe_callB call_len_str (by rfl) T.m_len (by decide +kernel) (pa_cons (pe_ix ix_tup (pv 0) pe_int (fun _ _ => rfl)) pa_nil)) pa_nil)) (pg_name (i := 3) sc_others_by_tie.nd rfl (.inl rfl))
        (pss_cons (ps_set (i := 4) sc_others_by_tie.nd rfl (.inl rfl) (pe_dnewN (pd := P) (wd := w) rfl rfl))
        (pss_cons (ps_for PassesOwn.never rfl (pi_range1 (by rfl) T.m_range (pa_cons (pe_callB call_len_str (by rfl) T.m_len (by decide +kernel) (pa_cons (pe_ix ix_tup (pv 0) pe_int (fun _ _ => rfl)) pa_nil)) pa_nil)) (pg_name (i := 5) sc_others_by_tie.nd rfl (.inl rfl))
          (pss_one (ps_if (pt_cmpR op_ne (pv 5) (pv 3) (nomark _))
            (pss_cons (ps_set (i := 6) sc_others_by_tie.nd rfl (.inl rfl) (pe_dget1 (hu_of hr) (pv 1) (pe_tup (pa_cons (pv 3) (pa_cons (pv 5) pa_nil))) ⟨rfl, rfl, rfl, rfl⟩))
            (pss_one (ps_nput (pd := P) (wd := w) rfl rfl (pv 4) (pv 6) (pe_op op_or (pe_nget2 (pd := P) (wd := w) rfl rfl (pv 4) (pv 6) pe_int ⟨rfl, rfl, rfl, rfl⟩) (pe_op op_shl pe_int (pv 5))) rfl)))
            pss_nil)))
        (pss_one (ps_expr (pe_bm PySem.F.plainAttrs_list PySem.F.slot_list_append PySem.F.type_list_append mt_append (pv 2) (pa_cons (pv 4) pa_nil)))))))
      (pss_one (ps_ret (pv 2)))))), ?_⟩
    walk_at "rd"
    refine ⟨v, u, rfl, hw, U, fun H1 kd kvs0 s1 f1 e1 hk => ?_⟩
    walk_at "rd"
    obtain ⟨a, b, tvs, rfl, q1, q2, pT⟩ := hw
    refine ⟨sz (by decide), fun L fL => ?_⟩
    have sL := same_new (o := .lst []) fL
    have s2 := Same.trans s1 sL
    have eL0 := upd_same (H := H1) (a := L) (o := .lst [])
    have ekd := sL _ _ e1
    generalize upd H1 L _ = H2 at sL s2 eL0 ekd ⊢
    walk_at "rd"
    refine d_ixT (Same.sqt s2 q1) rfl ?_
    walk_at "rd"
    have hlen : ({ cps := u.1.toArray } : Str).length = u.1.length := by show u.1.toArray.size = _; simp
    refine ⟨sz (by rw [hlen]; omega), ?_⟩
    walk_at "rd"
    rw [hlen]
    rw [Int.toNat_natCast]
    refine for_range (fun i σ H3 => ∃ y3 y4 y5 y6 ds, σ = [some (.ref a), some (.ref kd), some (.ref L), y3, y4, y5, y6] ∧ H3 L = some (.lst (ds.map V.ref)) ∧ ds.length = i ∧ ObDs P w H3 ds u ∧ Same H1 H3) ⟨_, _, _, _, [], rfl, eL0, rfl, fun p d h => by simp at h, sL⟩ (fun i σ H3 hi hP => ?_) (fun σ H3 hP => ?_)
    · obtain ⟨y3, y4, y5, y6, ds, rfl, eL, ld, ob, s3⟩ := hP
      walk_at "rd"
      intro d fd
      have sd := same_new (o := DN P w d []) fd
      have ed := upd_same (H := H3) (a := d) (o := DN P w d [])
      have eLd := sd _ _ eL
      have nLd : L ≠ d := fun z => by rw [z, fd] at eL; cases eL
      generalize upd H3 d _ = H4 at sd ed eLd ⊢
      walk_at "rd"
      refine d_ixT (Same.sqt (Same.trans s1 (Same.trans s3 sd)) q1) rfl ?_
      walk_at "rd"
      refine ⟨sz (by rw [hlen]; omega), ?_⟩
      walk_at "rd"
      rw [hlen]
      rw [Int.toNat_natCast]
      rw [Int.zero_add]
      refine for_range (fun j σ H5 => ∃ y5 y6 kvs ks, σ = [some (.ref a), some (.ref kd), some (.ref L), some (.int (i : Nat)), some (.ref d), y5, y6] ∧ H5 d = some (DN P w d kvs) ∧ ObK u i j kvs ks ∧ KS (fun b => b = d) H4 H5) ⟨_, _, [], [], rfl, ed, ObK.start u i, KS.refl _⟩ (fun j σ H5 hj hP => ?_) (fun σ H5 hP => ?_)
      · obtain ⟨y5, y6, kvs, ks, rfl, ed5, ok, k5⟩ := hP
        walk_at "rd"
        have nkd : kd ≠ d := fun z => by have := s3 _ _ e1; rw [z, fd] at this; cases this
        have ekd5 := k5 _ _ nkd (sd _ _ (s3 _ _ e1))
        have lks := ok.few
        have lkv : kvs.length = ks.length := by rw [ok.eq, List.length_map]
        rw [Int.zero_add]
        by_cases ji : j = i
        · subst ji
          rw [show (!decide ((j : Int) = (j : Int))) = false by simp]
          refine iteF ?_
          walk_at "rd"
          exact ⟨_, _, kvs, ks, rfl, ed5, ok.skip, k5⟩
        · rw [show (!decide ((j : Int) = (i : Int))) = true by simp; omega]
          refine iteT ?_
          walk_at "rd"
          refine ⟨kd, rfl, .inr ⟨kvs0, .inl ekd5⟩, ?_⟩
          walk_at "rd"
          refine ⟨sz (by show 2 ≤ 100000; decide), fun r fr => ?_⟩
          have sr := same_new (o := .tup [V.int (i : Nat), V.int (j : Nat)]) fr
          have er := upd_same (H := H5) (a := r) (o := .tup [V.int (i : Nat), V.int (j : Nat)])
          have ed6 := sr _ _ ed5
          have ekd6 := sr _ _ ekd5
          generalize upd H5 r _ = H6 at sr er ed6 ekd6 ⊢
          refine ⟨_, .inr ⟨kvs0, kEnds i j, r, .inl ekd6, rfl, er, rfl⟩, ?_⟩
          rw [hk, show ((tieL u.2 i j).map fun c => V.str (sg c)).getD .non = nV (kTie (tieL u.2 i j)) from (nV_tie _).symm]
          walk_at "rd"
          dsimp only
          refine d_nput ?_
          walk_at "rd"
          refine d_nget2 ?_
          walk_at "rd"
          refine ⟨d, kvs, rfl, .inl ed6, ?_⟩
          walk_at "rd"
          refine ⟨kTie (tieL u.2 i j), .inl ed6, rfl, ?_⟩
          rw [ok.get]
          walk_at "rd"
          obtain ⟨ks', ok'⟩ := ok.put ji
          refine ⟨d, kvs, kTie (tieL u.2 i j), rfl, ed6, rfl, szl (by omega), ?_⟩
          rw [one_shl, bOr]
          exact ⟨_, _, _, ks', rfl, upd_same, ok', (KS.trans k5 (KS.of sr)).put rfl⟩
      · obtain ⟨y5, y6, kvs, ks, rfl, ed5, ok, k5⟩ := hP
        obtain ⟨tk, rfl⟩ := ok.done l40
        walk_at "rd"
        have k35 : Same H3 H5 := fun b o e => k5 _ _ (ne_of_none e fd) (sd _ _ e)
        have eL5 := k35 _ _ eL
        refine d_app eL5 ?_
        walk_at "rd"
        refine d_append eL5 (szl (by rw [List.length_map]; omega)) ?_
        have obd : ObDs P w H5 (ds ++ [d]) u := (ob.keep (KS.of k35) (S := fun _ => False) fun _ _ z => z).snoc (by rw [ld]; exact tk) (by rw [ld]; exact ed5)
        refine ⟨_, _, _, _, ds ++ [d], rfl, by rw [upd_same, List.map_append]; rfl, by rw [List.length_append, ld]; rfl, ?_, ?_⟩
        · refine obd.keep (S := fun b => b = L) (KS.put (KS.refl _) rfl) fun x hx z => ?_
          have z : x = L := z
          subst z
          obtain ⟨p, hp⟩ := List.getElem?_of_mem hx
          obtain ⟨_, _, e⟩ := obd p _ hp
          rw [eL5] at e; cases e
        · exact same_upd (Same.trans s3 k35) fL
    · obtain ⟨y3, y4, y5, y6, ds, rfl, eL, ld, ob, s3⟩ := hP
      walk_at "rd"
      exact q H3 L (Same.trans s1 s3) (Same.free s1 fL) ⟨L, ds, rfl, eL, ld, fun p d hd => ⟨fun z => z, ob p d hd⟩⟩
/-- nothing is led, these places may be led -/
def spClsOf (K : PySem.W.Frag) : Sp := fun vs H Q _ => ∃ (v v' : V) (u u' : Web) (pl : Addr) (ps : List Nat), vs = [v, v', .ref pl] ∧ WebAt K H v u ∧ WebAt K H v' u' ∧ WOk u ∧ WOk u' ∧ H pl = some (.lst (natsV ps)) ∧ (∀ p ∈ ps, p < u.1.length) ∧ ps.length ≤ 1000 ∧
  ∀ H' st cs ks, Same H H' → StAt H' st cs → ks.Nodup → (∀ k ∈ u.1, k ∈ ks) → cs.Perm (clsL ks u u' ps) → Q st H'
theorem ok_classes_of (T : Tx K mg base) : FnOk P w K mg base CX0 2 T.classes_of.f T.classes_of.fd ["one", "other", "places"] (spClsOf K) := by
  refine T.classes_of.F.ok sc_classes_of (fun vs H Q E h => ?_) (fun cdv A outer s H vs Q E hr h => ?_)
  · obtain ⟨_, _, _, _, _, _, rfl, _⟩ := h; rfl
  · obtain ⟨_, _, u, u', pl, ps, rfl, ⟨a, b, tvs, rfl, q1, q2, pT⟩, ⟨a', b', tvs', rfl, q1', q2', pT'⟩, U, U', hS, bp, lps, q⟩ := h
    have l40 := U.few
    have l40' := U'.few
    have hlen : ∀ l : List Nat, ({ cps := l.toArray } : Str).length = l.length := fun l => by show l.toArray.size = _; simp
    refine ⟨_, (pss_cons (ps_set (i := 3) sc_classes_of.nd rfl (.inl rfl) (pe_lst pa_nil))
      (pss_cons (ps_for PassesOwn.never rfl (pi_list (pe_callB (cr_sortedTxtw (pd := P) (wd := w) rfl rfl rfl) (by rfl) T.m_sorted (by decide +kernel) (pa_cons (pe_callTy (cr_setTxtw (pd := P) (wd := w) rfl rfl rfl) (by rfl) T.m_set (by decide +kernel) (pa_cons (pe_ix ix_tup (pv 0) pe_int (fun _ _ => rfl)) pa_nil)) pa_nil))) (pg_name (i := 4) sc_classes_of.nd rfl (.inr rfl))
        (pss_cons (ps_set (i := 5) sc_classes_of.nd rfl (.inl rfl) (pe_call (ok_mask_of T) (hr.mono (by decide)) (by rfl) T.mask_of.g T.mask_of.F.kp T.mask_of.b .nil pass0 (pa_cons (pe_lc (own := [("place", 7)]) (g := gName 7) (tt := tTest (tOp rEq (tOp rIxS (tOp (rIxT K) (tVar 0) (tC (.int 0))) (tVar 7)) (tVar 4))) (te := tVar 7) rfl sc_classes_of.nd (pi_list (pv 2)) (blkOk_by (N := ["one", "other", "places", "told", "kind", "left", "ends", "place", "end"]) (sc := defScope s_classes_of) (by decide +kernel)) (fun _ _ _ _ _ => (pg_name (i := 7) sc_classes_of.nd rfl (.inl rfl))) (fun _ _ _ _ _ => pts_one (pt_cmpR op_eq (pe_ix ix_str (pe_ix ix_tup (pv 0) pe_int (fun _ _ => rfl)) (pv 7) (fun _ _ => rfl)) (pv 4) (nomark _))) (fun _ _ _ _ _ => (pv 7))) pa_nil)))
        (pss_cons (ps_set (i := 6) sc_classes_of.nd rfl (.inl rfl) (pe_call (ok_mask_of T) (hr.mono (by decide)) (by rfl) T.mask_of.g T.mask_of.F.kp T.mask_of.b .nil pass0 (pa_cons (pe_lc (own := [("end", 8)]) (g := gName 8) (tt := tTest (tOp rEq (tOp rIxS (tOp (rIxT K) (tVar 1) (tC (.int 0))) (tVar 8)) (tVar 4))) (te := tVar 8) rfl sc_classes_of.nd (pi_range1 (by rfl) T.m_range (pa_cons (pe_callB call_len_str (by rfl) T.m_len (by decide +kernel) (pa_cons (pe_ix ix_tup (pv 1) pe_int (fun _ _ => rfl)) pa_nil)) pa_nil)) (blkOk_by (N := ["one", "other", "places", "told", "kind", "left", "ends", "place", "end"]) (sc := defScope s_classes_of) (by decide +kernel)) (fun _ _ _ _ _ => (pg_name (i := 8) sc_classes_of.nd rfl (.inl rfl))) (fun _ _ _ _ _ => pts_one (pt_cmpR op_eq (pe_ix ix_str (pe_ix ix_tup (pv 1) pe_int (fun _ _ => rfl)) (pv 8) (fun _ _ => rfl)) (pv 4) (nomark _))) (fun _ _ _ _ _ => (pv 8))) pa_nil)))
        (pss_one (ps_if (PW.pt (pw_and (pt_truth (pv 5) (by intro _; rfl)) (pw_and1 (pt_truth (pv 6) (by intro _; rfl)))))
          (pss_one (ps_expr (pe_bm PySem.F.plainAttrs_list PySem.F.slot_list_append PySem.F.type_list_append mt_append (pv 3) (pa_cons (pe_tup (pa_cons (pv 5) (pa_cons (pv 6) pa_nil))) pa_nil))))
          pss_nil)))))
      (pss_one (ps_ret (pe_callTy call_tuple_of (by rfl) T.m_tuple (by decide +kernel) (pa_cons (pe_callB (cr_sortedDat (units1 hr)) (by rfl) T.m_sorted (by decide +kernel) (pa_cons (pv 3) pa_nil)) pa_nil)))))), ?_⟩
    walk_at "rd"
    refine ⟨sz (by decide), fun D fD => ?_⟩
    have sD := same_new (o := .lst []) fD
    have eD0 := upd_same (H := H) (a := D) (o := .lst [])
    generalize upd H D _ = H1 at sD eD0 ⊢
    walk_at "rd"
    refine d_ixT (Same.sqt sD q1) rfl ?_
    walk_at "rd"
    refine ⟨⟨u.1.toArray⟩, rfl, by show u.1.toArray.size ≤ 1000; simp; omega, fun p fp => ?_⟩
    have s5 := same_new (o := TxtO P w p (uniqT (signsT ⟨u.1.toArray⟩))) fp
    have ep := upd_same (H := H1) (a := p) (o := TxtO P w p (uniqT (signsT ⟨u.1.toArray⟩)))
    generalize upd H1 p _ = H5 at s5 ep ⊢
    walk_at "rd"
    have lu := uniqT_few (signsT ⟨u.1.toArray⟩)
    rw [signs_sg, List.length_map] at lu
    refine ⟨p, _, rfl, ep, by rw [signs_sg]; omega, fun ys L pm so fL => ?_⟩
    obtain ⟨ks, rfl, ndk, hk⟩ := keys_of pm
    have lk : ks.length ≤ 40 := by
      have := pm.length_eq
      rw [List.length_map, signs_sg] at this
      omega
    have nLD : L ≠ D := fun z => by have := s5 _ _ eD0; rw [← z, fL] at this; cases this
    have s6 := Same.trans s5 (same_new (o := .lst ((ks.map sg).map V.str)) fL)
    have eL := upd_same (H := H5) (a := L) (o := .lst ((ks.map sg).map V.str))
    generalize upd H5 L _ = H6 at s6 eL ⊢
    have sD6 := Same.trans sD s6
    refine d_iLe (SqL.of eL) ?_
    refine for_it (walk_list (K := K) (xs := (ks.map sg).map V.str)) (fun i σ H7 => ∃ y4 y5 y6 y7 y8 ws, σ = [some (.ref a), some (.ref a'), some (.ref pl), some (.ref D), y4, y5, y6, y7, y8] ∧ H7 D = some (.lst ws) ∧ Paired (ClAt H7) ws (clsL (ks.take i) u u' ps) ∧ KS (fun b => b = D) H6 H7) ⟨_, _, _, _, _, [], rfl, s6 _ _ eD0, .nil, KS.refl _⟩ (fun i σ H7 hi hP => ?_) (fun i x σ H8 H7 hi hP hy => ?_) (fun σ H7 hP => ?_)
    · obtain ⟨_, _, _, _, _, _, _, _, _, k7⟩ := hP
      exact SqL.of (k7 _ _ nLD eL)
    · obtain ⟨y4, y5, y6, y7, y8, ws, rfl, eD, pw, k7⟩ := hP
      obtain ⟨rfl, hx⟩ := hy
      rw [List.map_map, List.getElem?_map] at hx
      obtain ⟨c, hc, rfl⟩ := Option.map_eq_some_iff.mp hx
      have s7 : Same H H7 := fun x o e => k7 _ _ (ne_of_none e fD) (sD6 _ _ e)
      walk_at "rd"
      refine d_iLe (SqL.of (s7 _ _ hS)) ?_
      intro B fB
      refine lc_it (walk_list (K := K) (xs := natsV ps)) (fun j H9 => H9 B = some (.lst (natsV ((ps.take j).filter fun p => decide (u.1[p]? = some c)))) ∧ Same H7 H9) ⟨upd_same, same_new fB⟩ (fun j H9 hj hP => ?_) (fun j x H10 H9 hj hP hy => ?_) (fun H9 hP => ?_)
      · exact SqL.of ((Same.trans s7 hP.2) _ _ hS)
      · obtain ⟨eB, s9⟩ := hP
        obtain ⟨rfl, hx⟩ := hy
        rw [List.getElem?_map] at hx
        obtain ⟨pl0, hpl, rfl⟩ := Option.map_eq_some_iff.mp hx
        have lp := bp pl0 (List.mem_of_getElem? hpl)
        walk_at "rd"
        refine d_ixT (Same.sqt (Same.trans s7 s9) q1) rfl ?_
        walk_at "rd"
        refine d_kindAt U lp ?_
        walk_at "rd"
        refine d_eqSg ?_
        walk_at "rd"
        have ft := filt_take (f := fun p => decide (u.1[p]? = some c)) hpl
        rw [at_kind lp] at ft
        refine ite2 (fun e => ?_) (fun e => ?_)
        · rw [if_pos e] at ft
          walk_at "rd"
          refine ⟨_, eB, szl (by rw [List.length_map]; have := List.length_filter_le (fun p => decide (u.1[p]? = some c)) (ps.take j); rw [List.length_take] at this; omega), ?_, same_upd s9 fB⟩
          rw [upd_same, ft, natsV, natsV, List.map_append]
          rfl
        · rw [if_neg e, List.append_nil] at ft
          exact ⟨by rw [ft]; exact eB, s9⟩
      · obtain ⟨eB, s9⟩ := hP
        rw [List.length_map, List.take_length] at eB
        walk_at "rd"
        refine ⟨B, _, rfl, SqL.of eB, fun k hk2 => by have := bp k ((List.mem_filter.mp hk2).1); omega, ?_⟩
        walk_at "rd"
        refine d_ixT (Same.sqt (Same.trans s7 s9) q1') rfl ?_
        walk_at "rd"
        refine ⟨sz (by rw [hlen]; omega), ?_⟩
        walk_at "rd"
        have hl' := hlen u'.1
        refine ⟨_, rfl, by omega, by omega, fun B2 fB2 => ?_⟩
        rw [hl', Int.toNat_natCast]
        refine lc_range (fun j H11 => H11 B2 = some (.lst (natsV ((List.range j).filter fun p => decide (u'.1[p]? = some c)))) ∧ Same H9 H11) ⟨upd_same, same_new fB2⟩ (fun j H11 hj hP => ?_) (fun H11 hP => ?_)
        · obtain ⟨eB2, s11⟩ := hP
          rw [Int.zero_add]
          walk_at "rd"
          refine d_ixT (Same.sqt (Same.trans s7 (Same.trans s9 s11)) q1') rfl ?_
          walk_at "rd"
          refine d_kindAt U' hj ?_
          walk_at "rd"
          refine d_eqSg ?_
          walk_at "rd"
          have ft := range_filt (f := fun p => decide (u'.1[p]? = some c)) j
          rw [at_kind hj] at ft
          refine ite2 (fun e => ?_) (fun e => ?_)
          · rw [if_pos e] at ft
            walk_at "rd"
            refine ⟨_, eB2, szl (by rw [List.length_map]; have := List.length_filter_le (fun p => decide (u'.1[p]? = some c)) (List.range j); rw [List.length_range] at this; omega), ?_, same_upd s11 fB2⟩
            rw [upd_same, ft, natsV, natsV, List.map_append]
            rfl
          · rw [if_neg e, List.append_nil] at ft
            exact ⟨by rw [ft]; exact eB2, s11⟩
        · obtain ⟨eB2, s11⟩ := hP
          walk_at "rd"
          refine ⟨B2, _, rfl, SqL.of eB2, fun k hk2 => by have := List.mem_range.mp (List.mem_filter.mp hk2).1; omega, ?_⟩
          walk_at "rd"
          have ce := clsC_eq u u' ps c
          have ct := clsL_take (u := u) (u' := u') (ps := ps) hc
          have s711 := Same.trans s9 s11
          have eD11 := s711 _ _ eD
          have pw11 := cls_tups pw (Tups.of s711)
          have k11 : KS (fun b => b = D) H6 H11 := KS.trans k7 (KS.of s711)
          have lws := Paired.length pw
          have lcl := clsL_len (ks.take i) u u' ps
          rw [List.length_take] at lcl
          generalize maskN (ps.filter fun p => decide (u.1[p]? = some c)) = m1 at ce ⊢
          generalize maskN ((List.range u'.1.length).filter fun f => decide (u'.1[f]? = some c)) = m2 at ce ⊢
          refine ⟨_, rfl, ?_⟩
          rw [int_tru]
          by_cases z1 : m1 = 0
          · rw [if_neg (fun y => y.1 z1)] at ce
            rw [ce, Option.toList_none, List.append_nil] at ct
            rw [show (!decide (m1 = 0)) = false by simp [z1]]
            refine iteF ?_
            refine iteF ?_
            walk_at "rd"
            exact ⟨_, _, _, _, _, ws, rfl, eD11, by rw [ct]; exact pw11, k11⟩
          · rw [show (!decide (m1 = 0)) = true by simp [z1]]
            refine iteT ?_
            walk_at "rd"
            refine ⟨_, rfl, ?_⟩
            rw [int_tru]
            by_cases z2 : m2 = 0
            · rw [if_neg (fun y => y.2 z2)] at ce
              rw [ce, Option.toList_none, List.append_nil] at ct
              rw [show (!decide (m2 = 0)) = false by simp [z2]]
              refine iteF ?_
              walk_at "rd"
              exact ⟨_, _, _, _, _, ws, rfl, eD11, by rw [ct]; exact pw11, k11⟩
            · rw [if_pos ⟨z1, z2⟩] at ce
              rw [ce, Option.toList_some] at ct
              rw [show (!decide (m2 = 0)) = true by simp [z2]]
              refine iteT ?_
              walk_at "rd"
              refine d_app eD11 ?_
              walk_at "rd"
              refine ⟨sz (by show 2 ≤ 100000; decide), fun r fr => ?_⟩
              have sr := same_new (o := .tup [V.int (m1 : Nat), V.int (m2 : Nat)]) fr
              have er := upd_same (H := H11) (a := r) (o := .tup [V.int (m1 : Nat), V.int (m2 : Nat)])
              have eD12 := sr _ _ eD11
              have pw12 := cls_tups pw11 (Tups.of sr)
              have k12 : KS (fun b => b = D) H6 (upd H11 r (.tup [V.int (m1 : Nat), V.int (m2 : Nat)])) := KS.trans k11 (KS.of sr)
              generalize upd H11 r _ = H12 at sr er eD12 pw12 k12 ⊢
              walk_at "rd"
              refine d_append eD12 (szl (by omega)) ?_
              refine ⟨_, _, _, _, _, ws ++ [V.ref r], rfl, upd_same, ?_, k12.put rfl⟩
              rw [ct]
              exact cls_tups (Paired.snoc pw12 ⟨r, rfl, er⟩) (Tups.lst eD12)
    · obtain ⟨y4, y5, y6, y7, y8, ws, rfl, eD, pw, k7⟩ := hP
      rw [List.length_map, List.length_map, List.take_length] at pw
      walk_at "rd"
      refine d_sortCl (SqL.of eD) pw fun r vs' ds fr pr pm => ?_
      walk_at "rd"
      refine ⟨r, vs', rfl, .inl ⟨SqL.of upd_same, fun l fl => ?_⟩⟩
      have s3 := same_new (o := .lst vs') fr
      have s4 := same_new (o := .tup vs') fl
      have s7 : Same H H7 := fun x o e => k7 _ _ (ne_of_none e fD) (sD6 _ _ e)
      exact q _ _ _ ks (Same.trans s7 (Same.trans s3 s4)) ⟨l, vs', rfl, upd_same, cls_tups (cls_tups pr (Tups.of s3)) (Tups.of s4)⟩ ndk (fun k hk' => (hk k).mpr hk') pm
open LamX NdefX
/-- nothing is led -/
def spAll (K : PySem.W.Frag) : Sp := fun vs H Q _ => ∃ (v v' : V) (u u' : Web), vs = [v, v'] ∧ WebAt K H v u ∧ WebAt K H v' u' ∧ WOk u ∧ WOk u' ∧
  ∀ H' st cs, Same H H' → StAt H' st cs → VC u.1.length u'.1.length cs → (∀ x e, Rof cs x e = true ↔ x < u.1.length ∧ e < u'.1.length ∧ ∃ k, u.1[x]? = some k ∧ u'.1[e]? = some k) → Q st H'
theorem ok_all_classes (T : Tx K mg base) : FnOk P w K mg base CX0 3 T.all_classes.f T.all_classes.fd ["one", "other"] (spAll K) := by
  refine T.all_classes.F.ok sc_all_classes (fun vs H Q E h => ?_) (fun cdv A outer s H vs Q E hr h => ?_)
  · obtain ⟨_, _, _, _, rfl, _⟩ := h; rfl
  · obtain ⟨v, v', u, u', rfl, hw, hw', U, U', q⟩ := h
    have l40 := U.few
    obtain ⟨a, b, tvs, rfl, q1, q2, pT⟩ := id hw
    have hlen : ∀ l : List Nat, ({ cps := l.toArray } : Str).length = l.length := fun l => by show l.toArray.size = _; simp
    refine ⟨_, (pss_one (ps_ret (pe_call (ok_classes_of T) (hr.mono (by decide)) (by rfl) T.classes_of.g T.classes_of.F.kp T.classes_of.b .nil pass0 (pa_cons (pv 0) (pa_cons (pv 1) (pa_cons (pe_listRg rfl (by rfl) T.m_list (prg_1 (by rfl) T.m_range (pe_callB call_len_str (by rfl) T.m_len (by decide +kernel) (pa_cons (pe_ix ix_tup (pv 0) pe_int (fun _ _ => rfl)) pa_nil)))) pa_nil)))))), ?_⟩
    walk_at "rd"
    refine d_ixT q1 rfl ?_
    walk_at "rd"
    refine ⟨sz (by rw [hlen]; omega), ?_⟩
    walk_at "rd"
    rw [hlen]
    refine ⟨RgOk.of_le (by omega) (by omega) (by omega) (by omega), fun L fL => ?_⟩
    have sL := same_new (o := .lst (rgV 0 (u.1.length : Nat))) fL
    have eL := upd_same (H := H) (a := L) (o := .lst (rgV 0 (u.1.length : Nat)))
    rw [rgV_natsV] at sL eL ⊢
    generalize upd H L _ = H1 at sL eL ⊢
    walk_at "rd"
    refine ⟨_, v', u, u', L, List.range u.1.length, rfl, hw.same sL, hw'.same sL, U, U', eL, fun p hp => List.mem_range.mp hp, by rw [List.length_range]; omega, fun H2 st cs ks s2 hst nd all pm => ?_⟩
    refine q H2 st cs (Same.trans sL s2) hst ((cls_ok nd fun p hp => List.mem_range.mp hp).perm pm) fun x e => ?_
    rw [Rof_perm pm, cls_R all, List.mem_range]
/-- the rules' instance, filled -/
def spRulesInit (pd : Program) (wd : World) (K : PySem.W.Frag) (C : Addr) : Sp := fun vs H Q _ => ∃ (me dx : Addr) (v v' : V) (u u' : Web) (H0 : Hp), vs = [.ref me, v, v'] ∧ H0 me = none ∧ Same H0 H ∧ WebAt K H0 v u ∧ WebAt K H0 v' u' ∧ WOk u ∧ WOk u' ∧ H me = some (.ins C dx []) ∧
  ∀ H', Same H0 H' → Rules pd wd (fun _ => False) H' me C u u' → Q .non H'
theorem ok_LyingRules_init (T : Tx K mg base) : FnOk P w K mg base CX0 3 T.LyingRules_init.f T.LyingRules_init.fd ["self", "one", "other"] (spRulesInit P w K T.C_LyingRules) := by
  refine T.LyingRules_init.F.ok sc_LyingRules_init (fun vs H Q E h => ?_) (fun cdv A outer s H vs Q E hr h => ?_)
  · obtain ⟨_, _, _, _, _, _, _, rfl, _⟩ := h; rfl
  · obtain ⟨me, dx, v, v', u, u', H0, rfl, f0, s0, hw, hw', U, U', eme, q⟩ := h
    refine ⟨_, (pss_cons (ps_fld (pv 0) (pe_call (ok_others_by_tie T) (hr.mono (by decide)) (by rfl) T.others_by_tie.g T.others_by_tie.F.kp T.others_by_tie.b .nil pass0 (pa_cons (pv 1) pa_nil)) rfl)
      (pss_one (ps_fld (pv 0) (pe_call (ok_others_by_tie T) (hr.mono (by decide)) (by rfl) T.others_by_tie.g T.others_by_tie.F.kp T.others_by_tie.b .nil pass0 (pa_cons (pv 2) pa_nil)) rfl))), ?_⟩
    walk_at "rd"
    refine d_fldS ?_
    walk_at "rd"
    refine ⟨v, u, rfl, hw.same s0, U, fun H1 L s1 fL td => ?_⟩
    walk_at "rd"
    have eme1 := s1 _ _ eme
    refine ⟨me, _, dx, [], rfl, eme1, T.cl_LyingRules, T.na_LyingRules_here, by decide, ?_⟩
    have k2 := (KS.refl (S := fun b => b = me) H1).put (p := me) (o := .ins T.C_LyingRules dx (putF "here" (V.ref L) [])) rfl
    have td2 := td.ks k2 (fun b ys e => by rw [e, eme1]; exact nofun) (fun b kvs e _ => by rw [e, eme1]; exact nofun)
    have eme2 := upd_same (H := H1) (a := me) (o := .ins T.C_LyingRules dx (putF "here" (V.ref L) []))
    have s02 : Same H0 (upd H1 me (.ins T.C_LyingRules dx (putF "here" (V.ref L) []))) := fun b o e => k2 b o (ne_of_none e f0) (s1 _ _ (s0 _ _ e))
    generalize upd H1 me _ = H2 at td2 eme2 s02 ⊢
    walk_at "rd"
    dsimp only
    refine d_fldS ?_
    walk_at "rd"
    refine ⟨v', u', rfl, hw'.same s02, U', fun H3 L' s3 fL' td' => ?_⟩
    walk_at "rd"
    have eme3 := s3 _ _ eme2
    have td3 := td2.same s3
    refine ⟨me, _, dx, _, rfl, eme3, T.cl_LyingRules, T.na_LyingRules_there, (by show 1 < 1000; decide), ?_⟩
    have k4 := (KS.refl (S := fun b => b = me) H3).put (p := me) (o := .ins T.C_LyingRules dx (putF "there" (V.ref L') (putF "here" (V.ref L) []))) rfl
    have td4 := td3.ks k4 (fun b ys e => by rw [e, eme3]; exact nofun) (fun b kvs e _ => by rw [e, eme3]; exact nofun)
    have td4' := td'.ks k4 (fun b ys e => by rw [e, eme3]; exact nofun) (fun b kvs e _ => by rw [e, eme3]; exact nofun)
    have s04 : Same H0 (upd H3 me (.ins T.C_LyingRules dx (putF "there" (V.ref L') (putF "here" (V.ref L) [])))) := fun b o e => k4 b o (ne_of_none e f0) (s3 _ _ (s02 _ _ e))
    exact q _ s04 ⟨dx, V.ref L, V.ref L', upd_same, td4, td4'⟩
/-- the search's instance, filled -/
def spSearchInit (pd : Program) (wd : World) (C : Addr) : Sp := fun vs H Q _ => ∃ (me dx : Addr) (v : V), vs = [.ref me, v] ∧ H me = some (.ins C dx []) ∧
  ∀ H' Kn, KS (fun b => b = me) H H' → H Kn = none → H' me = some (.ins C dx [(Str.ofString "rules", v), (Str.ofString "known", .ref Kn)]) → H' Kn = some (DH pd wd Kn []) → Q .non H'
theorem ok_Search_init (T : Tx K mg base) : FnOk P w K mg base CX0 1 T.Search_init.f T.Search_init.fd ["self", "rules"] (spSearchInit P w T.C_Search) := by
  refine T.Search_init.F.ok sc_Search_init (fun vs H Q E h => ?_) (fun cdv A outer s H vs Q E hr h => ?_)
  · obtain ⟨_, _, _, rfl, _⟩ := h; rfl
  · obtain ⟨me, dx, v, rfl, eme, q⟩ := h
    refine ⟨_, (pss_cons (ps_fld (pv 0) (pv 1) rfl)
      (pss_one (ps_fld (pv 0) (pe_dnewH (pd := P) (wd := w) rfl rfl) rfl))), ?_⟩
    walk_at "rd"
    refine d_fldS ?_
    walk_at "rd"
    refine ⟨me, _, dx, [], rfl, eme, T.cl_Search, T.na_Search_rules, by decide, ?_⟩
    have k2 := (KS.refl (S := fun b => b = me) H).put (p := me) (o := .ins T.C_Search dx (putF "rules" v [])) rfl
    have eme2 := upd_same (H := H) (a := me) (o := .ins T.C_Search dx (putF "rules" v []))
    have bk : ∀ x, upd H me (.ins T.C_Search dx (putF "rules" v [])) x = none → H x = none ∧ x ≠ me := fun x fx => by
      have nx : x ≠ me := ne_of_none eme2 fx |>.symm
      rw [upd_ne nx] at fx
      exact ⟨fx, nx⟩
    generalize upd H me _ = H2 at k2 eme2 bk ⊢
    dsimp only
    refine d_fldS ?_
    walk_at "rd"
    intro Kn fK
    obtain ⟨fK0, nK⟩ := bk Kn fK
    have sK := same_new (o := DH P w Kn []) fK
    have eK := upd_same (H := H2) (a := Kn) (o := DH P w Kn [])
    have eme3 := sK _ _ eme2
    generalize upd H2 Kn _ = H3 at sK eK eme3 ⊢
    walk_at "rd"
    refine ⟨me, _, dx, _, rfl, eme3, T.cl_Search, T.na_Search_known, (by show 1 < 1000; decide), ?_⟩
    exact q _ Kn ((KS.trans k2 (KS.of sK)).put rfl) fK0 upd_same (by rw [upd_ne nK]; exact eK)
open LamX NdefX
/-- the greatest size -/
def spMost (pd : Program) (wd : World) (CS CR PP : Addr) : Sp := fun vs H Q _ => ∃ (me : Addr) (u u' : Web) (K : Addr) (es : List KEnt) (v : V) (cs : List Cl), vs = [.ref me, v] ∧ Srch pd wd CS CR PP qC H me u u' K es ∧ StAt H v cs ∧ VC u.1.length u'.1.length cs ∧ szN cs < 25 ∧ u.1.length ≤ 40 ∧ u'.1.length ≤ 40 ∧ es.length + (bdN cs + 1) * Bd u'.1.length (szN cs) ≤ sizeLine ∧
  ∀ H' es' k, KS (PK PP K) H H' → Srch pd wd CS CR PP qC H' me u u' K es' → es'.length ≤ es.length + (bdN cs + 1) * Bd u'.1.length (szN cs) → Gr u.1.length u'.1.length (fitM u u') cs k → Q (.int (k : Nat)) H'
theorem ok_Search_most (T : Tx K mg base) : FnOk P w K mg base CX0 31 T.Search_most.f T.Search_most.fd ["self", "state"] (spMost P w T.C_Search T.C_LyingRules T.P_LyingRules_choices) := by
  refine T.Search_most.F.ok sc_Search_most (fun vs H Q E h => ?_) (fun cdv A outer s H vs Q E hr h => ?_)
  · obtain ⟨_, _, _, _, _, _, _, rfl, _⟩ := h; rfl
  · obtain ⟨me, u, u', Kn, es, v, cs, rfl, hS, hst, vc, lsz, u40, u40', few, q⟩ := h
    have lcs : cs.length ≤ 40 := Nat.le_trans vc.few u40
    obtain ⟨dx, R, eme, hR⟩ := hS.obj
    obtain ⟨rx, A0, B0, eR, _, _⟩ := id hR
    refine ⟨_, (pss_cons (ps_set (i := 2) sc_Search_most.nd rfl (.inl rfl) (pe_meth (pe_fld (pv 0) rfl) T.cl_LyingRules T.LyingRules_bound.m (ok_LyingRules_bound T) (hr.mono (by decide)) T.LyingRules_bound.b .nil pass0 (pa_cons (pv 1) pa_nil)))
      (pss_cons (ps_while PassesOwn.never (pt_not (pt_truth (pe_meth (pv 0) T.cl_Search T.Search_ways.m (ok_Search_ways T) (hr.mono (by decide)) T.Search_ways.b .nil pass0 (pa_cons (pv 1) (pa_cons (pv 2) pa_nil))) (by intro _; rfl)))
        (pss_one (ps_aug (i := 2) sc_Search_most.nd rfl (.inl rfl) pe_int ip_sub)))
      (pss_one (ps_ret (pv 2))))), ?_⟩
    walk_at "rd"
    refine d_meth ?_
    refine d_fldm ?_
    walk_at "rd"
    refine ⟨me, _, _, _, _, rfl, eme, T.cl_Search, T.na_Search_rules, rfl, ?_⟩
    refine ⟨R, rx, _, rfl, eR, rfl, ?_⟩
    walk_at "rd"
    refine ⟨_, v, cs, rfl, hst, lcs, fun H1 s1 => ?_⟩
    walk_at "rd"
    have S1 := hS.same s1
    refine ⟨fun m σ H' => ∃ b es', m = b ∧ σ = [some (.ref me), some v, some (.int (b : Nat))] ∧ KS (PK T.P_LyingRules_choices Kn) H H' ∧ Srch P w T.C_Search T.C_LyingRules T.P_LyingRules_choices qC H' me u u' Kn es' ∧ b ≤ bdN cs ∧ es'.length ≤ es.length + (bdN cs - b) * Bd u'.1.length (szN cs) ∧ ∀ j : Nat, b < j → Wc u.1.length u'.1.length (fitM u u') cs j = 0,
      ⟨_, bdN cs, es, rfl, rfl, KS.of s1, S1, Nat.le_refl _, by omega, fun j hj => Wc_bd (fitM_fits u u') (by omega)⟩, ?_⟩
    rintro m σ H' ⟨b, es', rfl, rfl, k2, S2, lb, le, gr⟩
    walk_at "rd"
    refine d_meth ?_
    walk_at "rd"
    obtain ⟨dx2, R2, eme2, _⟩ := S2.obj
    refine ⟨me, _, _, rfl, eme2, rfl, ?_⟩
    walk_at "rd"
    have st2 := hst.tups (hS.tups k2)
    have mu : (m + 1 + (bdN cs - m)) * Bd u'.1.length (szN cs) = m * Bd u'.1.length (szN cs) + Bd u'.1.length (szN cs) + (bdN cs - m) * Bd u'.1.length (szN cs) := by rw [Nat.add_mul, Nat.add_mul, Nat.one_mul]
    rw [show m + 1 + (bdN cs - m) = bdN cs + 1 by omega] at mu
    refine ⟨me, u, u', Kn, es', v, cs, (m : Nat), rfl, S2, st2, vc, lsz, u40, u40', by omega, fun H3 es3 k3 S3 g3 l3 => ?_⟩
    walk_at "rd"
    have k4 := KS.trans k2 k3
    dsimp only
    refine ⟨_, rfl, ?_⟩
    rw [int_tru]
    by_cases z : Wc u.1.length u'.1.length (fitM u u') cs (m : Nat) = 0
    · rw [show (!(!decide (Wc u.1.length u'.1.length (fitM u u') cs (m : Nat) = 0))) = true by simp [z]]
      have m0 : m ≠ 0 := fun e => by
        rw [e] at z
        have := Wc_zero (n := u.1.length) (m := u'.1.length) (fit := fitM u u') (cs := cs)
        have z' : Wc u.1.length u'.1.length (fitM u u') cs 0 = 0 := z
        omega
      refine iteT ?_
      have mu2 : (bdN cs - (m - 1)) * Bd u'.1.length (szN cs) = (bdN cs - m) * Bd u'.1.length (szN cs) + Bd u'.1.length (szN cs) := by
        rw [show bdN cs - (m - 1) = (bdN cs - m) + 1 by omega, Nat.add_mul, Nat.one_mul]
      refine ⟨fun σ' H'' => σ' = [some (.ref me), some v, some (.int ((m - 1 : Nat) : Int))] ∧ H'' = H3, fun σ' H'' ⟨e1, e2⟩ => ⟨m - 1, by omega, m - 1, es3, rfl, e1, by rw [e2]; exact k4, by rw [e2]; exact S3, by omega, by omega, fun j hj => ?_⟩, ?_⟩
      · by_cases e : j = m
        · rw [e]; exact z
        · exact gr j (by omega)
      · walk_at "rd"
        refine ⟨_, _, rfl, rfl, ?_, rfl⟩
        show [some (V.ref me), some v, some (V.int ((m : Int) - 1))] = _
        rw [show ((m : Nat) : Int) - 1 = ((m - 1 : Nat) : Int) by omega]
    · rw [show (!(!decide (Wc u.1.length u'.1.length (fitM u u') cs (m : Nat) = 0))) = false by simp [z]]
      refine iteF ?_
      walk_at "rd"
      exact q H3 es3 m k4 S3 (by omega) ⟨z, gr⟩
open LamX NdefX
/-- the first choice behind which there is a lead of this length -/
def spFirstC (pd : Program) (wd : World) (CS CR PP : Addr) : Sp := fun vs H Q _ => ∃ (me : Addr) (u u' : Web) (K : Addr) (es : List KEnt) (v : V) (cs : List Cl) (need : Nat), vs = [.ref me, v, .int (need : Nat)] ∧ Srch pd wd CS CR PP qC H me u u' K es ∧ StAt H v cs ∧ VC u.1.length u'.1.length cs ∧ szN cs < 25 ∧ u.1.length ≤ 40 ∧ u'.1.length ≤ 40 ∧ es.length + Bd u'.1.length (szN cs) ≤ sizeLine ∧ 1 ≤ need ∧ cnt (extC u.1.length u'.1.length (fitM u u') cs) need ≠ 0 ∧
  ∀ H' es' r x st ds pre, KS (PK PP K) H H' → Srch pd wd CS CR PP qC H' me u u' K es' → es'.length ≤ es.length + Bd u'.1.length (szN cs) → H' r = some (.tup [x, .int ((pre : Led).length : Nat), st]) → StAt H' st ds → VC u.1.length u'.1.length ds → szN ds < szN cs →
    ((x = .non ∧ pre = []) ∨ ∃ pr p e, x = .ref pr ∧ H' pr = some (.tup [.int (p : Nat), .int (e : Nat)]) ∧ pre = [(p, e)]) →
    pre.length ≤ need → cnt (extC u.1.length u'.1.length (fitM u u') ds) (need - pre.length) ≠ 0 → fstL (extC u.1.length u'.1.length (fitM u u') cs) need = (fstL (extC u.1.length u'.1.length (fitM u u') ds) (need - pre.length)).map (pre ++ ·) → Q (.ref r) H'
theorem ok_Search_first_choice (T : Tx K mg base) : FnOk P w K mg base CX0 31 T.Search_first_choice.f T.Search_first_choice.fd ["self", "state", "need"] (spFirstC P w T.C_Search T.C_LyingRules T.P_LyingRules_choices) := by
  refine T.Search_first_choice.F.ok sc_Search_first_choice (fun vs H Q E h => ?_) (fun cdv A outer s H vs Q E hr h => ?_)
  · obtain ⟨_, _, _, _, _, _, _, _, rfl, _⟩ := h; rfl
  · obtain ⟨me, u, u', Kn, es, v, cs, need, rfl, hS, hst, vc, lsz, u40, u40', few, n1, some_, q⟩ := h
    obtain ⟨dx, R, eme, hR⟩ := hS.obj
    obtain ⟨rx, A0, B0, eR, _, _⟩ := id hR
    have ne : cs ≠ [] := fun z => by
      subst z
      have := Wc_bd (fitM_fits u u') (n := u.1.length) (m := u'.1.length) (cs := []) (need := (need : Int)) (by show ((0 : Nat) : Int) < _; omega)
      unfold Wc at this
      rw [if_neg (by omega), Int.toNat_natCast] at this
      exact some_ this
    refine ⟨_, (pss_one (ps_for PassesOwn.never rfl (pi_list (pe_meth (pe_fld (pv 0) rfl) T.cl_LyingRules T.LyingRules_choices.m (ok_LyingRules_choices T) (hr.mono (by decide)) T.LyingRules_choices.b .nil pass0 (pa_cons (pv 1) pa_nil))) (pg_tup rfl (pgs_cons (pg_name (i := 3) sc_Search_first_choice.nd rfl (.inl rfl)) (pgs_cons (pg_name (i := 4) sc_Search_first_choice.nd rfl (.inl rfl)) (pgs_cons (pg_name (i := 5) sc_Search_first_choice.nd rfl (.inl rfl)) pgs_nil))))
        (pss_one (ps_if (pt_truth (pe_meth (pv 0) T.cl_Search T.Search_ways.m (ok_Search_ways T) (hr.mono (by decide)) T.Search_ways.b .nil pass0 (pa_cons (pv 5) (pa_cons (pe_op op_sub (pv 2) (pv 4)) pa_nil))) (by intro _; rfl))
          (pss_one (ps_ret (pe_tup (pa_cons (pv 3) (pa_cons (pv 4) (pa_cons (pv 5) pa_nil))))))
          pss_nil)))), ?_⟩
    walk_at "rd"
    refine d_meth ?_
    refine d_fldm ?_
    walk_at "rd"
    refine ⟨me, _, _, _, _, rfl, eme, T.cl_Search, T.na_Search_rules, rfl, ?_⟩
    refine ⟨R, rx, _, rfl, eR, rfl, ?_⟩
    walk_at "rd"
    refine ⟨_, R, u, u', v, cs, rfl, hR, hst, vc, ne, u40, u40', hS.tab, fun b e => by rw [e, hS.kn]; exact nofun, fun H1 L k1 tab1 fL cho => ?_⟩
    have S1 := hS.tabs k1 tab1
    have k01 : KS (PK T.P_LyingRules_choices Kn) H H1 := k1.mono fun b z => .inl z
    obtain ⟨items, segs, eL, pr, fl, li⟩ := cho.segs vc
    have lp := Paired.length pr
    have h1 := sz_pos vc ne
    walk_at "rd"
    refine d_iLe (SqL.of eL) ?_
    refine for_it (walk_list (K := K) (xs := items)) (fun i σ H2 => ∃ y3 y4 y5 es2, σ = [some (.ref me), some v, some (.int (need : Nat)), y3, y4, y5] ∧ KS (PK T.P_LyingRules_choices Kn) H1 H2 ∧ Srch P w T.C_Search T.C_LyingRules T.P_LyingRules_choices qC H2 me u u' Kn es2 ∧ es2.length ≤ es.length + i * Bd u'.1.length (szN cs - 1) ∧ ∀ s ∈ segs.take i, cnt s need = 0) ⟨_, _, _, es, rfl, KS.refl _, S1, by omega, fun s hs => by simp at hs⟩ (fun i σ H2 hi hP => ?_) (fun i x σ H0 H2 hi hP hy => ?_) (fun σ H2 hP => ?_)
    · obtain ⟨_, _, _, _, _, k2, _⟩ := hP
      exact SqL.of (k2 _ _ (S1.lst eL) eL)
    · obtain ⟨y3, y4, y5, es2, rfl, k2, S2, l2, no⟩ := hP
      obtain ⟨rfl, hx⟩ := hy
      obtain ⟨seg, hseg, hrow⟩ := Paired.at pr hx
      obtain ⟨r, x0, st, ds, pre, rfl, er, hst2, vd, lt, eseg, hpre⟩ := hrow.tups (S1.tups k2)
      obtain ⟨dx2, R2, eme2, _⟩ := S2.obj
      have m1 := Bd_mono u'.1.length (show szN ds ≤ szN cs - 1 by omega)
      have m2 := Bd_rows (m := u'.1.length) h1 (show i + 1 ≤ u'.1.length + 1 by omega)
      have m3 : (i + 1) * Bd u'.1.length (szN cs - 1) = i * Bd u'.1.length (szN cs - 1) + Bd u'.1.length (szN cs - 1) := Nat.succ_mul _ _
      have m4 : Bd u'.1.length (szN cs) ≤ Bd u'.1.length (szN cs) := Nat.le_refl _
      walk_at "rd"
      refine d_meth ?_
      walk_at "rd"
      refine ⟨me, _, _, rfl, eme2, rfl, ?_⟩
      walk_at "rd"
      refine ⟨me, u, u', Kn, es2, st, ds, (need : Int) - (pre.length : Nat), rfl, S2, hst2, vd, by omega, u40, u40', by omega, fun H3 es3 k3 S3 g3 l3 => ?_⟩
      walk_at "rd"
      have wc : ∀ h : pre.length ≤ need, Wc u.1.length u'.1.length (fitM u u') ds ((need : Int) - (pre.length : Nat)) = cnt (extC u.1.length u'.1.length (fitM u u') ds) (need - pre.length) := fun h => by
        unfold Wc
        rw [if_neg (by omega)]
        congr 1
        omega
      have sg : ∀ h : pre.length ≤ need, cnt seg need = cnt (extC u.1.length u'.1.length (fitM u u') ds) (need - pre.length) := fun h => by
        have := cnt_pre pre (extC u.1.length u'.1.length (fitM u u') ds) (need - pre.length)
        rw [show pre.length + (need - pre.length) = need by omega] at this
        rw [eseg]; exact this
      refine ⟨_, rfl, ?_⟩
      rw [int_tru]
      have k13 := KS.trans k2 k3
      by_cases z : Wc u.1.length u'.1.length (fitM u u') ds ((need : Int) - (pre.length : Nat)) = 0
      · rw [show (!decide (Wc u.1.length u'.1.length (fitM u u') ds ((need : Int) - (pre.length : Nat)) = 0)) = false by simp [z]]
        refine iteF ?_
        walk_at "rd"
        refine ⟨_, _, _, es3, rfl, k13, S3, by omega, fun s hs => ?_⟩
        rw [take_snoc' hseg] at hs
        rcases List.mem_append.mp hs with hs | hs
        · exact no s hs
        · rw [List.mem_singleton.mp hs]
          by_cases c : pre.length ≤ need
          · rw [sg c, ← wc c]; exact z
          · rw [eseg]; exact cnt_pre_low pre _ (by omega)
      · rw [show (!decide (Wc u.1.length u'.1.length (fitM u u') ds ((need : Int) - (pre.length : Nat)) = 0)) = true by simp [z]]
        refine iteT ?_
        have c : pre.length ≤ need := Classical.byContradiction fun c => z (Wc_neg (by omega))
        walk_at "rd"
        refine ⟨sz (by show 3 ≤ 100000; decide), fun p fp => ?_⟩
        have sp := same_new (o := .tup [x0, V.int (pre.length : Nat), st]) fp
        have t3 := S2.tups k3
        have hit : cnt seg need ≠ 0 := by rw [sg c, ← wc c]; exact z
        refine q _ es3 p x0 st ds pre (KS.trans k01 (KS.trans k13 (KS.of sp))) (S3.same sp) (by omega) upd_same ((hst2.tups t3).same sp) vd lt ?_ c (by rw [← wc c]; exact z) ?_
        · rcases hpre with y | ⟨pr, p, e, y1, y2, y3⟩
          · exact .inl y
          · exact .inr ⟨pr, p, e, y1, sp _ _ (t3 _ _ y2), y3⟩
        · rw [fl, fst_hit no hseg hit, eseg]
          have := fst_pre pre (extC u.1.length u'.1.length (fitM u u') ds) (need - pre.length)
          rw [show pre.length + (need - pre.length) = need by omega] at this
          exact this
    · obtain ⟨y3, y4, y5, es2, rfl, k2, S2, l2, no⟩ := hP
      rw [lp, List.take_length] at no
      rw [fl] at some_
      exact (some_ (cnt_none no)).elim
open LamX NdefX
def PairT (H : Hp) (v : V) (p : Nat × Nat) : Prop := ∃ pr, v = .ref pr ∧ H pr = some (.tup [.int (p.1 : Nat), .int (p.2 : Nat)])
theorem PairT.tups {H H' : Hp} {v : V} {p : Nat × Nat} (x : PairT H v p) (t : Tups H H') : PairT H' v p := let ⟨pr, e, h⟩ := x; ⟨pr, e, t _ _ h⟩
/-- the first lead of this length -/
def spFirst (pd : Program) (wd : World) (CS CR PP : Addr) : Sp := fun vs H Q _ => ∃ (me : Addr) (u u' : Web) (K : Addr) (es : List KEnt) (v : V) (cs : List Cl) (need : Nat), vs = [.ref me, v, .int (need : Nat)] ∧ Srch pd wd CS CR PP qC H me u u' K es ∧ StAt H v cs ∧ VC u.1.length u'.1.length cs ∧ szN cs < 25 ∧ u.1.length ≤ 40 ∧ u'.1.length ≤ 40 ∧ need ≤ 40 ∧ es.length + (szN cs + 1) * Bd u'.1.length (szN cs) ≤ sizeLine ∧ cnt (extC u.1.length u'.1.length (fitM u u') cs) need ≠ 0 ∧
  ∀ H' es' D pvs l, KS (PK PP K) H H' → Srch pd wd CS CR PP qC H' me u u' K es' → H D = none → H' D = some (.lst pvs) → Paired (PairT H') pvs l → fstL (extC u.1.length u'.1.length (fitM u u') cs) need = some l → Q (.ref D) H'
theorem ok_Search_first (T : Tx K mg base) : FnOk P w K mg base CX0 32 T.Search_first.f T.Search_first.fd ["self", "state", "need"] (spFirst P w T.C_Search T.C_LyingRules T.P_LyingRules_choices) := by
  refine T.Search_first.F.ok sc_Search_first (fun vs H Q E h => ?_) (fun cdv A outer s H vs Q E hr h => ?_)
  · obtain ⟨_, _, _, _, _, _, _, _, rfl, _⟩ := h; rfl
  · obtain ⟨me, u, u', Kn, es, v, cs, need, rfl, hS, hst, vc, lsz, u40, u40', n40, few, some_, q⟩ := h
    refine ⟨_, (pss_cons (ps_set (i := 3) sc_Search_first.nd rfl (.inl rfl) (pe_lst pa_nil))
      (pss_cons (ps_while PassesOwn.never (pt_cmpR op_gt (pv 2) pe_int (nomark _))
        (pss_cons (ps_asg (pe_meth (pv 0) T.cl_Search T.Search_first_choice.m (ok_Search_first_choice T) (hr.mono (by decide)) T.Search_first_choice.b .nil pass0 (pa_cons (pv 1) (pa_cons (pv 2) pa_nil))) (pg_tup rfl (pgs_cons (pg_name (i := 4) sc_Search_first.nd rfl (.inl rfl)) (pgs_cons (pg_name (i := 5) sc_Search_first.nd rfl (.inl rfl)) (pgs_cons (pg_name (i := 1) sc_Search_first.nd rfl (.inl rfl)) pgs_nil)))))
        (pss_cons (ps_aug (i := 2) sc_Search_first.nd rfl (.inl rfl) (pv 5) ip_sub)
        (pss_one (ps_if (pt_cmpR op_notN (pv 4) pe_non (nomark _))
          (pss_one (ps_expr (pe_bm PySem.F.plainAttrs_list PySem.F.slot_list_append PySem.F.type_list_append mt_append (pv 3) (pa_cons (pv 4) pa_nil))))
          pss_nil)))))
      (pss_one (ps_ret (pv 3))))), ?_⟩
    walk_at "rd"
    refine ⟨sz (by decide), fun D fD => ?_⟩
    have sD := same_new (o := .lst []) fD
    have eD0 := upd_same (H := H) (a := D) (o := .lst [])
    generalize upd H D _ = H1 at sD eD0 ⊢
    walk_at "rd"
    generalize hB : Bd u'.1.length (szN cs) = B at few
    refine ⟨fun m σ H' => ∃ acc pvs cs' v' n' es' y4 y5, m = szN cs' ∧ σ = [some (.ref me), some v', some (.int (n' : Nat)), some (.ref D), y4, y5] ∧ KS (PK T.P_LyingRules_choices Kn) H H' ∧ Srch P w T.C_Search T.C_LyingRules T.P_LyingRules_choices qC H' me u u' Kn es' ∧ StAt H' v' cs' ∧ VC u.1.length u'.1.length cs' ∧ szN cs' ≤ szN cs ∧ es'.length ≤ es.length + (szN cs - szN cs') * B ∧ H' D = some (.lst pvs) ∧ Paired (PairT H') pvs acc ∧ (acc : Led).length + n' = need ∧ cnt (extC u.1.length u'.1.length (fitM u u') cs') n' ≠ 0 ∧ fstL (extC u.1.length u'.1.length (fitM u u') cs) need = (fstL (extC u.1.length u'.1.length (fitM u u') cs') n').map (acc ++ ·),
      ⟨_, [], [], cs, v, need, es, _, _, rfl, rfl, KS.of sD, hS.same sD, hst.same sD, vc, Nat.le_refl _, by omega, eD0, .nil, by simp, some_, by simp⟩, ?_⟩
    rintro m σ H' ⟨acc, pvs, cs', v', n', es', y4, y5, rfl, rfl, k1, S1, st1, vc1, ls1, le1, eD, pp, an, so, eq⟩
    walk_at "rd"
    refine ite2 (fun c => ?_) (fun c => ?_)
    · have c : 0 < n' := by have := of_decide_eq_true c; omega
      refine ⟨fun σ' H'' => ∃ cs2, szN cs2 < szN cs' ∧ ∃ acc pvs v' n' es' y4 y5, σ' = [some (.ref me), some v', some (.int (n' : Nat)), some (.ref D), y4, y5] ∧ KS (PK T.P_LyingRules_choices Kn) H H'' ∧ Srch P w T.C_Search T.C_LyingRules T.P_LyingRules_choices qC H'' me u u' Kn es' ∧ StAt H'' v' cs2 ∧ VC u.1.length u'.1.length cs2 ∧ szN cs2 ≤ szN cs ∧ es'.length ≤ es.length + (szN cs - szN cs2) * B ∧ H'' D = some (.lst pvs) ∧ Paired (PairT H'') pvs acc ∧ (acc : Led).length + n' = need ∧ cnt (extC u.1.length u'.1.length (fitM u u') cs2) n' ≠ 0 ∧ fstL (extC u.1.length u'.1.length (fitM u u') cs) need = (fstL (extC u.1.length u'.1.length (fitM u u') cs2) n').map (acc ++ ·),
        fun σ' H'' ⟨cs2, lt, acc, pvs, v', n', es', y4, y5, z⟩ => ⟨_, lt, acc, pvs, cs2, v', n', es', y4, y5, rfl, z⟩, ?_⟩
      walk_at "rd"
      refine d_meth ?_
      walk_at "rd"
      obtain ⟨dx1, R1, eme1, _⟩ := S1.obj
      refine ⟨me, _, _, rfl, eme1, rfl, ?_⟩
      walk_at "rd"
      have b1 := Bd_mono u'.1.length ls1
      have b2 : Bd u'.1.length (szN cs') ≤ B := by rw [← hB]; exact b1
      have b3 : (szN cs - szN cs' + 1) * B ≤ (szN cs + 1) * B := Nat.mul_le_mul_right _ (by omega)
      have b4 : (szN cs - szN cs' + 1) * B = (szN cs - szN cs') * B + B := Nat.succ_mul _ _
      refine ⟨me, u, u', Kn, es', v', cs', n', rfl, S1, st1, vc1, by omega, u40, u40', by omega, c, so, fun H2 es2 r x st ds pre k2 S2 l2 er st2 vd lt hx lp so2 eq2 => ?_⟩
      have t2 := S1.tups k2
      have eD2 := k2 _ _ (S1.lst eD) eD
      have pp2 := Paired.imp pp fun _ _ z => z.tups t2
      have b5 : (szN cs - szN cs' + 1) * B ≤ (szN cs - szN ds) * B := Nat.mul_le_mul_right _ (by omega)
      have eq3 : fstL (extC u.1.length u'.1.length (fitM u u') cs) need = (fstL (extC u.1.length u'.1.length (fitM u u') ds) (n' - pre.length)).map ((acc ++ pre) ++ ·) := by
        rw [eq, eq2, Option.map_map]
        congr 1
        funext l
        exact (List.append_assoc _ _ _).symm
      have la : acc.length ≤ 40 := by omega
      walk_at "rd"
      refine ⟨_, _, rfl, rfl, ?_⟩
      walk_at "rd"
      have en : ((n' : Nat) : Int) - ((pre.length : Nat) : Int) = ((n' - pre.length : Nat) : Int) := by omega
      rcases hx with ⟨rfl, rfl⟩ | ⟨pr, p, e, rfl, epr, rfl⟩
      · rw [show (!decide (V.non = V.non)) = false by simp]
        refine iteF ?_
        walk_at "rd"
        refine ⟨ds, lt, acc, pvs, st, n', es2, some .non, some (.int ((0 : Nat) : Int)), ?_, KS.trans k1 k2, S2, st2, vd, by omega, by omega, eD2, pp2, an, so2, by rw [List.append_nil] at eq3; exact eq3⟩
        show [some (V.ref me), some st, some (V.int ((n' : Int) - ((0 : Nat) : Int))), some (V.ref D), _, _] = _
        rw [show ((n' : Nat) : Int) - ((0 : Nat) : Int) = ((n' : Nat) : Int) by omega]
        try rfl
      · rw [show (!decide (V.ref pr = V.non)) = true by simp]
        refine iteT ?_
        walk_at "rd"
        refine d_app eD2 ?_
        walk_at "rd"
        have lpv := Paired.length pp
        refine d_append eD2 (szl (by omega)) ?_
        have kD := (KS.trans k1 k2).fresh (o := .lst (pvs ++ [V.ref pr])) fD
        have tD := Tups.lst (o := .lst (pvs ++ [V.ref pr])) eD2
        have nK : D ≠ Kn := fun z => by have := S2.kn; rw [← z, eD2] at this; cases this
        refine ⟨ds, lt, acc ++ [(p, e)], pvs ++ [V.ref pr], st, n' - 1, es2, some (.ref pr), some (.int ((1 : Nat) : Int)), ?_, kD, hS.step kD (by rw [upd_ne nK.symm]; exact S2.kn) (S2.key.tups tD) S2.ok (tabS_lst S2.tab eD2), st2.tups tD, vd, by omega, by omega, upd_same, Paired.imp (Paired.snoc pp2 ⟨pr, rfl, epr⟩) (fun _ _ z => z.tups tD), ?_, so2, eq3⟩
        · show [some (V.ref me), some st, some (V.int ((n' : Int) - ((1 : Nat) : Int))), some (V.ref D), _, _] = _
          rw [show ((n' : Nat) : Int) - ((1 : Nat) : Int) = ((n' - 1 : Nat) : Int) by omega]
          try rfl
        · rw [List.length_append]
          show acc.length + 1 + (n' - 1) = need
          omega
    · have c : n' = 0 := by have := of_decide_eq_false (Bool.eq_false_iff.mpr c); omega
      walk_at "rd"
      subst c
      have f0 : fstL (extC u.1.length u'.1.length (fitM u u') cs') 0 = some [] := by
        obtain ⟨l, e, _, z⟩ := fst_some so
        rw [e, List.length_eq_zero_iff.mp z]
      rw [f0] at eq
      exact q H' es' D pvs acc k1 S1 fD eD pp (by rw [eq]; simp)
open LamX NdefX
/-- the greatest size, and the first lead of it -/
def spGreat (pd : Program) (wd : World) (CR PP : Addr) : Sp := fun vs H Q _ => ∃ (R : Addr) (u u' : Web) (v : V) (cs : List Cl), vs = [.ref R, v] ∧ Rules pd wd (fun _ => False) H R CR u u' ∧ StAt H v cs ∧ VC u.1.length u'.1.length cs ∧ szN cs < 25 ∧ u.1.length ≤ 40 ∧ u'.1.length ≤ 40 ∧ (bdN cs + 1) * Bd u'.1.length (szN cs) + (szN cs + 1) * Bd u'.1.length (szN cs) ≤ sizeLine ∧ TabN (fun _ => False) H PP qC ∧
  ∀ H' p D pvs k l, KS (fun b => b = PP) H H' → TabN (fun _ => False) H' PP qC → H p = none → H' p = some (.tup [.int (k : Nat), .ref D]) → H D = none → H' D = some (.lst pvs) → Paired (PairT H') pvs l → Gr u.1.length u'.1.length (fitM u u') cs k → fstL (extC u.1.length u'.1.length (fitM u u') cs) k = some l → Q (.ref p) H'
theorem ok_greatest (T : Tx K mg base) : FnOk P w K mg base CX0 33 T.greatest.f T.greatest.fd ["rules", "start"] (spGreat P w T.C_LyingRules T.P_LyingRules_choices) := by
  refine T.greatest.F.ok sc_greatest (fun vs H Q E h => ?_) (fun cdv A outer s H vs Q E hr h => ?_)
  · obtain ⟨_, _, _, _, _, rfl, _⟩ := h; rfl
  · obtain ⟨R, u, u', v, cs, rfl, hR, hst, vc, lsz, u40, u40', few, tab, q⟩ := h
    refine ⟨_, (pss_cons (ps_set (i := 2) sc_greatest.nd rfl (.inl rfl) (pe_make T.mk_Search (ok_Search_init T) (hr.mono (by decide)) (by rfl) T.m_Search T.Search_init.b .nil pass0 (pa_cons (pv 0) pa_nil)))
      (pss_cons (ps_set (i := 3) sc_greatest.nd rfl (.inl rfl) (pe_meth (pv 2) T.cl_Search T.Search_most.m (ok_Search_most T) (hr.mono (by decide)) T.Search_most.b .nil pass0 (pa_cons (pv 1) pa_nil)))
      (pss_one (ps_ret (pe_tup (pa_cons (pv 3) (pa_cons (pe_meth (pv 2) T.cl_Search T.Search_first.m (ok_Search_first T) (hr.mono (by decide)) T.Search_first.b .nil pass0 (pa_cons (pv 1) (pa_cons (pv 3) pa_nil))) pa_nil))))))), ?_⟩
    walk_at "rd"
    refine d_make ?_
    walk_at "rd"
    intro x dx fx fdx nxd
    have s1 := two_new (o := .own x) (o' := .ins T.C_Search dx []) fx fdx nxd
    have ex := upd_same (H := upd H dx (.own x)) (a := x) (o := .ins T.C_Search dx [])
    generalize upd (upd H dx (.own x)) x _ = H1 at s1 ex ⊢
    refine ⟨x, dx, .ref R, rfl, ex, fun H2 Kn k2 fK ex2 eK => ⟨rfl, ?_⟩⟩
    have s2 : Same H H2 := fun b o e => k2 b o (ne_of_none e fx) (s1 _ _ e)
    have fK0 : H Kn = none := Same.free s1 fK
    have S2 : Srch P w T.C_Search T.C_LyingRules T.P_LyingRules_choices qC H2 x u u' Kn [] := ⟨⟨dx, R, ex2, (hR.mono (M := fun b => b = Kn) fun b o e z => by rw [z, fK0] at e; cases e).same s2⟩, eK, fun e he => (by cases he), fun e he => (by cases he), tabS_same (tab.mono (M := fun b => b = Kn) fun b o e z => by rw [z, fK0] at e; cases e) s2⟩
    walk_at "rd"
    refine d_meth ?_
    walk_at "rd"
    refine ⟨x, _, _, rfl, ex2, rfl, ?_⟩
    walk_at "rd"
    have st2 := hst.same s2
    refine ⟨x, u, u', Kn, [], v, cs, rfl, S2, st2, vc, lsz, u40, u40', by rw [List.length_nil]; omega, fun H3 es3 k k3 S3 l3 gr => ?_⟩
    rw [List.length_nil] at l3
    walk_at "rd"
    refine d_meth ?_
    walk_at "rd"
    obtain ⟨dx3, R3, ex3, _⟩ := S3.obj
    refine ⟨x, _, _, rfl, ex3, rfl, ?_⟩
    walk_at "rd"
    have st3 := st2.tups (S2.tups k3)
    have c0 : cnt (extC u.1.length u'.1.length (fitM u u') cs) k ≠ 0 := by
      have := gr.some_
      unfold Wc at this
      rwa [if_neg (by omega), Int.toNat_natCast] at this
    have kb : k ≤ bdN cs := Classical.byContradiction fun z => gr.some_ (Wc_bd (fitM_fits u u') (by omega))
    have bl := bd_le vc
    refine ⟨x, u, u', Kn, es3, v, cs, k, rfl, S3, st3, vc, lsz, u40, u40', by omega, by omega, c0, fun H4 es4 D pvs l k4 S4 fD eD pp fl => ?_⟩
    walk_at "rd"
    refine ⟨sz (by show 2 ≤ 100000; decide), fun p fp => ?_⟩
    have sp := same_new (o := .tup [V.int (k : Nat), V.ref D]) fp
    have k24 := KS.trans k3 k4
    have kH : KS (fun b => b = T.P_LyingRules_choices) H H4 := fun b o n e => k24 b o (fun z => z.elim n fun y => by rw [y, fK0] at e; cases e) (s2 _ _ e)
    have back : ∀ y, H4 y = none → H y = none := fun y fy => by
      cases e : H y with
      | none => rfl
      | some o =>
        by_cases c : y = T.P_LyingRules_choices
        · obtain ⟨t, z⟩ := S4.tab.at
          rw [c, z] at fy; cases fy
        · rw [kH y o c e] at fy; cases fy
    have fD0 : H D = none := by
      cases e : H D with
      | none => rfl
      | some o =>
        by_cases c : D = T.P_LyingRules_choices
        · obtain ⟨t, z⟩ := S3.tab.at
          rw [c, z] at fD; cases fD
        · have := k3 D o (fun z => z.elim c fun y => by rw [y, fK0] at e; cases e) (s2 _ _ e)
          rw [this] at fD; cases fD
    exact q _ p D pvs k l (KS.trans kH (KS.of sp)) (tabS_same (S4.tab.mono fun b o _ z => z.elim) sp) (back p fp) upd_same fD0 (sp _ _ eD) (Paired.imp pp fun _ _ z => z.tups (Tups.of sp)) gr fl
theorem ext_all {u u' : Web} {cs : List Cl} (h : ∀ x e, Rof cs x e = true ↔ x < u.1.length ∧ e < u'.1.length ∧ ∃ k, u.1[x]? = some k ∧ u'.1[e]? = some k) : extC u.1.length u'.1.length (fitM u u') cs = allL u u' := by
  unfold extC allL
  refine ext_congr fun x hx e he => ?_
  have hx := List.mem_range.mp hx
  rw [Bool.eq_iff_iff, h]
  unfold knR
  simp only [Bool.and_eq_true, decide_eq_true_eq]
  constructor
  · rintro ⟨a, b, k, e1, e2⟩
    exact ⟨⟨a, b⟩, by rw [e1, e2]⟩
  · rintro ⟨⟨a, b⟩, e1⟩
    exact ⟨a, b, _, List.getElem?_eq_getElem a, by rw [← e1]; exact List.getElem?_eq_getElem a⟩
def LimG (u u' : Web) : Prop := u.1.length < 25 ∧ (u.1.length + 1) * Bd u'.1.length u.1.length + (u.1.length + 1) * Bd u'.1.length u.1.length ≤ sizeLine
/-- the greatest piece as it lies, the first -/
def spGreatL (K : PySem.W.Frag) (PP : Addr) : Sp := fun vs H Q _ => ∃ (v v' : V) (u u' : Web), vs = [v, v'] ∧ WebAt K H v u ∧ WebAt K H v' u' ∧ WOk u ∧ WOk u' ∧ LimG u u' ∧ TabN (fun _ => False) H PP qC ∧
  ∀ H' p D pvs k l, KS (fun b => b = PP) H H' → TabN (fun _ => False) H' PP qC → H p = none → H' p = some (.tup [.int (k : Nat), .ref D]) → H D = none → H' D = some (.lst pvs) → Paired (PairT H') pvs l → GrL u u' k → fstL (allL u u') k = some l → Q (.ref p) H'
theorem ok_greatest_lying (T : Tx K mg base) : FnOk P w K mg base CX0 34 T.greatest_lying.f T.greatest_lying.fd ["one", "other"] (spGreatL K T.P_LyingRules_choices) := by
  refine T.greatest_lying.F.ok sc_greatest_lying (fun vs H Q E h => ?_) (fun cdv A outer s H vs Q E hr h => ?_)
  · obtain ⟨_, _, _, _, rfl, _⟩ := h; rfl
  · obtain ⟨v, v', u, u', rfl, hw, hw', U, U', ⟨l25, few⟩, tab, q⟩ := h
    refine ⟨_, (pss_one (ps_ret (pe_call (ok_greatest T) (hr.mono (by decide)) (by rfl) T.greatest.g T.greatest.F.kp T.greatest.b .nil pass0 (pa_cons (pe_make T.mk_LyingRules (ok_LyingRules_init T) (hr.mono (by decide)) (by rfl) T.m_LyingRules T.LyingRules_init.b .nil pass0 (pa_cons (pv 0) (pa_cons (pv 1) pa_nil))) (pa_cons (pe_call (ok_all_classes T) (hr.mono (by decide)) (by rfl) T.all_classes.g T.all_classes.F.kp T.all_classes.b .nil pass0 (pa_cons (pv 0) (pa_cons (pv 1) pa_nil))) pa_nil))))), ?_⟩
    walk_at "rd"
    refine d_make ?_
    walk_at "rd"
    intro x dx fx fdx nxd
    have s1 := two_new (o := .own x) (o' := .ins T.C_LyingRules dx []) fx fdx nxd
    have ex := upd_same (H := upd H dx (.own x)) (a := x) (o := .ins T.C_LyingRules dx [])
    generalize upd (upd H dx (.own x)) x _ = H1 at s1 ex ⊢
    refine ⟨x, dx, v, v', u, u', H, rfl, fx, s1, hw, hw', U, U', ex, fun H2 s2 hR => ⟨rfl, ?_⟩⟩
    walk_at "rd"
    refine ⟨v, v', u, u', rfl, hw.same s2, hw'.same s2, U, U', fun H3 st cs s3 hst vc hr2 => ?_⟩
    walk_at "rd"
    have lsz := sz_le vc
    have lbd := bd_le vc
    have m1 := Bd_mono u'.1.length lsz
    have m2 : (bdN cs + 1) * Bd u'.1.length (szN cs) ≤ (u.1.length + 1) * Bd u'.1.length u.1.length := Nat.mul_le_mul (by omega) m1
    have m3 : (szN cs + 1) * Bd u'.1.length (szN cs) ≤ (u.1.length + 1) * Bd u'.1.length u.1.length := Nat.mul_le_mul (by omega) m1
    have s03 := Same.trans s2 s3
    refine ⟨x, u, u', st, cs, rfl, hR.same s3, hst, vc, by omega, U.few, U'.few, by omega, tabS_same tab s03, fun H4 p D pvs k l k4 tab4 fp ep fD eD pp gr fl => ?_⟩
    rw [ext_all hr2] at fl
    have wj : ∀ j : Nat, Wc u.1.length u'.1.length (fitM u u') cs (j : Nat) = cnt (allL u u') j := fun j => by
      unfold Wc
      rw [if_neg (by omega), Int.toNat_natCast, ext_all hr2]
    exact q H4 p D pvs k l (KS.trans (KS.of s03) k4) tab4 (Same.free s03 fp) ep (Same.free s03 fD) eD pp ⟨by rw [← wj]; exact gr.some_, fun j hj => by rw [← wj]; exact gr.most j hj⟩ fl
open LamX NdefX
def spShare : Sp := fun vs H Q _ => ∃ a b : Nat, vs = [.int (a : Nat), .int (b : Nat)] ∧ a ≤ b ∧ 0 < b ∧ b ≤ 40 ∧ ∀ H' p, Same H H' → H' p = some (.tup [.int (a / Nat.gcd a b : Nat), .int (b / Nat.gcd a b : Nat)]) → Q (.ref p) H'
theorem ok_share (T : Tx K mg base) : FnOk P w K mg base CX0 1 T.share.f T.share.fd ["above", "below"] spShare := by
  refine T.share.F.ok sc_share (fun vs H Q E h => ?_) (fun cdv A outer s H vs Q E hr h => ?_)
  · obtain ⟨_, _, rfl, _⟩ := h; rfl
  · obtain ⟨a, b, rfl, ab, b0, b40, q⟩ := h
    refine ⟨_, (pss_cons (ps_for PassesOwn.never rfl (pi_range3 (by rfl) T.m_range (pa_cons (pv 1) (pa_cons pe_int (pa_cons (pe_un un_neg pe_int) pa_nil)))) (pg_name (i := 2) sc_share.nd rfl (.inl rfl))
        (pss_one (ps_if (PW.pt (pw_and (pt_cmpR op_eq (pe_op op_mod (pv 0) (pv 2)) pe_int (nomark _)) (pw_and1 (pt_cmpR op_eq (pe_op op_mod (pv 1) (pv 2)) pe_int (nomark _)))))
          (pss_cons (ps_set (i := 0) sc_share.nd rfl (.inl rfl) (pe_op op_fdiv (pv 0) (pv 2)))
          (pss_one (ps_set (i := 1) sc_share.nd rfl (.inl rfl) (pe_op op_fdiv (pv 1) (pv 2)))))
          pss_nil)))
      (pss_one (ps_ret (pe_tup (pa_cons (pv 0) (pa_cons (pv 1) pa_nil)))))), ?_⟩
    walk_at "rd"
    refine ⟨_, rfl, ?_⟩
    walk_at "rd"
    refine ⟨_, _, _, b - 1, rfl, by have := RgC.neg (i := (b : Int)) (j := 1) (by omega) (by omega) (by omega) (by omega); rw [show ((b : Int) - 1).toNat = b - 1 by omega] at this; exact this, ?_⟩
    refine for_rangeC (fun i σ H1 => ∃ x y : Nat, ∃ y2, σ = [some (.int (x : Nat)), some (.int (y : Nat)), y2] ∧ H1 = H ∧ 0 < y ∧ shareN (b - i) (x, y) = shareN b (a, b)) ⟨a, b, _, rfl, rfl, b0, rfl⟩ (fun i σ H1 hi hP => ?_) (fun σ H1 hP => ?_)
    · obtain ⟨x, y, y2, rfl, rfl, y0, eq⟩ := hP
      obtain ⟨k, ek⟩ : ∃ k, b - i = k + 2 := ⟨b - i - 2, by omega⟩
      rw [show (b : Int) + (i : Nat) * (-1) = ((k + 2 : Nat) : Int) by omega]
      have e1 : b - (i + 1) = k + 1 := by omega
      rw [ek] at eq
      have eq : shareN (k + 1) (if x % (k + 2) = 0 ∧ y % (k + 2) = 0 then (x / (k + 2), y / (k + 2)) else (x, y)) = shareN b (a, b) := eq
      have mx : ((x : Int) % ((k + 2 : Nat) : Int)) = ((x % (k + 2) : Nat) : Int) := (Int.natCast_emod x (k + 2)).symm
      have my : ((y : Int) % ((k + 2 : Nat) : Int)) = ((y % (k + 2) : Nat) : Int) := (Int.natCast_emod y (k + 2)).symm
      have dx : ((x : Int) / ((k + 2 : Nat) : Int)) = ((x / (k + 2) : Nat) : Int) := (Int.natCast_ediv x (k + 2)).symm
      have dy : ((y : Int) / ((k + 2 : Nat) : Int)) = ((y / (k + 2) : Nat) : Int) := (Int.natCast_ediv y (k + 2)).symm
      walk_at "rd"
      refine ⟨_, _, rfl, rfl, by omega, ?_⟩
      walk_at "rd"
      rw [mx]
      refine ite2 (fun c1 => ?_) (fun c1 => ?_)
      · have c1 : x % (k + 2) = 0 := by have := of_decide_eq_true c1; omega
        walk_at "rd"
        refine ⟨_, _, rfl, rfl, by omega, ?_⟩
        walk_at "rd"
        rw [my]
        refine ite2 (fun c2 => ?_) (fun c2 => ?_)
        · have c2 : y % (k + 2) = 0 := by have := of_decide_eq_true c2; omega
          rw [if_pos ⟨c1, c2⟩] at eq
          have p2 : 0 < y / (k + 2) := Nat.div_pos (Nat.le_of_dvd y0 (Nat.dvd_of_mod_eq_zero c2)) (by omega)
          walk_at "rd"
          refine ⟨x / (k + 2), y / (k + 2), some (.int ((k + 2 : Nat) : Int)), ?_, rfl, p2, by rw [e1]; exact eq⟩
          rw [dx, dy]
          rfl
        · have c2 : ¬ y % (k + 2) = 0 := fun z => c2 (decide_eq_true (by omega))
          rw [if_neg fun z => c2 z.2] at eq
          walk_at "rd"
          exact ⟨x, y, _, rfl, rfl, y0, by rw [e1]; exact eq⟩
      · have c1 : ¬ x % (k + 2) = 0 := fun z => c1 (decide_eq_true (by omega))
        rw [if_neg fun z => c1 z.1] at eq
        walk_at "rd"
        exact ⟨x, y, _, rfl, rfl, y0, by rw [e1]; exact eq⟩
    · obtain ⟨x, y, y2, rfl, rfl, y0, eq⟩ := hP
      rw [show b - (b - 1) = 1 by omega] at eq
      have eq : (x, y) = shareN b (a, b) := eq
      rw [share_ok b (a, b) b0 (Nat.gcd_le_right _ b0)] at eq
      injection eq with ex ey
      subst ex; subst ey
      walk_at "rd"
      refine ⟨sz (by show 2 ≤ 100000; decide), fun p fp => ?_⟩
      exact q _ p (same_new fp) upd_same
/-- what is not common over the greater one, in least numbers -/
def dueN (m k : Nat) : Nat × Nat := if m = 0 then (0, 1) else ((m - k) / Nat.gcd (m - k) m, m / Nat.gcd (m - k) m)
theorem Bd_mono2 {m m' : Nat} (h : m ≤ m') : ∀ s, Bd m s ≤ Bd m' s
  | 0 => Nat.le_refl _
  | s + 1 => by
    show 1 + (m + 1) * Bd m s ≤ 1 + (m' + 1) * Bd m' s
    exact Nat.add_le_add_left (Nat.mul_le_mul (by omega) (Bd_mono2 h s)) 1
theorem lim77 {u u' : Web} (hn : u.1.length ≤ 7) (hm : u'.1.length ≤ 7) : LimG u u' := by
  have b1 : Bd u'.1.length u.1.length ≤ Bd 7 7 := Nat.le_trans (Bd_mono2 hm _) (Bd_mono 7 hn)
  have a : (7 + 1) * Bd 7 7 + (7 + 1) * Bd 7 7 ≤ sizeLine := by decide +kernel
  exact ⟨by omega, Nat.le_trans (Nat.add_le_add (Nat.mul_le_mul (by omega) b1) (Nat.mul_le_mul (by omega) b1)) a⟩
theorem str_len78 (l : List Nat) : (⟨l.toArray⟩ : Str).length = l.length := by show l.toArray.size = _; simp
theorem max_int78 (a b : Nat) : (if (b : Int) > (a : Int) then (b : Int) else (a : Int)) = ((max a b : Nat) : Int) := by split <;> omega
theorem great_few {u u' : Web} {k : Nat} (g : GrL u u' k) : k ≤ u.1.length := by
  obtain ⟨l, hl, el⟩ := great_lead g
  have := lead_len hl
  omega
theorem web_at {H : Hp} {a : Addr} {u : Web} (x : WebAt K H (.ref a) u) : ∃ b tvs, SqT K H a [.str ⟨u.1.toArray⟩, .ref b] ∧ SqT K H b tvs ∧ Paired (TieAt K H) tvs u.2 := by
  obtain ⟨a', b, tvs, e, q1, q2, p⟩ := x
  cases e
  exact ⟨b, tvs, q1, q2, p⟩
def spDist (K : PySem.W.Frag) (PP : Addr) : Sp := fun vs H Q _ => ∃ (v v' : V) (u u' : Web) (k : Nat), vs = [v, v'] ∧ WebAt K H v u ∧ WebAt K H v' u' ∧ WOk u ∧ WOk u' ∧ u.1.length ≤ 7 ∧ u'.1.length ≤ 7 ∧ TabN (fun _ => False) H PP qC ∧ GrL u u' k ∧
  ∀ H' p, KS (fun b => b = PP) H H' → TabN (fun _ => False) H' PP qC → H' p = some (.tup [.int ((dueN (max u.1.length u'.1.length) k).1 : Nat), .int ((dueN (max u.1.length u'.1.length) k).2 : Nat)]) → Q (.ref p) H'
theorem ok_distance (T : Tx K mg base) : FnOk P w K mg base CX0 35 T.distance.f T.distance.fd ["one", "other"] (spDist K T.P_LyingRules_choices) := by
  refine T.distance.F.ok sc_distance (fun vs H Q E h => ?_) (fun cdv A outer s H vs Q E hr h => ?_)
  · obtain ⟨_, _, _, _, _, rfl, _⟩ := h; rfl
  · obtain ⟨v, v', u, u', k, rfl, hw, hw', U, U', l7, l7', tab, gr, q⟩ := h
    obtain ⟨a1, _, _, e1, _⟩ := id hw
    subst e1
    obtain ⟨a2, _, _, e2, _⟩ := id hw'
    subst e2
    refine ⟨_, (pss_cons (ps_asg (pe_call (ok_greatest_lying T) (hr.mono (by decide)) (by rfl) T.greatest_lying.g T.greatest_lying.F.kp T.greatest_lying.b .nil pass0 (pa_cons (pv 0) (pa_cons (pv 1) pa_nil))) (pg_tup rfl (pgs_cons (pg_name (i := 2) sc_distance.nd rfl (.inl rfl)) (pgs_cons (pg_name (i := 3) sc_distance.nd rfl (.inl rfl)) pgs_nil))))
      (pss_cons (ps_set (i := 4) sc_distance.nd rfl (.inl rfl) (pe_callB (call_max2 rfl) (by rfl) T.m_max (by decide +kernel) (pa_cons (pe_callB call_len_str (by rfl) T.m_len (by decide +kernel) (pa_cons (pe_ix ix_tup (pv 0) pe_int (fun _ _ => rfl)) pa_nil)) (pa_cons (pe_callB call_len_str (by rfl) T.m_len (by decide +kernel) (pa_cons (pe_ix ix_tup (pv 1) pe_int (fun _ _ => rfl)) pa_nil)) pa_nil))))
      (pss_cons (ps_if (pt_cmpR op_eq (pv 4) pe_int (nomark _))
        (pss_one (ps_ret (pe_tup (pa_cons pe_int (pa_cons pe_int pa_nil)))))
        pss_nil)
      (pss_cons (ps_set (i := 5) sc_distance.nd rfl (.inl rfl) (pe_callBfun cr_gcd (by rfl) T.m_gcd (pa_cons (pe_op op_sub (pv 4) (pv 2)) (pa_cons (pv 4) pa_nil))))
      (pss_one (ps_ret (pe_tup (pa_cons (pe_op op_fdiv (pe_op op_sub (pv 4) (pv 2)) (pv 5)) (pa_cons (pe_op op_fdiv (pv 4) (pv 5)) pa_nil))))))))), ?_⟩
    walk_at "rd"
    refine ⟨_, _, u, u', rfl, hw, hw', U, U', lim77 l7 l7', tab, fun H1 p1 D1 pv1 k1 m1 ks1 tab1 fp1 ep1 fD1 eD1 pp1 gr1 fl1 => ?_⟩
    obtain rfl : k1 = k := gr1.one gr
    obtain ⟨t0, et0⟩ := tab.at
    have hw1 := web_ks ks1 et0 hw
    have hw1' := web_ks ks1 et0 hw'
    obtain ⟨b1, tv1, q1, _, _⟩ := web_at hw1
    obtain ⟨b2, tv2, q2, _, _⟩ := web_at hw1'
    have kf := great_few gr
    refine d_gtup (SqT.of ep1) rfl ?_
    walk_at "rd"
    refine d_ixT q1 rfl ?_
    refine d_lenS (z := ⟨u.1.toArray⟩) (sz (by rw [str_len78]; omega)) ?_
    rw [str_len78]
    walk_at "rd"
    refine d_ixT q2 rfl ?_
    refine d_lenS (z := ⟨u'.1.toArray⟩) (sz (by rw [str_len78]; omega)) ?_
    rw [str_len78]
    walk_at "rd"
    refine ⟨_, _, rfl, ?_⟩
    rw [max_int78]
    walk_at "rd"
    generalize hm : max u.1.length u'.1.length = m at q ⊢
    have km : k1 ≤ m := by omega
    refine ite2 (fun c => ?_) (fun c => ?_)
    · have c : m = 0 := by have := of_decide_eq_true c; omega
      walk_at "rd"
      refine ⟨sz (by show 2 ≤ 100000; decide), fun p fp => ?_⟩
      have z := q _ p (KS.trans ks1 (KS.of (same_new (o := .tup [V.int 0, V.int 1]) fp))) (tabS_same tab1 (same_new fp))
      rw [show dueN m k1 = (0, 1) from if_pos c] at z
      exact z upd_same
    · have c : m ≠ 0 := fun z => c (decide_eq_true (by omega))
      walk_at "rd"
      refine ⟨_, _, rfl, ?_⟩
      rw [show ((m : Int) - (k1 : Nat)).natAbs = m - k1 by omega, show ((m : Nat) : Int).natAbs = m from Int.natAbs_natCast m]
      have gp : 0 < Nat.gcd (m - k1) m := Nat.gcd_pos_of_pos_right _ (by omega)
      have gl : Nat.gcd (m - k1) m ≤ m := Nat.gcd_le_right _ (by omega)
      have z := fun H' p => q H' p
      rw [show dueN m k1 = ((m - k1) / Nat.gcd (m - k1) m, m / Nat.gcd (m - k1) m) from if_neg c] at z
      generalize Nat.gcd (m - k1) m = g at gp gl z ⊢
      walk_at "rd"
      refine ⟨sz (by show 2 ≤ 100000; decide), fun p fp => ?_⟩
      have d1 : ((m : Int) - (k1 : Nat)) / (g : Int) = (((m - k1) / g : Nat) : Int) := by rw [show (m : Int) - (k1 : Nat) = ((m - k1 : Nat) : Int) by omega]; exact (Int.natCast_ediv _ _).symm
      have d2 : (m : Int) / (g : Int) = ((m / g : Nat) : Int) := (Int.natCast_ediv _ _).symm
      rw [d1, d2]
      have sp := same_new (o := .tup [V.int ((m - k1) / g : Nat), V.int (m / g : Nat)]) fp
      exact z _ p (KS.trans ks1 (KS.of sp)) (tabS_same tab1 sp) upd_same
/-- how many places the two have joined -/
def spJoin (K : PySem.W.Frag) (PP : Addr) : Sp := fun vs H Q _ => ∃ (v v' : V) (u u' : Web) (k : Nat), vs = [v, v'] ∧ WebAt K H v u ∧ WebAt K H v' u' ∧ WOk u ∧ WOk u' ∧ u.1.length ≤ 7 ∧ u'.1.length ≤ 7 ∧ TabN (fun _ => False) H PP qC ∧ GrL u u' k ∧
  ∀ H', KS (fun b => b = PP) H H' → TabN (fun _ => False) H' PP qC → Q (.int (((u.1.length : Nat) : Int) + (u'.1.length : Nat) - (k : Nat))) H'
theorem ok_joined_size (T : Tx K mg base) : FnOk P w K mg base CX0 35 T.joined_size.f T.joined_size.fd ["one", "other"] (spJoin K T.P_LyingRules_choices) := by
  refine T.joined_size.F.ok sc_joined_size (fun vs H Q E h => ?_) (fun cdv A outer s H vs Q E hr h => ?_)
  · obtain ⟨_, _, _, _, _, rfl, _⟩ := h; rfl
  · obtain ⟨v, v', u, u', k, rfl, hw, hw', U, U', l7, l7', tab, gr, q⟩ := h
    obtain ⟨a1, _, _, e1, _⟩ := id hw
    subst e1
    obtain ⟨a2, _, _, e2, _⟩ := id hw'
    subst e2
    refine ⟨_, (pss_cons (ps_asg (pe_call (ok_greatest_lying T) (hr.mono (by decide)) (by rfl) T.greatest_lying.g T.greatest_lying.F.kp T.greatest_lying.b .nil pass0 (pa_cons (pv 0) (pa_cons (pv 1) pa_nil))) (pg_tup rfl (pgs_cons (pg_name (i := 2) sc_joined_size.nd rfl (.inl rfl)) (pgs_cons (pg_name (i := 3) sc_joined_size.nd rfl (.inl rfl)) pgs_nil))))
      (pss_one (ps_ret (pe_op op_sub (pe_op op_add (pe_callB call_len_str (by rfl) T.m_len (by decide +kernel) (pa_cons (pe_ix ix_tup (pv 0) pe_int (fun _ _ => rfl)) pa_nil)) (pe_callB call_len_str (by rfl) T.m_len (by decide +kernel) (pa_cons (pe_ix ix_tup (pv 1) pe_int (fun _ _ => rfl)) pa_nil))) (pv 2))))), ?_⟩
    walk_at "rd"
    refine ⟨_, _, u, u', rfl, hw, hw', U, U', lim77 l7 l7', tab, fun H1 p1 D1 pv1 k1 m1 ks1 tab1 fp1 ep1 fD1 eD1 pp1 gr1 fl1 => ?_⟩
    obtain rfl : k1 = k := gr1.one gr
    obtain ⟨t0, et0⟩ := tab.at
    obtain ⟨b1, tv1, q1, _, _⟩ := web_at (web_ks ks1 et0 hw)
    obtain ⟨b2, tv2, q2, _, _⟩ := web_at (web_ks ks1 et0 hw')
    refine d_gtup (SqT.of ep1) rfl ?_
    walk_at "rd"
    refine d_ixT q1 rfl ?_
    refine d_lenS (z := ⟨u.1.toArray⟩) (sz (by rw [str_len78]; omega)) ?_
    rw [str_len78]
    walk_at "rd"
    refine d_ixT q2 rfl ?_
    refine d_lenS (z := ⟨u'.1.toArray⟩) (sz (by rw [str_len78]; omega)) ?_
    rw [str_len78]
    walk_at "rd"
    exact q H1 ks1 tab1
theorem shaped_two (a b : Nat) : SeqAt.shaped (.tuple [.int (a : Nat), .int (b : Nat)]) = true := by
  have h := pairD_lay (a, b)
  show (PyData.canLay0 _ && decide _) = true
  rw [show PyData.canLay0 (.tuple [.int (a : Nat), .int (b : Nat)]) = true from h.1, decide_eq_true (show PyData.depth (.tuple [.int (a : Nat), .int (b : Nat)]) ≤ 64 from Nat.le_trans h.2 (by decide))]
  rfl
/-- a drawn web of so many places -/
def spDrawn (K : PySem.W.Frag) : Sp := fun vs H Q _ => ∃ (h : Addr) (n : Nat) (f : Int), vs = [.ref h, .int (n : Nat), .int f] ∧ n ≤ 40 ∧ 0 < f ∧ f ≤ 26 ∧ Pot H h ∧ ∀ H' v w, Keep h H H' → Pot H' h → WebAt K H' v w → WOk w → w.1.length = n → Q v H'
theorem ok_drawn (T : Tx K mg base) : FnOk P w K mg base CX0 4 T.drawn.f T.drawn.fd ["pot", "many", "few"] (spDrawn K) := by
  refine T.drawn.F.ok sc_drawn (fun vs H Q E h => ?_) (fun cdv A outer s H vs Q E hr h => ?_)
  · obtain ⟨_, _, _, rfl, _⟩ := h; rfl
  · obtain ⟨h, n, f, rfl, n40, f0, f26, hh, q⟩ := h
    refine ⟨_, (pss_cons (ps_set (i := 3) sc_drawn.nd rfl (.inl rfl) (pe_join pe_str (pe_lc (own := [("place", 6)]) (g := gName 6) (tt := tYes) (te := tCall spLetter [] E0 (tCons (tVar 0) (tCons (tVar 2) tNil))) rfl sc_drawn.nd (pi_range1 (by rfl) T.m_range (pa_cons (pv 1) pa_nil)) (blkOk_by (N := ["pot", "many", "few", "kinds", "often", "ties", "place", "beside"]) (sc := defScope s_drawn) (by decide +kernel)) (fun _ _ _ _ _ => (pg_name (i := 6) sc_drawn.nd rfl (.inl rfl))) (fun _ _ _ _ _ => pts_nil) (fun _ _ _ _ _ => (pe_call (ok_letter T) (hr.mono (by decide)) (by rfl) T.letter.g T.letter.F.kp T.letter.b .nil pass0 (pa_cons (pv 0) (pa_cons (pv 2) pa_nil)))))))
      (pss_cons (ps_set (i := 4) sc_drawn.nd rfl (.inl rfl) (pe_op op_add pe_int (pe_call (ok_take T) (hr.mono (by decide)) (by rfl) T.take.g T.take.F.kp T.take.b .nil pass0 (pa_cons (pv 0) (pa_cons pe_int pa_nil)))))
      (pss_cons (ps_set (i := 5) sc_drawn.nd rfl (.inl rfl) (pe_lst pa_nil))
      (pss_cons (ps_for PassesOwn.never rfl (pi_range1 (by rfl) T.m_range (pa_cons (pv 1) pa_nil)) (pg_name (i := 6) sc_drawn.nd rfl (.inl rfl))
        (pss_one (ps_for PassesOwn.never rfl (pi_range2 (by rfl) T.m_range (pa_cons (pe_op op_add (pv 6) pe_int) (pa_cons (pv 1) pa_nil))) (pg_name (i := 7) sc_drawn.nd rfl (.inl rfl))
          (pss_one (ps_if (pt_cmpR op_lt (pe_call (ok_take T) (hr.mono (by decide)) (by rfl) T.take.g T.take.F.kp T.take.b .nil pass0 (pa_cons (pv 0) (pa_cons pe_int pa_nil))) (pv 4) (nomark _))
            (pss_one (ps_expr (pe_bm PySem.F.plainAttrs_list PySem.F.slot_list_append PySem.F.type_list_append mt_append (pv 5) (pa_cons (pe_tup (pa_cons (pv 6) (pa_cons (pv 7) (pa_cons (pe_call (ok_letter T) (hr.mono (by decide)) (by rfl) T.letter.g T.letter.F.kp T.letter.b .nil pass0 (pa_cons (pv 0) (pa_cons (pv 2) pa_nil))) pa_nil)))) pa_nil))))
            pss_nil)))))
      (pss_one (ps_ret (pe_tup (pa_cons (pv 3) (pa_cons (pe_callTy call_tuple_of (by rfl) T.m_tuple (by decide +kernel) (pa_cons (pv 5) pa_nil)) pa_nil))))))))), ?_⟩
    walk_at "rd"
    intro D fD
    have nD := hh.ne fD
    refine lc_range (fun i H' => ∃ cs : List Nat, cs.length = i ∧ (∀ c ∈ cs, Ltr c) ∧ H' D = some (.lst (cs.map fun c => V.str (sg c))) ∧ Keep h H H' ∧ Pot H' h) ⟨[], rfl, by simp, upd_same, Same.keep (same_new fD), hh.put nD⟩ (fun i H' hi8 hP => ?_) (fun H' hP => ?_)
    · obtain ⟨cs, hlen, hl, eD, kk, hh'⟩ := hP
      have hi8 : i < n := by simpa using hi8
      walk_at "rd"
      refine ⟨h, f, rfl, f0, f26, hh', fun H4 c k4 hh4 lc => ?_⟩
      refine ⟨_, k4 D _ nD eD, szl (by rw [List.length_map]; omega), cs ++ [c], by rw [List.length_append, hlen]; rfl, ?_, by rw [upd_same, List.map_append]; rfl, Keep.new (Keep.trans kk k4) fD, hh4.put nD⟩
      intro x hx
      rcases List.mem_append.mp hx with hx | hx
      · exact hl x hx
      · rw [List.mem_singleton.mp hx]; exact lc
    obtain ⟨cs, hlen, hl, eD, kk, hh'⟩ := hP
    rw [Int.toNat_natCast] at hlen
    refine ⟨_, D, cs.map sg, rfl, rfl, .inl (SqL.of (by rw [List.map_map]; exact eD)), ?_, ?_⟩
    · rw [sum_const _ 1 _ (by intro x hx; obtain ⟨c, _, rfl⟩ := List.mem_map.mp hx; rfl), List.length_map]
      have e0 : (Str.ofString "").length = 0 := by decide +kernel
      rw [e0]; exact sz (by omega)
    rw [join_signs]
    walk_at "rd"
    refine ⟨h, 4, rfl, by decide, by decide, hh', fun H4 g4 k4 hh4 g40 g44 => ?_⟩
    walk_at "rd"
    refine ⟨sz (by decide), fun l fl => ?_⟩
    walk_at "rd"
    have kB : Keep h H H4 := Keep.trans kk k4
    have nl := hh4.ne fl
    refine for_range (fun i σ H7 => ∃ y6 y7 ts tvs, σ = [some (.ref h), some (.int (n : Nat)), some (.int f), some (.str ⟨cs.toArray⟩), some (.int (1 + g4)), some (.ref l), y6, y7] ∧ H7 l = some (.lst tvs) ∧ Paired (TieAt K H7) tvs ts ∧ ts.Pairwise tlt ∧
      (∀ t ∈ ts, t.1 < i ∧ t.1 < t.2.1 ∧ t.2.1 < n ∧ Ltr t.2.2) ∧ ts.length ≤ 40 * i ∧ Keep h H4 H7 ∧ Pot H7 h) ⟨_, _, [], [], rfl, upd_same, .nil, .nil, by simp, by simp, Same.keep (same_new fl), hh4.put nl⟩ (fun i σ H7 hi7 hP => ?_) (fun σ H7 hP => ?_)
    · obtain ⟨y6, y7, ts, tvs, rfl, eL, pT, sT, bT, lT, k7, hh7⟩ := hP
      have hi7 : i < n := by simpa using hi7
      walk_at "rd"
      refine for_range (fun j σ H8 => ∃ y7 ts tvs, σ = [some (.ref h), some (.int (n : Nat)), some (.int f), some (.str ⟨cs.toArray⟩), some (.int (1 + g4)), some (.ref l), some (.int (0 + (i : Nat))), y7] ∧ H8 l = some (.lst tvs) ∧ Paired (TieAt K H8) tvs ts ∧ ts.Pairwise tlt ∧
        (∀ t ∈ ts, (t.1 < i ∨ (t.1 = i ∧ t.2.1 < i + 1 + j)) ∧ t.1 < t.2.1 ∧ t.2.1 < n ∧ Ltr t.2.2) ∧ ts.length ≤ 40 * i + j ∧ Keep h H4 H8 ∧ Pot H8 h) ⟨_, ts, tvs, rfl, eL, pT, sT, fun t ht => ⟨.inl (bT t ht).1, (bT t ht).2⟩, lT, k7, hh7⟩ (fun j σ H8 hj hP => ?_) (fun σ H8 hP => ?_)
      · obtain ⟨z7, us, uvs, rfl, eL8, pU, sU, bU, lU, k8, hh8⟩ := hP
        walk_at "rd"
        refine ⟨h, 5, rfl, by decide, by decide, hh8, fun H9 g9 k9 hh9 g90 g95 => ?_⟩
        have eL9 := k9 l _ nl eL8
        obtain ⟨n8, e8⟩ := hh8.lst
        have pU9 : Paired (TieAt K H9) uvs us := Paired.imp pU fun _ _ z => z.keep k9 e8
        walk_at "rd"
        refine ite2 (fun e => ?_) (fun e => ?_)
        · walk_at "rd"
          refine d_app eL9 ?_
          walk_at "rd"
          refine ⟨h, f, rfl, f0, f26, hh9, fun HA c kA hhA lc => ?_⟩
          have eLA := kA l _ nl eL9
          obtain ⟨n9, e9⟩ := hh9.lst
          have pUA : Paired (TieAt K HA) uvs us := Paired.imp pU9 fun _ _ z => z.keep kA e9
          have k8A := Keep.trans k8 (Keep.trans k9 kA)
          walk_at "rd"
          refine ⟨sz (by show 3 ≤ 100000; decide), fun p fp => ?_⟩
          walk_at "rd"
          have npl : l ≠ p := ne_of_none eLA fp
          have eLa : (upd HA p (.tup [V.int (0 + (i : Nat)), V.int (0 + (i : Nat) + 1 + (j : Nat)), V.str (sg c)])) l = some (.lst uvs) := by rw [upd_ne npl]; exact eLA
          have luv : uvs.length = us.length := Paired.length pU
          refine d_append eLa (szl (by omega)) ?_
          refine ⟨_, us ++ [(i, i + 1 + j, c)], uvs ++ [.ref p], rfl, upd_same, ?_, ?_, ?_, ?_, ?_, ?_⟩
          · have lst9 : ∃ ys, (upd HA p (.tup [V.int (0 + (i : Nat)), V.int (0 + (i : Nat) + 1 + (j : Nat)), V.str (sg c)])) l = some (.lst ys) := ⟨_, eLa⟩
            refine Paired.snoc (Paired.imp pUA fun _ _ z => (z.put (.inl fp)).put (.inr lst9)) ⟨p, rfl, ?_⟩
            refine sqt_upd (.inr lst9) (SqT.of ?_)
            rw [upd_same]
            simp only [Int.zero_add]
            rfl
          · refine List.pairwise_append.mpr ⟨sU, List.pairwise_singleton _ _, fun a ha b hb => ?_⟩
            rw [List.mem_singleton.mp hb]
            rcases (bU a ha).1 with z | ⟨z1, z2⟩
            · exact .inl z
            · exact .inr ⟨z1, z2⟩
          · intro t ht
            rcases List.mem_append.mp ht with ht | ht
            · obtain ⟨z1, z2⟩ := bU t ht
              refine ⟨?_, z2⟩
              rcases z1 with z | ⟨z3, z4⟩
              · exact .inl z
              · exact .inr ⟨z3, by omega⟩
            · rw [List.mem_singleton.mp ht]
              exact ⟨.inr ⟨rfl, by show i + 1 + j < i + 1 + (j + 1); omega⟩, by show i < i + 1 + j; omega, by show i + 1 + j < n; omega, lc⟩
          · rw [List.length_append]
            show us.length + 1 ≤ 40 * i + (j + 1)
            omega
          · exact Keep.new (Keep.new k8A (Keep.free k8A (hhA.ne fp) fp)) fl
          · exact (hhA.put (hhA.ne fp)).put nl
        · walk_at "rd"
          exact ⟨_, us, uvs, rfl, eL9, pU9, sU, fun t ht => ⟨(bU t ht).1.imp id fun z => ⟨z.1, by omega⟩, (bU t ht).2⟩, by omega, Keep.trans k8 k9, hh9⟩
      · obtain ⟨z7, us, uvs, rfl, eL8, pU, sU, bU, lU, k8, hh8⟩ := hP
        refine ⟨_, _, us, uvs, rfl, eL8, pU, sU, fun t ht => ⟨?_, (bU t ht).2⟩, by omega, k8, hh8⟩
        rcases (bU t ht).1 with z | ⟨z, _⟩ <;> omega
    · obtain ⟨y6, y7, ts, tvs, rfl, eL, pT, sT, bT, lT, k7, hh7⟩ := hP
      walk_at "rd"
      refine ⟨l, tvs, rfl, .inl ⟨SqL.of eL, fun t ft => ?_⟩⟩
      walk_at "rd"
      refine ⟨sz (by show 2 ≤ 100000; decide), fun a fa => ?_⟩
      refine q _ _ (cs, ts) ?_ ?_ ?_ ⟨by show cs.length ≤ 40; omega, by show ts.length ≤ 1600; rw [Int.toNat_natCast] at lT; omega, hl, sT, fun t ht => ⟨(bT t ht).2.1, by show t.2.1 < cs.length; rw [hlen]; exact (bT t ht).2.2.1, (bT t ht).2.2.2⟩⟩ hlen
      · exact Keep.same (Keep.same (Keep.trans kB k7) (same_new ft)) (same_new fa)
      · exact (hh7.put (hh7.ne ft)).put ((hh7.put (hh7.ne ft)).ne fa)
      · exact ⟨a, t, tvs, rfl, SqT.of upd_same, sqt_upd (.inl fa) (SqT.of upd_same), Paired.imp pT fun _ _ z => (z.put (.inl ft)).put (.inl fa)⟩
/-- the places with their numbers -/
def numL (os : List Nat) (i : Nat) : Lead := (List.range i).map fun k => (os.getD k 0, k)
theorem numL_snoc (os : List Nat) (i : Nat) : numL os (i + 1) = numL os i ++ [(os.getD i 0, i)] := by unfold numL; rw [List.range_succ, List.map_append]; rfl
theorem num_val {os : List Nat} (nd : os.Nodup) (p : Nat) : ∀ i, i ≤ os.length → valV (mergeK [] ((numL os i).map fun p => ((.inl (p.1 : Int) : Key), V.int (p.2 : Nat)))) (.inl (p : Int)) = (posOf (os.take i) p).map fun k => V.int (k : Nat)
  | 0, _ => rfl
  | i + 1, hi => by
    have hi' : i < os.length := by omega
    have ei := os_at hi'
    have ih := num_val nd p i (by omega)
    unfold mergeK at ih ⊢
    rw [numL_snoc, List.map_append, List.foldl_append]
    show valV (putK _ (.inl ((os.getD i 0 : Nat) : Int) : Key) (V.int (i : Nat))) _ = _
    have ni : os.getD i 0 ∉ os.take i := fun hm => by
      obtain ⟨j, hj, e⟩ := List.getElem_of_mem hm
      rw [List.length_take] at hj
      rw [List.getElem_take] at e
      have := nodup_at nd (i := j) (j := i) (x := os.getD i 0) (by rw [List.getElem?_eq_getElem (by omega), e]) ei
      omega
    rw [valV_put, take_snoc ei, posOf_snoc _ _ _ ni, List.length_take, Nat.min_eq_left (by omega), ih]
    by_cases e : p = os.getD i 0
    · rw [if_pos e, if_pos (by rw [e])]; rfl
    · rw [if_neg e, if_neg (by intro z; injection z with z; omega)]
/-- the cut of a web by rising places -/
def spCutL (K : PySem.W.Frag) : Sp := fun vs H Q _ => ∃ (v : V) (w : Web) (o : Addr) (os : List Nat), vs = [v, .ref o] ∧ WebAt K H v w ∧ WOk w ∧ H o = some (.lst (os.map fun q => V.int (q : Nat))) ∧ os.Pairwise (· < ·) ∧ (∀ q ∈ os, q < w.1.length) ∧
  ∀ H' v', Same H H' → WebAt K H' v' (cutL w os) → Q v' H'
theorem ok_cut (T : Tx K mg base) : FnOk P w K mg base CX0 1 T.cut.f T.cut.fd ["web", "places"] (spCutL K) := by
  refine T.cut.F.ok sc_cut (fun vs H Q E h => ?_) (fun cdv A outer s H vs Q E hr h => ?_)
  · obtain ⟨_, _, _, _, rfl, _⟩ := h; rfl
  · obtain ⟨v, w, o, os, rfl, ⟨a, b, tvs, rfl, q1, q2, pT⟩, W, eO, rise, bo, q⟩ := h
    have lt : tvs.length = w.2.length := Paired.length pT
    have l16 := W.most
    have l40 := W.few
    have ndo : os.Nodup := rise.imp Nat.ne_of_lt
    have lo : os.length ≤ 40 := Nat.le_trans (nodup_len _ os ndo bo) l40
    refine ⟨_, (pss_cons (ps_set (i := 2) sc_cut.nd rfl (.inl rfl) (pe_callTy (call_dictP rfl) (by rfl) T.m_dict (by decide +kernel) (pa_cons (pe_lc (own := [("k", 7), ("place", 4)]) (g := gTup K 2 (gCons (gName 7) (gCons (gName 4) gNil))) (tt := tYes) (te := tTup (tCons (tVar 4) (tCons (tVar 7) tNil))) rfl sc_cut.nd (pi_enum (by rfl) T.m_enumerate (pa_cons (pv 1) pa_nil)) (blkOk_by (N := ["web", "places", "names", "ties", "place", "beside", "kind", "k"]) (sc := defScope s_cut) (by decide +kernel)) (fun _ _ _ _ _ => (pg_tup rfl (pgs_cons (pg_name (i := 7) sc_cut.nd rfl (.inl rfl)) (pgs_cons (pg_name (i := 4) sc_cut.nd rfl (.inl rfl)) pgs_nil)))) (fun _ _ _ _ _ => pts_nil) (fun _ _ _ _ _ => (pe_tup (pa_cons (pv 4) (pa_cons (pv 7) pa_nil))))) pa_nil)))
      (pss_cons (ps_set (i := 3) sc_cut.nd rfl (.inl rfl) (pe_lst pa_nil))
      (pss_cons (ps_for PassesOwn.never rfl (pi_tup (pe_ix ix_tup (pv 0) pe_int (fun _ _ => rfl))) (pg_tup rfl (pgs_cons (pg_name (i := 4) sc_cut.nd rfl (.inl rfl)) (pgs_cons (pg_name (i := 5) sc_cut.nd rfl (.inl rfl)) (pgs_cons (pg_name (i := 6) sc_cut.nd rfl (.inl rfl)) pgs_nil))))
        (pss_one (ps_if (PW.pt (pw_and (pt_cmp (pc_din (hu_of hr) (pv 4) (pv 2))) (pw_and1 (pt_cmp (pc_din (hu_of hr) (pv 5) (pv 2))))))
          (pss_one (ps_expr (pe_bm PySem.F.plainAttrs_list PySem.F.slot_list_append PySem.F.type_list_append mt_append (pv 3) (pa_cons (pe_tup (pa_cons (pe_dget (hu_of hr) (pv 2) (pv 4) (fun _ _ => rfl)) (pa_cons (pe_dget (hu_of hr) (pv 2) (pv 5) (fun _ _ => rfl)) (pa_cons (pv 6) pa_nil)))) pa_nil))))
          pss_nil)))
      (pss_one (ps_ret (pe_tup (pa_cons (pe_join pe_str (pe_lc (own := [("place", 4)]) (g := gName 4) (tt := tYes) (te := tOp rIxS (tOp (rIxT K) (tVar 0) (tC (.int 0))) (tVar 4)) rfl sc_cut.nd (pi_list (pv 1)) (blkOk_by (N := ["web", "places", "names", "ties", "place", "beside", "kind", "k"]) (sc := defScope s_cut) (by decide +kernel)) (fun _ _ _ _ _ => (pg_name (i := 4) sc_cut.nd rfl (.inl rfl))) (fun _ _ _ _ _ => pts_nil) (fun _ _ _ _ _ => (pe_ix ix_str (pe_ix ix_tup (pv 0) pe_int (fun _ _ => rfl)) (pv 4) (fun _ _ => rfl))))) (pa_cons (pe_callTy call_tuple_of (by rfl) T.m_tuple (by decide +kernel) (pa_cons (pv 3) pa_nil)) pa_nil)))))))), ?_⟩
    walk_at "rd"
    refine ⟨o, _, rfl, SqL.of eO, ?_⟩
    intro C fC
    refine lc_it (walk_enum (K := K) (a := o) (xs := os.map fun o => V.int (o : Nat))) (fun i H' => ∃ xs, H' C = some (.lst xs) ∧ Pairs K H' xs (numL os i) ∧ Same H H') ⟨[], upd_same, .nil, same_new fC⟩ (fun i H' _ hP => ?_) (fun i x H'' H' hi hP hy => ?_) (fun H' hP => ?_)
    · obtain ⟨_, _, _, s2⟩ := hP
      exact SqL.of (s2 _ _ eO)
    · obtain ⟨xs, eC, px, s2⟩ := hP
      obtain ⟨T', x', y', rfl, fT, rfl, ex, ey⟩ := hy
      have hi' : i < os.length := by simpa using hi
      have ex' : x' = V.int (i : Nat) := (Option.some.inj ex).symm
      subst ex'
      have ey' : y' = V.int (os.getD i 0 : Nat) := by
        have z : (os.map fun o => V.int (o : Nat))[i]? = some y' := ey
        rw [List.getElem?_map, os_at hi'] at z
        exact (Option.some.inj z).symm
      subst ey'
      refine d_gtupm upd_same rfl ?_
      have sT := same_new (o := .tup [V.int (i : Nat), V.int (os.getD i 0 : Nat)]) fT
      have eC1 := sT _ _ eC
      have px1 := px.same sT
      have s3 := Same.trans s2 sT
      generalize upd H'' T' _ = H3 at sT eC1 px1 s3 ⊢
      have lx := px.len
      unfold numL at lx
      rw [List.length_map, List.length_range] at lx
      walk_at "rd"
      refine ⟨sz (by show 2 ≤ 100000; decide), fun r fr => ?_⟩
      have sr := same_new (o := .tup [V.int (os.getD i 0 : Nat), V.int (i : Nat)]) fr
      have er := upd_same (H := H3) (a := r) (o := .tup [V.int (os.getD i 0 : Nat), V.int (i : Nat)])
      have eC2 := sr _ _ eC1
      have px2 := px1.same sr
      have s4 := Same.trans s3 sr
      generalize upd H3 r _ = H4 at sr er eC2 px2 s4 ⊢
      refine ⟨_, eC2, szl (by omega), xs ++ [V.ref r], upd_same, ?_, same_upd s4 fC⟩
      rw [numL_snoc]
      exact Pairs.keep (Paired.snoc px2 ⟨r, rfl, SqT.of er⟩) Keep.put eC2
    obtain ⟨xs, eC, px, s2⟩ := hP
    rw [List.length_map] at px
    obtain ⟨ps, rfl, pr⟩ := Pairs.refs px
    refine ⟨C, ps, _, rfl, SqL.of eC, pr, fun D fD => ?_⟩
    have sD := same_new (o := .dK (mergeK [] ((numL os os.length).map fun p => ((.inl (p.1 : Int) : Key), V.int (p.2 : Nat))))) fD
    have eD := upd_same (H := H') (a := D) (o := .dK (mergeK [] ((numL os os.length).map fun p => ((.inl (p.1 : Int) : Key), V.int (p.2 : Nat)))))
    have hk : ∀ p : Nat, valV (mergeK [] ((numL os os.length).map fun p => ((.inl (p.1 : Int) : Key), V.int (p.2 : Nat)))) (.inl (p : Int)) = (posOf os p).map fun k => V.int (k : Nat) := fun p => by
      have := num_val ndo p os.length (Nat.le_refl _)
      rwa [List.take_length] at this
    generalize mergeK [] ((numL os os.length).map fun p => ((.inl (p.1 : Int) : Key), V.int (p.2 : Nat))) = kvs at sD eD hk ⊢
    have s12 := Same.trans s2 sD
    generalize upd H' D _ = H2 at sD eD s12 ⊢
    have eK2 := s12 _ _ eO
    walk_at "rd"
    refine ⟨sz (by decide), fun F fF => ?_⟩
    have fF0 := Same.free s12 fF
    have nDF : D ≠ F := ne_of_none eD fF
    have s3 := same_upd (o := .lst []) s12 fF0
    have eD3 := at_upd (u := .lst []) eD fF
    have eF3 := upd_same (H := H2) (a := F) (o := .lst [])
    generalize upd H2 F _ = H3 at s3 eD3 eF3 ⊢
    walk_at "rd"
    refine d_ixT (Same.sqt s3 q1) rfl ?_
    walk_at "rd"
    refine d_iTe (Same.sqt s3 q2) ?_
    refine for_it (walk_tup (xs := tvs)) (fun i σ H' => ∃ y4 y5 y6 y7 fs, σ = [some (.ref a), some (.ref o), some (.ref D), some (.ref F), y4, y5, y6, y7] ∧ Same H H' ∧ H' D = some (.dK kvs) ∧ H' F = some (.lst fs) ∧ Ties K H' fs ((w.2.take i).filterMap (cutTie os)))
      ⟨_, _, _, _, [], rfl, s3, eD3, eF3, .nil⟩ (fun i σ H' hi hP => ?_) (fun i x σ H'' H' hi hP hy => ?_) (fun σ H' hP => ?_)
    · obtain ⟨_, _, _, _, _, _, s4, _⟩ := hP
      exact Same.sqt s4 q2
    · obtain ⟨y4, y5, y6, y7, fs, rfl, s4, eD4, eF4, tt⟩ := hP
      have eK4 := s4 _ _ eO
      obtain ⟨rfl, hx⟩ := hy
      obtain ⟨t, ht, ta, rfl, qt⟩ := Paired.at pT hx
      refine d_gtup (Same.sqt s4 qt) rfl ?_
      have g1 := DGet.k (k := .inl (t.1 : Int)) eD4
      have g2 := DGet.k (k := .inl (t.2.1 : Int)) eD4
      rw [hk] at g1 g2
      have no : cutTie os t = none → Ties K H' fs ((w.2.take (i + 1)).filterMap (cutTie os)) := fun z => by
        rw [cutTie_snoc ht, z]
        show Ties K H' fs (_ ++ [])
        rw [List.append_nil]; exact tt
      walk_at "rd"
      refine ⟨D, _, rfl, g1, ?_⟩
      walk_at "rd"
      rw [Option.isSome_map]
      refine ite2 (fun c1 => ?_) (fun c1 => ?_)
      · obtain ⟨x1, e1⟩ := Option.isSome_iff_exists.mp c1
        walk_at "rd"
        refine ⟨D, _, rfl, g2, ?_⟩
        walk_at "rd"
        rw [Option.isSome_map]
        refine ite2 (fun c2 => ?_) (fun c2 => ?_)
        · obtain ⟨x2, e2⟩ := Option.isSome_iff_exists.mp c2
          rw [e1] at g1
          rw [e2] at g2
          walk_at "rd"
          refine d_app eF4 ?_
          walk_at "rd"
          refine ⟨D, _, rfl, g1, ?_⟩
          walk_at "rd"
          refine ⟨D, _, rfl, g2, ?_⟩
          walk_at "rd"
          refine ⟨sz (by show 3 ≤ 100000; decide), fun p fp => ?_⟩
          have lfs := tt.len
          have := List.length_filterMap_le (cutTie os) (w.2.take i)
          have := List.length_take_le i w.2
          walk_at "rd"
          refine d_append (at_upd eF4 fp) (szl (by omega)) ?_
          have ec : cutTie os t = some (x1, x2, t.2.2) := by unfold cutTie; rw [e1, e2]; rfl
          refine ⟨_, _, _, _, _, rfl, same_upd (same_upd s4 (Same.free s4 fp)) fF0, by rw [upd_ne nDF]; exact at_upd eD4 fp, upd_same, ?_⟩
          rw [cutTie_snoc ht, ec]
          exact tt.more (t := (x1, x2, t.2.2)) eF4 fp
        · walk_at "rd"
          have en : posOf os t.2.1 = none := by cases e : posOf os t.2.1 with | none => rfl | some => rw [e] at c2; exact absurd rfl c2
          exact ⟨_, _, _, _, fs, rfl, s4, eD4, eF4, no (by unfold cutTie; rw [e1, en]; rfl)⟩
      · walk_at "rd"
        have en : posOf os t.1 = none := by cases e : posOf os t.1 with | none => rfl | some => rw [e] at c1; exact absurd rfl c1
        exact ⟨_, _, _, _, fs, rfl, s4, eD4, eF4, no (by unfold cutTie; rw [en]; rfl)⟩
    obtain ⟨y4, y5, y6, y7, fs, rfl, s4, eD4, eF4, tt⟩ := hP
    have eK4 := s4 _ _ eO
    rw [lt, List.take_length] at tt
    walk_at "rd"
    refine d_iLe (SqL.of eK4) ?_
    intro C fC
    refine lc_list (K := K) (a := o) (xs := os.map fun o => V.int (o : Nat)) (fun k H5 => H5 C = some (.lst (((os.take k).map fun p => w.1.getD p 0).map fun c => V.str (sg c))) ∧ Same H' H5) ⟨upd_same, same_new fC⟩ (fun k H5 _ hP => SqL.of (hP.2 _ _ eK4)) (fun k x H5 hx hP => ?_) (fun H5 hP => ?_)
    · obtain ⟨eC, s5⟩ := hP
      rw [List.getElem?_map] at hx
      obtain ⟨p, hp, rfl⟩ := Option.map_eq_some_iff.mp hx
      have lp := bo p (List.mem_of_getElem? hp)
      have lk := (List.getElem?_eq_some_iff.mp hp).1
      walk_at "rd"
      refine d_ixT (Same.sqt (Same.trans s4 s5) q1) rfl ?_
      walk_at "rd"
      refine ⟨⟨w.1.toArray⟩, (p : Nat), w.1.getD p 0, rfl, rfl, sz (by show w.1.toArray.size ≤ 100000; simp; omega), atI_nat (by show w.1.toArray.toList[p]? = _; simp [lp]), ?_⟩
      refine ⟨_, eC, szl (by rw [List.length_map, List.length_map, List.length_take]; omega), ?_, same_upd s5 fC⟩
      rw [upd_same, take_snoc hp, List.map_append, List.map_append]; rfl
    obtain ⟨eC, s5⟩ := hP
    rw [List.length_map, List.take_length] at eC
    refine ⟨_, C, (os.map fun p => w.1.getD p 0).map sg, rfl, rfl, .inl (SqL.of (by rw [List.map_map]; exact eC)), ?_, ?_⟩
    · rw [sum_const _ 1 _ (by intro x hx; obtain ⟨c, _, rfl⟩ := List.mem_map.mp hx; rfl), List.length_map, List.length_map]
      have e0 : (Str.ofString "").length = 0 := by decide +kernel
      rw [e0]; omega
    rw [join_signs]
    walk_at "rd"
    have eF5 := s5 _ _ eF4
    have tt5 := tt.same s5
    refine ⟨F, fs, rfl, .inl ⟨SqL.of eF5, fun R fR => ?_⟩⟩
    walk_at "rd"
    refine ⟨sz (by show 2 ≤ 100000; decide), fun W' fW => ?_⟩
    refine q _ _ (Same.trans s4 (Same.trans s5 (Same.trans (same_new fR) (same_new fW)))) ⟨W', R, fs, rfl, SqT.of upd_same, SqT.of (at_upd upd_same fW), (tt5.put (.inl fR)).put (.inl fW)⟩
theorem sl78 (l : List Nat) : (⟨l.toArray⟩ : Str).length = l.length := by show l.toArray.size = _; simp
structure PX (K : PySem.W.Frag) (PP h : Addr) (H0 H : Hp) : Prop where
  ks : KS (fun b => b = PP) H0 H
  tab : TabN (fun _ => False) H PP qC
  pot : Pot H h
  fresh : H0 h = none
section
variable {PP h : Addr} {H0 H H' : Hp}
theorem PX.same (x : PX K PP h H0 H) (s : Same H H') : PX K PP h H0 H' := ⟨KS.trans x.ks (KS.of s), tabS_same x.tab s, x.pot.same s, x.fresh⟩
theorem PX.keep (x : PX K PP h H0 H) (k : Keep h H H') (p : Pot H' h) : PX K PP h H0 H' := by
  obtain ⟨ys, e⟩ := x.pot.lst
  exact ⟨fun b o n eb => k b o (fun z => by rw [z, x.fresh] at eb; cases eb) (x.ks b o n eb), tabN_keep x.tab k e, p, x.fresh⟩
theorem pot_ks (x : Pot H h) (t : TabN (fun _ => False) H PP qC) (k : KS (fun b => b = PP) H H') : Pot H' h := by
  obtain ⟨d, c, m, e, r⟩ := x
  obtain ⟨t0, et⟩ := t.at
  exact ⟨d, c, m, k _ _ (fun z => by rw [z, et] at e; cases e) e, r⟩
theorem PX.kst (x : PX K PP h H0 H) (k : KS (fun b => b = PP) H H') (t : TabN (fun _ => False) H' PP qC) : PX K PP h H0 H' := ⟨KS.trans x.ks k, t, pot_ks x.pot x.tab k, x.fresh⟩
theorem web_keep {v : V} {w : Web} (x : Pot H h) (hw : WebAt K H v w) (k : Keep h H H') : WebAt K H' v w := by
  obtain ⟨ys, e⟩ := x.lst
  exact hw.keep k e
theorem web_kst {v : V} {w : Web} (t : TabN (fun _ => False) H PP qC) (hw : WebAt K H v w) (k : KS (fun b => b = PP) H H') : WebAt K H' v w := by
  obtain ⟨t0, et⟩ := t.at
  exact web_ks k et hw
end
theorem wok_loose {w : Web} (W : WOk w) : Loose w := ⟨W.few, W.most, W.kinds, W.rise.imp fun {x y} h e => by
  unfold Cw.ends at e
  simp only [Prod.mk.injEq] at e
  rcases h with h | h <;> omega, W.ends⟩
/-- ties by their ends, as they stand in a dict -/
def TieDct (H : Hp) (D : Addr) (u : Web) : Prop := ∃ kvs : List (List Key × V), H D = some (.dT kvs) ∧ ∀ a b : Nat, a < b → valV kvs (kEnds a b) = (tieL u.2 a b).map fun c => V.str (sg c)
theorem TieDct.same {H H' : Hp} {D : Addr} {u : Web} (x : TieDct H D u) (s : Same H H') : TieDct H' D u := by
  obtain ⟨kvs, e, h⟩ := x
  exact ⟨kvs, s _ _ e, h⟩
theorem TieDct.keep {H H' : Hp} {D L : Addr} {u : Web} {xs : List V} (x : TieDct H D u) (k : Keep L H H') (e : H L = some (.lst xs)) : TieDct H' D u := by
  obtain ⟨kvs, e1, h⟩ := x
  exact ⟨kvs, k _ _ (fun z => by rw [z, e] at e1; cases e1) e1, h⟩
theorem tie_dct {w : Web} (W : WOk w) {es : List KItem} (h : es.map (fun e => e.2.2) = w.2.map fun t => (kEnds t.1 t.2.1, V.str (sg t.2.2))) (a b : Nat) (ab : a < b) : valV (mergeT es) (kEnds a b) = (tieL w.2 a b).map fun c => V.str (sg c) := by
  unfold mergeT
  rw [valV_merge]
  cases hf : es.reverse.find? (fun e => decide (e.2.2.1 = kEnds a b)) with
  | none =>
    show none = _
    cases ht : tieL w.2 a b with
    | none => rfl
    | some c =>
      have hm := (tieL_mem W).mp ht
      rw [Nat.min_eq_left (Nat.le_of_lt ab), Nat.max_eq_right (Nat.le_of_lt ab)] at hm
      have := (List.mem_map (f := fun t : Tie => (kEnds t.1 t.2.1, V.str (sg t.2.2)))).mpr ⟨_, hm, rfl⟩
      rw [← h] at this
      obtain ⟨e, he, ee⟩ := List.mem_map.mp this
      have := List.find?_eq_none.mp hf e (List.mem_reverse.mpr he)
      rw [show e.2.2.1 = kEnds a b from congrArg Prod.fst ee] at this
      simp at this
  | some e =>
    show some e.2.2.2 = _
    have k : e.2.2.1 = kEnds a b := by have := List.find?_some hf; exact of_decide_eq_true this
    have he := List.mem_reverse.mp (List.mem_of_find?_eq_some hf)
    have := (List.mem_map (f := fun e : KItem => e.2.2)).mpr ⟨e, he, rfl⟩
    rw [h] at this
    obtain ⟨t, ht, et⟩ := List.mem_map.mp this
    have e1 : kEnds t.1 t.2.1 = kEnds a b := (congrArg Prod.fst et).trans k
    have e2 : V.str (sg t.2.2) = e.2.2.2 := congrArg Prod.snd et
    obtain ⟨h1, h2⟩ := kEnds_eq.mp e1
    have z : tieL w.2 a b = some t.2.2 := (tieL_mem W).mpr (by rw [Nat.min_eq_left (Nat.le_of_lt ab), Nat.max_eq_right (Nat.le_of_lt ab), ← h1, ← h2]; exact ht)
    rw [z, ← e2]; rfl
theorem min_int77 (a b : Nat) : (if (b : Int) < (a : Int) then (b : Int) else (a : Int)) = ((min a b : Nat) : Int) := by split <;> omega
/-- whether a pair more fits -/
def spMay (K : PySem.W.Frag) : Sp := fun vs H Q _ => ∃ (D D' lv : Addr) (u u' : Web) (p e : Nat) (ls : List V) (l : Led), vs = [.ref D, .ref D', .ref lv, .int (p : Nat), .int (e : Nat)] ∧ TieDct H D u ∧ TieDct H D' u' ∧ SqT K H lv ls ∧ Paired (PairAt K H) ls l ∧ (∀ x ∈ l, x.1 < p) ∧ ∀ H', Same H H' → Q (.bl (mayB u u' l p e)) H'
theorem ok_may (T : Tx K mg base) : FnOk P w K mg base CX0 1 T.may.f T.may.fd ["ties", "others", "lead", "place", "there"] (spMay K) := by
  refine T.may.F.ok sc_may (fun vs H Q E h => ?_) (fun cdv A outer s H vs Q E hr h => ?_)
  · obtain ⟨_, _, _, _, _, _, _, _, _, rfl, _⟩ := h; rfl
  · obtain ⟨D, D', lv, u, u', p, e, ls, l, rfl, hD, hD', hL, hP, low, q⟩ := h
    have ll : ls.length = l.length := Paired.length hP
    refine ⟨_, (pss_cons (ps_for PassesOwn.never rfl (pi_tup (pv 2)) (pg_tup rfl (pgs_cons (pg_name (i := 5) sc_may.nd rfl (.inl rfl)) (pgs_cons (pg_name (i := 6) sc_may.nd rfl (.inl rfl)) pgs_nil)))
        (pss_cons (ps_set (i := 7) sc_may.nd rfl (.inl rfl) (pe_tup (pa_cons (pe_callB (call_min2 rfl) (by rfl) T.m_min (by decide +kernel) (pa_cons (pv 6) (pa_cons (pv 4) pa_nil))) (pa_cons (pe_callB (call_max2 rfl) (by rfl) T.m_max (by decide +kernel) (pa_cons (pv 6) (pa_cons (pv 4) pa_nil))) pa_nil))))
        (pss_one (ps_if (PW.pt (pw_or (pt_cmpR op_eq (pv 6) (pv 4) (nomark _)) (pw_or1 (pt_cmpR op_ne (pe_dget1 (hu_of hr) (pv 0) (pe_tup (pa_cons (pv 5) (pa_cons (pv 3) pa_nil))) ⟨rfl, rfl, rfl, rfl⟩) (pe_dget1 (hu_of hr) (pv 1) (pv 7) ⟨rfl, rfl, rfl, rfl⟩) (nomark _)))))
          (pss_one (ps_ret pe_bl))
          pss_nil))))
      (pss_one (ps_ret pe_bl))), ?_⟩
    walk_at "rd"
    refine d_iTe hL ?_
    refine for_it (walk_tup (K := K) (a := lv) (xs := ls)) (fun i σ H' => ∃ y5 y6 y7, σ = [some (.ref D), some (.ref D'), some (.ref lv), some (.int (p : Nat)), some (.int (e : Nat)), y5, y6, y7] ∧ Same H H' ∧ ∀ x ∈ l.take i, fitM u u' x (p, e) = true)
      ⟨_, _, _, rfl, Same.refl _, fun x hx => by simp at hx⟩ (fun i σ H' _ hP => ?_) (fun i x σ H'' H' hi hP' hy => ?_) (fun σ H' hP' => ?_)
    · obtain ⟨_, _, _, _, s, _⟩ := hP
      exact Same.sqt s hL
    · obtain ⟨y5, y6, y7, rfl, s1, all⟩ := hP'
      obtain ⟨rfl, hx⟩ := hy
      obtain ⟨t, ht, ta, rfl, qt⟩ := Paired.at hP hx
      have hm := List.mem_of_getElem? ht
      have tp := low t hm
      refine d_gtup (Same.sqt s1 qt) rfl ?_
      walk_at "rd"
      refine ⟨_, _, rfl, ?_⟩
      rw [min_int77]
      walk_at "rd"
      refine ⟨_, _, rfl, ?_⟩
      rw [max_int78]
      walk_at "rd"
      refine ⟨sz (by show 2 ≤ 100000; decide), fun tw ftw => ?_⟩
      have s2 := same_new (o := .tup [V.int (min t.2 e : Nat), V.int (max t.2 e : Nat)]) ftw
      have etw := upd_same (H := H') (a := tw) (o := .tup [V.int (min t.2 e : Nat), V.int (max t.2 e : Nat)])
      generalize upd H' tw _ = H2 at s2 etw ⊢
      have s12 := Same.trans s1 s2
      walk_at "rd"
      refine ite2 (fun c => ?_) (fun c => ?_)
      · have c : t.2 = e := by have := of_decide_eq_true c; omega
        have no : mayB u u' l p e = false := by
          cases hb : mayB u u' l p e with
          | false => rfl
          | true =>
            have := (fitM_iff.mp (List.all_eq_true.mp hb t hm)).2.1
            exact (this c).elim
        walk_at "rd"
        rw [← no]
        exact q _ s12
      have c : t.2 ≠ e := fun z => c (decide_eq_true (by omega))
      obtain ⟨kvs, ek, hk⟩ := hD.same s12
      obtain ⟨kvs', ek', hk'⟩ := hD'.same s12
      walk_at "rd"
      refine ⟨D, rfl, .inr ⟨_, .inl ek⟩, ?_⟩
      walk_at "rd"
      refine ⟨sz (by show 2 ≤ 100000; decide), fun p1 f1 => ?_⟩
      have g1 := DGet.t (k := kEnds t.1 p) (at_upd ek f1) (upd_same (H := H2) (a := p1) (o := .tup [V.int (t.1 : Nat), V.int (p : Nat)]))
      rw [hk _ _ tp] at g1
      refine ⟨_, g1, ?_⟩
      rw [optV_get]
      clear g1
      have s3 := same_new (o := .tup [V.int (t.1 : Nat), V.int (p : Nat)]) f1
      have etw3 := s3 _ _ etw
      have ek3 := s3 _ _ ek'
      generalize upd H2 p1 _ = H3 at s3 etw3 ek3 ⊢
      have s13 := Same.trans s12 s3
      walk_at "rd"
      refine ⟨D', rfl, .inr ⟨_, .inl ek3⟩, ?_⟩
      have g2 := DGet.t (k := kEnds (min t.2 e) (max t.2 e)) ek3 etw3
      rw [hk' _ _ (by omega)] at g2
      have em : tieL u'.2 (min t.2 e) (max t.2 e) = tieL u'.2 t.2 e := by
        rcases Nat.le_total t.2 e with z | z
        · rw [Nat.min_eq_left z, Nat.max_eq_right z]
        · rw [Nat.min_eq_right z, Nat.max_eq_left z, tieL_swap]
      rw [em] at g2
      walk_at "rd"
      refine ⟨_, g2, ?_⟩
      rw [optV_get]
      refine ⟨optV_scal2 _ _, ?_⟩
      rw [optV_inj]
      walk_at "rd"
      refine ite2 (fun c2 => ?_) (fun c2 => ?_)
      · have no : mayB u u' l p e = false := by
          cases hb : mayB u u' l p e with
          | false => rfl
          | true =>
            have := (fitM_iff.mp (List.all_eq_true.mp hb t hm)).2.2
            rw [decide_eq_true this] at c2
            cases c2
        walk_at "rd"
        rw [← no]
        exact q _ s13
      · walk_at "rd"
        have c2 : tieL u.2 t.1 p = tieL u'.2 t.2 e := by
          cases z : decide (tieL u.2 t.1 p = tieL u'.2 t.2 e) with
          | true => exact of_decide_eq_true z
          | false => rw [z] at c2; exact absurd rfl c2
        refine ⟨_, _, _, rfl, s13, fun x hx => ?_⟩
        rw [take_snoc ht] at hx
        rcases List.mem_append.mp hx with hx | hx
        · exact all x hx
        · rw [List.mem_singleton.mp hx]
          exact fitM_iff.mpr ⟨Nat.ne_of_lt tp, c, c2⟩
    · obtain ⟨y5, y6, y7, rfl, s1, all⟩ := hP'
      walk_at "rd"
      rw [ll, List.take_length] at all
      have : mayB u u' l p e = true := List.all_eq_true.mpr all
      rw [← this]
      exact q _ s1
theorem paired_last {α β : Type} {F : α → β → Prop} {s : β} : ∀ {xs : List α} {pl : List β}, Paired F xs (pl ++ [s]) → ∃ xs' x, xs = xs' ++ [x] ∧ Paired F xs' pl ∧ F x s
  | _, [], .cons h .nil => ⟨[], _, rfl, .nil, h⟩
  | _, b :: pl, .cons h t => by
    obtain ⟨xs', x, rfl, p, f⟩ := paired_last t
    exact ⟨_ :: xs', x, rfl, .cons h p, f⟩
/-- how great the greatest lead is, as it is found place by place -/
def spSize (K : PySem.W.Frag) : Sp := fun vs H Q _ => ∃ (v v' : V) (u u' : Web) (k : Nat), vs = [v, v'] ∧ WebAt K H v u ∧ WebAt K H v' u' ∧ WOk u ∧ WOk u' ∧ u.1.length ≤ 5 ∧ u'.1.length ≤ 5 ∧ GrL u u' k ∧ ∀ H', Same H H' → Q (.int (k : Nat)) H'
theorem ok_size (T : Tx K mg base) : FnOk P w K mg base CX0 2 T.size.f T.size.fd ["one", "other"] (spSize K) := by
  refine T.size.F.ok sc_size (fun vs H Q E h => ?_) (fun cdv A outer s H vs Q E hr h => ?_)
  · obtain ⟨_, _, _, _, _, rfl, _⟩ := h; rfl
  · obtain ⟨v, v', u, u', k, rfl, hw, hw', U, U', l5, l5', gr, q⟩ := h
    obtain ⟨a1, b1, tv1, e1, q1, qb1, pT1⟩ := id hw
    subst e1
    obtain ⟨a2, b2, tv2, e2, q2, qb2, pT2⟩ := id hw'
    subst e2
    have few : (u'.1.length + 2) ^ u.1.length ≤ 16807 := Nat.le_trans (Nat.pow_le_pow_left (show u'.1.length + 2 ≤ 7 by omega) _) (Nat.pow_le_pow_right (n := 7) (by decide) l5)
    refine ⟨_, (pss_cons (ps_set (i := 2) sc_size.nd rfl (.inl rfl) (pe_callTy (cr_dictT rfl (units1 hr)) (by rfl) T.m_dict (by decide +kernel) (pa_cons (pe_lc (own := [("tie", 9)]) (g := gName 9) (tt := tYes) (te := tTup (tCons (tSl (rSlT K) (tVar 9) tNoPart (tPart (tC (.int 2)))) (tCons (tOp (rIxT K) (tVar 9) (tC (.int 2))) tNil))) rfl sc_size.nd (pi_tup (pe_ix ix_tup (pv 0) pe_int (fun _ _ => rfl))) (blkOk_by (N := ["one", "other", "ties", "others", "pile", "best", "place", "lead", "there", "tie"]) (sc := defScope s_size) (by decide +kernel)) (fun _ _ _ _ _ => (pg_name (i := 9) sc_size.nd rfl (.inl rfl))) (fun _ _ _ _ _ => pts_nil) (fun _ _ _ _ _ => (pe_tup (pa_cons (pe_slice sl_tup (pv 9) po_none (po_some pe_int)) (pa_cons (pe_ix ix_tup (pv 9) pe_int (fun _ _ => rfl)) pa_nil))))) pa_nil)))
      (pss_cons (ps_set (i := 3) sc_size.nd rfl (.inl rfl) (pe_callTy (cr_dictT rfl (units1 hr)) (by rfl) T.m_dict (by decide +kernel) (pa_cons (pe_lc (own := [("tie", 9)]) (g := gName 9) (tt := tYes) (te := tTup (tCons (tSl (rSlT K) (tVar 9) tNoPart (tPart (tC (.int 2)))) (tCons (tOp (rIxT K) (tVar 9) (tC (.int 2))) tNil))) rfl sc_size.nd (pi_tup (pe_ix ix_tup (pv 1) pe_int (fun _ _ => rfl))) (blkOk_by (N := ["one", "other", "ties", "others", "pile", "best", "place", "lead", "there", "tie"]) (sc := defScope s_size) (by decide +kernel)) (fun _ _ _ _ _ => (pg_name (i := 9) sc_size.nd rfl (.inl rfl))) (fun _ _ _ _ _ => pts_nil) (fun _ _ _ _ _ => (pe_tup (pa_cons (pe_slice sl_tup (pv 9) po_none (po_some pe_int)) (pa_cons (pe_ix ix_tup (pv 9) pe_int (fun _ _ => rfl)) pa_nil))))) pa_nil)))
      (pss_cons (ps_set (i := 4) sc_size.nd rfl (.inl rfl) (pe_lst (pa_cons (pe_tup (pa_cons pe_int (pa_cons (pe_tup pa_nil) pa_nil))) pa_nil)))
      (pss_cons (ps_set (i := 5) sc_size.nd rfl (.inl rfl) pe_int)
      (pss_cons (ps_while PassesOwn.never (pt_cmpR (op_neD (hr.units)) (pv 4) (pe_lst pa_nil) (nomark _))
        (pss_cons (ps_asg (pe_bm0 PySem.F.plainAttrs_list PySem.F.slot_list_pop PySem.F.type_list_pop mt_pop (pv 4)) (pg_tup rfl (pgs_cons (pg_name (i := 6) sc_size.nd rfl (.inl rfl)) (pgs_cons (pg_name (i := 7) sc_size.nd rfl (.inl rfl)) pgs_nil))))
        (pss_cons (ps_set (i := 5) sc_size.nd rfl (.inl rfl) (pe_callB (call_max2 rfl) (by rfl) T.m_max (by decide +kernel) (pa_cons (pv 5) (pa_cons (pe_callB call_len_seq (by rfl) T.m_len (by decide +kernel) (pa_cons (pv 7) pa_nil)) pa_nil))))
        (pss_one (ps_if (PW.pt (pw_and (pt_cmpR op_lt (pv 6) (pe_callB call_len_str (by rfl) T.m_len (by decide +kernel) (pa_cons (pe_ix ix_tup (pv 0) pe_int (fun _ _ => rfl)) pa_nil)) (nomark _)) (pw_and1 (pt_cmpR op_gt (pe_op op_sub (pe_op op_add (pe_callB call_len_seq (by rfl) T.m_len (by decide +kernel) (pa_cons (pv 7) pa_nil)) (pe_callB call_len_str (by rfl) T.m_len (by decide +kernel) (pa_cons (pe_ix ix_tup (pv 0) pe_int (fun _ _ => rfl)) pa_nil))) (pv 6)) (pv 5) (nomark _)))))
          (pss_cons (ps_expr (pe_bm PySem.F.plainAttrs_list PySem.F.slot_list_append PySem.F.type_list_append mt_append (pv 4) (pa_cons (pe_tup (pa_cons (pe_op op_add (pv 6) pe_int) (pa_cons (pv 7) pa_nil))) pa_nil)))
          (pss_one (ps_for PassesOwn.never rfl (pi_range1 (by rfl) T.m_range (pa_cons (pe_callB call_len_str (by rfl) T.m_len (by decide +kernel) (pa_cons (pe_ix ix_tup (pv 1) pe_int (fun _ _ => rfl)) pa_nil)) pa_nil)) (pg_name (i := 8) sc_size.nd rfl (.inl rfl))
            (pss_one (ps_if (PW.pt (pw_and (pt_cmpR op_eq (pe_ix ix_str (pe_ix ix_tup (pv 1) pe_int (fun _ _ => rfl)) (pv 8) (fun _ _ => rfl)) (pe_ix ix_str (pe_ix ix_tup (pv 0) pe_int (fun _ _ => rfl)) (pv 6) (fun _ _ => rfl)) (nomark _)) (pw_and1 (pt_val (pe_call (ok_may T) (hr.mono (by decide)) (by rfl) T.may.g T.may.F.kp T.may.b .nil pass0 (pa_cons (pv 2) (pa_cons (pv 3) (pa_cons (pv 7) (pa_cons (pv 6) (pa_cons (pv 8) pa_nil))))))))))
              (pss_one (ps_expr (pe_bm PySem.F.plainAttrs_list PySem.F.slot_list_append PySem.F.type_list_append mt_append (pv 4) (pa_cons (pe_tup (pa_cons (pe_op op_add (pv 6) pe_int) (pa_cons (pe_op op_catA (pv 7) (pe_tup (pa_cons (pe_tup (pa_cons (pv 6) (pa_cons (pv 8) pa_nil))) pa_nil))) pa_nil))) pa_nil))))
              pss_nil)))))
          pss_nil)))))
      (pss_one (ps_ret (pv 5)))))))), ?_⟩
    walk_at "rd"
    refine d_ixT (Same.sqt (Same.refl H) q1) rfl ?_
    walk_at "rd"
    refine d_iTe (Same.sqt (Same.refl H) qb1) ?_
    intro C1 fC1
    refine lc_it (walk_tup (K := K) (a := b1) (xs := tv1)) (fun i H' => ∃ es : List KItem, H' C1 = some (.lst (es.map fun e => V.ref e.1)) ∧ Same H H' ∧ es.map (fun e => e.2.2) = (u.2.take i).map (fun t => (kEnds t.1 t.2.1, V.str (sg t.2.2))) ∧ ∀ e ∈ es, SqT K H' e.1 [.ref e.2.1, e.2.2.2] ∧ H' e.2.1 = some (.tup (e.2.2.1.map kV)))
      ⟨[], upd_same, same_new fC1, rfl, by simp⟩ (fun i H' _ hP => ?_) (fun i x H'' H' hi hP hy => ?_) (fun H' hP => ?_)
    · obtain ⟨_, _, s, _⟩ := hP
      exact Same.sqt (Same.trans (Same.refl H) s) qb1
    · obtain ⟨es, eC, s1, em, all⟩ := hP
      obtain ⟨rfl, hx⟩ := hy
      obtain ⟨t, ht, ta, rfl, qt⟩ := Paired.at pT1 hx
      have qt1 := Same.sqt (Same.trans (Same.refl H) s1) qt
      have les : es.length ≤ 1600 := by
        have z := congrArg List.length em
        rw [List.length_map, List.length_map] at z
        have := List.length_take_le' i u.2
        have := U.most
        omega
      walk_at "rd"
      refine d_takeB (n := 2) qt1 (by show 2 < 3; decide) fun p1 f1 => ?_
      have sp1 := same_new (o := .tup (([V.int (t.1 : Nat), V.int (t.2.1 : Nat), V.str (sg t.2.2)] : List V).take 2)) f1
      have ep1 : (upd H' p1 (.tup (([V.int (t.1 : Nat), V.int (t.2.1 : Nat), V.str (sg t.2.2)] : List V).take 2))) p1 = some (.tup ((kEnds t.1 t.2.1).map kV)) := upd_same
      have eC1 := sp1 _ _ eC
      have all1 : ∀ e ∈ es, SqT K (upd H' p1 (.tup (([V.int (t.1 : Nat), V.int (t.2.1 : Nat), V.str (sg t.2.2)] : List V).take 2))) e.1 [.ref e.2.1, e.2.2.2] ∧ (upd H' p1 (.tup (([V.int (t.1 : Nat), V.int (t.2.1 : Nat), V.str (sg t.2.2)] : List V).take 2))) e.2.1 = some (.tup (e.2.2.1.map kV)) := fun e he => ⟨Same.sqt sp1 (all e he).1, sp1 _ _ (all e he).2⟩
      have qt2 := Same.sqt sp1 qt1
      generalize upd H' p1 _ = Ha at sp1 ep1 eC1 all1 qt2 ⊢
      walk_at "rd"
      refine d_ixT qt2 rfl ?_
      walk_at "rd"
      refine ⟨sz (by show 2 ≤ 100000; decide), fun p2 f2 => ?_⟩
      have sp2 := same_new (o := .tup [V.ref p1, V.str (sg t.2.2)]) f2
      have ep2 := upd_same (H := Ha) (a := p2) (o := .tup [V.ref p1, V.str (sg t.2.2)])
      have eC2 := sp2 _ _ eC1
      have ep12 := sp2 _ _ ep1
      have all2 : ∀ e ∈ es, SqT K (upd Ha p2 (.tup [V.ref p1, V.str (sg t.2.2)])) e.1 [.ref e.2.1, e.2.2.2] ∧ (upd Ha p2 (.tup [V.ref p1, V.str (sg t.2.2)])) e.2.1 = some (.tup (e.2.2.1.map kV)) := fun e he => ⟨Same.sqt sp2 (all1 e he).1, sp2 _ _ (all1 e he).2⟩
      have s13 := Same.trans s1 (Same.trans sp1 sp2)
      generalize upd Ha p2 _ = Hb at sp2 ep2 eC2 ep12 all2 s13 ⊢
      refine ⟨_, eC2, szl (by rw [List.length_map]; omega), es ++ [(p2, p1, kEnds t.1 t.2.1, V.str (sg t.2.2))], by rw [upd_same, List.map_append]; rfl, same_upd s13 fC1, by rw [List.map_append, em, take_snoc ht, List.map_append]; rfl, fun e he => ?_⟩
      rcases List.mem_append.mp he with he | he
      · exact ⟨sqt_upd (.inr ⟨_, eC2⟩) (all2 e he).1, by rw [upd_ne (fun z => by have := (all2 e he).2; rw [z, eC2] at this; cases this)]; exact (all2 e he).2⟩
      · rw [List.mem_singleton.mp he]
        exact ⟨sqt_upd (.inr ⟨_, eC2⟩) (SqT.of ep2), by rw [upd_ne (fun z => by dsimp only at z; rw [z, eC2] at ep12; cases ep12)]; exact ep12⟩
    obtain ⟨es, eC, sC1, em, all⟩ := hP
    rw [show tv1.length = u.2.length from Paired.length pT1, List.take_length] at em
    refine ⟨C1, es, rfl, SqL.of eC, all, fun D1 fD1 => ?_⟩
    have sD10 := same_new (o := .dT (mergeT es)) fD1
    have TD1 : TieDct (upd H' D1 (.dT (mergeT es))) D1 u := ⟨_, upd_same, tie_dct U em⟩
    have sD1 := Same.trans (Same.refl H) (Same.trans sC1 sD10)
    have tD1 := Same.trans sC1 sD10
    generalize upd H' D1 _ = H1 at sD10 TD1 sD1 tD1 ⊢
    clear em all eC sD10 sC1
    walk_at "rd"
    refine d_ixT (Same.sqt sD1 q2) rfl ?_
    walk_at "rd"
    refine d_iTe (Same.sqt sD1 qb2) ?_
    intro C2 fC2
    refine lc_it (walk_tup (K := K) (a := b2) (xs := tv2)) (fun i H' => ∃ es : List KItem, H' C2 = some (.lst (es.map fun e => V.ref e.1)) ∧ Same H1 H' ∧ es.map (fun e => e.2.2) = (u'.2.take i).map (fun t => (kEnds t.1 t.2.1, V.str (sg t.2.2))) ∧ ∀ e ∈ es, SqT K H' e.1 [.ref e.2.1, e.2.2.2] ∧ H' e.2.1 = some (.tup (e.2.2.1.map kV)))
      ⟨[], upd_same, same_new fC2, rfl, by simp⟩ (fun i H' _ hP => ?_) (fun i x H'' H' hi hP hy => ?_) (fun H' hP => ?_)
    · obtain ⟨_, _, s, _⟩ := hP
      exact Same.sqt (Same.trans sD1 s) qb2
    · obtain ⟨es, eC, s1, em, all⟩ := hP
      obtain ⟨rfl, hx⟩ := hy
      obtain ⟨t, ht, ta, rfl, qt⟩ := Paired.at pT2 hx
      have qt1 := Same.sqt (Same.trans sD1 s1) qt
      have les : es.length ≤ 1600 := by
        have z := congrArg List.length em
        rw [List.length_map, List.length_map] at z
        have := List.length_take_le' i u'.2
        have := U'.most
        omega
      walk_at "rd"
      refine d_takeB (n := 2) qt1 (by show 2 < 3; decide) fun p1 f1 => ?_
      have sp1 := same_new (o := .tup (([V.int (t.1 : Nat), V.int (t.2.1 : Nat), V.str (sg t.2.2)] : List V).take 2)) f1
      have ep1 : (upd H' p1 (.tup (([V.int (t.1 : Nat), V.int (t.2.1 : Nat), V.str (sg t.2.2)] : List V).take 2))) p1 = some (.tup ((kEnds t.1 t.2.1).map kV)) := upd_same
      have eC1 := sp1 _ _ eC
      have all1 : ∀ e ∈ es, SqT K (upd H' p1 (.tup (([V.int (t.1 : Nat), V.int (t.2.1 : Nat), V.str (sg t.2.2)] : List V).take 2))) e.1 [.ref e.2.1, e.2.2.2] ∧ (upd H' p1 (.tup (([V.int (t.1 : Nat), V.int (t.2.1 : Nat), V.str (sg t.2.2)] : List V).take 2))) e.2.1 = some (.tup (e.2.2.1.map kV)) := fun e he => ⟨Same.sqt sp1 (all e he).1, sp1 _ _ (all e he).2⟩
      have qt2 := Same.sqt sp1 qt1
      generalize upd H' p1 _ = Ha at sp1 ep1 eC1 all1 qt2 ⊢
      walk_at "rd"
      refine d_ixT qt2 rfl ?_
      walk_at "rd"
      refine ⟨sz (by show 2 ≤ 100000; decide), fun p2 f2 => ?_⟩
      have sp2 := same_new (o := .tup [V.ref p1, V.str (sg t.2.2)]) f2
      have ep2 := upd_same (H := Ha) (a := p2) (o := .tup [V.ref p1, V.str (sg t.2.2)])
      have eC2 := sp2 _ _ eC1
      have ep12 := sp2 _ _ ep1
      have all2 : ∀ e ∈ es, SqT K (upd Ha p2 (.tup [V.ref p1, V.str (sg t.2.2)])) e.1 [.ref e.2.1, e.2.2.2] ∧ (upd Ha p2 (.tup [V.ref p1, V.str (sg t.2.2)])) e.2.1 = some (.tup (e.2.2.1.map kV)) := fun e he => ⟨Same.sqt sp2 (all1 e he).1, sp2 _ _ (all1 e he).2⟩
      have s13 := Same.trans s1 (Same.trans sp1 sp2)
      generalize upd Ha p2 _ = Hb at sp2 ep2 eC2 ep12 all2 s13 ⊢
      refine ⟨_, eC2, szl (by rw [List.length_map]; omega), es ++ [(p2, p1, kEnds t.1 t.2.1, V.str (sg t.2.2))], by rw [upd_same, List.map_append]; rfl, same_upd s13 fC2, by rw [List.map_append, em, take_snoc ht, List.map_append]; rfl, fun e he => ?_⟩
      rcases List.mem_append.mp he with he | he
      · exact ⟨sqt_upd (.inr ⟨_, eC2⟩) (all2 e he).1, by rw [upd_ne (fun z => by have := (all2 e he).2; rw [z, eC2] at this; cases this)]; exact (all2 e he).2⟩
      · rw [List.mem_singleton.mp he]
        exact ⟨sqt_upd (.inr ⟨_, eC2⟩) (SqT.of ep2), by rw [upd_ne (fun z => by dsimp only at z; rw [z, eC2] at ep12; cases ep12)]; exact ep12⟩
    obtain ⟨es, eC, sC2, em, all⟩ := hP
    rw [show tv2.length = u'.2.length from Paired.length pT2, List.take_length] at em
    refine ⟨C2, es, rfl, SqL.of eC, all, fun D2 fD2 => ?_⟩
    have sD20 := same_new (o := .dT (mergeT es)) fD2
    have TD2 : TieDct (upd H' D2 (.dT (mergeT es))) D2 u' := ⟨_, upd_same, tie_dct U' em⟩
    have sD2 := Same.trans sD1 (Same.trans sC2 sD20)
    have tD2 := Same.trans sC2 sD20
    generalize upd H' D2 _ = H2 at sD20 TD2 sD2 tD2 ⊢
    clear em all eC sD20 sC2
    walk_at "rd"
    refine ⟨sz (by show 0 ≤ 100000; decide), fun lv0 f0 => ?_⟩
    have s3 := same_new (o := .tup []) f0
    have e3 := upd_same (H := H2) (a := lv0) (o := .tup [])
    generalize upd H2 lv0 _ = H3 at s3 e3 ⊢
    walk_at "rd"
    refine ⟨sz (by show 2 ≤ 100000; decide), fun t0 ft0 => ?_⟩
    have s4 := same_new (o := .tup [V.int 0, V.ref lv0]) ft0
    have e4 := upd_same (H := H3) (a := t0) (o := .tup [V.int 0, V.ref lv0])
    have e34 := s4 _ _ e3
    generalize upd H3 t0 _ = H4 at s4 e4 e34 ⊢
    walk_at "rd"
    refine ⟨sz (by show 1 ≤ 100000; decide), fun L fL => ?_⟩
    have s5 := same_new (o := .lst [V.ref t0]) fL
    have e5 := upd_same (H := H4) (a := L) (o := .lst [V.ref t0])
    have B0 : BgnAt K (upd H4 L (.lst [V.ref t0])) (.ref t0) (0, []) := ⟨t0, lv0, [], rfl, SqT.of (s5 _ _ e4), SqT.of (s5 _ _ e34), .nil⟩
    have fL2 : H2 L = none := Same.free (Same.trans s3 s4) fL
    have s25 := Same.trans s3 (Same.trans s4 s5)
    generalize upd H4 L _ = H5 at s5 e5 B0 s25 ⊢
    have qH : ∀ H' : Hp, Same H2 H' → Q (.int (k : Nat)) H' := fun H' s => q _ (Same.trans sD2 s)
    clear s3 e3 s4 e4 e34 s5
    walk_at "rd"
    refine ⟨fun m σ H' => ∃ (pl : List Bgn) (xs : List V) (best : Nat) (y6 y7 y8 y9 : Option V), m = pileW u.1.length u'.1.length pl ∧ pileW u.1.length u'.1.length pl ≤ 16807 ∧ σ = [some (.ref a1), some (.ref a2), some (.ref D1), some (.ref D2), some (.ref L), some (.int (best : Nat)), y6, y7, y8, y9] ∧ Same H2 H' ∧ H' L = some (.lst xs) ∧ Paired (BgnAt K H') xs pl ∧ Pile u u' k best pl,
      ⟨_, [(0, [])], [.ref t0], 0, _, _, _, _, rfl, by
        show (u'.1.length + 2) ^ (u.1.length - 0) + 0 ≤ 16807
        exact few, rfl, s25, e5, .cons B0 .nil, Pile.start gr⟩, ?_⟩
    rintro m σ H' ⟨pl, xs, best, y6, y7, y8, y9, rfl, fw, rfl, sm, eL, px, PP⟩
    have lx := Paired.length px
    have lp := pileW_len u.1.length u'.1.length pl
    walk_at "rd"
    refine ⟨sz (by show 0 ≤ 100000; decide), fun z fz => ?_⟩
    have sz1 := same_new (o := .lst []) fz
    have ez := upd_same (H := H') (a := z) (o := .lst [])
    have eL1 := sz1 _ _ eL
    have px1 : Paired (BgnAt K (upd H' z (.lst []))) xs pl := Paired.imp px fun _ _ y => y.same sz1
    have sm1 := Same.trans sm sz1
    generalize upd H' z _ = H6 at sz1 ez eL1 px1 sm1 ⊢
    refine ⟨_, _, .lst (SqL.of eL1) (dpa_bgn px1), .lst (SqL.of ez) .nil, bgns_good pl, bgns_good [], ?_⟩
    rw [eqv_nil]
    walk_at "rd"
    refine ite2 (fun c => ?_) (fun c => ?_)
    · have ne0 : pl ≠ [] := fun z => by subst z; simp at c
      obtain ⟨pl', s, rfl⟩ : ∃ pl' s, pl = pl' ++ [s] := ⟨pl.dropLast, pl.getLast ne0, (List.dropLast_concat_getLast ne0).symm⟩
      obtain ⟨xs', x, rfl, px', bx⟩ := paired_last px1
      refine ⟨fun σ' H'' => ∃ (pl1 : List Bgn) (xs1 : List V) (best1 : Nat) (z6 z7 z8 z9 : Option V), σ' = [some (.ref a1), some (.ref a2), some (.ref D1), some (.ref D2), some (.ref L), some (.int (best1 : Nat)), z6, z7, z8, z9] ∧ Same H2 H'' ∧ H'' L = some (.lst xs1) ∧ Paired (BgnAt K H'') xs1 pl1 ∧ Pile u u' k best1 pl1 ∧ pileW u.1.length u'.1.length pl1 < pileW u.1.length u'.1.length (pl' ++ [s]),
        fun σ' H'' ⟨pl1, xs1, best1, z6, z7, z8, z9, e, sm2, eL2, px2, PP2, lt⟩ => ⟨_, lt, pl1, xs1, best1, z6, z7, z8, z9, rfl, by omega, e, sm2, eL2, px2, PP2⟩, ?_⟩
      walk_at "rd"
      refine ⟨.inl ⟨rfl, _, SqL.of eL1⟩, ?_⟩
      refine ⟨L, _, x, rfl, rfl, eL1, by simp, ?_⟩
      rw [List.dropLast_concat]
      have sm7 := same_upd (o := .lst xs') sm1 fL2
      have eL7 := upd_same (H := H6) (a := L) (o := .lst xs')
      have px7 : Paired (BgnAt K (upd H6 L (.lst xs'))) xs' pl' := Paired.imp px' fun _ _ y => y.put eL1
      obtain ⟨t, lv, ls, rfl, qt, qlv, ps⟩ := bx.put (o := .lst xs') eL1
      generalize upd H6 L (.lst xs') = H7 at sm7 eL7 px7 qt qlv ps ⊢
      obtain ⟨p, l⟩ := s
      dsimp only at qt ps
      have lls : ls.length = l.length := Paired.length ps
      have S := PP.ok (p, l) (List.mem_append_right _ (List.mem_singleton.mpr rfl))
      have lowl : ∀ x ∈ l, x.1 < p := fun x hx => (S.2.2 x hx).1
      have lp := lead_len (S.2)
      have lpu : p ≤ u.1.length := S.1
      dsimp only at lp
      have lxp : xs'.length = pl'.length := Paired.length px7
      have lpl : pl'.length < 16807 := by
        rw [List.length_append, List.length_singleton] at *
        omega
      refine d_gtup qt rfl ?_
      walk_at "rd"
      refine d_lenT qlv ?_
      rw [lls]
      walk_at "rd"
      refine ⟨_, _, rfl, ?_⟩
      rw [max_int78]
      walk_at "rd"
      have sH7 := Same.trans sD2 sm7
      refine d_ixT (Same.sqt sH7 q1) rfl ?_
      refine d_lenS (z := ⟨u.1.toArray⟩) (sz (by rw [str_len78]; omega)) ?_
      rw [str_len78]
      walk_at "rd"
      refine ite2 (fun c1 => ?_) (fun c1 => ?_)
      · have c1 : p < u.1.length := by have := of_decide_eq_true c1; omega
        walk_at "rd"
        refine d_lenT qlv ?_
        rw [lls]
        walk_at "rd"
        refine d_ixT (Same.sqt sH7 q1) rfl ?_
        refine d_lenS (z := ⟨u.1.toArray⟩) (sz (by rw [str_len78]; omega)) ?_
        rw [str_len78]
        walk_at "rd"
        refine ite2 (fun c2 => ?_) (fun c2 => ?_)
        · have c2 : max best l.length < l.length + u.1.length - p := by have := of_decide_eq_true c2; omega
          walk_at "rd"
          refine d_app eL7 ?_
          walk_at "rd"
          refine ⟨sz (by show 2 ≤ 100000; decide), fun t1 ft1 => ?_⟩
          have st1 := same_new (o := .tup [V.int ((p : Int) + 1), V.ref lv]) ft1
          have et1 := upd_same (H := H7) (a := t1) (o := .tup [V.int ((p : Int) + 1), V.ref lv])
          have eL8 := st1 _ _ eL7
          have sm8 := Same.trans sm7 st1
          have B1 : BgnAt K (upd H7 t1 (.tup [V.int ((p : Int) + 1), V.ref lv])) (.ref t1) (p + 1, l) := ⟨t1, lv, ls, rfl, SqT.of et1, Same.sqt st1 qlv, Paired.imp ps fun _ _ y => y.same st1⟩
          have px8 : Paired (BgnAt K (upd H7 t1 (.tup [V.int ((p : Int) + 1), V.ref lv]))) xs' pl' := Paired.imp px7 fun _ _ y => y.same st1
          generalize upd H7 t1 _ = H8 at st1 et1 eL8 sm8 B1 px8 ⊢
          walk_at "rd"
          refine d_append eL8 (szl (by omega)) ?_
          have sm9 := same_upd (o := .lst (xs' ++ [V.ref t1])) sm8 fL2
          have eL9 := upd_same (H := H8) (a := L) (o := .lst (xs' ++ [V.ref t1]))
          have px9 : Paired (BgnAt K (upd H8 L (.lst (xs' ++ [V.ref t1])))) (xs' ++ [V.ref t1]) (pl' ++ [(p + 1, l)]) := Paired.imp (Paired.snoc px8 B1) fun _ _ y => y.put eL8
          have hlv : ∃ tt : Addr, tt = t ∧ SqT K (upd H8 L (.lst (xs' ++ [V.ref t1]))) lv ls ∧ Paired (PairAt K (upd H8 L (.lst (xs' ++ [V.ref t1])))) ls l := ⟨t, rfl, sqt_upd (.inr ⟨_, eL8⟩) (Same.sqt st1 qlv), Paired.imp ps fun _ _ y => (y.same st1).keep Keep.put eL8⟩
          obtain ⟨_, _, qlv9, ps9⟩ := hlv
          generalize upd H8 L _ = H9 at sm9 eL9 px9 qlv9 ps9 ⊢
          walk_at "rd"
          refine d_ixT (Same.sqt (Same.trans sD2 sm9) q2) rfl ?_
          refine d_lenS (z := ⟨u'.1.toArray⟩) (sz (by rw [str_len78]; omega)) ?_
          rw [str_len78]
          walk_at "rd"
          refine for_range (fun j σ H' => ∃ (xs1 : List V) (z8 z9 : Option V), σ = [some (.ref a1), some (.ref a2), some (.ref D1), some (.ref D2), some (.ref L), some (.int (max best l.length : Nat)), some (.int (p : Nat)), some (.ref lv), z8, z9] ∧ Same H2 H' ∧ H' L = some (.lst xs1) ∧ Paired (BgnAt K H') xs1 (pl' ++ [(p + 1, l)] ++ kids u u' (p, l) j) ∧ SqT K H' lv ls ∧ Paired (PairAt K H') ls l)
            ⟨_, _, _, rfl, sm9, eL9, by rw [show kids u u' (p, l) 0 = [] from rfl, List.append_nil]; exact px9, qlv9, ps9⟩ (fun j σ H' hj hP => ?_) (fun σ H' hP => ?_)
          · obtain ⟨xs1, z8, z9, rfl, smj, eLj, pxj, qlvj, psj⟩ := hP
            have hj : j < u'.1.length := by simpa using hj
            have lxj := Paired.length pxj
            rw [List.length_append, List.length_append, List.length_singleton] at lxj
            have lkj := kids_len u u' (p, l) j
            walk_at "rd"
            refine d_ixT (Same.sqt (Same.trans sD2 smj) q2) rfl ?_
            walk_at "rd"
            rw [Int.zero_add]
            have gj : u'.1[j]? = some (u'.1.getD j 0) := by simp [hj]
            have gp : u.1[p]? = some (u.1.getD p 0) := by simp [c1]
            refine ⟨⟨u'.1.toArray⟩, (j : Nat), u'.1.getD j 0, rfl, rfl, sz (by show u'.1.toArray.size ≤ 100000; simp; omega), atI_nat (by show u'.1.toArray.toList[j]? = _; simp [hj]), ?_⟩
            walk_at "rd"
            refine d_ixT (Same.sqt (Same.trans sD2 smj) q1) rfl ?_
            walk_at "rd"
            refine ⟨⟨u.1.toArray⟩, (p : Nat), u.1.getD p 0, rfl, rfl, sz (by show u.1.toArray.size ≤ 100000; simp; omega), atI_nat (by show u.1.toArray.toList[p]? = _; simp [c1]), ?_⟩
            refine ⟨rfl, ?_⟩
            walk_at "rd"
            refine ite2 (fun c3 => ?_) (fun c3 => ?_)
            · have c3 : u'.1[j]? = u.1[p]? := by
                have z := of_decide_eq_true c3
                injection z with z
                have z : u'.1.getD j 0 = u.1.getD p 0 := by
                  have y := congrArg Str.cps z
                  unfold sg at y
                  simpa using y
                rw [gj, gp, z]
              walk_at "rd"
              refine ⟨D1, D2, lv, u, u', p, j, ls, l, rfl, TD1.same (Same.trans tD2 smj), TD2.same smj, qlvj, psj, lowl, fun Ha sa => ?_⟩
              have sma := Same.trans smj sa
              have eLa := sa _ _ eLj
              have pxa : Paired (BgnAt K Ha) xs1 _ := Paired.imp pxj fun _ _ y => y.same sa
              have qlva := Same.sqt sa qlvj
              have psa : Paired (PairAt K Ha) ls l := Paired.imp psj fun _ _ y => y.same sa
              walk_at "rd"
              refine ite2 (fun c4 => ?_) (fun c4 => ?_)
              · have ek : kids u u' (p, l) (j + 1) = kids u u' (p, l) j ++ [(p + 1, l ++ [(p, j)])] := by
                  rw [kids_snoc]
                  unfold kidF
                  rw [if_pos ⟨c3, c4⟩]; rfl
                walk_at "rd"
                refine d_app eLa ?_
                walk_at "rd"
                refine ⟨sz (by show 2 ≤ 100000; decide), fun pr fpr => ?_⟩
                have spr := same_new (o := .tup [V.int (p : Nat), V.int (j : Nat)]) fpr
                have epr := upd_same (H := Ha) (a := pr) (o := .tup [V.int (p : Nat), V.int (j : Nat)])
                generalize upd Ha pr _ = Hb at spr epr ⊢
                walk_at "rd"
                refine ⟨sz (by show 1 ≤ 100000; decide), fun w1 fw1 => ?_⟩
                have sw1 := same_new (o := .tup [V.ref pr]) fw1
                have ew1 := upd_same (H := Hb) (a := w1) (o := .tup [V.ref pr])
                have epr1 := sw1 _ _ epr
                generalize upd Hb w1 _ = Hc at sw1 ew1 epr1 ⊢
                have sac := Same.trans spr sw1
                refine d_catB (Same.sqt sac qlva) (SqT.of ew1) (sz (by show ls.length + 1 ≤ 100000; omega)) fun Hd lw sd qlw => ?_
                have sad := Same.trans sac sd
                walk_at "rd"
                refine ⟨sz (by show 2 ≤ 100000; decide), fun t2 ft2 => ?_⟩
                have st2 := same_new (o := .tup [V.int ((p : Int) + 1), V.ref lw]) ft2
                have et2 := upd_same (H := Hd) (a := t2) (o := .tup [V.int ((p : Int) + 1), V.ref lw])
                have pr2 : Paired (PairAt K Hd) (ls ++ [V.ref pr]) (l ++ [(p, j)]) := Paired.snoc (Paired.imp psa fun _ _ y => y.same sad) ⟨pr, rfl, SqT.of (sd _ _ epr1)⟩
                have B2 : BgnAt K (upd Hd t2 (.tup [V.int ((p : Int) + 1), V.ref lw])) (.ref t2) (p + 1, l ++ [(p, j)]) := ⟨t2, lw, _, rfl, SqT.of et2, Same.sqt st2 qlw, Paired.imp pr2 fun _ _ y => y.same st2⟩
                have sae := Same.trans sad st2
                generalize upd Hd t2 _ = He at st2 et2 B2 sae ⊢
                have eLe := sae _ _ eLa
                have pxe : Paired (BgnAt K He) xs1 _ := Paired.imp pxa fun _ _ y => y.same sae
                walk_at "rd"
                refine d_append eLe (szl (by omega)) ?_
                refine ⟨xs1 ++ [V.ref t2], _, _, rfl, same_upd (Same.trans sma sae) fL2, upd_same, ?_, sqt_upd (.inr ⟨_, eLe⟩) (Same.sqt sae qlva), Paired.imp psa fun _ _ y => (y.same sae).keep Keep.put eLe⟩
                rw [ek, ← List.append_assoc]
                exact Paired.imp (Paired.snoc pxe B2) fun _ _ y => y.put eLe
              · have ek : kids u u' (p, l) (j + 1) = kids u u' (p, l) j := by
                  rw [kids_snoc]
                  unfold kidF
                  rw [if_neg fun z => c4 z.2]; exact List.append_nil _
                walk_at "rd"
                exact ⟨xs1, _, _, rfl, sma, eLa, by rw [ek]; exact pxa, qlva, psa⟩
            · have ek : kids u u' (p, l) (j + 1) = kids u u' (p, l) j := by
                rw [kids_snoc]
                unfold kidF
                rw [if_neg fun z => c3 (decide_eq_true (by
                  have z := z.1
                  rw [gj, gp] at z
                  rw [Option.some.inj z]))]; exact List.append_nil _
              walk_at "rd"
              exact ⟨xs1, _, _, rfl, smj, eLj, by rw [ek]; exact pxj, qlvj, psj⟩
          · obtain ⟨xs1, z8, z9, rfl, smj, eLj, pxj, qlvj, psj⟩ := hP
            rw [show (((u'.1.length : Nat) : Int)).toNat = u'.1.length from Int.toNat_natCast _] at pxj
            exact ⟨_, xs1, max best l.length, _, _, _, _, rfl, smj, eLj, pxj, PP.grow gr c1, pileW_grow (s := (p, l)) c1⟩
        · have c2 : ¬ (p < u.1.length ∧ max best l.length < l.length + u.1.length - p) := fun z => c2 (decide_eq_true (by omega))
          walk_at "rd"
          exact ⟨pl', xs', max best l.length, _, _, _, _, rfl, sm7, eL7, px7, PP.drop gr c2, pileW_drop⟩
      · have c2 : ¬ (p < u.1.length ∧ max best l.length < l.length + u.1.length - p) := fun z => c1 (decide_eq_true (by omega))
        walk_at "rd"
        exact ⟨pl', xs', max best l.length, _, _, _, _, rfl, sm7, eL7, px7, PP.drop gr c2, pileW_drop⟩
    · have e0 : pl = [] := by
        cases pl with
        | nil => rfl
        | cons s r => simp at c
      subst e0
      have bk : best = k := by
        rcases PP.wit with e | ⟨s, hs, _⟩
        · exact e
        · cases hs
      subst bk
      walk_at "rd"
      exact qH H6 sm1
/-- how far, as it is found here -/
def spFar (K : PySem.W.Frag) : Sp := fun vs H Q _ => ∃ (v v' : V) (u u' : Web) (k : Nat), vs = [v, v'] ∧ WebAt K H v u ∧ WebAt K H v' u' ∧ WOk u ∧ WOk u' ∧ u.1.length ≤ 5 ∧ u'.1.length ≤ 5 ∧ GrL u u' k ∧
  ∀ H' p, Same H H' → H' p = some (.tup [.int ((dueN (max u.1.length u'.1.length) k).1 : Nat), .int ((dueN (max u.1.length u'.1.length) k).2 : Nat)]) → Q (.ref p) H'
theorem ok_far (T : Tx K mg base) : FnOk P w K mg base CX0 3 T.far.f T.far.fd ["one", "other"] (spFar K) := by
  refine T.far.F.ok sc_far (fun vs H Q E h => ?_) (fun cdv A outer s H vs Q E hr h => ?_)
  · obtain ⟨_, _, _, _, _, rfl, _⟩ := h; rfl
  · obtain ⟨v, v', u, u', k, rfl, hw, hw', U, U', l5, l5', gr, q⟩ := h
    obtain ⟨a1, _, _, e1, _⟩ := id hw
    subst e1
    obtain ⟨a2, _, _, e2, _⟩ := id hw'
    subst e2
    obtain ⟨b1, tv1, q1, _, _⟩ := web_at hw
    obtain ⟨b2, tv2, q2, _, _⟩ := web_at hw'
    have kf := great_few gr
    refine ⟨_, (pss_cons (ps_set (i := 2) sc_far.nd rfl (.inl rfl) (pe_callB (call_max2 rfl) (by rfl) T.m_max (by decide +kernel) (pa_cons (pe_callB call_len_str (by rfl) T.m_len (by decide +kernel) (pa_cons (pe_ix ix_tup (pv 0) pe_int (fun _ _ => rfl)) pa_nil)) (pa_cons (pe_callB call_len_str (by rfl) T.m_len (by decide +kernel) (pa_cons (pe_ix ix_tup (pv 1) pe_int (fun _ _ => rfl)) pa_nil)) pa_nil))))
      (pss_cons (ps_if (pt_cmpR op_eq (pv 2) pe_int (nomark _))
        (pss_one (ps_ret (pe_tup (pa_cons pe_int (pa_cons pe_int pa_nil)))))
        pss_nil)
      (pss_one (ps_ret (pe_call (ok_share T) (hr.mono (by decide)) (by rfl) T.share.g T.share.F.kp T.share.b .nil pass0 (pa_cons (pe_op op_sub (pv 2) (pe_call (ok_size T) (hr.mono (by decide)) (by rfl) T.size.g T.size.F.kp T.size.b .nil pass0 (pa_cons (pv 0) (pa_cons (pv 1) pa_nil)))) (pa_cons (pv 2) pa_nil))))))), ?_⟩
    walk_at "rd"
    refine d_ixT q1 rfl ?_
    refine d_lenS (z := ⟨u.1.toArray⟩) (sz (by rw [str_len78]; omega)) ?_
    rw [str_len78]
    walk_at "rd"
    refine d_ixT q2 rfl ?_
    refine d_lenS (z := ⟨u'.1.toArray⟩) (sz (by rw [str_len78]; omega)) ?_
    rw [str_len78]
    walk_at "rd"
    refine ⟨_, _, rfl, ?_⟩
    rw [max_int78]
    generalize hm : max u.1.length u'.1.length = m at q ⊢
    walk_at "rd"
    refine ite2 (fun c => ?_) (fun c => ?_)
    · have c : m = 0 := by have := of_decide_eq_true c; omega
      walk_at "rd"
      refine ⟨sz (by show 2 ≤ 100000; decide), fun p fp => ?_⟩
      have z := q _ p (same_new (o := .tup [V.int 0, V.int 1]) fp)
      rw [show dueN m k = (0, 1) from if_pos c] at z
      exact z upd_same
    · have c : m ≠ 0 := fun z => c (decide_eq_true (by omega))
      walk_at "rd"
      refine ⟨.ref a1, .ref a2, u, u', k, rfl, hw, hw', U, U', l5, l5', gr, fun H1 s1 => ?_⟩
      walk_at "rd"
      rw [show (m : Int) - (k : Nat) = ((m - k : Nat) : Int) by omega]
      refine ⟨m - k, m, rfl, by omega, by omega, by omega, fun H2 p s2 ep => ?_⟩
      have z := q H2 p (Same.trans s1 s2)
      rw [show dueN m k = ((m - k) / Nat.gcd (m - k) m, m / Nat.gcd (m - k) m) from if_neg c] at z
      exact z ep
def trg : Nat → Nat
  | 0 => 0
  | b + 1 => trg b + b
theorem trg_le {b c : Nat} (h : b ≤ c) : trg b ≤ trg c := by
  induction c with
  | zero => rw [show b = 0 by omega]; exact Nat.le_refl _
  | succ c ih =>
    rcases Nat.lt_or_ge b (c + 1) with lt | ge
    · exact Nat.le_trans (ih (by omega)) (by show trg c ≤ trg c + c; omega)
    · rw [show b = c + 1 by omega]; exact Nat.le_refl _
/-- a web has at most so many ties -/
theorem ties_780 {u : Web} (W : WOk u) : u.2.length ≤ 780 := by
  have l40 := W.few
  have h := nodup_len 780 (u.2.map fun t => trg t.2.1 + t.1) ?_ ?_
  · rwa [List.length_map] at h
  · unfold List.Nodup
    rw [List.pairwise_map]
    refine W.rise.imp_of_mem fun {x y} hx hy lt z => ?_
    obtain ⟨a1, _, _⟩ := W.ends x hx
    obtain ⟨b1, _, _⟩ := W.ends y hy
    have step : ∀ c, trg (c + 1) = trg c + c := fun c => rfl
    rcases Nat.lt_trichotomy x.2.1 y.2.1 with c | c | c
    · have := trg_le (show x.2.1 + 1 ≤ y.2.1 by omega)
      rw [step] at this
      omega
    · rw [c] at z
      unfold tlt at lt
      omega
    · have := trg_le (show y.2.1 + 1 ≤ x.2.1 by omega)
      rw [step] at this
      omega
  · intro x hx
    obtain ⟨t, ht, rfl⟩ := List.mem_map.mp hx
    obtain ⟨h1, h2, _⟩ := W.ends t ht
    have := trg_le (show t.2.1 + 1 ≤ 40 by omega)
    have e : trg (t.2.1 + 1) = trg t.2.1 + t.2.1 := rfl
    have e40 : trg 40 = 780 := by decide
    omega
theorem dpa_sgs {H : Hp} : ∀ cs : List Nat, DpAll K H (cs.map fun c => V.str (sg c)) (cs.map fun c => PyData.str (sg c))
  | [] => .nil
  | c :: r => .cons (.str _) (dpa_sgs r)
theorem sgs_good {cs : List Nat} (h : ∀ c ∈ cs, Ltr c) : SeqAt.shaped (.list (cs.map fun c => PyData.str (sg c))) = true := shaped_list (k := 0) (by decide) fun d hd => by
  obtain ⟨c, hc, rfl⟩ := List.mem_map.mp hd
  have := h c hc
  unfold Ltr at this
  exact ⟨by show PyData.strOk (sg c) = true; exact str_ok c (by omega), Nat.le_refl _⟩
/-- what is changed: letters and ties in lists -/
structure Chg (K : PySem.W.Frag) (h L1 L2 : Addr) (H0 H : Hp) (cs : List Nat) (tvs : List V) (ts : List Tie) : Prop where
  keep : Keep h H0 H
  pot : Pot H h
  e1 : H L1 = some (.lst (cs.map fun c => V.str (sg c)))
  e2 : H L2 = some (.lst tvs)
  ne : L1 ≠ L2
  n1 : L1 ≠ h
  n2 : L2 ≠ h
  ties : Ties K H tvs ts
  loose : Loose (cs, ts)
  few : cs.length ≤ 5
  f1 : H0 L1 = none
  f2 : H0 L2 = none
theorem ties_keep {K : PySem.W.Frag} {h : Addr} {H H' : Hp} {tvs : List V} {ts : List Tie} (x : Ties K H tvs ts) (p : Pot H h) (k : Keep h H H') : Ties K H' tvs ts := by
  obtain ⟨ys, e⟩ := p.lst
  exact Paired.imp x fun _ _ z => TieAt.keep z k e
theorem Chg.step {h L1 L2 : Addr} {H0 H H' : Hp} {cs : List Nat} {tvs : List V} {ts : List Tie} (x : Chg K h L1 L2 H0 H cs tvs ts) (k : Keep h H H') (p : Pot H' h) : Chg K h L1 L2 H0 H' cs tvs ts :=
  ⟨Keep.trans x.keep k, p, k _ _ x.n1 x.e1, k _ _ x.n2 x.e2, x.ne, x.n1, x.n2, ties_keep x.ties x.pot k, x.loose, x.few, x.f1, x.f2⟩
theorem Chg.same {h L1 L2 : Addr} {H0 H H' : Hp} {cs : List Nat} {tvs : List V} {ts : List Tie} (x : Chg K h L1 L2 H0 H cs tvs ts) (s : Same H H') : Chg K h L1 L2 H0 H' cs tvs ts := x.step (Same.keep s) (x.pot.same s)
theorem loose_set {cs : List Nat} {ts : List Tie} (x : Loose (cs, ts)) {j c : Nat} (hc : Ltr c) : Loose (cs.set j c, ts) := ⟨by show (cs.set j c).length ≤ _; rw [List.length_set]; exact x.few, x.most, fun d hd => by
  rcases List.mem_or_eq_of_mem_set hd with z | z
  · exact x.kinds d z
  · rw [z]; exact hc, x.diff, fun t ht => by
  show t.1 < t.2.1 ∧ t.2.1 < (cs.set j c).length ∧ _
  rw [List.length_set]; exact x.ends t ht⟩
theorem loose_cut {cs : List Nat} {ts : List Tie} (x : Loose (cs, ts)) (j : Nat) : Loose (cs, ts.eraseIdx j) := ⟨x.few, Nat.le_trans (List.length_eraseIdx_le _ _) x.most, x.kinds, List.Pairwise.sublist (List.eraseIdx_sublist _ _) x.diff, fun t ht => x.ends t ((List.eraseIdx_sublist _ _).subset ht)⟩
theorem paired_erase {α β : Type} {F : α → β → Prop} : ∀ {xs : List α} {ys : List β}, Paired F xs ys → ∀ j, Paired F (xs.eraseIdx j) (ys.eraseIdx j)
  | _, _, .nil, _ => .nil
  | _, _, .cons r t, 0 => t
  | _, _, .cons r t, j + 1 => .cons r (paired_erase t j)
/-- the web otherwise, named anew -/
def spOther (K : PySem.W.Frag) : Sp := fun vs H Q _ => ∃ (h : Addr) (v : V) (u : Web), vs = [.ref h, v] ∧ WebAt K H v u ∧ WOk u ∧ u.1.length ≤ 5 ∧ Pot H h ∧ ∀ H' v' w', Keep h H H' → Pot H' h → WebAt K H' v' w' → WOk w' → w'.1.length ≤ 5 → Q v' H'
theorem ok_otherwise (T : Tx K mg base) : FnOk P w K mg base CX0 4 T.otherwise.f T.otherwise.fd ["pot", "web"] (spOther K) := by
  refine T.otherwise.F.ok sc_otherwise (fun vs H Q E h => ?_) (fun cdv A outer s H vs Q E hr h => ?_)
  · obtain ⟨_, _, _, rfl, _⟩ := h; rfl
  · obtain ⟨h, v, u, rfl, hw, U, l5, hp, q⟩ := h
    obtain ⟨a2, b2, tv2, ev2, q2, q2', pT2⟩ := id hw
    subst ev2
    refine ⟨_, (pss_cons (ps_set (i := 2) sc_otherwise.nd rfl (.inl rfl) (pe_callTy (cr_listStr rfl) (by rfl) T.m_list (by decide +kernel) (pa_cons (pe_ix ix_tup (pv 1) pe_int (fun _ _ => rfl)) pa_nil)))
      (pss_cons (ps_set (i := 3) sc_otherwise.nd rfl (.inl rfl) (pe_callTy call_list_of (by rfl) T.m_list (by decide +kernel) (pa_cons (pe_ix ix_tup (pv 1) pe_int (fun _ _ => rfl)) pa_nil)))
      (pss_cons (ps_set (i := 4) sc_otherwise.nd rfl (.inl rfl) (pe_call (ok_take T) (hr.mono (by decide)) (by rfl) T.take.g T.take.F.kp T.take.b .nil pass0 (pa_cons (pv 0) (pa_cons pe_int pa_nil))))
      (Evl.pss_cut (ps_if (PW.pt (pw_and (pt_cmpR op_eq (pv 4) pe_int (nomark _)) (pw_and1 (pt_cmpR (op_neD (hr.units)) (pv 2) (pe_lst pa_nil) (nomark _)))))
        (pss_one (ps_asg (pe_call (ok_letter T) (hr.mono (by decide)) (by rfl) T.letter.g T.letter.F.kp T.letter.b .nil pass0 (pa_cons (pv 0) (pa_cons pe_int pa_nil))) (pg_sub (pv 2) (pe_call (ok_take T) (hr.mono (by decide)) (by rfl) T.take.g T.take.F.kp T.take.b .nil pass0 (pa_cons (pv 0) (pa_cons (pe_callB call_len_seq (by rfl) T.m_len (by decide +kernel) (pa_cons (pv 2) pa_nil)) pa_nil))) set_list)))
        pss_nil)
      (Evl.pss_cut (ps_if (PW.pt (pw_and (pt_cmpR op_eq (pv 4) pe_int (nomark _)) (pw_and1 (pt_cmpR (op_neD (hr.units)) (pv 3) (pe_lst pa_nil) (nomark _)))))
        (pss_one (ps_expr (pe_bm PySem.F.plainAttrs_list PySem.F.slot_list_pop PySem.F.type_list_pop mt_popAt (pv 3) (pa_cons (pe_call (ok_take T) (hr.mono (by decide)) (by rfl) T.take.g T.take.F.kp T.take.b .nil pass0 (pa_cons (pv 0) (pa_cons (pe_callB call_len_seq (by rfl) T.m_len (by decide +kernel) (pa_cons (pv 3) pa_nil)) pa_nil))) pa_nil))))
        pss_nil)
      (Evl.pss_cut (ps_if (PW.pt (pw_and (pt_cmpR op_eq (pv 4) pe_int (nomark _)) (pw_and1 (pt_cmpR (op_neD (hr.units)) (pv 2) (pe_lst pa_nil) (nomark _)))))
        (pss_cons (ps_set (i := 5) sc_otherwise.nd rfl (.inr rfl) (pe_call (ok_take T) (hr.mono (by decide)) (by rfl) T.take.g T.take.F.kp T.take.b .nil pass0 (pa_cons (pv 0) (pa_cons (pe_callB call_len_seq (by rfl) T.m_len (by decide +kernel) (pa_cons (pv 2) pa_nil)) pa_nil))))
        (pss_cons (ps_set (i := 1) sc_otherwise.nd rfl (.inl rfl) (pe_call (ok_cut T) (hr.mono (by decide)) (by rfl) T.cut.g T.cut.F.kp T.cut.b .nil pass0 (pa_cons (pv 1) (pa_cons (pe_lc (own := [("place", 6)]) (g := gName 6) (tt := tTest (tOp rNe (tVar 6) (tVar 5))) (te := tVar 6) rfl sc_otherwise.nd (pi_range1 (by rfl) T.m_range (pa_cons (pe_callB call_len_seq (by rfl) T.m_len (by decide +kernel) (pa_cons (pv 2) pa_nil)) pa_nil)) (blkOk_by (N := ["pot", "web", "kinds", "ties", "way", "off", "place"]) (sc := defScope s_otherwise) (by decide +kernel)) (fun _ _ _ _ _ => (pg_name (i := 6) sc_otherwise.nd rfl (.inl rfl))) (fun _ _ _ _ _ => pts_one (pt_cmpR op_ne (pv 6) (pv 5) (nomark _))) (fun _ _ _ _ _ => (pv 6))) pa_nil))))
        (pss_cons (ps_set (i := 2) sc_otherwise.nd rfl (.inl rfl) (pe_callTy (cr_listStr rfl) (by rfl) T.m_list (by decide +kernel) (pa_cons (pe_ix ix_tup (pv 1) pe_int (fun _ _ => rfl)) pa_nil)))
        (pss_one (ps_set (i := 3) sc_otherwise.nd rfl (.inl rfl) (pe_callTy call_list_of (by rfl) T.m_list (by decide +kernel) (pa_cons (pe_ix ix_tup (pv 1) pe_int (fun _ _ => rfl)) pa_nil)))))))
        pss_nil)
      (pss_one (ps_ret (pe_call (ok_web T) (hr.mono (by decide)) (by rfl) T.web.g T.web.F.kp T.web.b .nil pass0 (pa_cons (pv 2) (pa_cons (pv 3) (pa_cons (pe_call (ok_order T) (hr.mono (by decide)) (by rfl) T.order.g T.order.F.kp T.order.b .nil pass0 (pa_cons (pv 0) (pa_cons (pe_callB call_len_seq (by rfl) T.m_len (by decide +kernel) (pa_cons (pv 2) pa_nil)) pa_nil))) pa_nil)))))))))))), ?_⟩
    walk_at "rd"
    refine d_ixT q2 rfl ?_
    walk_at "rd"
    refine ⟨sz (by rw [sl78]; omega), fun L1 fL1 => ?_⟩
    rw [show (⟨u.1.toArray⟩ : Str).cps.toList = u.1 from rfl]
    have sL1 := same_new (o := .lst (u.1.map fun c => V.str (sg c))) fL1
    have eL1 := upd_same (H := H) (a := L1) (o := .lst (u.1.map fun c => V.str (sg c)))
    have nh1 : L1 ≠ h := hp.ne fL1
    have hp1 := hp.same sL1
    generalize upd H L1 _ = Ha at sL1 eL1 hp1 ⊢
    walk_at "rd"
    refine d_ixT (Same.sqt sL1 q2) rfl ?_
    walk_at "rd"
    refine ⟨b2, tv2, rfl, .inr (Same.sqt sL1 q2'), fun L2 fL2 => ?_⟩
    have sL2 := same_new (o := .lst tv2) fL2
    have eL2 := upd_same (H := Ha) (a := L2) (o := .lst tv2)
    have eL12 := sL2 _ _ eL1
    have nh2 : L2 ≠ h := hp1.ne fL2
    have n12 : L1 ≠ L2 := ne_of_none eL1 fL2
    have sb := Same.trans sL1 sL2
    generalize upd Ha L2 _ = Hb at sL2 eL2 eL12 sb ⊢
    have hpb := hp.same sb
    have X0 : Chg K h L1 L2 H Hb u.1 tv2 u.2 := ⟨Same.keep sb, hpb, eL12, eL2, n12, nh1, nh2, Paired.imp pT2 fun _ _ z => TieAt.same z sb, wok_loose U, l5, fL1, Same.free sL1 fL2⟩
    have hwb := hw.same sb
    walk_at "rd"
    refine ⟨h, 4, rfl, by decide, by decide, hpb, fun H1 g k1 hp1' g0 g4 => ?_⟩
    have X1 := X0.step k1 hp1'
    have hw1 := web_keep hpb hwb k1
    walk_at "rd"
    refine d_cut (fun σ H' => ∃ (y5 y6 : Option V) (cs : List Nat), σ = [some (.ref h), some (.ref a2), some (.ref L1), some (.ref L2), some (.int g), y5, y6] ∧ Chg K h L1 L2 H H' cs tv2 u.2 ∧ WebAt K H' (.ref a2) u ∧ cs.length = u.1.length) ?_ (fun σ H2 hP => ?_)
    · walk_at "rd"
      refine ite2 (fun c => ?_) (fun c => ?_)
      · walk_at "rd"
        refine ⟨sz (by show 0 ≤ 100000; decide), fun z fz => ?_⟩
        have s2 := same_new (o := .lst []) fz
        have ez := upd_same (H := H1) (a := z) (o := .lst [])
        have X2 := X1.same s2
        have hw2 := hw1.same s2
        generalize upd H1 z _ = H2 at s2 ez X2 hw2 ⊢
        refine ⟨_, _, .lst (SqL.of X2.e1) (dpa_sgs _), .lst (SqL.of ez) .nil, sgs_good X2.loose.kinds, bgns_good [], ?_⟩
        rw [eqv_nil]
        walk_at "rd"
        refine ite2 (fun c2 => ?_) (fun c2 => ?_)
        · have l0 : 0 < u.1.length := by
            cases hu : u.1 with
            | nil => rw [hu] at c2; simp at c2
            | cons x r => simp
          walk_at "rd"
          refine ⟨h, 3, rfl, by decide, by decide, X2.pot, fun H3 c3 k3 hp3 lc => ?_⟩
          have X3 := X2.step k3 hp3
          have hw3 := web_keep X2.pot hw2 k3
          walk_at "rd"
          refine d_lenL (SqL.of X3.e1) ?_
          rw [List.length_map]
          walk_at "rd"
          refine ⟨h, (u.1.length : Nat), rfl, by omega, by omega, X3.pot, fun H4 g4 k4 hp4 g40 g44 => ?_⟩
          have X4 := X3.step k4 hp4
          have hw4 := web_keep X3.pot hw3 k4
          obtain ⟨j, rfl⟩ := Int.eq_ofNat_of_zero_le g40
          walk_at "rd"
          refine d_setL X4.e1 (j := j) (by unfold ixN; rw [List.length_map, if_pos (by omega), if_pos (by omega)]; simp) ?_
          refine ⟨_, _, u.1.set j c3, rfl, ⟨Keep.new X4.keep X4.f1, X4.pot.put X4.n1, by rw [upd_same, List.map_set], by rw [upd_ne X4.ne.symm]; exact X4.e2, X4.ne, X4.n1, X4.n2, Paired.imp X4.ties fun _ _ z => TieAt.keep z Keep.put X4.e1, loose_set X4.loose lc, by rw [List.length_set]; exact l5, X4.f1, X4.f2⟩, hw4.keep Keep.put X4.e1, List.length_set⟩
        · walk_at "rd"
          exact ⟨_, _, u.1, rfl, X2, hw2, rfl⟩
      · walk_at "rd"
        exact ⟨_, _, u.1, rfl, X1, hw1, rfl⟩
    obtain ⟨y5, y6, cs, rfl, X2, hw2, lcs⟩ := hP
    walk_at "rd"
    refine d_cut (fun σ H' => ∃ (y5 y6 : Option V) (tvs : List V) (ts : List Tie), σ = [some (.ref h), some (.ref a2), some (.ref L1), some (.ref L2), some (.int g), y5, y6] ∧ Chg K h L1 L2 H H' cs tvs ts ∧ WebAt K H' (.ref a2) u) ?_ (fun σ H3 hP => ?_)
    · walk_at "rd"
      refine ite2 (fun c => ?_) (fun c => ?_)
      · walk_at "rd"
        refine ⟨sz (by show 0 ≤ 100000; decide), fun z fz => ?_⟩
        have s2 := same_new (o := .lst []) fz
        have ez := upd_same (H := H2) (a := z) (o := .lst [])
        have X3 := X2.same s2
        have hw3 := hw2.same s2
        generalize upd H2 z _ = H3 at s2 ez X3 hw3 ⊢
        refine ⟨_, _, .lst (SqL.of X3.e2) (Ties.dpa X3.ties), .lst (SqL.of ez) .nil, tiesD_good fun t ht => (X3.loose.ends t ht).2.2, bgns_good [], ?_⟩
        rw [eqv_nil]
        walk_at "rd"
        refine ite2 (fun c2 => ?_) (fun c2 => ?_)
        · have lt2 : tv2.length = u.2.length := Paired.length X3.ties
          have l0 : 0 < tv2.length := by
            rw [lt2]
            cases hu : u.2 with
            | nil => rw [hu] at c2; simp at c2
            | cons x r => simp
          have l16 := ties_780 U
          walk_at "rd"
          refine ⟨.inl ⟨rfl, _, SqL.of X3.e2⟩, ?_⟩
          walk_at "rd"
          refine d_lenL (SqL.of X3.e2) ?_
          walk_at "rd"
          refine ⟨h, (tv2.length : Nat), rfl, by omega, by omega, X3.pot, fun H4 g4 k4 hp4 g40 g44 => ?_⟩
          have X4 := X3.step k4 hp4
          have hw4 := web_keep X3.pot hw3 k4
          obtain ⟨j, rfl⟩ := Int.eq_ofNat_of_zero_le g40
          walk_at "rd"
          have hj : j < tv2.length := by omega
          refine ⟨L2, _, (j : Nat), j, tv2[j], rfl, rfl, X4.e2, by omega, by omega, seqIndex_of (by omega) (by omega), List.getElem?_eq_getElem hj, ?_⟩
          walk_at "rd"
          refine ⟨_, _, tv2.eraseIdx j, u.2.eraseIdx j, rfl, ⟨Keep.new X4.keep X4.f2, X4.pot.put X4.n2, by rw [upd_ne X4.ne]; exact X4.e1, upd_same, X4.ne, X4.n1, X4.n2, Paired.imp (paired_erase X4.ties j) fun _ _ z => TieAt.keep z Keep.put X4.e2, loose_cut X4.loose j, X4.few, X4.f1, X4.f2⟩, hw4.keep Keep.put X4.e2⟩
        · walk_at "rd"
          exact ⟨_, _, _, _, rfl, X3, hw3⟩
      · walk_at "rd"
        exact ⟨_, _, _, _, rfl, X2, hw2⟩
    obtain ⟨y5, y6, tvs, ts, rfl, X3, hw3⟩ := hP
    walk_at "rd"
    refine d_cut (fun σ H' => ∃ (v2 : V) (M1 M2 : Addr) (y5 y6 : Option V) (cs : List Nat) (tvs : List V) (ts : List Tie), σ = [some (.ref h), some v2, some (.ref M1), some (.ref M2), some (.int g), y5, y6] ∧ Chg K h M1 M2 H H' cs tvs ts) ?_ (fun σ H4 hP => ?_)
    · walk_at "rd"
      refine ite2 (fun c => ?_) (fun c => ?_)
      · walk_at "rd"
        refine ⟨sz (by show 0 ≤ 100000; decide), fun z fz => ?_⟩
        have s2 := same_new (o := .lst []) fz
        have ez := upd_same (H := H3) (a := z) (o := .lst [])
        have X4 := X3.same s2
        have hw4 := hw3.same s2
        generalize upd H3 z _ = H4 at s2 ez X4 hw4 ⊢
        refine ⟨_, _, .lst (SqL.of X4.e1) (dpa_sgs _), .lst (SqL.of ez) .nil, sgs_good X4.loose.kinds, bgns_good [], ?_⟩
        rw [eqv_nil]
        walk_at "rd"
        refine ite2 (fun c2 => ?_) (fun c2 => ?_)
        · have l0 : 0 < cs.length := by
            cases cs with
            | nil => simp at c2
            | cons x r => simp
          walk_at "rd"
          refine d_lenL (SqL.of X4.e1) ?_
          rw [List.length_map]
          walk_at "rd"
          refine ⟨h, (cs.length : Nat), rfl, by omega, by omega, X4.pot, fun H5 g5 k5 hp5 g50 g55 => ?_⟩
          have X5 := X4.step k5 hp5
          have hw5 := web_keep X4.pot hw4 k5
          walk_at "rd"
          refine d_lenL (SqL.of X5.e1) ?_
          rw [List.length_map]
          walk_at "rd"
          intro PD fPD
          have nPD := hp5.ne fPD
          refine lc_range (fun i H' => ∃ ps : List Nat, H' PD = some (.lst (ps.map fun q => V.int (q : Nat))) ∧ Same H5 H' ∧ ps.Pairwise (· < ·) ∧ (∀ x ∈ ps, x < i) ∧ ps.length ≤ i) ⟨[], upd_same, same_new fPD, .nil, fun _ z => (nomatch z), Nat.le_refl _⟩ (fun i H' hi hP => ?_) (fun H' hP => ?_)
          · obtain ⟨ps, eD, kk, pw, lo, lps⟩ := hP
            have hi : i < cs.length := by have := hi; rwa [Int.toNat_natCast] at this
            walk_at "rd"
            have pw2 : (ps ++ [i]).Pairwise (· < ·) := List.pairwise_append.mpr ⟨pw, List.pairwise_singleton _ _, fun x hx y hy => by rw [List.mem_singleton.mp hy]; exact lo x hx⟩
            have lo2 : ∀ x ∈ ps ++ [i], x < i + 1 := fun x hx => by
              rcases List.mem_append.mp hx with hx | hx
              · have := lo x hx; omega
              · rw [List.mem_singleton.mp hx]; omega
            refine ite2 (fun c => ?_) (fun c => ?_)
            · walk_at "rd"
              rw [Int.zero_add]
              refine ⟨_, eD, szl (by rw [List.length_map]; omega), ps ++ [i], by rw [upd_same, List.map_append]; rfl, same_upd kk fPD, pw2, lo2, by rw [List.length_append, List.length_singleton]; omega⟩
            · exact ⟨ps, eD, kk, pw, fun x hx => by have := lo x hx; omega, by omega⟩
          obtain ⟨ps, ePD, s9, pw, lo, lps⟩ := hP
          rw [Int.toNat_natCast] at lo lps
          have X9 := X5.same s9
          have hw9 := hw5.same s9
          walk_at "rd"
          refine ⟨.ref a2, u, PD, ps, rfl, hw9, U, ePD, pw, by rw [← lcs]; exact lo, fun H10 v10 s10 hc => ?_⟩
          have C := cutL_ok U pw (by rw [← lcs]; exact lo)
          have X10 := X9.same s10
          have lcu : (cutL u ps).1.length ≤ 5 := by rw [cut_len]; omega
          obtain ⟨a3, b3, tv3, ev3, q3, q3', pT3⟩ := id hc
          subst ev3
          walk_at "rd"
          refine d_ixT q3 rfl ?_
          walk_at "rd"
          refine ⟨sz (by rw [sl78]; omega), fun M1 fM1 => ?_⟩
          rw [show (⟨(cutL u ps).1.toArray⟩ : Str).cps.toList = (cutL u ps).1 from rfl]
          have sM1 := same_new (o := .lst ((cutL u ps).1.map fun c => V.str (sg c))) fM1
          have eM1 := upd_same (H := H10) (a := M1) (o := .lst ((cutL u ps).1.map fun c => V.str (sg c)))
          have nm1 : M1 ≠ h := X10.pot.ne fM1
          have hpm := X10.pot.same sM1
          generalize upd H10 M1 _ = Hm at sM1 eM1 hpm ⊢
          walk_at "rd"
          refine d_ixT (Same.sqt sM1 q3) rfl ?_
          walk_at "rd"
          refine ⟨b3, tv3, rfl, .inr (Same.sqt sM1 q3'), fun M2 fM2 => ?_⟩
          have sM2 := same_new (o := .lst tv3) fM2
          have eM2 := upd_same (H := Hm) (a := M2) (o := .lst tv3)
          have eM12 := sM2 _ _ eM1
          have nm2 : M2 ≠ h := hpm.ne fM2
          have m12 : M1 ≠ M2 := ne_of_none eM1 fM2
          have sm := Same.trans sM1 sM2
          generalize upd Hm M2 _ = Hn at sM2 eM2 eM12 sm ⊢
          have X11 := X10.same sm
          have fr : ∀ {p : Addr}, H10 p = none → p ≠ h → H p = none := fun {p} e n => by
            cases e0 : H p with
            | none => rfl
            | some o => have := X10.keep _ _ n e0; rw [this] at e; cases e
          walk_at "rd"
          exact ⟨_, M1, M2, _, _, _, tv3, _, rfl, ⟨X11.keep, X11.pot, eM12, eM2, m12, nm1, nm2, Paired.imp pT3 fun _ _ z => TieAt.same z sm, wok_loose C, lcu, fr fM1 nm1, fr (Same.free sM1 fM2) nm2⟩⟩
        · walk_at "rd"
          exact ⟨_, L1, L2, _, _, _, _, _, rfl, X4⟩
      · walk_at "rd"
        exact ⟨_, L1, L2, _, _, _, _, _, rfl, X3⟩
    obtain ⟨v2, M1, M2, y5, y6, cs, tvs, ts, rfl, X4⟩ := hP
    walk_at "rd"
    refine d_lenL (SqL.of X4.e1) ?_
    rw [List.length_map]
    walk_at "rd"
    have l4 := X4.few
    refine ⟨h, (cs.length : Nat), rfl, by omega, by omega, X4.pot, fun Hc o qs kc hc' fo eo pm => ?_⟩
    rw [Int.toNat_natCast] at pm
    have X5 := X4.step kc hc'
    have od : Ord qs cs.length := Ord.of pm
    walk_at "rd"
    refine ⟨M1, M2, o, (cs, ts), tvs, qs, rfl, X5.e1, X5.e2, X5.ties, X5.loose, eo, od, fun Hd vd t sd hwd Tt N => ?_⟩
    exact q Hd vd t (Keep.trans X5.keep (Same.keep sd)) (X5.pot.same sd) hwd Tt (by rw [N.len]; exact l4)
/-- the distance and the joined size, as found here -/
def spRight (K : PySem.W.Frag) (PP : Addr) : Sp := fun vs H Q _ => ∃ (v v' : V) (u u' : Web), vs = [v, v'] ∧ WebAt K H v u ∧ WebAt K H v' u' ∧ WOk u ∧ WOk u' ∧ u.1.length ≤ 5 ∧ u'.1.length ≤ 5 ∧ TabN (fun _ => False) H PP qC ∧
  ∀ H', KS (fun b => b = PP) H H' → TabN (fun _ => False) H' PP qC → Q (.bl true) H'
theorem ok_right (T : Tx K mg base) : FnOk P w K mg base CX0 36 T.right.f T.right.fd ["one", "other"] (spRight K T.P_LyingRules_choices) := by
  refine T.right.F.ok sc_right (fun vs H Q E h => ?_) (fun cdv A outer s H vs Q E hr h => ?_)
  · obtain ⟨_, _, _, _, rfl, _⟩ := h; rfl
  · obtain ⟨v, v', u, u', rfl, hw, hw', U, U', l5, l5', tab, q⟩ := h
    obtain ⟨a1, _, _, e1, _⟩ := id hw
    subst e1
    obtain ⟨a2, _, _, e2, _⟩ := id hw'
    subst e2
    obtain ⟨k, gr⟩ := great_ex u u'
    refine ⟨_, (pss_cons (ps_set (i := 2) sc_right.nd rfl (.inl rfl) (pe_call (ok_size T) (hr.mono (by decide)) (by rfl) T.size.g T.size.F.kp T.size.b .nil pass0 (pa_cons (pv 0) (pa_cons (pv 1) pa_nil))))
      (pss_cons (ps_set (i := 3) sc_right.nd rfl (.inl rfl) (pe_call (ok_distance T) (hr.mono (by decide)) (by rfl) T.distance.g T.distance.F.kp T.distance.b .nil pass0 (pa_cons (pv 0) (pa_cons (pv 1) pa_nil))))
      (pss_cons (ps_if (PW.pt (pw_or (pt_not (pt_val (pe_callB call_isi (by rfl) T.m_isinstance (by decide +kernel) (pa_cons (pv 3) (pa_cons (pe_bltn (by rfl) T.m_tuple (by decide +kernel) (v := .ty "tuple") rfl) pa_nil))))) (pw_or1 (pt_cmpR (op_neD (hr.units)) (pv 3) (pe_call (ok_far T) (hr.mono (by decide)) (by rfl) T.far.g T.far.F.kp T.far.b .nil pass0 (pa_cons (pv 0) (pa_cons (pv 1) pa_nil))) (nomark _)))))
        (pss_one (ps_ret pe_bl))
        pss_nil)
      (pss_cons (ps_set (i := 4) sc_right.nd rfl (.inl rfl) (pe_call (ok_joined_size T) (hr.mono (by decide)) (by rfl) T.joined_size.g T.joined_size.F.kp T.joined_size.b .nil pass0 (pa_cons (pv 0) (pa_cons (pv 1) pa_nil))))
      (pss_cons (ps_if (pt_cmpR (op_neD (hr.units)) (pe_lc (own := [("number", 5)]) (g := gName 5) (tt := tOr (tNot (tB (tCB (rIsi K) (tCons (tVar 5) (tCons (tC (.ty "int")) tNil))))) (tB (tCB (rIsi K) (tCons (tVar 5) (tCons (tC (.ty "bool")) tNil))))) (te := tVar 5) rfl sc_right.nd (pi_tup (pe_op op_catA (pv 3) (pe_tup (pa_cons (pv 4) pa_nil)))) (blkOk_by (N := ["one", "other", "size", "found", "joined", "number"]) (sc := defScope s_right) (by decide +kernel)) (fun _ _ _ _ _ => (pg_name (i := 5) sc_right.nd rfl (.inl rfl))) (fun _ _ _ _ _ => pts_one (PW.pt (pw_or (pt_not (pt_val (pe_callB call_isi (by rfl) T.m_isinstance (by decide +kernel) (pa_cons (pv 5) (pa_cons (pe_bltn (by rfl) T.m_int (by decide +kernel) (v := .ty "int") rfl) pa_nil))))) (pw_or1 (pt_val (pe_callB call_isi (by rfl) T.m_isinstance (by decide +kernel) (pa_cons (pv 5) (pa_cons (pe_bltn (by rfl) T.m_bool (by decide +kernel) (v := .ty "bool") rfl) pa_nil)))))))) (fun _ _ _ _ _ => (pv 5))) (pe_lst pa_nil) (nomark _))
        (pss_one (ps_ret pe_bl))
        pss_nil)
      (pss_one (ps_ret (pe_cmpR op_eq (pv 4) (pe_op op_sub (pe_op op_add (pe_callB call_len_str (by rfl) T.m_len (by decide +kernel) (pa_cons (pe_ix ix_tup (pv 0) pe_int (fun _ _ => rfl)) pa_nil)) (pe_callB call_len_str (by rfl) T.m_len (by decide +kernel) (pa_cons (pe_ix ix_tup (pv 1) pe_int (fun _ _ => rfl)) pa_nil))) (pv 2)) (nomark _))))))))), ?_⟩
    walk_at "rd"
    refine ⟨_, _, u, u', k, rfl, hw, hw', U, U', l5, l5', gr, fun H1 s1 => ?_⟩
    have hw1 := hw.same s1
    have hw1' := hw'.same s1
    have tab1 := tabS_same tab s1
    walk_at "rd"
    refine ⟨_, _, u, u', k, rfl, hw1, hw1', U, U', by omega, by omega, tab1, gr, fun H2 p2 ks2 tab2 ep2 => ?_⟩
    have hw2 := web_kst tab1 hw1 ks2
    have hw2' := web_kst tab1 hw1' ks2
    walk_at "rd"
    refine ⟨_, _, _, _, true, rfl, .ty "tuple", .base (.tup ep2), kit_ty (by decide +kernel), ?_⟩
    walk_at "rd"
    refine ⟨_, _, u, u', k, rfl, hw2, hw2', U, U', l5, l5', gr, fun H3 p3 s3 ep3 => ?_⟩
    have ep23 := s3 _ _ ep2
    have hw3 := hw2.same s3
    have hw3' := hw2'.same s3
    have tab3 := tabS_same tab2 s3
    walk_at "rd"
    refine ⟨_, _, .tup (SqT.of ep23) (.cons (.int _) (.cons (.int _) .nil)), .tup (SqT.of ep3) (.cons (.int _) (.cons (.int _) .nil)), shaped_two _ _, shaped_two _ _, ?_⟩
    rw [good_eqv (shaped_two _ _)]
    walk_at "rd"
    refine ⟨_, _, u, u', k, rfl, hw3, hw3', U, U', by omega, by omega, tab3, gr, fun H4 ks4 tab4 => ?_⟩
    have ep24 := tup_kst tab3 ks4 ep23
    have hw4 := web_kst tab3 hw3 ks4
    have hw4' := web_kst tab3 hw3' ks4
    have ksA : KS (fun b => b = T.P_LyingRules_choices) H H4 := KS.trans (KS.of s1) (KS.trans ks2 (KS.trans (KS.of s3) ks4))
    walk_at "rd"
    refine ⟨sz (by show 1 ≤ 100000; decide), fun j1 fj1 => ?_⟩
    have sj1 := same_new (o := .tup [V.int (((u.1.length : Nat) : Int) + (u'.1.length : Nat) - (k : Nat))]) fj1
    have ej1 := upd_same (H := H4) (a := j1) (o := .tup [V.int (((u.1.length : Nat) : Int) + (u'.1.length : Nat) - (k : Nat))])
    generalize upd H4 j1 _ = H5 at sj1 ej1 ⊢
    refine d_catB (SqT.of (sj1 _ _ ep24)) (SqT.of ej1) (sz (by show 2 + 1 ≤ 100000; decide)) fun H6 p6 s6 q6 => ?_
    have s46 := Same.trans sj1 s6
    obtain ⟨n1, n2, n3, q6⟩ : ∃ n1 n2 n3 : Int, SqT K H6 p6 [V.int n1, V.int n2, V.int n3] := ⟨_, _, _, q6⟩
    have hw6 := hw4.same s46
    have hw6' := hw4'.same s46
    have tab6 := tabS_same tab4 s46
    walk_at "rd"
    refine d_iTe q6 ?_
    intro C fC
    refine lc_it (walk_tup (K := K) (a := p6) (xs := [V.int n1, V.int n2, V.int n3])) (fun i H' => H' C = some (.lst []) ∧ Same H6 H') ⟨upd_same, same_new fC⟩ (fun i H' _ hP => ?_) (fun i x H'' H' hi hP hy => ?_) (fun H' hP => ?_)
    · exact Same.sqt hP.2 q6
    · obtain ⟨eC, s7⟩ := hP
      obtain ⟨rfl, hx⟩ := hy
      obtain ⟨n, rfl⟩ : ∃ n : Int, x = V.int n := by
        match i, hi, hx with
        | 0, _, hx => exact ⟨_, (Option.some.inj hx).symm⟩
        | 1, _, hx => exact ⟨_, (Option.some.inj hx).symm⟩
        | 2, _, hx => exact ⟨_, (Option.some.inj hx).symm⟩
      walk_at "rd"
      refine ⟨_, _, _, _, true, rfl, .ty "int", .base (.int _), kit_ty (by decide +kernel), ?_⟩
      walk_at "rd"
      refine ⟨_, _, _, _, false, rfl, .ty "bool", .base (.int _), kit_ty (by decide +kernel), ?_⟩
      walk_at "rd"
      exact ⟨eC, s7⟩
    obtain ⟨eC, s7⟩ := hP
    walk_at "rd"
    refine ⟨sz (by show 0 ≤ 100000; decide), fun z fz => ?_⟩
    have s8 := same_new (o := .lst []) fz
    have ez := upd_same (H := H') (a := z) (o := .lst [])
    have eC8 := s8 _ _ eC
    generalize upd H' z _ = H8 at s8 ez eC8 ⊢
    have s68 := Same.trans s7 s8
    have hw8 := hw6.same s68
    have hw8' := hw6'.same s68
    obtain ⟨b3, tv3, q3, _, _⟩ := web_at hw8
    obtain ⟨b4, tv4, q4, _, _⟩ := web_at hw8'
    refine ⟨_, _, .lst (SqL.of eC8) .nil, .lst (SqL.of ez) .nil, bgns_good [], bgns_good [], ?_⟩
    rw [show PyData.eqv (.list ([] : List PyData)) (.list ([] : List PyData)) = true from by rw [eqv_nil]; rfl]
    walk_at "rd"
    refine d_ixT q3 rfl ?_
    refine d_lenS (z := ⟨u.1.toArray⟩) (sz (by rw [str_len78]; omega)) ?_
    rw [str_len78]
    walk_at "rd"
    refine d_ixT q4 rfl ?_
    refine d_lenS (z := ⟨u'.1.toArray⟩) (sz (by rw [str_len78]; omega)) ?_
    rw [str_len78]
    walk_at "rd"
    rw [decide_eq_true (show (((u.1.length : Nat) : Int) + (u'.1.length : Nat) - (k : Nat)) = (u.1.length : Nat) + (u'.1.length : Nat) - (k : Nat) from rfl)]
    exact q H8 (KS.trans ksA (KS.of (Same.trans s46 s68))) (tabS_same tab6 s68)
theorem cut_ints (ns : List Int) (lo hi : Option Int) : ∀ x ∈ cutV (ns.map V.int) lo hi, ∃ c : Int, x = V.int c := fun x hx => by
  unfold cutV at hx
  have m := List.mem_of_mem_drop (List.mem_of_mem_take hx)
  obtain ⟨c, _, rfl⟩ := List.mem_map.mp m
  exact ⟨c, rfl⟩
theorem none_web : WOk (([], []) : Web) := ⟨Nat.zero_le _, Nat.zero_le _, fun c hc => (by cases hc), .nil, fun t ht => (by cases ht)⟩
theorem a_web : WOk (([97], []) : Web) := ⟨by decide, Nat.zero_le _, fun c hc => (by rw [List.mem_singleton.mp hc]; unfold Ltr; omega), .nil, fun t ht => (by cases ht)⟩
theorem web_lit {H : Hp} {p t : Addr} {cs : List Nat} (ep : H p = some (.tup [V.str ⟨cs.toArray⟩, V.ref t])) (et : H t = some (.tup [])) : WebAt K H (.ref p) (cs, []) := ⟨p, t, [], rfl, SqT.of ep, SqT.of et, .nil⟩
theorem great_nil (u : Web) : GrL u ([], []) 0 := by
  obtain ⟨k, g⟩ := great_ex u ([], [])
  have := great_few2 g
  have e : k = 0 := by
    have h : ([] : List Nat).length = 0 := rfl
    show k = 0
    have : k ≤ 0 := this
    omega
  rw [← e]; exact g
theorem ok_law (T : Tx K mg base) : FnOk P w K mg base CX0 37 T.law.f T.law.fd ["script"] (spLawL K T.cs T.ls) := by
  refine T.law.F.ok sc_law (fun vs H Q E h => ?_) (fun cdv A outer s H vs Q E hr h => ?_)
  · obtain ⟨_, _, rfl, _⟩ := h; rfl
  · obtain ⟨a, ns, rfl, hS, hl, hcs, hls, q⟩ := h
    have tab : TabN (fun _ => False) H T.P_LyingRules_choices qC := TabN.empty (hls (T.c_LyingRules_choices, T.P_LyingRules_choices) List.mem_cons_self)
    refine ⟨_, (pss_cons (ps_for PassesOwn.never rfl (pi_list (pe_op op_cat (pe_slice sl_list (pv 0) po_none (po_some pe_int)) (pe_lst (pa_cons (pe_callB call_len_seq (by rfl) T.m_len (by decide +kernel) (pa_cons (pv 0) pa_nil)) pa_nil)))) (pg_name (i := 1) sc_law.nd rfl (.inl rfl))
        (pss_cons (ps_set (i := 2) sc_law.nd rfl (.inl rfl) (pe_call (ok_pot T) (hr.mono (by decide)) (by rfl) T.pot.g T.pot.F.kp T.pot.b .nil pass0 (pa_cons (pv 1) pa_nil)))
        (pss_cons (ps_set (i := 3) sc_law.nd rfl (.inl rfl) (pe_op op_add pe_int (pe_call (ok_take T) (hr.mono (by decide)) (by rfl) T.take.g T.take.F.kp T.take.b .nil pass0 (pa_cons (pv 2) (pa_cons pe_int pa_nil)))))
        (pss_cons (ps_set (i := 4) sc_law.nd rfl (.inl rfl) (pe_call (ok_drawn T) (hr.mono (by decide)) (by rfl) T.drawn.g T.drawn.F.kp T.drawn.b .nil pass0 (pa_cons (pv 2) (pa_cons (pe_call (ok_take T) (hr.mono (by decide)) (by rfl) T.take.g T.take.F.kp T.take.b .nil pass0 (pa_cons (pv 2) (pa_cons pe_int pa_nil))) (pa_cons (pv 3) pa_nil)))))
        (pss_cons (ps_set (i := 5) sc_law.nd rfl (.inl rfl) (pe_call (ok_drawn T) (hr.mono (by decide)) (by rfl) T.drawn.g T.drawn.F.kp T.drawn.b .nil pass0 (pa_cons (pv 2) (pa_cons (pe_call (ok_take T) (hr.mono (by decide)) (by rfl) T.take.g T.take.F.kp T.take.b .nil pass0 (pa_cons (pv 2) (pa_cons pe_int pa_nil))) (pa_cons (pv 3) pa_nil)))))
        (Evl.pss_cut (ps_if (pt_cmpR op_eq (pe_call (ok_take T) (hr.mono (by decide)) (by rfl) T.take.g T.take.F.kp T.take.b .nil pass0 (pa_cons (pv 2) (pa_cons pe_int pa_nil))) pe_int (nomark _))
          (pss_one (ps_set (i := 5) sc_law.nd rfl (.inl rfl) (pe_call (ok_otherwise T) (hr.mono (by decide)) (by rfl) T.otherwise.g T.otherwise.F.kp T.otherwise.b .nil pass0 (pa_cons (pv 2) (pa_cons (pv 4) pa_nil)))))
          pss_nil)
        (pss_one (ps_if (PW.pt (pw_or (pt_not (pt_val (pe_call (ok_right T) (hr.mono (by decide)) (by rfl) T.right.g T.right.F.kp T.right.b .nil pass0 (pa_cons (pv 4) (pa_cons (pv 5) pa_nil))))) (pw_or1 (pt_not (pt_val (pe_call (ok_right T) (hr.mono (by decide)) (by rfl) T.right.g T.right.F.kp T.right.b .nil pass0 (pa_cons (pv 4) (pa_cons (pe_tup (pa_cons pe_str (pa_cons (pe_tup pa_nil) pa_nil))) pa_nil))))))))
          (pss_one (ps_ret pe_bl))
          pss_nil))))))))
      (pss_one (ps_ret (pe_and (pe_cmpR (op_eqD (hr.units)) (pe_call (ok_distance T) (hr.mono (by decide)) (by rfl) T.distance.g T.distance.F.kp T.distance.b .nil pass0 (pa_cons (pe_tup (pa_cons pe_str (pa_cons (pe_tup pa_nil) pa_nil))) (pa_cons (pe_tup (pa_cons pe_str (pa_cons (pe_tup pa_nil) pa_nil))) pa_nil))) (pe_tup (pa_cons pe_int (pa_cons pe_int pa_nil))) (nomark _)) (pe_one (pe_cmpR (op_eqD (hr.units)) (pe_call (ok_distance T) (hr.mono (by decide)) (by rfl) T.distance.g T.distance.F.kp T.distance.b .nil pass0 (pa_cons (pe_tup (pa_cons pe_str (pa_cons (pe_tup pa_nil) pa_nil))) (pa_cons (pe_tup (pa_cons pe_str (pa_cons (pe_tup pa_nil) pa_nil))) pa_nil))) (pe_tup (pa_cons pe_int (pa_cons pe_int pa_nil))) (nomark _))))))), ?_⟩
    walk_at "rd"
    refine d_slL hS (fun a1 fa1 => ?_)
    have s1 := same_new (o := .lst (cutV (ns.map V.int) none (some 5))) fa1
    have e1 := upd_same (H := H) (a := a1) (o := .lst (cutV (ns.map V.int) none (some 5)))
    have ci := cut_ints ns none (some 5)
    have lci := cutV_length (ns.map V.int) none (some 5)
    rw [List.length_map] at lci
    generalize hcv : cutV (ns.map V.int) none (some 5) = cs at s1 e1 ci lci ⊢
    generalize upd H a1 (.lst cs) = H1 at s1 e1 ⊢
    walk_at "rd"
    refine d_lenL (Same.seq s1 hS) ?_
    rw [List.length_map]
    walk_at "rd"
    refine ⟨sz (by show 1 ≤ 100000; decide), fun a2 fa2 => ?_⟩
    have s2 := same_new (o := .lst [V.int (ns.length : Nat)]) fa2
    have e2 := upd_same (H := H1) (a := a2) (o := .lst [V.int (ns.length : Nat)])
    have e12 := s2 _ _ e1
    generalize upd H1 a2 (.lst [V.int (ns.length : Nat)]) = H2 at s2 e2 e12 ⊢
    refine ⟨a1, a2, _, _, rfl, rfl, e12, e2, sz (by show cs.length + 1 ≤ 100000; omega), fun a3 fa3 => ?_⟩
    have s3 := same_new (o := .lst (cs ++ [V.int (ns.length : Nat)])) fa3
    have e3 := upd_same (H := H2) (a := a3) (o := .lst (cs ++ [V.int (ns.length : Nat)]))
    have tab3 := tabS_same tab (Same.trans s1 (Same.trans s2 s3))
    generalize upd H2 a3 (.lst (cs ++ [V.int (ns.length : Nat)])) = H3 at s3 e3 tab3 ⊢
    have all : ∀ x ∈ cs ++ [V.int (ns.length : Nat)], ∃ c : Int, x = V.int c := fun x hx => by
      rcases List.mem_append.mp hx with hx | hx
      · exact ci x hx
      · rw [List.mem_singleton.mp hx]; exact ⟨_, rfl⟩
    generalize cs ++ [V.int (ns.length : Nat)] = ds at e3 all ⊢
    refine d_iLe (SqL.of e3) ?_
    refine for_it (walk_list (K := K) (xs := ds)) (fun i σ H4 => ∃ y1 y2 y3 y4 y5, σ = [some (.ref a), y1, y2, y3, y4, y5] ∧ KS (fun b => b = T.P_LyingRules_choices) H3 H4 ∧ TabN (fun _ => False) H4 T.P_LyingRules_choices qC)
      ⟨_, _, _, _, _, rfl, KS.refl _, tab3⟩ (fun i σ H4 _ hP => ?_) (fun i x σ H4' H4 hi hP hy => ?_) (fun σ H4 hP => ?_)
    · obtain ⟨_, _, _, _, _, _, k4, _⟩ := hP
      obtain ⟨t0, et0⟩ := tab3.at
      exact SqL.of (k4 _ _ (fun z => by rw [z, et0] at e3; cases e3) e3)
    · obtain ⟨y1, y2, y3, y4, y5, rfl, k4, tab4⟩ := hP
      obtain ⟨rfl, ex⟩ := hy
      obtain ⟨c, rfl⟩ := all x (List.mem_of_getElem? ex)
      walk_at "rd"
      refine ⟨c, rfl, fun H5 h s5 fh hp => ?_⟩
      have X5 : PX K T.P_LyingRules_choices h H4 H5 := ⟨KS.of s5, tabS_same tab4 s5, hp, fh⟩
      walk_at "rd"
      refine ⟨h, 3, rfl, by decide, by decide, hp, fun H6 g6 k6 hp6 g60 g63 => ?_⟩
      have X6 := X5.keep k6 hp6
      walk_at "rd"
      refine ⟨h, 6, rfl, by decide, by decide, hp6, fun H7 g7 k7 hp7 g70 g76 => ?_⟩
      have X7 := X6.keep k7 hp7
      obtain ⟨n, rfl⟩ := Int.eq_ofNat_of_zero_le g70
      walk_at "rd"
      refine ⟨h, n, 1 + g6, rfl, by omega, by omega, by omega, hp7, fun H8 v u k8 hp8 hw U lu => ?_⟩
      have X8 := X7.keep k8 hp8
      walk_at "rd"
      refine ⟨h, 6, rfl, by decide, by decide, hp8, fun H9 g9 k9 hp9 g90 g96 => ?_⟩
      have X9 := X8.keep k9 hp9
      have hw9 := web_keep hp8 hw k9
      obtain ⟨n2, rfl⟩ := Int.eq_ofNat_of_zero_le g90
      walk_at "rd"
      refine ⟨h, n2, 1 + g6, rfl, by omega, by omega, by omega, hp9, fun H10 v2 u2 k10 hp10 hw2 U2 lu2 => ?_⟩
      have X10 := X9.keep k10 hp10
      have hw10 := web_keep hp9 hw9 k10
      walk_at "rd"
      refine d_cut (fun σ H' => ∃ (v2 : V) (u2 : Web), σ = [some (.ref a), some (.int c), some (.ref h), some (.int (1 + g6)), some v, some v2] ∧ PX K T.P_LyingRules_choices h H4 H' ∧ WebAt K H' v u ∧ WebAt K H' v2 u2 ∧ WOk u2 ∧ u2.1.length ≤ 5) ?_ (fun σ H11 hP => ?_)
      · walk_at "rd"
        refine ⟨h, 2, rfl, by decide, by decide, hp10, fun Ha ga ka hpa ga0 ga2 => ?_⟩
        have Xa := X10.keep ka hpa
        walk_at "rd"
        refine ite2 (fun c1 => ?_) (fun c1 => ?_)
        · walk_at "rd"
          refine ⟨h, v, u, rfl, web_keep hp10 hw10 ka, U, by omega, hpa, fun Hb v3 u3 kb hpb hw3 U3 l3 => ?_⟩
          walk_at "rd"
          exact ⟨v3, u3, rfl, Xa.keep kb hpb, web_keep hpa (web_keep hp10 hw10 ka) kb, hw3, U3, l3⟩
        · walk_at "rd"
          exact ⟨v2, u2, rfl, Xa, web_keep hp10 hw10 ka, web_keep hp10 hw2 ka, U2, by omega⟩
      obtain ⟨v3, u3, rfl, X11, hw11, hw3, U3, l3⟩ := hP
      walk_at "rd"
      refine ⟨v, v3, u, u3, rfl, hw11, hw3, U, U3, by omega, l3, X11.tab, fun H12 ks12 tab12 => ?_⟩
      have X12 := X11.kst ks12 tab12
      have hw12 := web_kst X11.tab hw11 ks12
      walk_at "rd"
      refine ⟨sz (by show 0 ≤ 100000; decide), fun p0 f0 => ?_⟩
      have s0 := same_new (o := .tup []) f0
      have e0 := upd_same (H := H12) (a := p0) (o := .tup [])
      generalize upd H12 p0 _ = H13 at s0 e0 ⊢
      walk_at "rd"
      refine ⟨sz (by show 2 ≤ 100000; decide), fun p1 f1 => ?_⟩
      have ese : Str.ofString "" = (⟨([] : List Nat).toArray⟩ : Str) := by decide +kernel
      first | rw [ese] | skip
      have s1' := same_new (o := .tup [V.str ⟨([] : List Nat).toArray⟩, V.ref p0]) f1
      have e1' := upd_same (H := H13) (a := p1) (o := .tup [V.str ⟨([] : List Nat).toArray⟩, V.ref p0])
      have e01 := s1' _ _ e0
      generalize upd H13 p1 _ = H14 at s1' e1' e01 ⊢
      have X14 := (X12.same s0).same s1'
      have hw14 := (hw12.same s0).same s1'
      walk_at "rd"
      refine ⟨v, .ref p1, u, ([], []), rfl, hw14, web_lit e1' e01, U, none_web, by omega, by decide, X14.tab, fun H15 ks15 tab15 => ?_⟩
      have X15 := X14.kst ks15 tab15
      walk_at "rd"
      exact ⟨_, _, _, _, _, rfl, KS.trans k4 X15.ks, X15.tab⟩
    · obtain ⟨y1, y2, y3, y4, y5, rfl, k4, tab4⟩ := hP
      walk_at "rd"
      have ese : Str.ofString "" = (⟨([] : List Nat).toArray⟩ : Str) := by decide +kernel
      have esa : Str.ofString "a" = (⟨([97] : List Nat).toArray⟩ : Str) := by decide +kernel
      refine ⟨sz (by show 0 ≤ 100000; decide), fun p1 fp1 => ?_⟩
      have sp1 := same_new (o := .tup []) fp1
      have ep1 := upd_same (H := H4) (a := p1) (o := .tup [])
      generalize upd H4 p1 _ = G1 at sp1 ep1 ⊢
      walk_at "rd"
      refine ⟨sz (by show 2 ≤ 100000; decide), fun w1 fw1 => ?_⟩
      first | rw [ese] | skip
      have sw1 := same_new (o := .tup [V.str ⟨([] : List Nat).toArray⟩, V.ref p1]) fw1
      have hw1 := web_lit (K := K) (upd_same (H := G1) (a := w1) (o := .tup [V.str ⟨([] : List Nat).toArray⟩, V.ref p1])) (sw1 _ _ ep1)
      generalize upd G1 w1 _ = J1 at sw1 hw1 ⊢
      have t1 := Same.trans sp1 sw1
      clear sp1 sw1 ep1
      walk_at "rd"
      refine ⟨sz (by show 0 ≤ 100000; decide), fun p2 fp2 => ?_⟩
      have sp2 := same_new (o := .tup []) fp2
      have ep2 := upd_same (H := J1) (a := p2) (o := .tup [])
      generalize upd J1 p2 _ = G2 at sp2 ep2 ⊢
      walk_at "rd"
      refine ⟨sz (by show 2 ≤ 100000; decide), fun w2 fw2 => ?_⟩
      first | rw [ese] | skip
      have sw2 := same_new (o := .tup [V.str ⟨([] : List Nat).toArray⟩, V.ref p2]) fw2
      have hw2 := web_lit (K := K) (upd_same (H := G2) (a := w2) (o := .tup [V.str ⟨([] : List Nat).toArray⟩, V.ref p2])) (sw2 _ _ ep2)
      generalize upd G2 w2 _ = J2 at sw2 hw2 ⊢
      have t2 := Same.trans sp2 sw2
      clear sp2 sw2 ep2
      walk_at "rd"
      refine ⟨.ref w1, .ref w2, ([], []), ([], []), 0, rfl, hw1.same t2, hw2, none_web, none_web, by decide, by decide, tabS_same tab4 (Same.trans t1 t2), great_nil _, fun J3 d1 ks3 tabJ3 ed1 => ?_⟩
      walk_at "rd"
      refine ⟨sz (by show 2 ≤ 100000; decide), fun d0 fd0 => ?_⟩
      have sd0 := same_new (o := .tup [V.int 0, V.int 1]) fd0
      have ed0 := upd_same (H := J3) (a := d0) (o := .tup [V.int 0, V.int 1])
      have ed1' := sd0 _ _ ed1
      have tabJ4 := tabS_same tabJ3 sd0
      generalize upd J3 d0 _ = J4 at sd0 ed0 ed1' tabJ4 ⊢
      have e1 : dueN (max ([] : List Nat).length ([] : List Nat).length) 0 = (0, 1) := by decide
      rw [e1] at ed1'
      refine ⟨_, _, .tup (SqT.of ed1') (.cons (.int _) (.cons (.int _) .nil)), .tup (SqT.of ed0) (.cons (.int _) (.cons (.int _) .nil)), shaped_two 0 1, shaped_two 0 1, ?_⟩
      rw [show PyData.eqv (.tuple [.int ((0 : Nat) : Int), .int ((1 : Nat) : Int)]) (.tuple [.int 0, .int 1]) = true from good_eqv (shaped_two 0 1)]
      walk_at "rd"
      refine ⟨sz (by show 0 ≤ 100000; decide), fun p5 fp5 => ?_⟩
      have sp5 := same_new (o := .tup []) fp5
      have ep5 := upd_same (H := J4) (a := p5) (o := .tup [])
      generalize upd J4 p5 _ = G5 at sp5 ep5 ⊢
      walk_at "rd"
      refine ⟨sz (by show 2 ≤ 100000; decide), fun w5 fw5 => ?_⟩
      first | rw [esa] | skip
      have sw5 := same_new (o := .tup [V.str ⟨([97] : List Nat).toArray⟩, V.ref p5]) fw5
      have hw5 := web_lit (K := K) (upd_same (H := G5) (a := w5) (o := .tup [V.str ⟨([97] : List Nat).toArray⟩, V.ref p5])) (sw5 _ _ ep5)
      generalize upd G5 w5 _ = J5 at sw5 hw5 ⊢
      have t5 := Same.trans sp5 sw5
      clear sp5 sw5 ep5
      walk_at "rd"
      refine ⟨sz (by show 0 ≤ 100000; decide), fun p6 fp6 => ?_⟩
      have sp6 := same_new (o := .tup []) fp6
      have ep6 := upd_same (H := J5) (a := p6) (o := .tup [])
      generalize upd J5 p6 _ = G6 at sp6 ep6 ⊢
      walk_at "rd"
      refine ⟨sz (by show 2 ≤ 100000; decide), fun w6 fw6 => ?_⟩
      first | rw [ese] | skip
      have sw6 := same_new (o := .tup [V.str ⟨([] : List Nat).toArray⟩, V.ref p6]) fw6
      have hw6 := web_lit (K := K) (upd_same (H := G6) (a := w6) (o := .tup [V.str ⟨([] : List Nat).toArray⟩, V.ref p6])) (sw6 _ _ ep6)
      generalize upd G6 w6 _ = J6 at sw6 hw6 ⊢
      have t6 := Same.trans sp6 sw6
      clear sp6 sw6 ep6
      walk_at "rd"
      refine ⟨.ref w5, .ref w6, ([97], []), ([], []), 0, rfl, hw5.same t6, hw6, a_web, none_web, by decide, by decide, tabS_same tabJ4 (Same.trans t5 t6), great_nil _, fun J7 d2 ks7 tabJ7 ed2 => ?_⟩
      walk_at "rd"
      refine ⟨sz (by show 2 ≤ 100000; decide), fun d3 fd3 => ?_⟩
      have sd3 := same_new (o := .tup [V.int 1, V.int 1]) fd3
      have ed3 := upd_same (H := J7) (a := d3) (o := .tup [V.int 1, V.int 1])
      have ed2' := sd3 _ _ ed2
      generalize upd J7 d3 _ = J8 at sd3 ed3 ed2' ⊢
      have e2 : dueN (max ([97] : List Nat).length ([] : List Nat).length) 0 = (1, 1) := by decide
      rw [e2] at ed2'
      refine ⟨_, _, .tup (SqT.of ed2') (.cons (.int _) (.cons (.int _) .nil)), .tup (SqT.of ed3) (.cons (.int _) (.cons (.int _) .nil)), shaped_two 1 1, shaped_two 1 1, ?_⟩
      rw [show PyData.eqv (.tuple [.int ((1 : Nat) : Int), .int ((1 : Nat) : Int)]) (.tuple [.int 1, .int 1]) = true from good_eqv (shaped_two 1 1)]
      exact q J8 (fun _ z => nomatch z)

end
theorem all_mk {l : PySem.W.OpenLaw} {w : World} {K : PySem.W.Frag} {h : Heap} {mg : Str → Option Value} {fa f_2 f_3 f_4 f_5 f_8000 f_8001 f_8002 f_8003 f_8004 f_8 f_10 f_12 f_14000 f_14001 f_14002 f_14003 f_14004 f_14 f_15 f_16 f_17 f_19 f_20 f_22 f_23 f_24 f_25 f_26 f_27 f_28 f_29 f_30 f_31 f_32 f_33 f_34 f_35 f_36 C_Search C_LyingRules cc14003 PP14003 : Addr} (X : K.In h) (G : h.Ns mainGlobals mg) (hfa : mg "law" = some (.ref fa))
    {tc14003 : Value} {td14003 : Option Addr} {tv14003 : Array Value} {ts14003 : Array (Option Value)}
    {od2 an2 od3 an3 od4 an4 od5 an5 od8000 an8000 od8001 an8001 od8002 an8002 od8003 an8003 od8004 an8004 od8 an8 od10 an10 od12 an12 od14000 an14000 od14001 an14001 od14002 an14002 od14003 an14003 od14004 an14004 od14 an14 od15 an15 od16 an16 od17 an17 od19 an19 od20 an20 od22 an22 od23 an23 od24 an24 od25 an25 od26 an26 od27 an27 od28 an28 od29 an29 od30 an30 od31 an31 od32 an32 od33 an33 od34 an34 od35 an35 od36 an36 : Option Addr} {sl2 sl3 sl4 sl5 sl8000 sl8001 sl8002 sl8003 sl8004 sl8 sl10 sl12 sl14000 sl14001 sl14002 sl14003 sl14004 sl14 sl15 sl16 sl17 sl19 sl20 sl22 sl23 sl24 sl25 sl26 sl27 sl28 sl29 sl30 sl31 sl32 sl33 sl34 sl35 sl36 : Array (Option Value)} {oc2 kV2 dc2 pm2 ct2 cd2 oc3 kV3 dc3 pm3 ct3 cd3 oc4 kV4 dc4 pm4 ct4 cd4 oc5 kV5 dc5 pm5 ct5 cd5 oc8000 kV8000 dc8000 pm8000 ct8000 cd8000 oc8001 kV8001 dc8001 pm8001 ct8001 cd8001 oc8002 kV8002 dc8002 pm8002 ct8002 cd8002 oc8003 kV8003 dc8003 pm8003 ct8003 cd8003 oc8004 kV8004 dc8004 pm8004 ct8004 cd8004 oc8 kV8 dc8 pm8 ct8 cd8 oc10 kV10 dc10 pm10 ct10 cd10 oc12 kV12 dc12 pm12 ct12 cd12 oc14000 kV14000 dc14000 pm14000 ct14000 cd14000 oc14001 kV14001 dc14001 pm14001 ct14001 cd14001 oc14002 kV14002 dc14002 pm14002 ct14002 cd14002 oc14003 kV14003 dc14003 pm14003 ct14003 oc14004 kV14004 dc14004 pm14004 ct14004 cd14004 oc14 kV14 dc14 pm14 ct14 cd14 oc15 kV15 dc15 pm15 ct15 cd15 oc16 kV16 dc16 pm16 ct16 cd16 oc17 kV17 dc17 pm17 ct17 cd17 oc19 kV19 dc19 pm19 ct19 cd19 oc20 kV20 dc20 pm20 ct20 cd20 oc22 kV22 dc22 pm22 ct22 cd22 oc23 kV23 dc23 pm23 ct23 cd23 oc24 kV24 dc24 pm24 ct24 cd24 oc25 kV25 dc25 pm25 ct25 cd25 oc26 kV26 dc26 pm26 ct26 cd26 oc27 kV27 dc27 pm27 ct27 cd27 oc28 kV28 dc28 pm28 ct28 cd28 oc29 kV29 dc29 pm29 ct29 cd29 oc30 kV30 dc30 pm30 ct30 cd30 oc31 kV31 dc31 pm31 ct31 cd31 oc32 kV32 dc32 pm32 ct32 cd32 oc33 kV33 dc33 pm33 ct33 cd33 oc34 kV34 dc34 pm34 ct34 cd34 oc35 kV35 dc35 pm35 ct35 cd35 oc36 kV36 dc36 pm36 ct36 cd36 : Value}
    (aCSearch : PySem.W.nsIn K mainGlobals "Search" = some (some (.ref C_Search))) (pgSearch : PySem.W.plainGet K C_Search Str.empty = true) (hdSearch : PySem.W.hasDictIn K C_Search = true) (poSearch : PySem.W.plainOver K C_Search = true) (saSearch : PySem.W.findIn K (.ref C_Search) "__setattr__" = some (some (.builtin "object.__setattr__"))) (mkSearch : PySem.W.makesIn K C_Search = true) (kcSearch : PySem.W.keepIn K (.ref C_Search) = true)
    (nASearchrules : PySem.W.findIn K (.ref C_Search) "rules" = some none)
    (nASearchknown : PySem.W.findIn K (.ref C_Search) "known" = some none)
    (aCLyingRules : PySem.W.nsIn K mainGlobals "LyingRules" = some (some (.ref C_LyingRules))) (pgLyingRules : PySem.W.plainGet K C_LyingRules Str.empty = true) (hdLyingRules : PySem.W.hasDictIn K C_LyingRules = true) (poLyingRules : PySem.W.plainOver K C_LyingRules = true) (saLyingRules : PySem.W.findIn K (.ref C_LyingRules) "__setattr__" = some (some (.builtin "object.__setattr__"))) (mkLyingRules : PySem.W.makesIn K C_LyingRules = true) (kcLyingRules : PySem.W.keepIn K (.ref C_LyingRules) = true)
    (nALyingRuleshere : PySem.W.findIn K (.ref C_LyingRules) "here" = some none)
    (nALyingRulesthere : PySem.W.findIn K (.ref C_LyingRules) "there" = some none)
    (a2 : PySem.W.nsIn K mainGlobals "mask_of" = some (some (.ref f_2)))
    (l2 : K.lookup f_2 = some ⟨oc2, od2, .func (PySem.W.fnOf "mask_of" "mask_of" (defArgs s_mask_of) (defBody s_mask_of) (defScope s_mask_of) .none kV2 dc2 pm2 an2 cd2 ct2), sl2⟩) (c2 : PySem.W.codeIn K cd2 "mask_of" = true) (k2 : PySem.W.keepIn K (.ref f_2) = true)
    (a3 : PySem.W.nsIn K mainGlobals "numbers_of" = some (some (.ref f_3)))
    (l3 : K.lookup f_3 = some ⟨oc3, od3, .func (PySem.W.fnOf "numbers_of" "numbers_of" (defArgs s_numbers_of) (defBody s_numbers_of) (defScope s_numbers_of) .none kV3 dc3 pm3 an3 cd3 ct3), sl3⟩) (c3 : PySem.W.codeIn K cd3 "numbers_of" = true) (k3 : PySem.W.keepIn K (.ref f_3) = true)
    (a4 : PySem.W.nsIn K mainGlobals "how_many" = some (some (.ref f_4)))
    (l4 : K.lookup f_4 = some ⟨oc4, od4, .func (PySem.W.fnOf "how_many" "how_many" (defArgs s_how_many) (defBody s_how_many) (defScope s_how_many) .none kV4 dc4 pm4 an4 cd4 ct4), sl4⟩) (c4 : PySem.W.codeIn K cd4 "how_many" = true) (k4 : PySem.W.keepIn K (.ref f_4) = true)
    (a5 : PySem.W.nsIn K mainGlobals "least_of" = some (some (.ref f_5)))
    (l5 : K.lookup f_5 = some ⟨oc5, od5, .func (PySem.W.fnOf "least_of" "least_of" (defArgs s_least_of) (defBody s_least_of) (defScope s_least_of) .none kV5 dc5 pm5 an5 cd5 ct5), sl5⟩) (c5 : PySem.W.codeIn K cd5 "least_of" = true) (k5 : PySem.W.keepIn K (.ref f_5) = true)
    (a8000 : PySem.W.findIn K (.ref C_Search) "__init__" = some (some (.ref f_8000))) (i8000 : PySem.W.isFn K (.ref f_8000) = true)
    (l8000 : K.lookup f_8000 = some ⟨oc8000, od8000, .func (PySem.W.fnOf "__init__" "Search.__init__" (defArgs s_Search_init) (defBody s_Search_init) (defScope s_Search_init) .none kV8000 dc8000 pm8000 an8000 cd8000 ct8000), sl8000⟩) (c8000 : PySem.W.codeIn K cd8000 "Search.__init__" = true) (k8000 : PySem.W.keepIn K (.ref f_8000) = true)
    (a8001 : PySem.W.findIn K (.ref C_Search) "ways" = some (some (.ref f_8001))) (i8001 : PySem.W.isFn K (.ref f_8001) = true)
    (l8001 : K.lookup f_8001 = some ⟨oc8001, od8001, .func (PySem.W.fnOf "ways" "Search.ways" (defArgs s_Search_ways) (defBody s_Search_ways) (defScope s_Search_ways) .none kV8001 dc8001 pm8001 an8001 cd8001 ct8001), sl8001⟩) (c8001 : PySem.W.codeIn K cd8001 "Search.ways" = true) (k8001 : PySem.W.keepIn K (.ref f_8001) = true)
    (a8002 : PySem.W.findIn K (.ref C_Search) "most" = some (some (.ref f_8002))) (i8002 : PySem.W.isFn K (.ref f_8002) = true)
    (l8002 : K.lookup f_8002 = some ⟨oc8002, od8002, .func (PySem.W.fnOf "most" "Search.most" (defArgs s_Search_most) (defBody s_Search_most) (defScope s_Search_most) .none kV8002 dc8002 pm8002 an8002 cd8002 ct8002), sl8002⟩) (c8002 : PySem.W.codeIn K cd8002 "Search.most" = true) (k8002 : PySem.W.keepIn K (.ref f_8002) = true)
    (a8003 : PySem.W.findIn K (.ref C_Search) "first" = some (some (.ref f_8003))) (i8003 : PySem.W.isFn K (.ref f_8003) = true)
    (l8003 : K.lookup f_8003 = some ⟨oc8003, od8003, .func (PySem.W.fnOf "first" "Search.first" (defArgs s_Search_first) (defBody s_Search_first) (defScope s_Search_first) .none kV8003 dc8003 pm8003 an8003 cd8003 ct8003), sl8003⟩) (c8003 : PySem.W.codeIn K cd8003 "Search.first" = true) (k8003 : PySem.W.keepIn K (.ref f_8003) = true)
    (a8004 : PySem.W.findIn K (.ref C_Search) "first_choice" = some (some (.ref f_8004))) (i8004 : PySem.W.isFn K (.ref f_8004) = true)
    (l8004 : K.lookup f_8004 = some ⟨oc8004, od8004, .func (PySem.W.fnOf "first_choice" "Search.first_choice" (defArgs s_Search_first_choice) (defBody s_Search_first_choice) (defScope s_Search_first_choice) .none kV8004 dc8004 pm8004 an8004 cd8004 ct8004), sl8004⟩) (c8004 : PySem.W.codeIn K cd8004 "Search.first_choice" = true) (k8004 : PySem.W.keepIn K (.ref f_8004) = true)
    (a8 : PySem.W.nsIn K mainGlobals "greatest" = some (some (.ref f_8)))
    (l8 : K.lookup f_8 = some ⟨oc8, od8, .func (PySem.W.fnOf "greatest" "greatest" (defArgs s_greatest) (defBody s_greatest) (defScope s_greatest) .none kV8 dc8 pm8 an8 cd8 ct8), sl8⟩) (c8 : PySem.W.codeIn K cd8 "greatest" = true) (k8 : PySem.W.keepIn K (.ref f_8) = true)
    (a10 : PySem.W.nsIn K mainGlobals "kinds_by_ends" = some (some (.ref f_10)))
    (l10 : K.lookup f_10 = some ⟨oc10, od10, .func (PySem.W.fnOf "kinds_by_ends" "kinds_by_ends" (defArgs s_kinds_by_ends) (defBody s_kinds_by_ends) (defScope s_kinds_by_ends) .none kV10 dc10 pm10 an10 cd10 ct10), sl10⟩) (c10 : PySem.W.codeIn K cd10 "kinds_by_ends" = true) (k10 : PySem.W.keepIn K (.ref f_10) = true)
    (a12 : PySem.W.nsIn K mainGlobals "greatest_lying" = some (some (.ref f_12)))
    (l12 : K.lookup f_12 = some ⟨oc12, od12, .func (PySem.W.fnOf "greatest_lying" "greatest_lying" (defArgs s_greatest_lying) (defBody s_greatest_lying) (defScope s_greatest_lying) .none kV12 dc12 pm12 an12 cd12 ct12), sl12⟩) (c12 : PySem.W.codeIn K cd12 "greatest_lying" = true) (k12 : PySem.W.keepIn K (.ref f_12) = true)
    (a14000 : PySem.W.findIn K (.ref C_LyingRules) "__init__" = some (some (.ref f_14000))) (i14000 : PySem.W.isFn K (.ref f_14000) = true)
    (l14000 : K.lookup f_14000 = some ⟨oc14000, od14000, .func (PySem.W.fnOf "__init__" "LyingRules.__init__" (defArgs s_LyingRules_init) (defBody s_LyingRules_init) (defScope s_LyingRules_init) .none kV14000 dc14000 pm14000 an14000 cd14000 ct14000), sl14000⟩) (c14000 : PySem.W.codeIn K cd14000 "LyingRules.__init__" = true) (k14000 : PySem.W.keepIn K (.ref f_14000) = true)
    (a14001 : PySem.W.findIn K (.ref C_LyingRules) "bound" = some (some (.ref f_14001))) (i14001 : PySem.W.isFn K (.ref f_14001) = true)
    (l14001 : K.lookup f_14001 = some ⟨oc14001, od14001, .func (PySem.W.fnOf "bound" "LyingRules.bound" (defArgs s_LyingRules_bound) (defBody s_LyingRules_bound) (defScope s_LyingRules_bound) .none kV14001 dc14001 pm14001 an14001 cd14001 ct14001), sl14001⟩) (c14001 : PySem.W.codeIn K cd14001 "LyingRules.bound" = true) (k14001 : PySem.W.keepIn K (.ref f_14001) = true)
    (a14002 : PySem.W.findIn K (.ref C_LyingRules) "whole" = some (some (.ref f_14002))) (i14002 : PySem.W.isFn K (.ref f_14002) = true)
    (l14002 : K.lookup f_14002 = some ⟨oc14002, od14002, .func (PySem.W.fnOf "whole" "LyingRules.whole" (defArgs s_LyingRules_whole) (defBody s_LyingRules_whole) (defScope s_LyingRules_whole) .none kV14002 dc14002 pm14002 an14002 cd14002 ct14002), sl14002⟩) (c14002 : PySem.W.codeIn K cd14002 "LyingRules.whole" = true) (k14002 : PySem.W.keepIn K (.ref f_14002) = true)
    (a14003 : PySem.W.findIn K (.ref C_LyingRules) "choices" = some (some (.ref f_14003))) (i14003 : PySem.W.isFn K (.ref f_14003) = true)
    (l14003 : K.lookup f_14003 = some ⟨oc14003, od14003, .func (PySem.W.fnOf "choices" "LyingRules.choices" (defArgs s_LyingRules_choices) (defBody s_LyingRules_choices) (defScope s_LyingRules_choices) .none kV14003 dc14003 pm14003 an14003 (.ref cc14003) ct14003), sl14003⟩) (c14003 : PySem.W.codeIn K (.ref cc14003) "LyingRules.choices" = true) (k14003 : PySem.W.keepIn K (.ref f_14003) = true)
    (t14003 : K.lookup cc14003 = some ⟨tc14003, td14003, .fields tv14003, ts14003⟩) (u14003 : tv14003[11]? = some (.ref PP14003)) (n14003 : K.lookup PP14003 = none) (m14003 : h.get? PP14003 = some tab0) (zz14003 : PySem.W.codeHdIn K cc14003 PP14003 = true)
    (a14004 : PySem.W.findIn K (.ref C_LyingRules) "narrowed" = some (some (.ref f_14004))) (i14004 : PySem.W.isFn K (.ref f_14004) = true)
    (l14004 : K.lookup f_14004 = some ⟨oc14004, od14004, .func (PySem.W.fnOf "narrowed" "LyingRules.narrowed" (defArgs s_LyingRules_narrowed) (defBody s_LyingRules_narrowed) (defScope s_LyingRules_narrowed) .none kV14004 dc14004 pm14004 an14004 cd14004 ct14004), sl14004⟩) (c14004 : PySem.W.codeIn K cd14004 "LyingRules.narrowed" = true) (k14004 : PySem.W.keepIn K (.ref f_14004) = true)
    (a14 : PySem.W.nsIn K mainGlobals "others_by_tie" = some (some (.ref f_14)))
    (l14 : K.lookup f_14 = some ⟨oc14, od14, .func (PySem.W.fnOf "others_by_tie" "others_by_tie" (defArgs s_others_by_tie) (defBody s_others_by_tie) (defScope s_others_by_tie) .none kV14 dc14 pm14 an14 cd14 ct14), sl14⟩) (c14 : PySem.W.codeIn K cd14 "others_by_tie" = true) (k14 : PySem.W.keepIn K (.ref f_14) = true)
    (a15 : PySem.W.nsIn K mainGlobals "all_classes" = some (some (.ref f_15)))
    (l15 : K.lookup f_15 = some ⟨oc15, od15, .func (PySem.W.fnOf "all_classes" "all_classes" (defArgs s_all_classes) (defBody s_all_classes) (defScope s_all_classes) .none kV15 dc15 pm15 an15 cd15 ct15), sl15⟩) (c15 : PySem.W.codeIn K cd15 "all_classes" = true) (k15 : PySem.W.keepIn K (.ref f_15) = true)
    (a16 : PySem.W.nsIn K mainGlobals "classes_of" = some (some (.ref f_16)))
    (l16 : K.lookup f_16 = some ⟨oc16, od16, .func (PySem.W.fnOf "classes_of" "classes_of" (defArgs s_classes_of) (defBody s_classes_of) (defScope s_classes_of) .none kV16 dc16 pm16 an16 cd16 ct16), sl16⟩) (c16 : PySem.W.codeIn K cd16 "classes_of" = true) (k16 : PySem.W.keepIn K (.ref f_16) = true)
    (a17 : PySem.W.nsIn K mainGlobals "without" = some (some (.ref f_17)))
    (l17 : K.lookup f_17 = some ⟨oc17, od17, .func (PySem.W.fnOf "without" "without" (defArgs s_without) (defBody s_without) (defScope s_without) .none kV17 dc17 pm17 an17 cd17 ct17), sl17⟩) (c17 : PySem.W.codeIn K cd17 "without" = true) (k17 : PySem.W.keepIn K (.ref f_17) = true)
    (a19 : PySem.W.nsIn K mainGlobals "distance" = some (some (.ref f_19)))
    (l19 : K.lookup f_19 = some ⟨oc19, od19, .func (PySem.W.fnOf "distance" "distance" (defArgs s_distance) (defBody s_distance) (defScope s_distance) .none kV19 dc19 pm19 an19 cd19 ct19), sl19⟩) (c19 : PySem.W.codeIn K cd19 "distance" = true) (k19 : PySem.W.keepIn K (.ref f_19) = true)
    (a20 : PySem.W.nsIn K mainGlobals "joined_size" = some (some (.ref f_20)))
    (l20 : K.lookup f_20 = some ⟨oc20, od20, .func (PySem.W.fnOf "joined_size" "joined_size" (defArgs s_joined_size) (defBody s_joined_size) (defScope s_joined_size) .none kV20 dc20 pm20 an20 cd20 ct20), sl20⟩) (c20 : PySem.W.codeIn K cd20 "joined_size" = true) (k20 : PySem.W.keepIn K (.ref f_20) = true)
    (a22 : PySem.W.nsIn K mainGlobals "_law_mixed" = some (some (.ref f_22)))
    (l22 : K.lookup f_22 = some ⟨oc22, od22, .func (PySem.W.fnOf "_law_mixed" "_law_mixed" (defArgs s_mixed) (defBody s_mixed) (defScope s_mixed) .none kV22 dc22 pm22 an22 cd22 ct22), sl22⟩) (c22 : PySem.W.codeIn K cd22 "_law_mixed" = true) (k22 : PySem.W.keepIn K (.ref f_22) = true)
    (a23 : PySem.W.nsIn K mainGlobals "_law_pot" = some (some (.ref f_23)))
    (l23 : K.lookup f_23 = some ⟨oc23, od23, .func (PySem.W.fnOf "_law_pot" "_law_pot" (defArgs s_pot) (defBody s_pot) (defScope s_pot) .none kV23 dc23 pm23 an23 cd23 ct23), sl23⟩) (c23 : PySem.W.codeIn K cd23 "_law_pot" = true) (k23 : PySem.W.keepIn K (.ref f_23) = true)
    (a24 : PySem.W.nsIn K mainGlobals "_law_take" = some (some (.ref f_24)))
    (l24 : K.lookup f_24 = some ⟨oc24, od24, .func (PySem.W.fnOf "_law_take" "_law_take" (defArgs s_take) (defBody s_take) (defScope s_take) .none kV24 dc24 pm24 an24 cd24 ct24), sl24⟩) (c24 : PySem.W.codeIn K cd24 "_law_take" = true) (k24 : PySem.W.keepIn K (.ref f_24) = true)
    (a25 : PySem.W.nsIn K mainGlobals "_law_letter" = some (some (.ref f_25)))
    (l25 : K.lookup f_25 = some ⟨oc25, od25, .func (PySem.W.fnOf "_law_letter" "_law_letter" (defArgs s_letter) (defBody s_letter) (defScope s_letter) .none kV25 dc25 pm25 an25 cd25 ct25), sl25⟩) (c25 : PySem.W.codeIn K cd25 "_law_letter" = true) (k25 : PySem.W.keepIn K (.ref f_25) = true)
    (a26 : PySem.W.nsIn K mainGlobals "_law_drawn" = some (some (.ref f_26)))
    (l26 : K.lookup f_26 = some ⟨oc26, od26, .func (PySem.W.fnOf "_law_drawn" "_law_drawn" (defArgs s_drawn) (defBody s_drawn) (defScope s_drawn) .none kV26 dc26 pm26 an26 cd26 ct26), sl26⟩) (c26 : PySem.W.codeIn K cd26 "_law_drawn" = true) (k26 : PySem.W.keepIn K (.ref f_26) = true)
    (a27 : PySem.W.nsIn K mainGlobals "_law_web" = some (some (.ref f_27)))
    (l27 : K.lookup f_27 = some ⟨oc27, od27, .func (PySem.W.fnOf "_law_web" "_law_web" (defArgs s_web) (defBody s_web) (defScope s_web) .none kV27 dc27 pm27 an27 cd27 ct27), sl27⟩) (c27 : PySem.W.codeIn K cd27 "_law_web" = true) (k27 : PySem.W.keepIn K (.ref f_27) = true)
    (a28 : PySem.W.nsIn K mainGlobals "_law_order" = some (some (.ref f_28)))
    (l28 : K.lookup f_28 = some ⟨oc28, od28, .func (PySem.W.fnOf "_law_order" "_law_order" (defArgs s_order) (defBody s_order) (defScope s_order) .none kV28 dc28 pm28 an28 cd28 ct28), sl28⟩) (c28 : PySem.W.codeIn K cd28 "_law_order" = true) (k28 : PySem.W.keepIn K (.ref f_28) = true)
    (a29 : PySem.W.nsIn K mainGlobals "_law_cut" = some (some (.ref f_29)))
    (l29 : K.lookup f_29 = some ⟨oc29, od29, .func (PySem.W.fnOf "_law_cut" "_law_cut" (defArgs s_cut) (defBody s_cut) (defScope s_cut) .none kV29 dc29 pm29 an29 cd29 ct29), sl29⟩) (c29 : PySem.W.codeIn K cd29 "_law_cut" = true) (k29 : PySem.W.keepIn K (.ref f_29) = true)
    (a30 : PySem.W.nsIn K mainGlobals "_law_may" = some (some (.ref f_30)))
    (l30 : K.lookup f_30 = some ⟨oc30, od30, .func (PySem.W.fnOf "_law_may" "_law_may" (defArgs s_may) (defBody s_may) (defScope s_may) .none kV30 dc30 pm30 an30 cd30 ct30), sl30⟩) (c30 : PySem.W.codeIn K cd30 "_law_may" = true) (k30 : PySem.W.keepIn K (.ref f_30) = true)
    (a31 : PySem.W.nsIn K mainGlobals "_law_size" = some (some (.ref f_31)))
    (l31 : K.lookup f_31 = some ⟨oc31, od31, .func (PySem.W.fnOf "_law_size" "_law_size" (defArgs s_size) (defBody s_size) (defScope s_size) .none kV31 dc31 pm31 an31 cd31 ct31), sl31⟩) (c31 : PySem.W.codeIn K cd31 "_law_size" = true) (k31 : PySem.W.keepIn K (.ref f_31) = true)
    (a32 : PySem.W.nsIn K mainGlobals "_law_share" = some (some (.ref f_32)))
    (l32 : K.lookup f_32 = some ⟨oc32, od32, .func (PySem.W.fnOf "_law_share" "_law_share" (defArgs s_share) (defBody s_share) (defScope s_share) .none kV32 dc32 pm32 an32 cd32 ct32), sl32⟩) (c32 : PySem.W.codeIn K cd32 "_law_share" = true) (k32 : PySem.W.keepIn K (.ref f_32) = true)
    (a33 : PySem.W.nsIn K mainGlobals "_law_far" = some (some (.ref f_33)))
    (l33 : K.lookup f_33 = some ⟨oc33, od33, .func (PySem.W.fnOf "_law_far" "_law_far" (defArgs s_far) (defBody s_far) (defScope s_far) .none kV33 dc33 pm33 an33 cd33 ct33), sl33⟩) (c33 : PySem.W.codeIn K cd33 "_law_far" = true) (k33 : PySem.W.keepIn K (.ref f_33) = true)
    (a34 : PySem.W.nsIn K mainGlobals "_law_otherwise" = some (some (.ref f_34)))
    (l34 : K.lookup f_34 = some ⟨oc34, od34, .func (PySem.W.fnOf "_law_otherwise" "_law_otherwise" (defArgs s_otherwise) (defBody s_otherwise) (defScope s_otherwise) .none kV34 dc34 pm34 an34 cd34 ct34), sl34⟩) (c34 : PySem.W.codeIn K cd34 "_law_otherwise" = true) (k34 : PySem.W.keepIn K (.ref f_34) = true)
    (a35 : PySem.W.nsIn K mainGlobals "_law_right" = some (some (.ref f_35)))
    (l35 : K.lookup f_35 = some ⟨oc35, od35, .func (PySem.W.fnOf "_law_right" "_law_right" (defArgs s_right) (defBody s_right) (defScope s_right) .none kV35 dc35 pm35 an35 cd35 ct35), sl35⟩) (c35 : PySem.W.codeIn K cd35 "_law_right" = true) (k35 : PySem.W.keepIn K (.ref f_35) = true)
    (a36 : PySem.W.nsIn K mainGlobals "law" = some (some (.ref f_36)))
    (l36 : K.lookup f_36 = some ⟨oc36, od36, .func (PySem.W.fnOf "law" "law" (defArgs s_law) (defBody s_law) (defScope s_law) .none kV36 dc36 pm36 an36 cd36 ct36), sl36⟩) (c36 : PySem.W.codeIn K cd36 "law" = true) (k36 : PySem.W.keepIn K (.ref f_36) = true)
    (z0 : PySem.W.nsIn K mainGlobals "bool" = some none)
    (z1 : PySem.W.nsIn K mainGlobals "dict" = some none)
    (z2 : PySem.W.nsIn K mainGlobals "enumerate" = some none)
    (z3 : PySem.W.nsIn K mainGlobals "int" = some none)
    (z4 : PySem.W.nsIn K mainGlobals "isinstance" = some none)
    (z5 : PySem.W.nsIn K mainGlobals "len" = some none)
    (z6 : PySem.W.nsIn K mainGlobals "list" = some none)
    (z7 : PySem.W.nsIn K mainGlobals "max" = some none)
    (z8 : PySem.W.nsIn K mainGlobals "min" = some none)
    (z9 : PySem.W.nsIn K mainGlobals "range" = some none)
    (z10 : PySem.W.nsIn K mainGlobals "set" = some none)
    (z11 : PySem.W.nsIn K mainGlobals "sorted" = some none)
    (z12 : PySem.W.nsIn K mainGlobals "sum" = some none)
    (z13 : PySem.W.nsIn K mainGlobals "tuple" = some none)
    (y0 : PySem.W.nsIn K mainGlobals "gcd" = some (some (.builtin "math.gcd"))) :
    LawL l w K mg fa h := by
  have e := hfa.symm.trans (PySem.W.mg_of X G a36)
  cases e
  have F2 := fun_mk (st := s_mask_of) l2 c2 k2
  have b2 := F2.binds (ps := ["numbers"]) fun _ _ _ _ _ _ us hl => match us, hl with | [_], _ => rfl
  have F3 := fun_mk (st := s_numbers_of) l3 c3 k3
  have b3 := F3.binds (ps := ["mask"]) fun _ _ _ _ _ _ us hl => match us, hl with | [_], _ => rfl
  have F4 := fun_mk (st := s_how_many) l4 c4 k4
  have b4 := F4.binds (ps := ["mask"]) fun _ _ _ _ _ _ us hl => match us, hl with | [_], _ => rfl
  have F5 := fun_mk (st := s_least_of) l5 c5 k5
  have b5 := F5.binds (ps := ["mask"]) fun _ _ _ _ _ _ us hl => match us, hl with | [_], _ => rfl
  have F8000 := fun_mk (st := s_Search_init) l8000 c8000 k8000
  have b8000 := F8000.binds (ps := ["self", "rules"]) fun _ _ _ _ _ _ us hl => match us, hl with | [_, _], _ => rfl
  have F8001 := fun_mk (st := s_Search_ways) l8001 c8001 k8001
  have b8001 := F8001.binds (ps := ["self", "state", "need"]) fun _ _ _ _ _ _ us hl => match us, hl with | [_, _, _], _ => rfl
  have F8002 := fun_mk (st := s_Search_most) l8002 c8002 k8002
  have b8002 := F8002.binds (ps := ["self", "state"]) fun _ _ _ _ _ _ us hl => match us, hl with | [_, _], _ => rfl
  have F8003 := fun_mk (st := s_Search_first) l8003 c8003 k8003
  have b8003 := F8003.binds (ps := ["self", "state", "need"]) fun _ _ _ _ _ _ us hl => match us, hl with | [_, _, _], _ => rfl
  have F8004 := fun_mk (st := s_Search_first_choice) l8004 c8004 k8004
  have b8004 := F8004.binds (ps := ["self", "state", "need"]) fun _ _ _ _ _ _ us hl => match us, hl with | [_, _, _], _ => rfl
  have F8 := fun_mk (st := s_greatest) l8 c8 k8
  have b8 := F8.binds (ps := ["rules", "start"]) fun _ _ _ _ _ _ us hl => match us, hl with | [_, _], _ => rfl
  have F10 := fun_mk (st := s_kinds_by_ends) l10 c10 k10
  have b10 := F10.binds (ps := ["web"]) fun _ _ _ _ _ _ us hl => match us, hl with | [_], _ => rfl
  have F12 := fun_mk (st := s_greatest_lying) l12 c12 k12
  have b12 := F12.binds (ps := ["one", "other"]) fun _ _ _ _ _ _ us hl => match us, hl with | [_, _], _ => rfl
  have F14000 := fun_mk (st := s_LyingRules_init) l14000 c14000 k14000
  have b14000 := F14000.binds (ps := ["self", "one", "other"]) fun _ _ _ _ _ _ us hl => match us, hl with | [_, _, _], _ => rfl
  have F14001 := fun_mk (st := s_LyingRules_bound) l14001 c14001 k14001
  have b14001 := F14001.binds (ps := ["self", "classes"]) fun _ _ _ _ _ _ us hl => match us, hl with | [_, _], _ => rfl
  have F14002 := fun_mk (st := s_LyingRules_whole) l14002 c14002 k14002
  have b14002 := F14002.binds (ps := ["self", "classes"]) fun _ _ _ _ _ _ us hl => match us, hl with | [_, _], _ => rfl
  have F14003 := fun_mk (st := s_LyingRules_choices) l14003 c14003 k14003
  have b14003 := F14003.binds (ps := ["self", "classes"]) fun _ _ _ _ _ _ us hl => match us, hl with | [_, _], _ => rfl
  have F14004 := fun_mk (st := s_LyingRules_narrowed) l14004 c14004 k14004
  have b14004 := F14004.binds (ps := ["self", "classes", "place", "end"]) fun _ _ _ _ _ _ us hl => match us, hl with | [_, _, _, _], _ => rfl
  have F14 := fun_mk (st := s_others_by_tie) l14 c14 k14
  have b14 := F14.binds (ps := ["web"]) fun _ _ _ _ _ _ us hl => match us, hl with | [_], _ => rfl
  have F15 := fun_mk (st := s_all_classes) l15 c15 k15
  have b15 := F15.binds (ps := ["one", "other"]) fun _ _ _ _ _ _ us hl => match us, hl with | [_, _], _ => rfl
  have F16 := fun_mk (st := s_classes_of) l16 c16 k16
  have b16 := F16.binds (ps := ["one", "other", "places"]) fun _ _ _ _ _ _ us hl => match us, hl with | [_, _, _], _ => rfl
  have F17 := fun_mk (st := s_without) l17 c17 k17
  have b17 := F17.binds (ps := ["classes", "place"]) fun _ _ _ _ _ _ us hl => match us, hl with | [_, _], _ => rfl
  have F19 := fun_mk (st := s_distance) l19 c19 k19
  have b19 := F19.binds (ps := ["one", "other"]) fun _ _ _ _ _ _ us hl => match us, hl with | [_, _], _ => rfl
  have F20 := fun_mk (st := s_joined_size) l20 c20 k20
  have b20 := F20.binds (ps := ["one", "other"]) fun _ _ _ _ _ _ us hl => match us, hl with | [_, _], _ => rfl
  have F22 := fun_mk (st := s_mixed) l22 c22 k22
  have b22 := F22.binds (ps := ["cell", "k"]) fun _ _ _ _ _ _ us hl => match us, hl with | [_, _], _ => rfl
  have F23 := fun_mk (st := s_pot) l23 c23 k23
  have b23 := F23.binds (ps := ["cell"]) fun _ _ _ _ _ _ us hl => match us, hl with | [_], _ => rfl
  have F24 := fun_mk (st := s_take) l24 c24 k24
  have b24 := F24.binds (ps := ["pot", "many"]) fun _ _ _ _ _ _ us hl => match us, hl with | [_, _], _ => rfl
  have F25 := fun_mk (st := s_letter) l25 c25 k25
  have b25 := F25.binds (ps := ["pot", "few"]) fun _ _ _ _ _ _ us hl => match us, hl with | [_, _], _ => rfl
  have F26 := fun_mk (st := s_drawn) l26 c26 k26
  have b26 := F26.binds (ps := ["pot", "many", "few"]) fun _ _ _ _ _ _ us hl => match us, hl with | [_, _, _], _ => rfl
  have F27 := fun_mk (st := s_web) l27 c27 k27
  have b27 := F27.binds (ps := ["kinds", "ties", "order"]) fun _ _ _ _ _ _ us hl => match us, hl with | [_, _, _], _ => rfl
  have F28 := fun_mk (st := s_order) l28 c28 k28
  have b28 := F28.binds (ps := ["pot", "many"]) fun _ _ _ _ _ _ us hl => match us, hl with | [_, _], _ => rfl
  have F29 := fun_mk (st := s_cut) l29 c29 k29
  have b29 := F29.binds (ps := ["web", "places"]) fun _ _ _ _ _ _ us hl => match us, hl with | [_, _], _ => rfl
  have F30 := fun_mk (st := s_may) l30 c30 k30
  have b30 := F30.binds (ps := ["ties", "others", "lead", "place", "there"]) fun _ _ _ _ _ _ us hl => match us, hl with | [_, _, _, _, _], _ => rfl
  have F31 := fun_mk (st := s_size) l31 c31 k31
  have b31 := F31.binds (ps := ["one", "other"]) fun _ _ _ _ _ _ us hl => match us, hl with | [_, _], _ => rfl
  have F32 := fun_mk (st := s_share) l32 c32 k32
  have b32 := F32.binds (ps := ["above", "below"]) fun _ _ _ _ _ _ us hl => match us, hl with | [_, _], _ => rfl
  have F33 := fun_mk (st := s_far) l33 c33 k33
  have b33 := F33.binds (ps := ["one", "other"]) fun _ _ _ _ _ _ us hl => match us, hl with | [_, _], _ => rfl
  have F34 := fun_mk (st := s_otherwise) l34 c34 k34
  have b34 := F34.binds (ps := ["pot", "web"]) fun _ _ _ _ _ _ us hl => match us, hl with | [_, _], _ => rfl
  have F35 := fun_mk (st := s_right) l35 c35 k35
  have b35 := F35.binds (ps := ["one", "other"]) fun _ _ _ _ _ _ us hl => match us, hl with | [_, _], _ => rfl
  have F36 := fun_mk (st := s_law) l36 c36 k36
  have b36 := F36.binds (ps := ["script"]) fun _ _ _ _ _ _ us hl => match us, hl with | [_], _ => rfl
  exact ⟨_, [], [(cc14003, PP14003)], fun s v => .of_eq rfl, List.forall_mem_cons.mpr ⟨m14003, List.forall_mem_nil _⟩, List.forall_mem_cons.mpr ⟨n14003, List.forall_mem_nil _⟩, List.forall_mem_cons.mpr ⟨PySem.W.codeHd_of_K X zz14003, List.forall_mem_nil _⟩, (fun _ z => nomatch z), fun base _ _ _ TB => let T : Tx K mg base := {C_Search := C_Search, cl_Search := ⟨pgSearch, hdSearch, poSearch, saSearch⟩, m_Search := PySem.W.mg_of X G aCSearch, na_Search_rules := nASearchrules, na_Search_known := nASearchknown, C_LyingRules := C_LyingRules, cl_LyingRules := ⟨pgLyingRules, hdLyingRules, poLyingRules, saLyingRules⟩, m_LyingRules := PySem.W.mg_of X G aCLyingRules, na_LyingRules_here := nALyingRuleshere, na_LyingRules_there := nALyingRulesthere, mask_of := ⟨_, _, F2, b2, PySem.W.mg_of X G a2⟩, numbers_of := ⟨_, _, F3, b3, PySem.W.mg_of X G a3⟩, how_many := ⟨_, _, F4, b4, PySem.W.mg_of X G a4⟩, least_of := ⟨_, _, F5, b5, PySem.W.mg_of X G a5⟩, Search_init := ⟨_, _, F8000, b8000, ⟨a8000, i8000, k8000⟩⟩, Search_ways := ⟨_, _, F8001, b8001, ⟨a8001, i8001, k8001⟩⟩, Search_most := ⟨_, _, F8002, b8002, ⟨a8002, i8002, k8002⟩⟩, Search_first := ⟨_, _, F8003, b8003, ⟨a8003, i8003, k8003⟩⟩, Search_first_choice := ⟨_, _, F8004, b8004, ⟨a8004, i8004, k8004⟩⟩, greatest := ⟨_, _, F8, b8, PySem.W.mg_of X G a8⟩, kinds_by_ends := ⟨_, _, F10, b10, PySem.W.mg_of X G a10⟩, greatest_lying := ⟨_, _, F12, b12, PySem.W.mg_of X G a12⟩, LyingRules_init := ⟨_, _, F14000, b14000, ⟨a14000, i14000, k14000⟩⟩, LyingRules_bound := ⟨_, _, F14001, b14001, ⟨a14001, i14001, k14001⟩⟩, LyingRules_whole := ⟨_, _, F14002, b14002, ⟨a14002, i14002, k14002⟩⟩, LyingRules_choices := ⟨_, _, F14003, b14003, ⟨a14003, i14003, k14003⟩⟩, LyingRules_narrowed := ⟨_, _, F14004, b14004, ⟨a14004, i14004, k14004⟩⟩, others_by_tie := ⟨_, _, F14, b14, PySem.W.mg_of X G a14⟩, all_classes := ⟨_, _, F15, b15, PySem.W.mg_of X G a15⟩, classes_of := ⟨_, _, F16, b16, PySem.W.mg_of X G a16⟩, without := ⟨_, _, F17, b17, PySem.W.mg_of X G a17⟩, distance := ⟨_, _, F19, b19, PySem.W.mg_of X G a19⟩, joined_size := ⟨_, _, F20, b20, PySem.W.mg_of X G a20⟩, mixed := ⟨_, _, F22, b22, PySem.W.mg_of X G a22⟩, pot := ⟨_, _, F23, b23, PySem.W.mg_of X G a23⟩, take := ⟨_, _, F24, b24, PySem.W.mg_of X G a24⟩, letter := ⟨_, _, F25, b25, PySem.W.mg_of X G a25⟩, drawn := ⟨_, _, F26, b26, PySem.W.mg_of X G a26⟩, web := ⟨_, _, F27, b27, PySem.W.mg_of X G a27⟩, order := ⟨_, _, F28, b28, PySem.W.mg_of X G a28⟩, cut := ⟨_, _, F29, b29, PySem.W.mg_of X G a29⟩, may := ⟨_, _, F30, b30, PySem.W.mg_of X G a30⟩, size := ⟨_, _, F31, b31, PySem.W.mg_of X G a31⟩, share := ⟨_, _, F32, b32, PySem.W.mg_of X G a32⟩, far := ⟨_, _, F33, b33, PySem.W.mg_of X G a33⟩, otherwise := ⟨_, _, F34, b34, PySem.W.mg_of X G a34⟩, right := ⟨_, _, F35, b35, PySem.W.mg_of X G a35⟩, law := ⟨_, _, F36, b36, PySem.W.mg_of X G a36⟩, mk_Search := ⟨mkSearch, a8000, i8000, kcSearch⟩, mk_LyingRules := ⟨mkLyingRules, a14000, i14000, kcLyingRules⟩, m_bool := PySem.W.mg_none_of X G z0, m_dict := PySem.W.mg_none_of X G z1, m_enumerate := PySem.W.mg_none_of X G z2, m_int := PySem.W.mg_none_of X G z3, m_isinstance := PySem.W.mg_none_of X G z4, m_len := PySem.W.mg_none_of X G z5, m_list := PySem.W.mg_none_of X G z6, m_max := PySem.W.mg_none_of X G z7, m_min := PySem.W.mg_none_of X G z8, m_range := PySem.W.mg_none_of X G z9, m_set := PySem.W.mg_none_of X G z10, m_sorted := PySem.W.mg_none_of X G z11, m_sum := PySem.W.mg_none_of X G z12, m_tuple := PySem.W.mg_none_of X G z13, m_gcd := PySem.W.mg_of X G y0, c_LyingRules_choices := cc14003, P_LyingRules_choices := PP14003, hc_LyingRules_choices := rfl, tl_LyingRules_choices := TB (cc14003, PP14003) List.mem_cons_self}; .of (ok_law T) ⟨rfl, by decide, by decide⟩⟩
end Cw
open PySem PySem.W PyProof.Rows
set_option maxHeartbeats 0 in
theorem PySem.Challenge.cw_commonweb_k77_distances_holds : PySem.Challenge.rw_commonweb_k77_distances.Holds := by
  w_on; o_law; k_head; (case hw => w_witness2)
  k_fill
  refine Cw.walk_ofL (l := PySem.Challenge.rw_commonweb_k77_distances) [] rfl rfl (by decide +kernel) (fun w h Y => PySem.W.km_in_of Y) ?F
  case F =>
    intro w mg fa h KX Y G hmg facts
    have tabs := PySem.W.km_tabs_of Y
    refine' Cw.all_mk KX G hmg ?aCSearch ?pgSearch ?hdSearch ?poSearch ?saSearch ?mkSearch ?kcSearch ?nASearchrules ?nASearchknown ?aCLyingRules ?pgLyingRules ?hdLyingRules ?poLyingRules ?saLyingRules ?mkLyingRules ?kcLyingRules ?nALyingRuleshere ?nALyingRulesthere ?a2 ?l2 ?c2 ?k2 ?a3 ?l3 ?c3 ?k3 ?a4 ?l4 ?c4 ?k4 ?a5 ?l5 ?c5 ?k5 ?a8000 ?i8000 ?l8000 ?c8000 ?k8000 ?a8001 ?i8001 ?l8001 ?c8001 ?k8001 ?a8002 ?i8002 ?l8002 ?c8002 ?k8002 ?a8003 ?i8003 ?l8003 ?c8003 ?k8003 ?a8004 ?i8004 ?l8004 ?c8004 ?k8004 ?a8 ?l8 ?c8 ?k8 ?a10 ?l10 ?c10 ?k10 ?a12 ?l12 ?c12 ?k12 ?a14000 ?i14000 ?l14000 ?c14000 ?k14000 ?a14001 ?i14001 ?l14001 ?c14001 ?k14001 ?a14002 ?i14002 ?l14002 ?c14002 ?k14002 ?a14003 ?i14003 ?l14003 ?c14003 ?k14003 ?t14003 ?u14003 ?n14003 ?m14003 ?zz14003 ?a14004 ?i14004 ?l14004 ?c14004 ?k14004 ?a14 ?l14 ?c14 ?k14 ?a15 ?l15 ?c15 ?k15 ?a16 ?l16 ?c16 ?k16 ?a17 ?l17 ?c17 ?k17 ?a19 ?l19 ?c19 ?k19 ?a20 ?l20 ?c20 ?k20 ?a22 ?l22 ?c22 ?k22 ?a23 ?l23 ?c23 ?k23 ?a24 ?l24 ?c24 ?k24 ?a25 ?l25 ?c25 ?k25 ?a26 ?l26 ?c26 ?k26 ?a27 ?l27 ?c27 ?k27 ?a28 ?l28 ?c28 ?k28 ?a29 ?l29 ?c29 ?k29 ?a30 ?l30 ?c30 ?k30 ?a31 ?l31 ?c31 ?k31 ?a32 ?l32 ?c32 ?k32 ?a33 ?l33 ?c33 ?k33 ?a34 ?l34 ?c34 ?k34 ?a35 ?l35 ?c35 ?k35 ?a36 ?l36 ?c36 ?k36 ?z0 ?z1 ?z2 ?z3 ?z4 ?z5 ?z6 ?z7 ?z8 ?z9 ?z10 ?z11 ?z12 ?z13 ?y0
    (case aCSearch => k_is); (case pgSearch => k_is); (case hdSearch => k_is); (case poSearch => k_is); (case saSearch => k_is); (case mkSearch => k_is); (case kcSearch => k_is); (case nASearchrules => k_is); (case nASearchknown => k_is); (case aCLyingRules => k_is); (case pgLyingRules => k_is); (case hdLyingRules => k_is); (case poLyingRules => k_is); (case saLyingRules => k_is); (case mkLyingRules => k_is); (case kcLyingRules => k_is); (case nALyingRuleshere => k_is); (case nALyingRulesthere => k_is); (case a2 => k_is); (case l2 => k_is); (case c2 => k_is); (case k2 => k_is); (case a3 => k_is); (case l3 => k_is); (case c3 => k_is); (case k3 => k_is); (case a4 => k_is); (case l4 => k_is); (case c4 => k_is); (case k4 => k_is); (case a5 => k_is); (case l5 => k_is); (case c5 => k_is); (case k5 => k_is); (case a8000 => k_is); (case i8000 => k_is); (case l8000 => k_is); (case c8000 => k_is); (case k8000 => k_is); (case a8001 => k_is); (case i8001 => k_is); (case l8001 => k_is); (case c8001 => k_is); (case k8001 => k_is); (case a8002 => k_is); (case i8002 => k_is); (case l8002 => k_is); (case c8002 => k_is); (case k8002 => k_is); (case a8003 => k_is); (case i8003 => k_is); (case l8003 => k_is); (case c8003 => k_is); (case k8003 => k_is); (case a8004 => k_is); (case i8004 => k_is); (case l8004 => k_is); (case c8004 => k_is); (case k8004 => k_is); (case a8 => k_is); (case l8 => k_is); (case c8 => k_is); (case k8 => k_is); (case a10 => k_is); (case l10 => k_is); (case c10 => k_is); (case k10 => k_is); (case a12 => k_is); (case l12 => k_is); (case c12 => k_is); (case k12 => k_is); (case a14000 => k_is); (case i14000 => k_is); (case l14000 => k_is); (case c14000 => k_is); (case k14000 => k_is); (case a14001 => k_is); (case i14001 => k_is); (case l14001 => k_is); (case c14001 => k_is); (case k14001 => k_is); (case a14002 => k_is); (case i14002 => k_is); (case l14002 => k_is); (case c14002 => k_is); (case k14002 => k_is); (case a14003 => k_is); (case i14003 => k_is); (case l14003 => k_is); (case c14003 => k_is); (case k14003 => k_is); (case t14003 => k_is); (case u14003 => rfl); (case n14003 => rfl); (case m14003 => exact tabs _ (by decide)); (case zz14003 => rfl); (case a14004 => k_is); (case i14004 => k_is); (case l14004 => k_is); (case c14004 => k_is); (case k14004 => k_is); (case a14 => k_is); (case l14 => k_is); (case c14 => k_is); (case k14 => k_is); (case a15 => k_is); (case l15 => k_is); (case c15 => k_is); (case k15 => k_is); (case a16 => k_is); (case l16 => k_is); (case c16 => k_is); (case k16 => k_is); (case a17 => k_is); (case l17 => k_is); (case c17 => k_is); (case k17 => k_is); (case a19 => k_is); (case l19 => k_is); (case c19 => k_is); (case k19 => k_is); (case a20 => k_is); (case l20 => k_is); (case c20 => k_is); (case k20 => k_is); (case a22 => k_is); (case l22 => k_is); (case c22 => k_is); (case k22 => k_is); (case a23 => k_is); (case l23 => k_is); (case c23 => k_is); (case k23 => k_is); (case a24 => k_is); (case l24 => k_is); (case c24 => k_is); (case k24 => k_is); (case a25 => k_is); (case l25 => k_is); (case c25 => k_is); (case k25 => k_is); (case a26 => k_is); (case l26 => k_is); (case c26 => k_is); (case k26 => k_is); (case a27 => k_is); (case l27 => k_is); (case c27 => k_is); (case k27 => k_is); (case a28 => k_is); (case l28 => k_is); (case c28 => k_is); (case k28 => k_is); (case a29 => k_is); (case l29 => k_is); (case c29 => k_is); (case k29 => k_is); (case a30 => k_is); (case l30 => k_is); (case c30 => k_is); (case k30 => k_is); (case a31 => k_is); (case l31 => k_is); (case c31 => k_is); (case k31 => k_is); (case a32 => k_is); (case l32 => k_is); (case c32 => k_is); (case k32 => k_is); (case a33 => k_is); (case l33 => k_is); (case c33 => k_is); (case k33 => k_is); (case a34 => k_is); (case l34 => k_is); (case c34 => k_is); (case k34 => k_is); (case a35 => k_is); (case l35 => k_is); (case c35 => k_is); (case k35 => k_is); (case a36 => k_is); (case l36 => k_is); (case c36 => k_is); (case k36 => k_is); (case z0 => k_is); (case z1 => k_is); (case z2 => k_is); (case z3 => k_is); (case z4 => k_is); (case z5 => k_is); (case z6 => k_is); (case z7 => k_is); (case z8 => k_is); (case z9 => k_is); (case z10 => k_is); (case z11 => k_is); (case z12 => k_is); (case z13 => k_is); (case y0 => k_is)
