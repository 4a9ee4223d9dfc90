import PyProof.Rows.All
import Wide.All
import OpenK.AllK
import Wide.FinOn
import PySem.Challenge.RW_commonweb_k93_webs_written
import HandS.ForMost
import HandS.Conv
import KE.KItemsList
import KE.KDictZip
import HandS.Deep
import HandS.Evl
import HandS.IsInst
import HandS.Zip
import HandS.Walk
import KE.KEqSeq
import KE.KEqDeep
import HandS.SortRule
import HandS.DictTup
import KE.KDictSum
import PyProof.Draws
import HandS.SetFor
import PyProof.P3Eq
import HandS.NoneIn
import HandS.TupAny
import HandS.Rev
import HandS.RevTup
import HandS.Replace
import HandS.Text
import HandS.FStr
import HandS.WideBits
import HandS.DictComp
import HandS.SortInts
import HandS.AnyAll
import HandS.GenOver
import PyProof.ConsumeWalk
import HandS.EndTab
import KE.KeyNested
import HandS.Nested
import HandS.SortKw
import KE.DataMinKey
import KE.DataMinMax
import KE.SortData
import HandS.Strs
import KE.KSetDisp
import PyProof.StrWalks
import HandS.SetKeys
import PyProof.Rows.SortShellAny
import KE.DataFind
import PyProof.WalkInts
import PyProof.PureStr
import HandS.Style
import HandS.Wide
import HandS.WordsDict
import HandS.More
import HandS.TupSets
import HandS.SortOrd
set_option Elab.async false
set_option linter.all false
set_option maxRecDepth 100000
set_option maxHeartbeats 4000000
/-! list(enumerate(xs)) -/
namespace Cw
open PySem PySem.Spec PySem.Calls PyProof.Rows L2

theorem en_nolen : typeLookup (.type "enumerate") "__len__" = pure none := am_miss_of_fast (by decide +kernel)
theorem en_nohint : typeLookup (.type "enumerate") "__length_hint__" = pure none := am_miss_of_fast (by decide +kernel)

/-- how the iterator stands ahead of turn i -/
def EnSt (h : Heap) (e it l S : Addr) (items : Array Value) (i : Nat) : Prop :=
  h.IsListIter it l i ∧ h.IsList l items ∧ ((∃ old, IsEnum h e it i old) ∨ ∃ old T f oT, IsEnumHeld h e it i old T f ∧ h.get? T = some oT ∧ T ≠ e ∧ T ≠ it ∧ T ≠ S)

theorem EnSt.keep {h h' : Heap} {e it l S : Addr} {items : Array Value} {i : Nat} (x : EnSt h e it l S items i) (hk : ∀ b o, b ≠ S → h.get? b = some o → h'.get? b = some o) (h1 : e ≠ S) (h2 : it ≠ S) (h3 : l ≠ S) : EnSt h' e it l S items i := by
  obtain ⟨a, b, c⟩ := x
  refine ⟨a.at fun o q => hk it o h2 q, b.at fun o q => hk l o h3 q, ?_⟩
  rcases c with ⟨old, c⟩ | ⟨old, T, f, oT, c, hT, r1, r2, r3⟩
  · exact .inl ⟨old, hk _ _ h1 c⟩
  · exact .inr ⟨old, T, f, oT, hk _ _ h1 c, hk _ _ r3 hT, r1, r2, r3⟩

section
variable {prog : Program} {w : World} {A : Around} {E : Value → Shared → Prop} {s : Shared} {e it l S : Addr} {items : Array Value}

theorem en_item {i : Nat} {x : Value} {Q : Option Value → Shared → Prop} (st : EnSt s.heap e it l S items i) (hei : e ≠ it) (hle : l ≠ e) (hli : l ≠ it) (hS : S < s.heap.objs.size) (hx : items[i]? = some x)
    (hQ : ∀ h' t, EnSt h' e it l S items (i + 1) → h'.get? s.heap.objs.size = some { cls := .type "tuple", data := .seq #[.int i t, x] } → h'.objs.size = s.heap.objs.size + 1 →
      (∀ b o, b ≠ e → b ≠ it → s.heap.get? b = some o → h'.get? b = some o) → ∀ tk, Q (some (.ref s.heap.objs.size)) { s with heap := h', toks := tk }) : wpAny (model prog w) A (pyNext (.ref e)) Q E s := by
  obtain ⟨a, b, c⟩ := st
  have ec : ((i + 1 : Nat) : Int) = (i : Int) + 1 := by omega
  have nit : s.heap.objs.size ≠ it := let ⟨_, q, _⟩ := a; Nat.ne_of_gt (Heap.lt_size q)
  rcases c with ⟨old, c⟩ | ⟨old, T, f, oT, c, hT, r1, r2, r3⟩
  · refine wpAny_pyNext_enum_item c a b hx hei fun h' ho hit' hT hsz hk => hQ h' _ ⟨hit', b.at fun o q => hk l o hle hli q, .inr ⟨_, s.heap.objs.size, false, _, (by rw [ec]; exact ho), hT, Nat.ne_of_gt (Heap.lt_size c), nit, Nat.ne_of_gt hS⟩⟩ hT hsz hk _
  · refine wpAny_pyNext_enum_item_held c hT r1 r2 a b hx hei fun h' ho hit' hT' hsz hk => hQ h' _ ⟨hit', b.at fun o q => hk l o hle hli q, .inr ⟨old, T, true, oT, (by rw [ec]; exact ho), hk _ _ r1 r2 hT, r1, r2, r3⟩⟩ hT' hsz hk _

theorem en_done {i : Nat} {Q : Option Value → Shared → Prop} (hh : A.handled = none) (st : EnSt s.heap e it l S items i) (hx : items[i]? = none)
    (hQ : ∀ h', Heap.ExtBut it s.heap h' → Q none { s with heap := h' }) : wpAny (model prog w) A (pyNext (.ref e)) Q E s := by
  obtain ⟨a, b, c⟩ := st
  rcases c with ⟨old, c⟩ | ⟨old, T, f, oT, c, hT, r1, r2, r3⟩
  · exact wpAny_pyNext_enum_end hh c a b hx hQ
  · exact wpAny_pyNext_enum_end_held hh c a b hx hQ

/-- the tuples made so far -/
structure EnG (items : Array Value) (lo : Addr) (h : Heap) (as : List Addr) : Prop where
  rise : as.Pairwise (· < ·)
  above : ∀ a ∈ as, lo < a
  pairs : ∀ (j : Nat) (a : Addr), as[j]? = some a → ∃ t x, items[j]? = some x ∧ h.get? a = some { cls := .type "tuple", data := .seq #[.int j t, x] }
theorem EnG.there {lo : Addr} {h : Heap} {as : List Addr} (g : EnG items lo h as) {a : Addr} (ha : a ∈ as) : a < h.objs.size := by
  obtain ⟨j, hj⟩ := List.mem_iff_getElem?.mp ha
  obtain ⟨_, _, _, z⟩ := g.pairs j a hj
  exact Heap.lt_size z

theorem en_loop {R : Result → Shared → Prop} (hh : A.handled = none) (hei : e ≠ it) (hle : l ≠ e) (hli : l ≠ it) (heS : e < S) (hiS : it < S) (hlS : l < S) (hn : items.size ≤ sizeLine) (res : Value) {h₁ : Heap}
    (hR : ∀ h' tk acc c as, (∀ b o, b ≠ S → b ≠ e → b ≠ it → h₁.get? b = some o → h'.get? b = some o) → h'.get? S = some { cls := .type "list", dict := none, data := .seq acc c, slots := #[] } → as.length = items.size → EnG items S h' as →
      acc.toList = as.map Value.ref → R (.ok (.ret res)) { s with heap := h', toks := tk }) :
    ∀ (k i : Nat) (h : Heap) (tk c : Nat) (acc : Array Value) (as : List Addr), items.size - i = k → i ≤ items.size → EnSt h e it l S items i → (∀ b o, b ≠ S → b ≠ e → b ≠ it → h₁.get? b = some o → h.get? b = some o) →
      h.get? S = some { cls := .type "list", dict := none, data := .seq acc c, slots := #[] } → acc.toList = as.map Value.ref → as.length = i → EnG items S h as →
      codeAny (model prog w) A (.builtin "list.extend.loop" ⟨[.ref S, .ref e, res], []⟩) R { s with heap := h, toks := tk } := by
  have neS : e ≠ S := Nat.ne_of_lt heS
  have niS : it ≠ S := Nat.ne_of_lt hiS
  have nlS : l ≠ S := Nat.ne_of_lt hlS
  intro k
  induction k with
  | zero =>
    intro i h tk c acc as hk hi hst hkeep hS hacc hal hG
    refine codeAny_builtin (prog := prog) (w := w) PySem.F.entry_extend_loop ?_
    rw [Around.under_plainId (A := A) PySem.F.plain_extend_loop _]
    show wpAny _ A.in1 (pyNext (.ref e) >>= _) _ _ _
    refine wpAny_bind (en_done (s := { s with heap := h, toks := tk }) (A := A.in1) hh hst (Array.getElem?_eq_none (by omega)) fun h' he => ?_)
    refine wpAny_pure (hR h' tk acc c as (fun b o h1 h2 h3 q => he b o h3 (hkeep b o h1 h2 h3 q)) (he S _ niS.symm hS) (by omega) ⟨hG.rise, hG.above, fun j a hj => ?_⟩ hacc)
    obtain ⟨t, x, z1, z2⟩ := hG.pairs j a hj
    exact ⟨t, x, z1, he a _ (Nat.ne_of_gt (Nat.lt_trans hiS (hG.above a (List.mem_of_getElem? hj)))) z2⟩
  | succ k ih =>
    intro i h tk c acc as hk hi hst hkeep hS hacc hal hG
    have hlt : i < items.size := by omega
    have hx : items[i]? = some items[i] := Array.getElem?_eq_getElem hlt
    have hsz : acc.size = i := by rw [← Array.length_toList, hacc, List.length_map, hal]
    refine codeAny_builtin (prog := prog) (w := w) PySem.F.entry_extend_loop ?_
    rw [Around.under_plainId (A := A) PySem.F.plain_extend_loop _]
    show wpAny _ A.in1 (pyNext (.ref e) >>= _) _ _ _
    refine wpAny_bind (en_item (s := { s with heap := h, toks := tk }) (S := S) hst hei hle hli (Heap.lt_size hS) hx fun h' t hst' ht hz hkp tk' => ?_)
    dsimp only at ht hz hkp ⊢
    have hS' := hkp S _ neS.symm niS.symm hS
    have up : ∀ b o, b ≠ S → h'.get? b = some o → (h'.update S (Obj.mapSeq (·.push (Value.ref h.objs.size)))).get? b = some o := fun b o hb q => (Heap.get?_update_other _ _ (Ne.symm hb)).trans q
    have hSl : S < h.objs.size := Heap.lt_size hS
    show wpAny _ A.in1 (updateSeq S (·.push (Value.ref h.objs.size)) >>= _) _ _ _
    refine wpAny_bind (wpAny_updateSeq hS' rfl (wpAny_pure ⟨plainId_quiet PySem.F.plain_extend_loop _, ih (i + 1) _ tk' _ (acc.push (Value.ref h.objs.size)) (as ++ [h.objs.size]) (by omega) hlt (hst'.keep up neS niS nlS)
      (fun b o h1 h2 h3 q => up b o h1 (hkp b o h2 h3 (hkeep b o h1 h2 h3 q))) (Heap.get?_update_self _ hS' rfl) (by rw [Array.toList_push, hacc, List.map_append]; rfl) (by rw [List.length_append, hal]; rfl) ⟨?_, ?_, ?_⟩⟩) (by rw [hsz]; omega) (by show (acc.push (Value.ref h.objs.size)).size ≤ sizeLine + 1; rw [Array.size_push, hsz]; omega))
    · refine List.pairwise_append.mpr ⟨hG.rise, List.pairwise_singleton _ _, fun a ha b hb => ?_⟩
      rw [List.mem_singleton.mp hb]; exact hG.there ha
    · intro a ha
      rcases List.mem_append.mp ha with ha | ha
      · exact hG.above a ha
      · rw [List.mem_singleton.mp ha]; exact hSl
    · intro j b hj
      rcases Nat.lt_trichotomy j as.length with h1 | h1 | h1
      · rw [List.getElem?_append_left h1] at hj
        obtain ⟨t', x', z1, z2⟩ := hG.pairs j b hj
        have hb := hG.above b (List.mem_of_getElem? hj)
        exact ⟨t', x', z1, up b _ (Nat.ne_of_gt hb) (hkp b _ (Nat.ne_of_gt (Nat.lt_trans heS hb)) (Nat.ne_of_gt (Nat.lt_trans hiS hb)) z2)⟩
      · subst h1
        have hb : h.objs.size = b := by simpa using hj
        subst hb
        exact ⟨t, _, by rw [hal]; exact hx, by rw [hal]; exact up _ _ (Nat.ne_of_gt hSl) ht⟩
      · have hnone : (as ++ [h.objs.size])[j]? = none := List.getElem?_eq_none (by rw [List.length_append, List.length_singleton]; omega)
        rw [hnone] at hj; cases hj

theorem en_hint (hT : s.TypeIs (.ref e) "enumerate") {Q : Bool → Shared → Prop} (h : Q true s) : wpAny (model prog w) A (Builtin.List.listLengthHint (.ref e)) Q E s := by
  unfold Builtin.List.listLengthHint
  refine wpAny_bind (wpAny_specialOf hT en_nolen ?_)
  show wpAny _ _ (specialOf (Value.ref e) (Str.ofString "__length_hint__") >>= _) _ _ _
  refine wpAny_bind (wpAny_specialOf hT en_nohint ?_)
  exact wpAny_pure h

theorem en_extend {R : Result → Shared → Prop} (hh : A.handled = none) (he : IsEnum s.heap e it 0 .none) (hit : s.heap.IsListIter it l 0) (hl : s.heap.IsList l items) (hei : e ≠ it) (hle : l ≠ e) (hli : l ≠ it) (heS : e < S) (hiS : it < S) (hlS : l < S) (res : Value) (c₀ : Nat) (hS : s.heap.get? S = some { cls := .type "list", data := .seq #[] c₀ })
    (hR : ∀ h' tk acc c as, (∀ b o, b ≠ S → b ≠ e → b ≠ it → s.heap.get? b = some o → h'.get? b = some o) → h'.get? S = some { cls := .type "list", dict := none, data := .seq acc c, slots := #[] } → as.length = items.size → EnG items S h' as →
      acc.toList = as.map Value.ref → R (.ok (.ret res)) { s with heap := h', toks := tk }) (hn : items.size ≤ sizeLine) :
    wpAny (model prog w) A.in1 (Builtin.List.listExtendWith (.ref S) (.ref e) res)
      (fun fin s' => match fin with | .done f => R (.ok f) s' | .again c' => c'.quiet = true ∧ codeAny (model prog w) A c' R s') (fun e s' => R (.error e) s') s := by
  have hSr : S ≠ e := Nat.ne_of_gt heS
  have hTy : s.TypeIs (.ref e) "enumerate" := ⟨_, he, rfl⟩
  have key : ∀ (h : Heap) (c₁ tk : Nat), (∀ b o, b ≠ S → s.heap.get? b = some o → h.get? b = some o) → h.get? S = some { cls := .type "list", data := .seq #[] c₁ } → codeAny (model prog w) A (.builtin "list.extend.loop" ⟨[.ref S, .ref e, res], []⟩) R { s with heap := h, toks := tk } := by
    intro h c₁ tk hk hS₁
    refine en_loop (s := s) (h₁ := s.heap) hh hei hle hli heS hiS hlS hn res hR items.size 0 h tk c₁ #[] [] (Nat.sub_zero _) (Nat.zero_le _) ⟨hit.at fun o q => hk it o (Nat.ne_of_lt hiS) q, hl.at fun o q => hk l o (Nat.ne_of_lt hlS) q, .inl ⟨_, hk _ _ (Nat.ne_of_lt heS) he⟩⟩
      (fun b o h1 _ _ q => hk b o h1 q) hS₁ rfl rfl ⟨List.Pairwise.nil, (fun _ ha => nomatch ha), (fun j a hj => by simp at hj)⟩
  unfold Builtin.List.listExtendWith
  refine wpAny_bind (wpAny_typeOf (T := "enumerate") hTy ?_)
  have h1 : Builtin.List.listSameRef (.ref S) (.ref e) = false := by simp [Builtin.List.listSameRef, hSr]
  have h2 : (Value.type "enumerate" == Value.type "list") = false := by decide
  have h3 : (Value.type "enumerate" == Value.type "tuple") = false := by decide
  simp only [h1, h2, h3, Bool.or_false, Bool.false_eq_true, if_false]
  refine wpAny_bind (wpAny_pyIter_enum he ?_)
  refine wpAny_bind (wpAny_holding (en_hint hTy ?_))
  refine wpAny_ite_split (fun _ => ?_) (fun _ => wpAny_pure ⟨plainId_quiet PySem.F.plain_extend_loop _, key _ c₀ _ (fun b o _ q => q) hS⟩)
  refine wpAny_bind (wpAny_rule (wpAny_bind ?_))
  · show wpAny _ _ (updateSeq S (·.push .none) >>= fun _ => updateSeq S (·.pop)) _ _ _
    refine wpAny_bind (wpAny_updateSeq hS rfl ?_)
    have hS₂ := Heap.get?_update_self (Obj.mapSeq (·.push Value.none)) hS rfl
    refine wpAny_updateSeq (hz := by seq_fits) hS₂ rfl ?_
    have hS₃ := Heap.get?_update_self (Obj.mapSeq (·.pop)) hS₂ rfl
    refine wpAny_pure ⟨plainId_quiet PySem.F.plain_extend_loop _, key _ _ _ (fun b o hb q => ?_) hS₃⟩
    exact (Heap.get?_update_other _ _ (Ne.symm hb)).trans ((Heap.get?_update_other _ _ (Ne.symm hb)).trans q)

theorem EnG.low {lo lo' : Addr} {h : Heap} {as : List Addr} (g : EnG items lo h as) (hl : lo' ≤ lo) : EnG items lo' h as := ⟨g.rise, fun a ha => Nat.lt_of_le_of_lt hl (g.above a ha), g.pairs⟩

/-- list(e), e an enumerate that nobody has asked yet -/
theorem en_call {Q : Value → Shared → Prop} (hh : A.handled = none) (he : IsEnum s.heap e it 0 .none) (hit : s.heap.IsListIter it l 0) (hl : s.heap.IsList l items) (hei : e ≠ it) (hle : l ≠ e) (hli : l ≠ it) (hn : items.size ≤ sizeLine)
    (hQ : ∀ h' tk acc c as, (∀ b o, b ≠ e → b ≠ it → s.heap.get? b = some o → h'.get? b = some o) → h'.get? s.heap.objs.size = some { cls := .type "list", dict := none, data := .seq acc c, slots := #[] } → as.length = items.size → EnG items s.heap.objs.size h' as →
      acc.toList = as.map Value.ref → Q (.ref s.heap.objs.size) { s with heap := h', toks := tk }) : wpAny (model prog w) A (call (.type "list") [.ref e]) Q E s := by
  refine callType_codes (Q₁ := fun obj s₁ => obj = .ref s.heap.objs.size ∧ s₁ = { s with heap := s.heap.push { cls := .type "list", data := .seq #[] } }) PySem.F.called_list (PySem.F.typeCall_list_1 _) PySem.F.entry_list_init (code_list_new _ ⟨rfl, rfl⟩) fun obj s₁ h₁ => ?_
  obtain ⟨rfl, rfl⟩ := h₁
  have hS : (s.heap.push { cls := .type "list", data := .seq #[] }).get? s.heap.objs.size = some { cls := .type "list", data := .seq #[] } := Heap.get?_push_size _ rfl
  have k1 : ∀ b o, s.heap.get? b = some o → (s.heap.push { cls := .type "list", data := .seq #[] }).get? b = some o := fun b o q => Heap.get?_push_of_some _ q
  have heS : e < s.heap.objs.size := Heap.lt_size he
  have hiS : it < s.heap.objs.size := by obtain ⟨_, q, _⟩ := hit; exact Heap.lt_size q
  have hlS : l < s.heap.objs.size := by obtain ⟨_, q, _⟩ := hl; exact Heap.lt_size q
  refine ⟨⟨_, hS, rfl⟩, PySem.F.args_list_init_2 _ _, ?_⟩
  show wpAny _ _ (do let old ← Builtin.List.listItems (.ref s.heap.objs.size); Builtin.List.listUpdate (.ref s.heap.objs.size) (fun _ => #[]); letGo old.toList.reverse; Builtin.List.listExtendWith (.ref s.heap.objs.size) (.ref e) .none) _ _ _
  refine wpAny_bind ?_; unfold Builtin.List.listItems; refine wpAny_bind (wpAny_seqItems hS rfl (wpAny_pure ?_))
  show wpAny _ _ (updateSeq s.heap.objs.size (fun _ => #[]) >>= fun _ => letGo (#[] : Array Value).toList.reverse >>= fun _ => Builtin.List.listExtendWith (.ref s.heap.objs.size) (.ref e) .none) _ _ _
  refine wpAny_bind (wpAny_updateSeq hS rfl (wpAny_bind (wpAny_letGo ?_)))
  have hS₂ := Heap.get?_update_self (Obj.mapSeq (fun _ => (#[] : Array Value))) hS rfl
  have k2 : ∀ b o, b ≠ s.heap.objs.size → s.heap.get? b = some o → ((s.heap.push { cls := .type "list", data := .seq #[] }).update s.heap.objs.size (Obj.mapSeq (fun _ => (#[] : Array Value)))).get? b = some o := fun b o hb q => (Heap.get?_update_other _ _ (Ne.symm hb)).trans (k1 b o q)
  refine en_extend (A := A.in1) (s := { s with heap := (s.heap.push { cls := .type "list", data := .seq #[] }).update s.heap.objs.size (Obj.mapSeq (fun _ => (#[] : Array Value))) }) hh (k2 _ _ (Nat.ne_of_lt heS) he) (hit.at fun o q => k2 it o (Nat.ne_of_lt hiS) q) (hl.at fun o q => k2 l o (Nat.ne_of_lt hlS) q) hei hle hli heS hiS hlS .none _ hS₂ (fun h' tk acc c as hk hS' hl' hG hacc => ?_) hn
  exact ⟨rfl, hQ h' tk acc c as (fun b o h1 h2 q => hk b o (Nat.ne_of_lt (Heap.lt_size q)) h1 h2 (k2 b o (Nat.ne_of_lt (Heap.lt_size q)) q)) hS' hl' hG hacc⟩
end

/-- the tuples tracked at their addresses -/
def putE : Hp → List Addr → List V → Nat → Hp
  | H, a :: as, x :: xs, j => putE (upd H a (.tup [.int j, x])) as xs (j + 1)
  | H, _, _, _ => H
theorem putE_off {b : Addr} : ∀ (as : List Addr) (xs : List V) (j : Nat) (H : Hp), b ∉ as → putE H as xs j b = H b
  | [], _, _, _, _ => rfl
  | _ :: _, [], _, _, _ => rfl
  | a :: as, x :: xs, j, H, h => by
    show putE (upd H a (.tup [.int j, x])) as xs (j + 1) b = H b
    rw [putE_off as xs _ _ (fun z => h (List.mem_cons_of_mem _ z)), upd_ne (fun z => h (by rw [z]; exact List.mem_cons_self))]
theorem putE_at : ∀ (as : List Addr) (xs : List V) (j : Nat) (H : Hp), as.Nodup → ∀ i t x, as[i]? = some t → xs[i]? = some x → putE H as xs j t = some (.tup [.int ((j + i : Nat) : Int), x])
  | [], _, _, _, _, _, _, _, h, _ => by simp at h
  | _ :: _, [], _, _, _, _, _, _, _, h => by simp at h
  | a :: as, y :: xs, j, H, hn, 0, t, x, h1, h2 => by
    have e1 : a = t := Option.some.inj h1
    have e2 : y = x := Option.some.inj h2
    subst e1; subst e2
    show putE (upd H a (.tup [.int j, y])) as xs (j + 1) a = _
    rw [putE_off as xs _ _ (List.nodup_cons.mp hn).1, upd_same]; rfl
  | a :: as, y :: xs, j, H, hn, i + 1, t, x, h1, h2 => by
    have ih := putE_at as xs (j + 1) (upd H a (.tup [.int j, y])) (List.nodup_cons.mp hn).2 i t x h1 h2
    show putE (upd H a (.tup [.int j, y])) as xs (j + 1) t = _
    rw [ih, show j + 1 + i = j + (i + 1) by omega]
theorem refs_vals : ∀ as : List Addr, Vals (as.map V.ref) (as.map Value.ref)
  | [] => .nil
  | _ :: as => .cons rfl (refs_vals as)
def rLstEn (K : PySem.W.Frag) : List V → Hp → VK → Prop := fun vs H Q => ∃ (a : Addr) (xs : List V), vs = [.ref a] ∧ SqL K H a xs ∧
  ∀ (H' : Hp) (p : Addr) (ts : List Addr), Same H H' → H p = none → (∀ t ∈ ts, H t = none) → p ∉ ts → H' p = some (.lst (ts.map V.ref)) → ts.length = xs.length → (∀ j t x, ts[j]? = some t → xs[j]? = some x → H' t = some (.tup [.int (j : Nat), x])) → Q (.ref p) H'
def tLstEn (K : PySem.W.Frag) (ta : TA) : TE := fun σ H Q => ta σ H fun vs H1 => rLstEn K vs H1 Q
section
variable {X : Cx} {e : Expr} {ta : TA} {p1 p2 pos pos2 : Pos}
theorem enum_laid {pins : List (Addr × Obj)} {σ : L2.St} {H : Hp} {s : Shared} {h' : Heap} {tk S : Nat} {xs : List V} {its : List Value} {acc : Array Value} {c : Nat} {as : List Addr} (I : Inv X pins σ H s) (hz : xs.length ≤ sizeLine) (rv : Vals xs its)
    (hk : ∀ b o, s.heap.get? b = some o → h'.get? b = some o) (hS0 : s.heap.objs.size ≤ S) (hS : h'.get? S = some { cls := .type "list", dict := none, data := .seq acc c, slots := #[] }) (hl : as.length = its.toArray.size) (hG : EnG its.toArray S h' as) (hacc : acc.toList = as.map Value.ref) :
    ∃ H' : Hp, Same H H' ∧ H S = none ∧ (∀ t ∈ as, H t = none) ∧ S ∉ as ∧ H' S = some (.lst (as.map V.ref)) ∧ (∀ j t x, as[j]? = some t → xs[j]? = some x → H' t = some (.tup [.int (j : Nat), x])) ∧ Inv X pins σ H' { s with heap := h', toks := tk } := by
  have lk : xs.length = its.length := Vals.length rv
  have hl' : as.length = xs.length := by rw [hl, List.size_toArray, lk]
  have hSn : S ∉ as := fun z => Nat.lt_irrefl _ (hG.above _ z)
  have nd : as.Nodup := List.Pairwise.imp (fun {a b} (h : a < b) => Nat.ne_of_lt h) hG.rise
  have new : ∀ t ∈ as, H t = none := fun t ht => I.hok.fresh (Nat.le_trans hS0 (Nat.le_of_lt (hG.above t ht)))
  have newS : H S = none := I.hok.fresh hS0
  have off : ∀ b, b ∉ as → b ≠ S → putE (upd H S (.lst (as.map V.ref))) as xs 0 b = H b := fun b h1 h2 => by rw [putE_off as xs _ _ h1, upd_ne h2]
  have low : ∀ b o, s.heap.get? b = some o → b ∉ as ∧ b ≠ S := fun b o q => ⟨fun z => absurd (Heap.lt_size q) (Nat.not_lt.mpr (Nat.le_trans hS0 (Nat.le_of_lt (hG.above b z)))), Nat.ne_of_lt (Nat.lt_of_lt_of_le (Heap.lt_size q) hS0)⟩
  have kp : Same H (putE (upd H S (.lst (as.map V.ref))) as xs 0) := fun b u q => by
    rw [off b (fun z => by rw [new b z] at q; cases q) (fun z => by rw [z, newS] at q; cases q)]
    exact q
  have eS : putE (upd H S (.lst (as.map V.ref))) as xs 0 S = some (.lst (as.map V.ref)) := by rw [putE_off as xs _ _ hSn, upd_same]
  have atP : ∀ j t x, as[j]? = some t → xs[j]? = some x → putE (upd H S (.lst (as.map V.ref))) as xs 0 t = some (.tup [.int (j : Nat), x]) := fun j t x h1 h2 => by
    rw [putE_at as xs 0 _ nd j t x h1 h2, Nat.zero_add]
  refine ⟨_, kp, newS, new, hSn, eS, atP, ?_⟩
  refine I.call' (ch := []) rfl ⟨fun b o q _ _ _ => hk b o q, fun b o q _ _ _ => ⟨o.slots, hk b o q⟩, fun b o q n _ => (off b (low b o q).1 (low b o q).2).trans n, fun b o q _ => ⟨o, hk b o q⟩, fun b xs q => kp b _ q, fun b o u q => kp b _ q, fun b ps q => ⟨#[], by rw [kp b _ q]; simp⟩⟩ (fun b u q => ?_) I.bare fun b z => by simp at z
  by_cases hb : b ∈ as
  · obtain ⟨j, e1⟩ := List.mem_iff_getElem?.mp hb
    have hj : j < xs.length := by
      have := (List.getElem?_eq_some_iff.mp e1).1
      omega
    have e2 : xs[j]? = some xs[j] := List.getElem?_eq_getElem hj
    rw [atP j b _ e1 e2] at q
    cases q
    obtain ⟨t, x, f1, f2⟩ := hG.pairs j b e1
    obtain ⟨u, g1, g2⟩ := rv.get e2
    have f1' : its[j]? = some x := by simpa using f1
    rw [g1] at f1'
    cases f1'
    exact ⟨by show 2 ≤ sizeLine; decide, [.int j t, x], .cons ⟨t, rfl⟩ (.cons g2 .nil), ⟨_, f2, rfl, _, rfl⟩⟩
  · by_cases hb2 : b = S
    · rw [hb2] at q ⊢
      rw [eS] at q
      cases q
      refine ⟨by rw [List.length_map]; omega, acc.toList, c, by rw [hacc]; exact refs_vals as, ?_⟩
      rw [Array.toArray_toList]; exact hS
    · rw [off b hb hb2] at q
      exact (I.hok b u q).stay (fun d v _ y => hk d v y) (fun d y => kp d _ y) fun d xs y => kp d _ y
/-- list(enumerate(e)) -/
theorem pe_listEnum (hc : X.calm = true) (hg : Gl X "list") (hm : X.mg "list" = none) (hg2 : Gl X "enumerate") (hm2 : X.mg "enumerate" = none) (ha : PA X [e] ta)
    (hs : starEach [.Call (.Name "enumerate" p2) [e] [] pos2] X.env = [(false, eval (.Call (.Name "enumerate" p2) [e] [] pos2) X.env)] := by rfl) (hs2 : starEach [e] X.env = [(false, eval e X.env)] := by rfl) :
    PE X (.Call (.Name "list" p1) [.Call (.Name "enumerate" p2) [e] [] pos2] [] pos) (tLstEn X.K ta) := by
  refine ⟨fun pins s σ H Q I hq => ?_⟩
  refine Call_ (ld_blt I hg hm boot_list (PyProof.Rows.callWith_type1 ?_ hs rfl))
  rw [hs]
  show wpAny _ _ (spliced ((false, eval (.Call (.Name "enumerate" p2) [e] [] pos2) X.env) :: backTo pos [])) _ _ s
  refine Calls.spliced_cons (Call_ (ld_blt I hg2 hm2 boot_enumerate (PyProof.Rows.callWith_type1 (thn (ha.run pos2 pins s σ H _ I hq) fun us s1 ⟨vs, H1, I1, r1, q1⟩ => ?_) hs2 rfl)))
  obtain ⟨a, xs, ex, hq, q⟩ := q1
  subst ex
  cases r1 with
  | cons r rr =>
    cases rr; cases r
    obtain ⟨its, rv, p', hz⟩ := I1.list hq
    have hl0 : a < s1.heap.objs.size := by obtain ⟨_, z, _⟩ := p'.isList; exact Heap.lt_size z
    refine call_enumerate_list p'.isList fun h' he hit hsz hk => ?_
    have I2 : Inv X pins σ H1 { s1 with heap := h' } := I1.kept (t' := s1.toks) hk
    refine Calls.spliced_nil ?_
    refine en_call (s := { s1 with heap := h' }) (I1.ok.hd hc) he hit (p'.isList.at fun o z => hk a o z) (Nat.succ_ne_self _) (Nat.ne_of_lt (Nat.lt_succ_of_lt hl0)) (Nat.ne_of_lt hl0) (by rw [List.size_toArray, ← rv.length]; exact hz) fun h'' tk acc c as hk2 hS hl hG hacc => ?_
    have hk3 : ∀ b o, s1.heap.get? b = some o → h''.get? b = some o := fun b o z => hk2 b o (Nat.ne_of_lt (Nat.lt_succ_of_lt (Heap.lt_size z))) (Nat.ne_of_lt (Heap.lt_size z)) (hk b o z)
    obtain ⟨H', k1, k2, k3, k4, k5, k6, J⟩ := enum_laid (tk := tk) I1 hz rv hk3 (by show s1.heap.objs.size ≤ h'.objs.size; omega) hS hl hG hacc
    exact ⟨.ref _, H', J, rfl, q H' _ as k1 k2 k3 k4 k5 (by rw [hl, List.size_toArray, rv.length]) k6⟩
end
end Cw

namespace Cw
open PySem PySem.Spec PyProof.Rows L2

/-! ### a def of the text, called by its name -/
structure Df (K : PySem.W.Frag) (mg : Str → Option Value) (x : Str) (st : Stmt) (ps : List Str) where
  f : Addr
  fd : FuncData
  F : Fun K x x st f fd
  b : Binds K fd ps []
  g : mg x = some (.ref f)

theorem units1 {k : Nat} {A : Around} (r : Room k A) : A.units + 65 < cLine := by have := r.un; omega
theorem blkOk_in {N : List Str} {sc scO scope : Scope} {own : List (Str × Nat)} {cl : List (Str × Addr)} {C : Addr} {env : Env} (he : env.scope = sc) (h : blkC N (relS scO sc) scope own = true) : BlkOk N (compEnvC scO cl C env).scope scope own := by
  subst he
  exact blkOk_by h
/-! ### heaps -/
/-- all but h is as it was -/
def Keep (h : Addr) (H H' : Hp) : Prop := ∀ b o, b ≠ h → H b = some o → H' b = some o
theorem Keep.refl (h : Addr) (H : Hp) : Keep h H H := fun _ _ _ e => e
theorem Keep.trans {h : Addr} {H H1 H2 : Hp} (a : Keep h H H1) (b : Keep h H1 H2) : Keep h H H2 := fun c o n e => b c o n (a c o n e)
theorem Keep.same {h : Addr} {H H1 H2 : Hp} (a : Keep h H H1) (b : Same H1 H2) : Keep h H H2 := fun c o n e => b c o (a c o n e)
theorem Same.keep {h : Addr} {H H1 : Hp} (a : Same H H1) : Keep h H H1 := fun c o _ e => a c o e
theorem Keep.put {h : Addr} {H : Hp} {o : HO} : Keep h H (upd H h o) := fun c u n e => by rw [upd_ne n]; exact e
/-- what was new ahead of it is not told -/
theorem Keep.out {h : Addr} {H0 H H1 : Hp} (s : Same H0 H) (k : Keep h H H1) (n : H0 h = none) : Same H0 H1 := fun c o e => k c o (ne_of_none e n) (s c o e)
theorem same_new {H : Hp} {p : Addr} {o : HO} (h : H p = none) : Same H (upd H p o) := fun b x e => by rw [upd_ne (ne_of_none e h)]; exact e
theorem same_upd {H H' : Hp} {p : Addr} {o : HO} (s : Same H H') (h : H p = none) : Same H (upd H' p o) := fun b x e => by rw [upd_ne (ne_of_none e h)]; exact s b x e
theorem Same.sqt {K : PySem.W.Frag} {H H' : Hp} {a : Addr} {xs : List V} (e : Same H H') (h : SqT K H a xs) : SqT K H' a xs := by
  rcases h with (h | ⟨o, h⟩) | h
  · exact .inl (.inl (e _ _ h))
  · exact .inl (.inr ⟨o, e _ _ h⟩)
  · exact .inr h
theorem at_upd {H : Hp} {a b : Addr} {o u : HO} (h : H a = some o) (n : H b = none) : upd H b u a = some o := by rw [upd_ne (ne_of_none h n)]; exact h

theorem Keep.new {h p : Addr} {H H' : Hp} {o : HO} (k : Keep h H H') (n : H p = none) : Keep h H (upd H' p o) := fun b u nb e => by rw [upd_ne (ne_of_none e n)]; exact k b u nb e
theorem Keep.free {h p : Addr} {H H' : Hp} (k : Keep h H H') (ne : p ≠ h) (n : H' p = none) : H p = none := by
  cases q : H p with
  | none => rfl
  | some o => rw [k p o ne q] at n; cases n
theorem Keep.self {h : Addr} {H H' : Hp} {o : HO} (k : Keep h H H') : Keep h H (upd H' h o) := fun b u nb e => by rw [upd_ne nb]; exact k b u nb e
theorem Keep.seqN {K : PySem.W.Frag} {H H' : Hp} {a h : Addr} {xs : List V} (k : Keep h H H') (n : H h = none) (q : SqL K H a xs) : SqL K H' a xs := by
  rcases q with (q | ⟨o, q⟩) | q
  · exact .inl (.inl (k _ _ (ne_of_none q n) q))
  · exact .inl (.inr ⟨o, k _ _ (ne_of_none q n) q⟩)
  · exact .inr q
/-- a tuple stands behind a store at a new place, at a list -/
theorem sqt_upd {K : PySem.W.Frag} {H : Hp} {a b : Addr} {xs : List V} {o : HO} (n : H b = none ∨ ∃ ys, H b = some (.lst ys)) (q : SqT K H a xs) : SqT K (upd H b o) a xs := by
  have ne : ∀ u, H a = some u → (∀ ys, u ≠ .lst ys) → a ≠ b := fun u e hu z => by
    subst z
    rcases n with n | ⟨ys, n⟩
    · rw [n] at e; cases e
    · rw [n] at e; exact hu ys (Option.some.inj e).symm
  rcases q with (q | ⟨o', q⟩) | q
  · exact .inl (.inl (by rw [upd_ne (ne _ q (by intro ys z; cases z))]; exact q))
  · exact .inl (.inr ⟨o', by rw [upd_ne (ne _ q (by intro ys z; cases z))]; exact q⟩)
  · exact .inr q
/-- x in (a, b, ..), data at any depth -/
def rInT (K : PySem.W.Frag) (neg : Bool) : R2 := fun x y H Q => ∃ d ds, Dp K H x d ∧ Dp K H y (.tuple ds) ∧ SeqAt.shaped d = true ∧ SeqAt.shaped (.tuple ds) = true ∧ Q (.bl (if neg then !(ds.any fun z => PyData.eqv z d) else ds.any fun z => PyData.eqv z d)) H
theorem op_inT {X : Cx} (hu : X.A.units + 65 < cLine) : OpR X (compareOp .In) (rInT X.K false) := by
  intro pins s σ H x y v u Q I rx ry h
  obtain ⟨d, ds, hd, he, sd, se, q⟩ := h
  obtain ⟨as, r1⟩ := Dp.reads I d x v hd rx
  obtain ⟨bs, r2⟩ := Dp.reads I (.tuple ds) y u he ry
  exact SeqAt.in_tuple_reads r2 r1 (SeqAt.canLay_of_shaped se) (SeqAt.canLay_of_shaped sd) (room_in_shaped sd hu) ⟨.bl _, H, I, rfl, q⟩
/-! ### readings, step by step -/
section
variable {K : PySem.W.Frag} {σ : L2.St} {H : Hp} {Q : VK} {QA : List V → Hp → Prop} {QT : Bool → Hp → Prop} {D : Ends} {ta tb tc te : TE} {tr t1 : TA} {tt tu : TT} {t u : TS} {r r' : R2} {v x y : V} {i j : Int} {n : Nat} {p : Addr} {xs : List V}
theorem d_var {i : Nat} (e : σ[i]? = some (some v)) (h : Q v H) : tVar i σ H Q := ⟨v, e, h⟩
theorem d_c (h : Q v H) : tC v σ H Q := h
theorem d_op (h : ta σ H fun x H1 => tb σ H1 fun y H2 => r x y H2 Q) : tOp r ta tb σ H Q := h
theorem d_un {r : V → Hp → VK → Prop} (h : ta σ H fun x H1 => r x H1 Q) : tUn r ta σ H Q := h
theorem d_cons (h : ta σ H fun x H1 => tr σ H1 fun xs H2 => QA (x :: xs) H2) : tCons ta tr σ H QA := h
theorem d_nil (h : QA [] H) : tNil σ H QA := h
theorem d_cb {r : List V → Hp → VK → Prop} (h : tr σ H fun vs H1 => r vs H1 Q) : tCB r tr σ H Q := h
theorem d_call {sp : Sp} {dvs : List V} {E : XK} (h : tr σ H fun vs H1 => sp (vs ++ dvs) H1 Q E) : tCall sp dvs E tr σ H Q := h
theorem d_tup (h : tr σ H fun xs H1 => xs.length ≤ sizeLine ∧ ∀ p, H1 p = none → Q (.ref p) (upd H1 p (.tup xs))) : tTup tr σ H Q := h
theorem d_lst (h : tr σ H fun xs H1 => xs.length ≤ sizeLine ∧ ∀ p, H1 p = none → Q (.ref p) (upd H1 p (.lst xs))) : tLst tr σ H Q := h
theorem d_rI {C : Int → Int → Prop} {g : Int → Int → V} (hc : C i j) (h : Q (g i j) H) : rI C g (.int i) (.int j) H Q := ⟨i, j, rfl, rfl, hc, h⟩
theorem d_rI0 {g : Int → Int → V} (h : Q (g i j) H) : rI0 g (.int i) (.int j) H Q := ⟨i, j, rfl, rfl, h⟩
theorem d_rU {g : Int → V} (h : Q (g i) H) : rU g (.int i) H Q := ⟨i, rfl, h⟩
theorem d_eqI (h : Q (.bl (decide (i = j))) H) : rEq (.int i) (.int j) H Q := ⟨rfl, by
  rw [show decide (V.int i = V.int j) = decide (i = j) by rw [Bool.eq_iff_iff]; simp]; exact h⟩
theorem d_neI (h : Q (.bl (!decide (i = j))) H) : rNe (.int i) (.int j) H Q := ⟨rfl, by
  rw [show decide (V.int i = V.int j) = decide (i = j) by rw [Bool.eq_iff_iff]; simp]; exact h⟩
theorem d_ixL (h : SqL K H p xs) (e : atI xs i = some v) (q : Q v H) : rIxL K (.ref p) (.int i) H Q := ⟨p, xs, i, v, rfl, rfl, h, e, q⟩
theorem d_ixLm (h : H p = some (.lst xs)) (e : atI xs i = some v) (q : Q v H) : rIxL K (.ref p) (.int i) H Q := ⟨p, xs, i, v, rfl, rfl, SqL.of h, e, q⟩
theorem d_ixT (h : SqT K H p xs) (e : atI xs i = some v) (q : Q v H) : rIxT K (.ref p) (.int i) H Q := ⟨p, xs, i, v, rfl, rfl, h, e, q⟩
theorem d_ixTm (h : H p = some (.tup xs)) (e : atI xs i = some v) (q : Q v H) : rIxT K (.ref p) (.int i) H Q := ⟨p, xs, i, v, rfl, rfl, SqT.of h, e, q⟩
theorem d_test (h : te σ H fun x H' => ∃ k, x = .bl k ∧ QT k H') : tTest te σ H QT := h
theorem d_tB (h : te σ H fun x H' => ∃ k, x = .bl k ∧ QT k H') : tB te σ H QT := h
theorem d_bl {b : Bool} {C : Bool → Prop} (h : C b) : ∃ k, V.bl b = .bl k ∧ C k := ⟨b, rfl, h⟩
theorem d_not (h : tt σ H fun c H1 => QT (!c) H1) : tNot tt σ H QT := h
theorem d_and (h : tt σ H fun c H1 => if c = true then tu σ H1 QT else QT false H1) : tAnd tt tu σ H QT := h
theorem d_or (h : tt σ H fun c H1 => if c = true then QT true H1 else tu σ H1 QT) : tOr tt tu σ H QT := h
theorem d_if (h : tt σ H fun c H1 => if c = true then ta σ H1 Q else tb σ H1 Q) : tIf tt ta tb σ H Q := h
theorem d_andV (h : ta σ H fun x H1 => ∃ c, x = .bl c ∧ if c = true then tb σ H1 Q else Q (.bl false) H1) : tAndV ta tb σ H Q := h
theorem d_sl {r : V → Option Int → Option Int → Hp → VK → Prop} {tl th : TO} (h : te σ H fun x H1 => tl σ H1 fun l H2 => th σ H2 fun u H3 => r x l u H3 Q) : tSl r te tl th σ H Q := h
theorem d_nop {QO : Option Int → Hp → Prop} (h : QO none H) : tNoPart σ H QO := h
theorem d_part {QO : Option Int → Hp → Prop} (h : te σ H fun x H1 => ∃ i, x = .int i ∧ QO (some i) H1) : tPart te σ H QO := h
theorem d_in {C : Int → Prop} (h : C i) : ∃ k, V.int i = .int k ∧ C k := ⟨i, rfl, h⟩
theorem d_bm {T : String} {r : V → List V → Hp → VK → Prop} (h : te σ H fun x H1 => tyV K T x H1 ∧ tr σ H1 fun xs H2 => r x xs H2 Q) : tBM K T r te tr σ H Q := h
theorem d_bm0 {T : String} {r : V → List V → Hp → VK → Prop} (h : te σ H fun x H1 => tyV K T x H1 ∧ r x [] H1 Q) : tBM0 K T r te σ H Q := h
theorem d_m1 {r : V → List V → Hp → VK → Prop} (h : ta σ H fun x H1 => (∃ a, x = .str a) ∧ te σ H1 fun y H2 => r x [y] H2 Q) : tM1 r ta te σ H Q := h
theorem d_exs {A : Str} {C : Prop} (h : C) : (∃ a, V.str A = .str a) ∧ C := ⟨⟨_, rfl⟩, h⟩
theorem d_app {l : Addr} {ys : List V} (h : H l = some (.lst ys)) (q : tr σ H fun zs H2 => rAppend (.ref l) zs H2 Q) : tyV K "list" (.ref l) H ∧ tr σ H fun zs H2 => rAppend (.ref l) zs H2 Q := ⟨.inl ⟨rfl, _, SqL.of h⟩, q⟩
theorem d_append {l : Addr} {ys : List V} (h : H l = some (.lst ys)) (hl : ys.length < sizeLine) (q : Q .non (upd H l (.lst (ys ++ [y])))) : rAppend (.ref l) [y] H Q := ⟨l, ys, y, rfl, rfl, h, hl, q⟩
theorem d_setL {QU : Hp → Prop} {l : Addr} {ys : List V} {j : Nat} (h : H l = some (.lst ys)) (e : ixN ys.length i = some j) (q : QU (upd H l (.lst (ys.set j v)))) : rSetL (.ref l) (.int i) v H QU := ⟨l, ys, i, j, rfl, rfl, h, e, q⟩
theorem d_lenL {C : List V → Prop} (h : SqL K H p xs) (q : C xs) : ∃ p' ys, [V.ref p] = [.ref p'] ∧ (SqL K H p' ys ∨ SqT K H p' ys) ∧ C ys := ⟨p, xs, rfl, .inl h, q⟩
theorem d_lenT {C : List V → Prop} (h : SqT K H p xs) (q : C xs) : ∃ p' ys, [V.ref p] = [.ref p'] ∧ (SqL K H p' ys ∨ SqT K H p' ys) ∧ C ys := ⟨p, xs, rfl, .inr h, q⟩
theorem d_lenS {C : Str → Prop} {z : Str} (h : z.length ≤ sizeLine) (q : C z) : ∃ z', [V.str z] = [.str z'] ∧ z'.length ≤ sizeLine ∧ C z' := ⟨z, rfl, h, q⟩
theorem d_isN {C : Prop} (q : C) : V.non = .non ∧ C := ⟨rfl, q⟩
-- statements
theorem d_next (h : D.nx σ H) : tNext D σ H := h
theorem d_seq (h : t { D with nx := u D } σ H) : tSeq t u D σ H := h
theorem d_asg {g : TG} (h : te σ H fun x H1 => g x σ H1 D.nx) : tAsg te g D σ H := h
theorem d_drop (h : te σ H fun _ H1 => D.nx σ H1) : tDrop te D σ H := h
theorem d_ret (h : te σ H D.rt) : tRet te D σ H := h
theorem d_retN (h : D.rt .non H) : tRetN D σ H := h
theorem d_ifS (h : tt σ H fun b H1 => if b = true then t D σ H1 else u D σ H1) : tIfS tt t u D σ H := h
theorem d_brk (h : D.bk σ H) : tBreak D σ H := h
theorem d_ct (h : D.ct σ H) : tCont D σ H := h
theorem d_aug {i : Nat} {ti : TIp} (e : σ[i]? = some (some x)) (h : te σ H fun y H1 => ti x y H1 fun z H2 => D.nx (σ.set i (some z)) H2) : tAug i te ti D σ H := ⟨x, e, h⟩
theorem d_gname {i : Nat} {QS : L2.St → Hp → Prop} (h : QS (σ.set i (some v)) H) : gName i v σ H QS := h
theorem d_gnil {QS : L2.St → Hp → Prop} (h : QS σ H) : gNil [] σ H QS := ⟨rfl, h⟩
theorem d_gcons {t : TG} {u : TGs} {vs : List V} {QS : L2.St → Hp → Prop} (h : t v σ H fun σ' H' => u vs σ' H' QS) : gCons t u (v :: vs) σ H QS := ⟨v, vs, rfl, h⟩
theorem d_gtup {t : TGs} {QS : L2.St → Hp → Prop} (h : SqT K H p xs) (hl : xs.length = n) (q : t xs σ H QS) : gTup K n t (.ref p) σ H QS := ⟨p, xs, rfl, h, hl, q⟩
theorem d_gtupm {t : TGs} {QS : L2.St → Hp → Prop} (h : H p = some (.tup xs)) (hl : xs.length = n) (q : t xs σ H QS) : gTup K n t (.ref p) σ H QS := ⟨p, xs, rfl, SqT.of h, hl, q⟩
theorem d_gsub {ti : TE} {s : TSet} {QS : L2.St → Hp → Prop} (h : ta σ H fun o H1 => ti σ H1 fun i H2 => s o i v H2 fun H3 => QS σ H3) : gSub ta ti s v σ H QS := h
-- what is walked
theorem d_for {wi : TI} {g : TG} (h : wi σ H fun J H1 => ∃ W : Nat → Nat → L2.St → Hp → Prop, (∃ m, W 0 m σ H1) ∧ ∀ i m σ H, W i m σ H →
  (J.stop i H ∧ D.nx σ H) ∨ (J.go i H ∧ ∃ N : L2.St → Hp → Prop, (∀ σ' H', N σ' H' → ∃ m', m' < m ∧ W (i + 1) m' σ' H') ∧ ∀ x H', J.yld i H x H' → g x σ H' fun σ2 H2 => t { D with nx := N, ct := N, bk := D.nx } σ2 H2)) : tFor wi g t D σ H := h
theorem d_lc {wi : TI} {g : TG} {vs : List Nat} (h : wi σ H fun J H1 => ∀ D, H1 D = none → ∃ W : Nat → Nat → Hp → Prop, (∃ m, W 0 m (upd H1 D (.lst []))) ∧ ∀ i m H, W i m H →
  (J.stop i H ∧ Q (.ref D) H) ∨ (J.go i H ∧ ∃ Nx : Hp → Prop, (∀ H', Nx H' → ∃ m', m' < m ∧ W (i + 1) m' H') ∧ ∀ x H', J.yld i H x H' → g x (wipe σ vs) H' fun σ2 H2 => wipe σ2 vs = wipe σ vs ∧ tt σ2 H2 fun b H3 =>
    if b = true then te σ2 H3 fun y H4 => ∃ acc, H4 D = some (.lst acc) ∧ acc.length < sizeLine ∧ Nx (upd H4 D (.lst (acc ++ [y]))) else Nx H3)) : tLc wi g tt te vs σ H Q := h
theorem d_iR1 {R : It → Hp → Prop} (h : tr σ H fun vs H1 => ∃ j : Int, vs = [.int j] ∧ -(2 ^ 62) ≤ j ∧ j < 2 ^ 62 ∧ R (Itr 0 j.toNat) H1) : iRng1 tr σ H R := h
theorem d_iR2 {R : It → Hp → Prop} (h : tr σ H fun vs H1 => ∃ i j : Int, vs = [.int i, .int j] ∧ (-(2 ^ 62) ≤ i ∧ i < 2 ^ 62 ∧ -(2 ^ 62) ≤ j ∧ j < 2 ^ 62) ∧ R (Itr i (j - i).toNat) H1) : iRng2 tr σ H R := h
theorem d_iR1e {C : Int → Prop} (h1 : -(2 ^ 62) ≤ j) (h2 : j < 2 ^ 62) (h : C j) : ∃ k : Int, [V.int j] = [.int k] ∧ -(2 ^ 62) ≤ k ∧ k < 2 ^ 62 ∧ C k := ⟨j, rfl, h1, h2, h⟩
theorem d_iR2e {C : Int → Int → Prop} (h1 : -(2 ^ 62) ≤ i ∧ i < 2 ^ 62 ∧ -(2 ^ 62) ≤ j ∧ j < 2 ^ 62) (h : C i j) : ∃ k l : Int, [V.int i, V.int j] = [.int k, .int l] ∧ (-(2 ^ 62) ≤ k ∧ k < 2 ^ 62 ∧ -(2 ^ 62) ≤ l ∧ l < 2 ^ 62) ∧ C k l := ⟨i, j, rfl, h1, h⟩
theorem d_iL {R : It → Hp → Prop} (h : te σ H fun x H1 => ∃ a, x = .ref a ∧ (∃ xs, SqL K H1 a xs) ∧ R (Itl K a) H1) : iList K te σ H R := h
theorem d_iT {R : It → Hp → Prop} (h : te σ H fun x H1 => ∃ a, x = .ref a ∧ (∃ xs, SqT K H1 a xs) ∧ R (Itt K a) H1) : iTup K te σ H R := h
theorem d_iTe {C : Addr → Prop} {a : Addr} (h : SqT K H a xs) (q : C a) : ∃ a', V.ref a = .ref a' ∧ (∃ xs, SqT K H a' xs) ∧ C a' := ⟨a, rfl, ⟨xs, h⟩, q⟩
theorem d_iLe {C : Addr → Prop} {a : Addr} (h : SqL K H a xs) (q : C a) : ∃ a', V.ref a = .ref a' ∧ (∃ xs, SqL K H a' xs) ∧ C a' := ⟨a, rfl, ⟨xs, h⟩, q⟩
theorem d_iS {R : It → Hp → Prop} (h : te σ H fun v H1 => ∃ x, v = .str x ∧ R (Its x) H1) : iStr te σ H R := h
theorem d_iSe {C : Str → Prop} {z : Str} (q : C z) : ∃ x, V.str z = .str x ∧ C x := ⟨z, rfl, q⟩
theorem d_yes (h : QT true H) : tYes σ H QT := h
theorem d_dget1 {td ty : TE} (h : td σ H fun x H1 => ∃ a, x = .ref a ∧ IsD H1 a ∧ ty σ H1 fun y H2 => ∃ o, DGet H2 a y o ∧ Q (o.getD .non) H2) : tDGet1 td ty σ H Q := h
theorem d_dget2 {td ty tx : TE} (h : td σ H fun x H1 => ∃ a, x = .ref a ∧ IsD H1 a ∧ ty σ H1 fun y H2 => tx σ H2 fun z H3 => ∃ o, DGet H3 a y o ∧ Q (o.getD z) H3) : tDGet2 td ty tx σ H Q := h
theorem d_daug {td ty tv : TE} {rd : V → V → Hp → VK → Prop} (h : td σ H fun x H1 => ty σ H1 fun y H2 => ∃ a v, x = .ref a ∧ DGet H2 a y (some v) ∧ tv σ H2 fun y2 H3 => rd v y2 H3 fun z H4 => ∃ H5, DPut H4 a y z H5 ∧ D.nx σ H5) : sDAug td ty tv rd D σ H := h
theorem d_notV (h : ta σ H fun x H1 => ∃ c, x = .bl c ∧ Q (.bl (!c)) H1) : tNotV ta σ H Q := h
theorem d_par {i j : Nat} (h : tr σ H fun vs H1 => ∃ v w, vs = [v, w] ∧ D.nx ((σ.set i (some v)).set j (some w)) H1) : tPar i j tr D σ H := h
theorem d_par2 {C : V → V → Prop} (h : C x y) : ∃ v w, [x, y] = [v, w] ∧ C v w := ⟨x, y, rfl, h⟩
theorem d_dget {td ty : TE} (h : td σ H fun x H1 => ty σ H1 fun y H2 => ∃ a v, x = .ref a ∧ DGet H2 a y (some v) ∧ Q v H2) : tDGet td ty σ H Q := h
theorem d_dput {td ty tv : TE} (h : tv σ H fun v H1 => td σ H1 fun x H2 => ty σ H2 fun y H3 => ∃ a H4, x = .ref a ∧ DPut H3 a y v H4 ∧ D.nx σ H4) : sDPut td ty tv D σ H := h
theorem d_din {td ty : TE} (h : ty σ H fun y H1 => td σ H1 fun x H2 => ∃ a o, x = .ref a ∧ DGet H2 a y o ∧ Q (.bl o.isSome) H2) : tDIn ty td σ H Q := h
theorem d_dnewT (h : ∀ p, H p = none → Q (.ref p) (upd H p (.dT []))) : tDNewT σ H Q := h
theorem d_dnewK (h : ∀ p, H p = none → Q (.ref p) (upd H p (.dK []))) : tDNewK σ H Q := h
theorem iteNT {A B : Prop} (h : B) : if (!true) = true then A else B := h
theorem iteNF {A B : Prop} (h : A) : if (!false) = true then A else B := h
theorem d_cut (M : L2.St → Hp → Prop) (h : t { D with nx := M } σ H) (k : ∀ σ' H', M σ' H' → u D σ' H') : Evl.tCut t u D σ H := ⟨M, h, k⟩
/-- a and b where b only looks -/
theorem if_any {c : Bool} {tb : TE} (hb : ∀ Q' : VK, (∀ b H', Same H H' → Q' (.bl b) H') → tb σ H Q') (q : ∀ b H', Same H H' → Q (.bl b) H') : if c = true then tb σ H Q else Q (.bl false) H := by
  cases c with
  | true => exact iteT (hb Q q)
  | false => exact iteF (q _ _ (Same.refl _))
theorem d_wipe {σ2 σ3 : L2.St} {vs : List Nat} {C : Prop} (e : wipe σ2 vs = wipe σ3 vs) (h : C) : wipe σ2 vs = wipe σ3 vs ∧ C := ⟨e, h⟩
theorem d_lsten (h : tr σ H fun vs H1 => rLstEn K vs H1 Q) : tLstEn K tr σ H Q := h
theorem d_slL {a : Addr} {lo hi : Option Int} (h : SqL K H a xs) (q : ∀ p, H p = none → Q (.ref p) (upd H p (.lst (cutV xs lo hi)))) : rSlL K (.ref a) lo hi H Q := ⟨a, xs, rfl, h, q⟩
theorem d_lrg {tg : L2.St → Hp → (Int → Int → Hp → Prop) → Prop} (h : tg σ H fun a b H1 => RgOk a b ∧ ∀ q, H1 q = none → Q (.ref q) (upd H1 q (.lst (rgV a b)))) : tLstRg tg σ H Q := h
theorem d_rg1 {R : Int → Int → Hp → Prop} (h : te σ H fun x H1 => ∃ n, x = .int n ∧ R 0 n H1) : tRg1 te σ H R := h
end
/-- the law's hand: two whole numbers -/
def Hand (H : Hp) (h : Addr) : Prop := ∃ d m : Int, H h = some (.lst [.int d, .int m]) ∧ 0 ≤ d ∧ 0 ≤ m ∧ m < 2147483587
theorem Hand.same {H H' : Hp} {h : Addr} (x : Hand H h) (s : Same H H') : Hand H' h := by
  obtain ⟨d, m, e, r⟩ := x
  exact ⟨d, m, s _ _ e, r⟩
theorem Hand.ne {H : Hp} {h p : Addr} (x : Hand H h) (n : H p = none) : p ≠ h := by
  obtain ⟨d, m, e, r⟩ := x
  exact (ne_of_none e n).symm
theorem Hand.put {H : Hp} {h p : Addr} {o : HO} (x : Hand H h) (n : p ≠ h) : Hand (upd H p o) h := by
  obtain ⟨d, m, e, r⟩ := x
  exact ⟨d, m, by rw [upd_ne n.symm]; exact e, r⟩
/-- a tuple stays where a list changes -/
theorem Keep.sqt {K : PySem.W.Frag} {h : Addr} {H H' : Hp} {a : Addr} {xs ys : List V} (k : Keep h H H') (e : H h = some (.lst ys)) (q : SqT K H a xs) : SqT K H' a xs := by
  rcases q with (q | ⟨o, q⟩) | q
  · exact .inl (.inl (k _ _ (ne_of q e (by intro z; cases z)) q))
  · exact .inl (.inr ⟨o, k _ _ (ne_of q e (by intro z; cases z)) q⟩)
  · exact .inr q
mutual
theorem dp_same {K : PySem.W.Frag} {H H' : Hp} (s : Same H H') : ∀ (d : PyData) (v : V), Dp K H v d → Dp K H' v d
  | .none, _, h => by cases h; exact .non
  | .bool b, _, h => by cases h; exact .bl b
  | .int i, _, h => by cases h; exact .int i
  | .str x, _, h => by cases h; exact .str x
  | .list ds, _, h => by
    cases h with
    | lst hs ha => exact .lst (Same.seq s hs) (dpa_same s ds _ ha)
  | .tuple ds, _, h => by
    cases h with
    | tup hs ha => exact .tup (Same.sqt s hs) (dpa_same s ds _ ha)
  | .dict _, _, h => by cases h
theorem dpa_same {K : PySem.W.Frag} {H H' : Hp} (s : Same H H') : ∀ (ds : List PyData) (vs : List V), DpAll K H vs ds → DpAll K H' vs ds
  | [], _, h => by cases h; exact .nil
  | d :: ds, _, h => by
    cases h with
    | cons a b => exact .cons (dp_same s d _ a) (dpa_same s ds _ b)
end
theorem dpa_ints {K : PySem.W.Frag} {H : Hp} : ∀ ns : List Int, DpAll K H (ns.map V.int) (ns.map PyData.int)
  | [] => .nil
  | n :: r => .cons (.int n) (dpa_ints r)
theorem shaped_ints (ns : List Int) : SeqAt.shaped (.list (ns.map PyData.int)) = true := PySem.W.ke_shaped_ints ns
/-- one sign -/
abbrev sg (c : Nat) : Str := ⟨#[c]⟩
def Ltr (c : Nat) : Prop := 97 ≤ c ∧ c ≤ 122
abbrev Tie := Nat × Nat × Nat
/-- places' kinds, ties -/
abbrev Web := List Nat × List Tie
def TieAt (K : PySem.W.Frag) (H : Hp) (v : V) (t : Tie) : Prop := ∃ a, v = .ref a ∧ SqT K H a [.int (t.1 : Nat), .int (t.2.1 : Nat), .str (sg t.2.2)]
def WebAt (K : PySem.W.Frag) (H : Hp) (v : V) (w : Web) : Prop := ∃ a b tvs, v = .ref a ∧ SqT K H a [.str ⟨w.1.toArray⟩, .ref b] ∧ SqT K H b tvs ∧ Paired (TieAt K H) tvs w.2
def tlt (s t : Tie) : Prop := s.1 < t.1 ∨ (s.1 = t.1 ∧ s.2.1 < t.2.1)
structure WOk (w : Web) : Prop where
  few : w.1.length ≤ 40
  most : w.2.length ≤ 1600
  kinds : ∀ c ∈ w.1, Ltr c
  rise : w.2.Pairwise tlt
  ends : ∀ t ∈ w.2, t.1 < t.2.1 ∧ t.2.1 < w.1.length ∧ Ltr t.2.2
theorem Paired.imp {α β : Type} {F G : α → β → Prop} {xs : List α} {ys : List β} (p : Paired F xs ys) (h : ∀ a b, F a b → G a b) : Paired G xs ys := by
  induction p with
  | nil => exact .nil
  | cons a _ ih => exact .cons (h _ _ a) ih
theorem TieAt.same {K : PySem.W.Frag} {H H' : Hp} {v : V} {t : Tie} (x : TieAt K H v t) (s : Same H H') : TieAt K H' v t := by
  obtain ⟨a, e, q⟩ := x
  exact ⟨a, e, Same.sqt s q⟩
theorem TieAt.keep {K : PySem.W.Frag} {H H' : Hp} {v : V} {t : Tie} {h : Addr} {ys : List V} (x : TieAt K H v t) (k : Keep h H H') (e : H h = some (.lst ys)) : TieAt K H' v t := by
  obtain ⟨a, e', q⟩ := x
  exact ⟨a, e', k.sqt e q⟩
theorem WebAt.same {K : PySem.W.Frag} {H H' : Hp} {v : V} {w : Web} (x : WebAt K H v w) (s : Same H H') : WebAt K H' v w := by
  obtain ⟨a, b, tvs, e, q1, q2, q3⟩ := x
  exact ⟨a, b, tvs, e, Same.sqt s q1, Same.sqt s q2, Paired.imp q3 fun _ _ z => z.same s⟩
theorem WebAt.keep {K : PySem.W.Frag} {H H' : Hp} {v : V} {w : Web} {h : Addr} {ys : List V} (x : WebAt K H v w) (k : Keep h H H') (e : H h = some (.lst ys)) : WebAt K H' v w := by
  obtain ⟨a, b, tvs, e', q1, q2, q3⟩ := x
  exact ⟨a, b, tvs, e', k.sqt e q1, k.sqt e q2, Paired.imp q3 fun _ _ z => z.keep k e⟩
theorem TieAt.put {K : PySem.W.Frag} {H : Hp} {v : V} {t : Tie} {b : Addr} {o : HO} (x : TieAt K H v t) (n : H b = none ∨ ∃ ys, H b = some (.lst ys)) : TieAt K (upd H b o) v t := by
  obtain ⟨a, e, q⟩ := x
  exact ⟨a, e, sqt_upd n q⟩
theorem WebAt.put {K : PySem.W.Frag} {H : Hp} {v : V} {w : Web} {b : Addr} {o : HO} (x : WebAt K H v w) (n : H b = none ∨ ∃ ys, H b = some (.lst ys)) : WebAt K (upd H b o) v w := by
  obtain ⟨a, b, tvs, e', q1, q2, q3⟩ := x
  exact ⟨a, b, tvs, e', sqt_upd n q1, sqt_upd n q2, Paired.imp q3 fun _ _ z => z.put n⟩
theorem Paired.at {α β : Type} {F : α → β → Prop} : ∀ {xs : List α} {ys : List β}, Paired F xs ys → ∀ {i : Nat} {x : α}, xs[i]? = some x → ∃ y, ys[i]? = some y ∧ F x y
  | _, _, .nil, i, x, h => by cases h
  | _, _, .cons r t, 0, x, h => by
    cases h
    exact ⟨_, rfl, r⟩
  | _, _, .cons r t, i + 1, x, h => Paired.at t h
open TL in
theorem joinL_nil : ∀ ps : List (List Nat), joinL [] ps = ps.flatten
  | [] => rfl
  | [p] => by show p = [p].flatten; simp
  | p :: q :: r => by
    show p ++ ([] ++ joinL [] (q :: r)) = (p :: q :: r).flatten
    rw [joinL_nil (q :: r)]; simp
theorem str_ext {x y : Str} (h : x.cps.toList = y.cps.toList) : x = y := by
  cases x; cases y
  simpa using h
open TL in
theorem join_signs (cs : List Nat) : Txt.join (Str.ofString "") (cs.map sg) = ⟨cs.toArray⟩ := by
  rw [join_eq]
  apply str_ext
  show tl (Str.join (Str.ofString "") (cs.map sg)) = cs
  rw [tl_join, show tl (Str.ofString "") = [] from by decide +kernel, joinL_nil, List.map_map]
  induction cs with
  | nil => rfl
  | cons c r ih =>
    rw [List.map_cons, List.flatten_cons, ih]
    rfl
theorem sum_const {α : Type} (f : α → Nat) (n : Nat) : ∀ l : List α, (∀ x ∈ l, f x = n) → (l.map f).sum = l.length * n
  | [], _ => by simp
  | a :: r, h => by
    rw [List.map_cons, List.sum_cons, sum_const f n r fun x hx => h x (List.mem_cons_of_mem _ hx), h a List.mem_cons_self, List.length_cons, Nat.succ_mul]
    omega
theorem sz {n : Nat} (h : n ≤ 100000) : n ≤ sizeLine := Nat.le_trans h (by decide)
theorem szl {n : Nat} (h : n ≤ 100000) : n < sizeLine := Nat.lt_of_le_of_lt h (by decide)
end Cw

namespace Cw
open PySem PySem.Spec PyProof.Rows L2
/-! ### ties -/
def at2 (a b : Nat) (t : Tie) : Bool := (t.1 == a && t.2.1 == b) || (t.1 == b && t.2.1 == a)
def tieL (ts : List Tie) (a b : Nat) : Option Nat := (ts.find? (at2 a b)).map (·.2.2)
def beside (p : Nat) (t : Tie) : Option Nat := if t.1 = p then some t.2.1 else if t.2.1 = p then some t.1 else none
def nb (ts : List Tie) (p : Nat) : List Nat := ts.filterMap (beside p)
theorem at2_iff {a b : Nat} {t : Tie} : at2 a b t = true ↔ (t.1 = a ∧ t.2.1 = b) ∨ (t.1 = b ∧ t.2.1 = a) := by
  simp [at2]
theorem at2_swap (a b : Nat) (t : Tie) : at2 a b t = at2 b a t := by
  unfold at2; rw [Bool.or_comm]
theorem tieL_swap (ts : List Tie) (a b : Nat) : tieL ts a b = tieL ts b a := by
  unfold tieL
  rw [show at2 a b = at2 b a from funext (at2_swap a b)]
theorem tieL_isSome {ts : List Tie} {a b : Nat} : (tieL ts a b).isSome = true ↔ ∃ t ∈ ts, at2 a b t = true := by
  unfold tieL
  rw [Option.isSome_map, List.find?_isSome]
theorem tieL_none {ts : List Tie} {a b : Nat} (h : ∀ t ∈ ts, at2 a b t = false) : tieL ts a b = none := by
  unfold tieL
  rw [List.find?_eq_none.mpr (fun t ht => by rw [h t ht]; simp)]; rfl
theorem tieL_snoc (l : List Tie) (t : Tie) (a b : Nat) : tieL (l ++ [t]) a b = (tieL l a b).or (if at2 a b t = true then some t.2.2 else none) := by
  unfold tieL
  rw [List.find?_append]
  cases l.find? (at2 a b) with
  | some x => rfl
  | none =>
    show ((none : Option Tie).or ([t].find? (at2 a b))).map (·.2.2) = (none : Option Nat).or _
    rw [Option.none_or, Option.none_or]
    by_cases h : at2 a b t = true
    · rw [if_pos h, List.find?_cons_of_pos h]; rfl
    · rw [if_neg h, List.find?_cons_of_neg h]; rfl
theorem nb_snoc (l : List Tie) (t : Tie) (p : Nat) : nb (l ++ [t]) p = nb l p ++ (if t.1 = p then [t.2.1] else if t.2.1 = p then [t.1] else []) := by
  unfold nb
  rw [List.filterMap_append]
  congr 1
  by_cases h1 : t.1 = p
  · rw [if_pos h1]; simp [beside, h1]
  · by_cases h2 : t.2.1 = p
    · rw [if_neg h1, if_pos h2]; simp [beside, h1, h2]
    · rw [if_neg h1, if_neg h2]; simp [beside, h1, h2]
theorem nb_len (l : List Tie) (p : Nat) : (nb l p).length ≤ l.length := List.length_filterMap_le _ _
theorem take_snoc {α : Type} {l : List α} {i : Nat} {x : α} (h : l[i]? = some x) : l.take (i + 1) = l.take i ++ [x] := by
  rw [List.take_add_one, h]; rfl
/-- no tie stands twice -/
theorem tieL_new {ts : List Tie} (s : ts.Pairwise tlt) (e : ∀ t ∈ ts, t.1 < t.2.1) {i : Nat} {t : Tie} (h : ts[i]? = some t) : tieL (ts.take i) t.1 t.2.1 = none := by
  refine tieL_none fun u hu => ?_
  have hl : (ts.take i ++ [t]).Pairwise tlt := by rw [← take_snoc h]; exact s.sublist (List.take_sublist _ _)
  have lt := (List.pairwise_append.mp hl).2.2 u hu t List.mem_cons_self
  have e1 := e u (List.mem_of_mem_take hu)
  have e2 := e t (List.mem_of_getElem? h)
  cases q : at2 t.1 t.2.1 u with
  | false => rfl
  | true =>
    rcases at2_iff.mp q with ⟨a, b⟩ | ⟨a, b⟩
    · rcases lt with z | ⟨_, z⟩ <;> omega
    · omega
theorem sorted_ext : ∀ {l m : List Nat}, l.Pairwise (· < ·) → m.Pairwise (· < ·) → (∀ x, x ∈ l ↔ x ∈ m) → l = m
  | [], [], _, _, _ => rfl
  | [], y :: m, _, _, h => absurd ((h y).mpr List.mem_cons_self) (by simp)
  | x :: l, [], _, _, h => absurd ((h x).mp List.mem_cons_self) (by simp)
  | x :: l, y :: m, hl, hm, h => by
    obtain ⟨l1, l2⟩ := List.pairwise_cons.mp hl
    obtain ⟨m1, m2⟩ := List.pairwise_cons.mp hm
    have hx : x = y := by
      rcases List.mem_cons.mp ((h x).mp List.mem_cons_self) with z | z
      · exact z
      · rcases List.mem_cons.mp ((h y).mpr List.mem_cons_self) with z' | z'
        · exact z'.symm
        · have a := m1 x z
          have b := l1 y z'
          omega
    subst hx
    congr 1
    refine sorted_ext l2 m2 fun z => ⟨fun hz => ?_, fun hz => ?_⟩
    · rcases List.mem_cons.mp ((h z).mp (List.mem_cons_of_mem _ hz)) with q | q
      · have := l1 z hz; omega
      · exact q
    · rcases List.mem_cons.mp ((h z).mpr (List.mem_cons_of_mem _ hz)) with q | q
      · have := m1 z hz; omega
      · exact q
theorem beside_iff {p o : Nat} {t : Tie} (e : t.1 < t.2.1) : beside p t = some o ↔ at2 p o t = true := by
  rw [at2_iff]
  unfold beside
  by_cases h1 : t.1 = p
  · rw [if_pos h1]
    constructor
    · intro z; exact .inl ⟨h1, Option.some.inj z⟩
    · rintro (⟨_, z⟩ | ⟨z1, z2⟩)
      · rw [z]
      · omega
  · rw [if_neg h1]
    by_cases h2 : t.2.1 = p
    · rw [if_pos h2]
      constructor
      · intro z; exact .inr ⟨Option.some.inj z, h2⟩
      · rintro (⟨z, _⟩ | ⟨z1, z2⟩)
        · exact absurd z h1
        · rw [z1]
    · rw [if_neg h2]
      constructor
      · intro z; cases z
      · rintro (⟨z, _⟩ | ⟨_, z⟩)
        · exact absurd z h1
        · exact absurd z h2
theorem nb_rise {ts : List Tie} (s : ts.Pairwise tlt) (e : ∀ t ∈ ts, t.1 < t.2.1) (p : Nat) : (nb ts p).Pairwise (· < ·) := by
  unfold nb
  rw [List.pairwise_filterMap]
  refine List.Pairwise.imp_of_mem (fun {t u} ht hu lt a ha b hb => ?_) s
  have e1 := e t ht
  have e2 := e u hu
  rcases at2_iff.mp ((beside_iff e1).mp ha) with ⟨a1, a2⟩ | ⟨a1, a2⟩ <;> rcases at2_iff.mp ((beside_iff e2).mp hb) with ⟨b1, b2⟩ | ⟨b1, b2⟩ <;> rcases lt with z | ⟨z1, z2⟩ <;> omega
theorem nb_eq {w : Web} (W : WOk w) (p : Nat) : nb w.2 p = (List.range w.1.length).filter fun o => (tieL w.2 p o).isSome := by
  refine sorted_ext (nb_rise W.rise (fun t ht => (W.ends t ht).1) p) (List.Pairwise.filter _ List.pairwise_lt_range) fun o => ?_
  rw [List.mem_filter, tieL_isSome, List.mem_range]
  unfold nb
  rw [List.mem_filterMap]
  constructor
  · rintro ⟨t, ht, hb⟩
    have q := (beside_iff (W.ends t ht).1).mp hb
    refine ⟨?_, t, ht, q⟩
    have r := W.ends t ht
    rcases at2_iff.mp q with ⟨_, a⟩ | ⟨a, _⟩ <;> omega
  · rintro ⟨_, t, ht, q⟩
    exact ⟨t, ht, (beside_iff (W.ends t ht).1).mpr q⟩
theorem tieL_self {w : Web} (W : WOk w) (p : Nat) : tieL w.2 p p = none := by
  refine tieL_none fun t ht => ?_
  have r := W.ends t ht
  cases q : at2 p p t with
  | false => rfl
  | true => rcases at2_iff.mp q with ⟨a, b⟩ | ⟨a, b⟩ <;> omega
/-- a tie's kind, or None -/
def optV : Option Nat → V
  | some c => .str (sg c)
  | none => .non
theorem optV_non (o : Option Nat) : (!decide (optV o = .non)) = o.isSome := by cases o <;> rfl
theorem optV_scal (o : Option Nat) : scal (optV o) (optV o) = true := by cases o <;> rfl
def zs (l : List Nat) : List Int := l.map fun (o : Nat) => (o : Int)
theorem ints_map (l : List Nat) : (l.map fun o => V.int (o : Nat)) = (zs l).map V.int := by
  unfold zs; rw [List.map_map]; rfl
theorem eqv_ints (l : List Int) : PyData.eqv (.list (l.map PyData.int)) (.list (l.map PyData.int)) = true := by
  show PyData.eqvAll _ _ = true
  rw [PySem.W.ked_eqvAll, decide_eq_true rfl]
theorem dp_nats {K : PySem.W.Frag} {H : Hp} {a : Addr} {l : List Nat} (h : H a = some (.lst (l.map fun o => V.int (o : Nat)))) : Dp K H (.ref a) (.list ((zs l).map PyData.int)) := by
  rw [ints_map] at h
  exact .lst (SqL.of h) (dpa_ints _)
/-- the heap without one object -/
def del (H : Hp) (a : Addr) : Hp := fun b => if b = a then none else H b
theorem del_ne {H : Hp} {a b : Addr} (n : b ≠ a) : del H a b = H b := by unfold del; rw [if_neg n]
theorem del_at {H : Hp} {a b : Addr} {o : HO} (n : b ≠ a) (h : H b = some o) : del H a b = some o := by rw [del_ne n]; exact h
theorem del_same (H : Hp) (a : Addr) : Same (del H a) H := fun b o e => by
  by_cases n : b = a
  · unfold del at e; rw [if_pos n] at e; cases e
  · rw [del_ne n] at e; exact e
theorem Keep.del {h : Addr} {H H' : Hp} (k : Keep h H H') : Same (del H h) (del H' h) := fun b o e => by
  by_cases n : b = h
  · unfold Cw.del at e; rw [if_pos n] at e; cases e
  · rw [del_ne n] at e ⊢; exact k b o n e
theorem dpa_snoc {K : PySem.W.Frag} {H : Hp} : ∀ {vs : List V} {ds : List PyData} {v : V} {d : PyData}, DpAll K H vs ds → Dp K H v d → DpAll K H (vs ++ [v]) (ds ++ [d])
  | [], [], _, _, _, h => .cons h .nil
  | _ :: _, _ :: _, _, _, .cons a b, h => .cons a (dpa_snoc b h)
/-- what is held: pairs of equal lists of whole numbers -/
def hD (x : List Int) : PyData := .list [.list (x.map PyData.int), .list (x.map PyData.int)]
def Held (K : PySem.W.Frag) (H : Hp) (hd : Addr) (m : Nat) : Prop := ∃ (hs : List V) (xs : List (List Int)), H hd = some (.lst hs) ∧ hs.length ≤ m ∧ DpAll K (del H hd) hs (xs.map hD)
theorem Held.same {K : PySem.W.Frag} {H H' : Hp} {hd : Addr} {m : Nat} (x : Held K H hd m) (s : Same H H') : Held K H' hd m := by
  obtain ⟨hs, xs, e, l, a⟩ := x
  exact ⟨hs, xs, s _ _ e, l, dpa_same (Keep.del (Same.keep s)) _ _ a⟩
theorem Held.mono {K : PySem.W.Frag} {H : Hp} {hd : Addr} {m n : Nat} (x : Held K H hd m) (h : m ≤ n) : Held K H hd n := by
  obtain ⟨hs, xs, e, l, a⟩ := x
  exact ⟨hs, xs, e, Nat.le_trans l h, a⟩
theorem dpa_at {K : PySem.W.Frag} {H : Hp} : ∀ {vs : List V} {ds : List PyData} (i : Nat) {v : V}, DpAll K H vs ds → vs[i]? = some v → ∃ d, ds[i]? = some d ∧ Dp K H v d
  | [], _, _, _, _, h => by simp at h
  | _ :: _, _ :: _, 0, _, .cons a b, h => by
    cases h
    exact ⟨_, rfl, a⟩
  | _ :: _, _ :: _, i + 1, _, .cons a b, h => dpa_at i b (by simpa using h)
theorem rgV_nats (n : Int) : rgV 0 n = (List.range n.toNat).map fun q => V.int (q : Nat) := by
  unfold rgV
  rw [Int.sub_zero]
  congr 1
  funext i
  rw [Int.zero_add]
end Cw

namespace Cw
open PySem PySem.Spec PyProof.Rows L2 Srt

/-! ### triples (whole number, whole number, one sign), by all three -/
abbrev Tri := Int × Int × Nat
def lexT (p q : Tri) : Bool := if p.1 = q.1 then (if p.2.1 = q.2.1 then decide (p.2.2 < q.2.2) else decide (p.2.1 < q.2.1)) else decide (p.1 < q.1)
theorem lexT_iff {p q : Tri} : lexT p q = true ↔ p.1 < q.1 ∨ (p.1 = q.1 ∧ (p.2.1 < q.2.1 ∨ (p.2.1 = q.2.1 ∧ p.2.2 < q.2.2))) := by
  unfold lexT
  by_cases e : p.1 = q.1
  · rw [if_pos e]
    by_cases e2 : p.2.1 = q.2.1
    · rw [if_pos e2, decide_eq_true_eq]; omega
    · rw [if_neg e2, decide_eq_true_eq]; omega
  · rw [if_neg e, decide_eq_true_eq]; omega
theorem lexT_no {p q : Tri} : lexT p q = false ↔ ¬ (p.1 < q.1 ∨ (p.1 = q.1 ∧ (p.2.1 < q.2.1 ∨ (p.2.1 = q.2.1 ∧ p.2.2 < q.2.2)))) := by
  rw [← lexT_iff]
  cases lexT p q <;> simp
theorem swo_T {α : Type} (k : α → Tri) : SrtO.Swo fun v u => lexT (k v) (k u) := by
  refine ⟨fun x y h => ?_, fun x y z h1 h2 => ?_⟩
  · have a := lexT_iff.mp h
    exact lexT_no.mpr (by omega)
  · have a := lexT_no.mp h1
    have b := lexT_no.mp h2
    exact lexT_no.mpr (by omega)
def IsTri (h : Heap) (v : Value) (p : Tri) : Prop := ∃ a o t u t3 n, v = .ref a ∧ h.get? a = some o ∧ o.cls = .type "tuple" ∧ o.data = .seq #[.int p.1 t, .int p.2.1 u, .str (sg p.2.2) t3] n
theorem IsTri.keeps {h h' : Heap} {v : Value} {p : Tri} (x : IsTri h v p) (k : ∀ b o, h.get? b = some o → o.cls = .type "tuple" → h'.get? b = some o) : IsTri h' v p := by
  obtain ⟨a, o, t, u, t3, n, e, ho, hc, hd⟩ := x
  exact ⟨a, o, t, u, t3, n, e, k _ _ ho hc, hc, hd⟩
theorem sg_lt (c d : Nat) : decide ((sg c).cps.toList < (sg d).cps.toList) = decide (c < d) := by
  rw [Bool.eq_iff_iff, decide_eq_true_eq, decide_eq_true_eq]
  show ([c] : List Nat) < [d] ↔ c < d
  rw [List.cons_lt_cons_iff]
  constructor
  · rintro (h | ⟨_, h⟩)
    · exact h
    · exact absurd h (List.not_lt_nil _)
  · intro h; exact .inl h
theorem sg_inj {c d : Nat} : sg c = sg d ↔ c = d := by
  constructor
  · intro h
    have e : (sg c).cps.toList = (sg d).cps.toList := by rw [h]
    simpa using e
  · rintro rfl; rfl
section
variable {prog : Program} {w : World} {A : Around} {E : Value → Shared → Prop} {s : Shared}
theorem tri_cmp {vs : List Value} {k : Value → Tri} (hp : ∀ v ∈ vs, IsTri s.heap v (k v)) : SrtO.Cmp prog w A s (tuples' true) (fun p => p.1 ∈ vs) (SrtO.lt2 fun v u => lexT (k v) (k u)) := by
  intro p q hm hm'
  have h1 := hp _ hm
  have h2 := hp _ hm'
  show wpAny (model prog w) A (keyLt' (tuples' true) p.1 q.1) (fun r s' => s' = s ∧ r = lexT (k p.1) (k q.1)) (fun _ _ => False) s
  generalize k p.1 = P at h1 ⊢
  generalize k q.1 = R at h2 ⊢
  obtain ⟨x, y, c⟩ := P
  obtain ⟨x', y', c'⟩ := R
  obtain ⟨a, o, t, u, t3, n, e, ho, hc, hd⟩ := h1
  obtain ⟨a', o', t', u', t3', n', e', ho', hc', hd'⟩ := h2
  dsimp only at hd hd'
  rw [e, e']
  refine PySem.W.kat_lt ho hd ho' hd' ?_
  show PySem.W.KatLex prog w A true (decide (3 < 3)) _ [(.int x t, .int x' t'), (.int y u, .int y' u'), (.str (sg c) t3, .str (sg c') t3')] 0 s
  refine PySem.W.kat_cons (SeqAt.EqAt.int_int x t x' t' prog w _ _ (PySem.W.kat_go (fun e1 => ?_) (fun e1 => ?_)))
  · have ex : x = x' := by simpa using e1
    subst ex
    refine PySem.W.kat_yes (PySem.W.kat_cons (SeqAt.EqAt.int_int y u y' u' prog w _ _ (PySem.W.kat_go (fun e2 => ?_) (fun e2 => ?_))))
    · have ey : y = y' := by simpa using e2
      subst ey
      refine PySem.W.kat_yes (PySem.W.kat_cons (wpAny_eqBool_str (PySem.W.kat_go (fun e3 => ?_) (fun e3 => ?_))))
      · have ec : c = c' := sg_inj.mp (by simpa using e3)
        subst ec
        exact PySem.W.kat_yes (PySem.W.kat_nil ⟨rfl, (lexT_no.mpr (by show ¬ (x < x ∨ (x = x ∧ (y < y ∨ (y = y ∧ c < c)))); omega)).symm⟩)
      · refine PySem.W.kat_no (PySem.W.kat_one _ _ (PyProof.Rows.lt_str ?_))
        refine (show s = s ∧ decide ((sg c).cps.toList < (sg c').cps.toList) = lexT (x, y, c) (x, y, c') from ⟨rfl, ?_⟩)
        rw [sg_lt]
        unfold lexT
        rw [if_pos rfl, if_pos rfl]
    · have ey : ¬ y = y' := by simpa using e2
      refine PySem.W.kat_no (PySem.W.kat_one _ _ (PyProof.Rows.lt_int ?_))
      refine (show s = s ∧ decide (y < y') = lexT (x, y, c) (x, y', c') from ⟨rfl, ?_⟩)
      unfold lexT
      rw [if_pos rfl, if_neg ey]
  · have ex : ¬ x = x' := by simpa using e1
    refine PySem.W.kat_no (oneLt_int ⟨rfl, ?_⟩)
    unfold lexT
    rw [if_neg ex]
theorem tri_firsts {h : Heap} : ∀ {vs : List Value}, (∀ v ∈ vs, ∃ p, IsTri h v p) → ∃ fs : List Value, PySem.W.KatTups h vs fs ∧ fs.length = vs.length ∧ ∀ f ∈ fs, ∃ x t, f = Value.int x t
  | [], _ => ⟨[], PySem.W.KatTups.nil, rfl, fun _ hm => by simp at hm⟩
  | v :: vs, hp => by
    obtain ⟨fs, h1, h2, h3⟩ := tri_firsts (vs := vs) fun v' hm => hp v' (List.mem_cons_of_mem _ hm)
    obtain ⟨p, a, o, t, u, t3, n, e, ho, hc, hd⟩ := hp v List.mem_cons_self
    subst e
    refine ⟨.int p.1 t :: fs, PySem.W.KatTups.cons ho hc hd rfl h1, by rw [List.length_cons, List.length_cons, h2], fun f hm => ?_⟩
    rcases List.mem_cons.mp hm with rfl | hm
    · exact ⟨_, t, rfl⟩
    · exact h3 f hm
theorem tri_sortable {a : Addr} {vs : List Value} {k : Value → Tri} (h0 : 0 < vs.length) (hp : ∀ v ∈ vs, IsTri s.heap v (k v)) (ha : ∀ o, s.heap.get? a = some o → o.cls ≠ .type "tuple") : SrtO.SortableO prog w A s a vs fun v u => lexT (k v) (k u) := by
  intro h' keep
  have hp' : ∀ v ∈ vs, IsTri h' v (k v) := fun v hm => (hp v hm).keeps fun b o e c => keep b o (fun z => by subst z; exact ha o e c) e
  obtain ⟨fs, h1, h2, h3⟩ := tri_firsts fun v hm => ⟨_, hp' v hm⟩
  refine ⟨tuples' true, fun Q E hq => PySem.W.kat_kind (T := .type "int") h1 (by omega) (fun f hm => ?_) (by rfl) ?_, tri_cmp hp'⟩
  · obtain ⟨x, t, rfl⟩ := h3 f hm
    exact PySem.W.Looks.now
  · rw [show (Value.type "int" != Value.type "tuple") = true by decide +kernel]; exact hq
theorem sorted_tris {l : Addr} {vs : List Value} {k : Value → Tri} {Q : Value → Shared → Prop} (hl : s.heap.IsList l vs.toArray) (hz : vs.length ≤ sizeLine) (hp : ∀ v ∈ vs, IsTri s.heap v (k v))
    (h : ∀ (h' : Heap) (d : Addr) (out : List Value), SrtO.Srtd (fun v u => lexT (k v) (k u)) out → out.Perm vs → (∀ b o, s.heap.get? b = some o → h'.get? b = some o) → s.heap.objs.size ≤ d → (∃ n, h'.get? d = some (seqObj "list" out.toArray n)) → Q (.ref d) { s with heap := h' }) :
    wpAny (model prog w) A (call (.builtin "sorted") [.ref l]) Q E s := by
  refine SrtO.sorted_ord (swo_T k) hl hz (fun h2 h₁ a ha kk => tri_sortable (s := { s with heap := h₁ }) (by omega) (fun v hm => (hp v hm).keeps fun b o e _ => (kk b o e).2) fun o e c => ?_) fun out hs hb => ?_
  · have e' : some o = some (seqObj "list" vs.toArray 0) := e.symm.trans ha
    cases e'
    exact absurd (Value.type.inj c) (by decide)
  · exact h _ _ out hs hb.perm (fun b o e => sortedAll_old e) (Nat.le_succ _) (sortedAll_at s.heap vs out.toArray)
end
def triV (p : Tri) : List V := [.int p.1, .int p.2.1, .str (sg p.2.2)]
/-- sorted(ties): the same tuples, by their three -/
def rSorted3 (K : PySem.W.Frag) : List V → Hp → VK → Prop := fun vs H Q => ∃ (a : Addr) (es : List (Addr × Tri)), vs = [V.ref a] ∧ SqL K H a (es.map fun e => V.ref e.1) ∧ (∀ e ∈ es, H e.1 = some (.tup (triV e.2))) ∧
  ∀ (es' : List (Addr × Tri)) p, es'.Perm es → (es'.map (·.2)).Pairwise (fun x y => lexT y x = false) → H p = none → Q (.ref p) (upd H p (.lst (es'.map fun e => V.ref e.1)))
section
variable {X : Cx}
theorem cr_sorted3 : CallR X (.builtin "sorted") (rSorted3 X.K) := by
  intro pins s σ H vs us Q I r h
  obtain ⟨a, es, rfl, hs, hx, q⟩ := h
  obtain ⟨its, rv, hl, hz⟩ := I.list hs
  obtain ⟨u, rfl, ru⟩ := vals1 r
  obtain rfl : u = Value.ref a := ru
  -- the items, by their addresses
  have eits : its = es.map fun e => Value.ref e.1 := by
    have : ∀ {xs : List (Addr × Tri)} {us : List Value}, Vals (xs.map fun e => V.ref e.1) us → us = xs.map fun e => Value.ref e.1 := by
      intro xs
      induction xs with
      | nil => intro us r; cases r; rfl
      | cons x xs ih =>
        intro us r
        cases r with
        | cons r1 r2 => rw [ih r2, (show _ = Value.ref x.1 from r1)]; rfl
    exact this rv
  -- the key, read off the heap
  let kA : Addr → Tri := fun b => match H b with
    | some (.tup [.int x, .int y, .str z]) => (x, y, (z.cps.toList.headD 0))
    | _ => (0, 0, 0)
  have kA_eq : ∀ e ∈ es, kA e.1 = e.2 := fun e he => by
    show (match H e.1 with
      | some (.tup [.int x, .int y, .str z]) => (x, y, (z.cps.toList.headD 0))
      | _ => (0, 0, 0)) = e.2
    rw [hx e he]; rfl
  let kV' : Value → Tri := fun v => match v with
    | .ref b => kA b
    | _ => (0, 0, 0)
  refine sorted_tris (k := kV') hl.isList (by rw [← rv.length]; exact hz) (fun v hv => ?_) fun h' d out h1 h2 kp hd hn => ?_
  · rw [eits] at hv
    obtain ⟨e, he, rfl⟩ := List.mem_map.mp hv
    obtain ⟨_, its2, r2, o, ho, hc, n, hd⟩ := I.hok _ _ (hx e he)
    have ek : kV' (Value.ref e.1) = e.2 := kA_eq e he
    rw [ek]
    cases r2 with
    | cons ra rr =>
      cases rr with
      | cons rb rr =>
        cases rr with
        | cons rc rr =>
          cases rr
          obtain ⟨t1, rfl⟩ := ra
          obtain ⟨t2, rfl⟩ := rb
          obtain ⟨t3, rfl⟩ := rc
          exact ⟨e.1, o, t1, t2, t3, n, rfl, ho, hc, hd⟩
  · obtain ⟨n, hn⟩ := hn
    rw [eits] at h2
    have hmem : ∀ v ∈ out, ∃ e ∈ es, v = Value.ref e.1 := fun v hv => by
      obtain ⟨e, he, e'⟩ := List.mem_map.mp (h2.mem_iff.mp hv)
      exact ⟨e, he, e'.symm⟩
    -- back to pairs
    let back : Value → Addr × Tri := fun v => match v with
      | .ref b => (b, kA b)
      | _ => (0, (0, 0, 0))
    have p1 : (out.map back).Perm es := by
      have z := h2.map back
      rw [List.map_map] at z
      have e2 : es.map (back ∘ fun e => Value.ref e.1) = es := by
        conv => rhs; rw [← List.map_id es]
        refine List.map_congr_left fun e he => ?_
        show (e.1, kA e.1) = e
        rw [kA_eq e he]
      rw [e2] at z
      exact z
    have e3 : (out.map back).map (fun e => V.ref e.1) = out.map backV := by
      rw [List.map_map]
      refine List.map_congr_left fun v hv => ?_
      obtain ⟨e, he, rfl⟩ := hmem v hv
      rfl
    have srt : ((out.map back).map (·.2)).Pairwise (fun x y => lexT y x = false) := by
      rw [List.map_map, List.pairwise_map]
      refine h1.imp_of_mem fun {x y} hx' hy' hxy => ?_
      obtain ⟨e, he, rfl⟩ := hmem x hx'
      obtain ⟨e', he', rfl⟩ := hmem y hy'
      exact hxy
    have g := q (out.map back) d p1 srt (I.hok.fresh hd)
    rw [e3] at g
    have hzo : (out.map backV).length ≤ sizeLine := by
      rw [List.length_map, h2.length_eq, List.length_map]
      rw [List.length_map] at hz
      exact hz
    have hvb : Vals (out.map backV) out := vals_back fun u hu => by
      obtain ⟨e, he, rfl⟩ := hmem u hu
      exact ⟨_, rfl⟩
    exact ⟨.ref d, upd H d (.lst (out.map backV)), I.laid (t' := s.toks) kp hd (show ObjOk X.prog X.w _ _ _ (.lst (out.map backV)) from ⟨hzo, out, n, hvb, hn⟩), rfl, g⟩

/-- sorted(d), the keys pairs of whole numbers -/
def rSortedD : List V → Hp → VK → Prop := fun vs H Q => ∃ (d : Addr) (kvs : List (List Key × V)), vs = [V.ref d] ∧ H d = some (.dT kvs) ∧ (∀ p ∈ kvs, ∃ i j : Int, p.1 = [.inl i, .inl j]) ∧
  ∀ (es : List (Addr × Int × Int)) p, (es.map fun e => ([.inl e.2.1, .inl e.2.2] : List Key)).Perm (kvs.map (·.1)) → (∀ e ∈ es, H e.1 = some (.tup [.int e.2.1, .int e.2.2])) → (es.map (·.2)).Pairwise (fun x y => SrtO.lexB y x = false) → H p = none → Q (.ref p) (upd H p (.lst (es.map fun e => V.ref e.1)))
theorem cr_sortedD (hc : X.calm = true) : CallR X (.builtin "sorted") rSortedD := by
  intro pins s σ H vs us Q I r h
  obtain ⟨d, kvs, rfl, hd, hk, q⟩ := h
  obtain ⟨u, rfl, ru⟩ := vals1 r
  obtain rfl : u = Value.ref d := ru
  obtain ⟨z, lo, ks, pr, o, es0, ep, ho, hx, hdt, he, hn⟩ := (show ObjOk X.prog X.w H s.heap d (.dT kvs) from I.hok d _ hd)
  have l1 : es0.size = ks.length := size_of_entries he
  have l2 : kvs.length = ks.length := Paired.length pr
  refine Calls.call_function_entry PyProof.Rows.kind_sorted PyProof.Rows.plain_sorted PyProof.Rows.entry_sorted (PyProof.Rows.args_sorted1 _) ?_; unfold Builtin.«sorted»
  refine wpAny_bind (m := checkCount "sorted" 1 1 _) (wpAny_pure (wpAny_bind (PySem.W.kdu_collect (A := X.A.in1) (kdl_raw lo hx hdt) (I.ok.hd hc) ho (by omega) fun h' tk acc hk' hacc => ?_)))
  -- the collected keys
  have ea : acc.toList = ks.map fun x => Value.ref x.2.1 := by
    have hl : acc.toList.length = ks.length := by rw [Array.length_toList, hacc.1]; exact l1
    refine List.ext_getElem? fun j => ?_
    rw [List.getElem?_map]
    cases hj : acc.toList[j]? with
    | none => rw [List.getElem?_eq_none (by have := List.getElem?_eq_none_iff.mp hj; omega)]; rfl
    | some v =>
      obtain ⟨en, hen, hv⟩ := hacc.2 j v (by rw [← Array.getElem?_toList]; exact hj)
      have qe := entry_at he j
      rw [hen] at qe
      cases hb : ks[j]? with
      | none => rw [hb] at qe; cases qe
      | some b =>
        rw [hb] at qe
        have e2 : en = entryOfKey (tupleKind (mixKind X.prog X.w)) b := Option.some.inj qe
        rw [hv, e2]; rfl
  have pk : ∀ x ∈ ks, ∃ i j : Int, x.1 = [.inl i, .inl j] ∧ H x.2.1 = some (.tup [.int i, .int j]) := by
    have go : ∀ {kvs : List (List Key × V)} {ks : List (List Key × Addr × Value)}, Paired (fun (p : List Key × V) (q : List Key × Addr × Value) => p.1 = q.1 ∧ H q.2.1 = some (.tup (p.1.map kV)) ∧ RelV p.2 q.2.2) kvs ks → (∀ p ∈ kvs, ∃ i j : Int, p.1 = [.inl i, .inl j]) → ∀ x ∈ ks, ∃ i j : Int, x.1 = [.inl i, .inl j] ∧ H x.2.1 = some (.tup [.int i, .int j]) := by
      intro kvs ks pr
      induction pr with
      | nil => intro _ x hx; simp at hx
      | cons a _ ih =>
        intro hk x hx
        rcases List.mem_cons.mp hx with rfl | hx
        · obtain ⟨i, j, e⟩ := hk _ List.mem_cons_self
          refine ⟨i, j, a.1.symm.trans e, ?_⟩
          have := a.2.1
          rw [e] at this
          exact this
        · exact ih (fun p hp => hk p (List.mem_cons_of_mem _ hp)) x hx
    exact go pr hk
  have ek : ks.map (·.1) = kvs.map (·.1) := by
    have go : ∀ {kvs : List (List Key × V)} {ks : List (List Key × Addr × Value)}, Paired (fun (p : List Key × V) (q : List Key × Addr × Value) => p.1 = q.1 ∧ H q.2.1 = some (.tup (p.1.map kV)) ∧ RelV p.2 q.2.2) kvs ks → ks.map (·.1) = kvs.map (·.1) := by
      intro kvs ks pr
      induction pr with
      | nil => rfl
      | cons a _ ih => rw [List.map_cons, List.map_cons, ih, a.1]
    exact go pr
  let kA : Addr → Int × Int := fun b => match H b with
    | some (.tup [.int x, .int y]) => (x, y)
    | _ => (0, 0)
  have kA_eq : ∀ {b : Addr} {i j : Int}, H b = some (.tup [.int i, .int j]) → kA b = (i, j) := fun {b i j} e => by
    show (match H b with
      | some (.tup [.int x, .int y]) => (x, y)
      | _ => (0, 0)) = (i, j)
    rw [e]
  let kW : Value → Int × Int := fun v => match v with
    | .ref b => kA b
    | _ => (0, 0)
  have I1 : Inv X pins σ H { s with heap := h', toks := tk } := I.kept hk'
  have hal : acc.toList.length ≤ sizeLine := by rw [ea, List.length_map]; omega
  refine wpAny_bind (wpAny_newList ?_ hal)
  have hoL : (h'.push (seqObj "list" acc.toList.toArray 0)).get? h'.objs.size = some (seqObj "list" acc.toList.toArray 0) := Heap.get?_push_size _ rfl
  have hpair : ∀ v ∈ acc.toList, Srt.IsPair (h'.push (seqObj "list" acc.toList.toArray 0)) v (kW v).1 (kW v).2 := fun v hv => by
    rw [ea] at hv
    obtain ⟨x, hx', rfl⟩ := List.mem_map.mp hv
    obtain ⟨i, j, _, e⟩ := pk x hx'
    obtain ⟨_, its2, r2, o', ho', hc', n', hd'⟩ := I1.hok _ _ e
    have e2 : kW (Value.ref x.2.1) = (i, j) := kA_eq e
    rw [e2]
    obtain ⟨u1, u2, rfl, ⟨t1, rfl⟩, ⟨t2, rfl⟩⟩ := vals2 r2
    exact ⟨x.2.1, o', t1, t2, n', rfl, Heap.get?_push_of_some _ ho', hc', hd'⟩
  show wpAny _ _ _ _ _ { s with heap := h'.push (seqObj "list" acc.toList.toArray 0), toks := tk }
  refine wpAny_bind (wpAny_holding (wpAny_call_entry PyProof.Rows.slot_list_sort ⟨_, hoL, rfl⟩ PyProof.Rows.entry_list_sort
    (SrtO.list_sort_ord (s := { s with heap := h'.push (seqObj "list" acc.toList.toArray 0), toks := tk }) (SrtO.swo_lex kW) hoL hal (fun h2 => SrtO.pairs_sortableO (by omega) hpair fun o e c => ?_) fun out hs hb => ⟨_, rfl, ?_⟩) (PyProof.Rows.args_list_sort _)))
  · have e' : some o = some (seqObj "list" acc.toList.toArray 0) := e.symm.trans hoL
    cases e'
    exact absurd (Value.type.inj c) (by decide)
  obtain ⟨n, hn2⟩ := PyProof.Rows.sortedHeap_at (vs := acc.toList) (out := out.toArray) hoL
  have h2 := hb.perm
  rw [ea] at h2
  have hmem : ∀ v ∈ out, ∃ x ∈ ks, v = Value.ref x.2.1 := fun v hv => by
    obtain ⟨x, hx', e'⟩ := List.mem_map.mp (h2.mem_iff.mp hv)
    exact ⟨x, hx', e'.symm⟩
  let back : Value → Addr × Int × Int := fun v => match v with
    | .ref b => (b, kA b)
    | _ => (0, (0, 0))
  have g := q (out.map back) h'.objs.size (by
      have z := h2.map fun v => ([.inl (back v).2.1, .inl (back v).2.2] : List Key)
      rw [List.map_map] at z
      have e2 : ks.map ((fun v => ([.inl (back v).2.1, .inl (back v).2.2] : List Key)) ∘ fun x => Value.ref x.2.1) = ks.map (·.1) := by
        refine List.map_congr_left fun x hx' => ?_
        obtain ⟨i, j, e3, e4⟩ := pk x hx'
        show ([.inl (kA x.2.1).1, .inl (kA x.2.1).2] : List Key) = x.1
        rw [kA_eq e4, e3]
      rw [e2, ek] at z
      rw [List.map_map]
      exact z) (fun e he' => by
      obtain ⟨v, hv, rfl⟩ := List.mem_map.mp he'
      obtain ⟨x, hx', rfl⟩ := hmem v hv
      obtain ⟨i, j, e3, e4⟩ := pk x hx'
      show H x.2.1 = some (.tup [.int (kA x.2.1).1, .int (kA x.2.1).2])
      rw [kA_eq e4, e4]) (by
      rw [List.map_map, List.pairwise_map]
      refine hs.imp_of_mem fun {x y} hx' hy' hxy => ?_
      obtain ⟨e1, _, rfl⟩ := hmem x hx'
      obtain ⟨e2, _, rfl⟩ := hmem y hy'
      exact hxy) (I1.hok.fresh (Nat.le_refl _))
  have e3 : (out.map back).map (fun e => V.ref e.1) = out.map backV := by
    rw [List.map_map]
    refine List.map_congr_left fun v hv => ?_
    obtain ⟨e, he', rfl⟩ := hmem v hv
    rfl
  rw [e3] at g
  have hzo : (out.map backV).length ≤ sizeLine := by
    rw [List.length_map, h2.length_eq, List.length_map]; omega
  have hvb : Vals (out.map backV) out := vals_back fun u hu => by
    obtain ⟨e, _, rfl⟩ := hmem u hu
    exact ⟨_, rfl⟩
  refine wpAny_pure ⟨_, rfl, .ref h'.objs.size, upd H h'.objs.size (.lst (out.map backV)), I1.laid (t' := tk) (fun b u e => ?_) (Nat.le_refl _) (show ObjOk X.prog X.w _ _ _ (.lst (out.map backV)) from ⟨hzo, out, n, hvb, hn2⟩), rfl, g⟩
  have hb' : b < h'.objs.size := Heap.lt_size e
  rw [PyProof.Rows.sortedHeap_old (Nat.ne_of_lt hb') (by rw [size_push']; exact Nat.lt_succ_of_lt hb')]; exact Heap.get?_push_of_some _ e

/-- d.pop(k), k a tuple that is there -/
def rPop1 : V → List V → Hp → VK → Prop := fun x xs H Q => ∃ (a : Addr) (kvs : List (List Key × V)) (k : List Key) (b : Addr) (v : V), x = .ref a ∧ xs = [.ref b] ∧ H a = some (.dT kvs) ∧ H b = some (.tup (k.map kV)) ∧ valV kvs k = some v ∧ Q v (upd H a (.dT (dropK kvs k)))
end
section
variable {prog : Program} {w : World} {K : Type} [DecidableEq K] {knd : HeapKind prog w K}
theorem meets_pop1 {d b : Addr} {k : K} (hd : (d == sysModules) = false) :
    MeetsIn prog w (Builtin.«dict.pop» ⟨[.ref d, .ref b], []⟩) (fun A R s => ∃ xs p0, knd.room A.in1 ∧ knd.is s.heap k b ∧ s.heap.DictOfH knd d xs ∧ xs.length ≤ sizeLine ∧ atKey xs k = some p0 ∧
      ∀ p, atKey xs k = some p → ∀ h' tk, h'.DictOfH knd d (DT.dropH xs k) → Heap.SameBut d s.heap h' → R (.ok (.ret p.2)) { s with heap := h', toks := tk }) :=
  .of_wp fun A R s ⟨xs, p0, hu, hkey, hm, hsz, hp0, hsome⟩ => by
    obtain ⟨o, es, ep, ho, hc, hdat, he, his, hn⟩ := id hm
    have hes : es.size = xs.length := size_of_entries he
    have hne : xs ≠ [] := fun z => by rw [z] at hp0; cases hp0
    have hem : es.isEmpty = false := by
      cases q : es.isEmpty with
      | false => rfl
      | true =>
        have z : es.size = 0 := by simpa using q
        exact absurd (List.length_eq_zero_iff.mp (by omega)) hne
    unfold Builtin.«dict.pop»
    refine wpAny_bind ?_; unfold Builtin.Dict.keyAndDefault
    refine wpAny_bind (wpAny_notOrdered_dict hm.typeIs ?_)
    show wpAny _ _ (pure (d, Value.ref b, (none : Option Value))) _ _ s
    refine wpAny_pure ?_
    simp only [show (keyPart (Value.ref b)).isSome = false from rfl, Bool.false_eq_true, if_false]
    refine wpAny_bind (wpAny_dictEntries ho hdat (wpAny_bind (wpAny_pure ?_)))
    simp only [hem, Bool.false_eq_true, if_false]
    refine wpAny_bind (DT.takeH hu hkey hm hsz (fun hno => ?_) fun p e hp hev h' hm' hs' => ?_)
    · rw [hno] at hp0; cases hp0
    · simp only [Option.isNone_some, Bool.false_eq_true, if_false]
      exact wpAny_bind (wpAny_letGo (wpAny_pure ⟨e.val, rfl, by rw [hev]; exact hsome p hp h' _ hm' hs'⟩))
end
section
variable {X : Cx}
theorem mt_pop1T (hu : X.A.units + 1 < cLine) : MtR X "dict.pop" rPop1 := by
  intro pins s σ H x xs v us Q I rx rxs h
  obtain ⟨a, kvs, k, b, v0, rfl, rfl, ha, hb, hv0, q⟩ := h
  cases rx
  obtain ⟨u1, rfl, r1⟩ := vals1 rxs
  cases r1
  obtain ⟨z, hd, xs', rel, dd⟩ := dt_of I.hok ha
  have hz : xs'.length ≤ sizeLine := by rw [← Paired.length rel]; exact z
  have r := rel.val k
  rw [hv0] at r
  obtain ⟨p0, hp0, rv⟩ : ∃ p0, atKey xs' k = some p0 ∧ RelV v0 p0.2 := by
    cases ev : atKey xs' k with
    | none => rw [ev] at r; exact (show False from r).elim
    | some p0 => rw [ev] at r; exact ⟨p0, rfl, r⟩
  refine call_meetsIn PySem.F.slot_dict_pop dd.typeIs PySem.F.entry_dict_pop (PySem.F.args_dict_pop_2 _ _) (meets_pop1 (knd := tupleKind (mixKind X.prog X.w)) (k := k) hd) ⟨xs', p0, tupleKind_room_in1 hu, key_of I.hok hb, dd, hz, hp0, fun p hp h' tk dd' hs => ?_⟩
  rw [hp0] at hp
  cases hp
  obtain ⟨o, es, ep, hq, h2, h3, h4, _, h5⟩ := dd'
  have I2 : Inv X pins σ (upd H a (.dT (dropK kvs k))) { s with heap := h', toks := tk } :=
    d_write I (by rw [ha]; exact True.intro) hs ⟨o, hq⟩ ⟨Nat.le_trans (dropK_le kvs k) z, hd, _, (L2.DX.KT_drop k rel).keeps (fun c ys ec => (by rw [upd_ne (ne_of ec ha (fun z => nomatch z))]; exact ec)), o, es, ep, hq, h2, h3, h4, h5⟩
  show EP X pins σ Q p0.2 _
  exact ⟨v0, _, I2, rv, q⟩
end
/-- a text's signs with their places -/
def Itse (x : Str) : It := ⟨fun i _ => i < x.cps.size, fun i H v H' => ∃ T c, v = .ref T ∧ H T = none ∧ H' = upd H T (.tup [.int (i : Nat), .str ⟨#[c]⟩]) ∧ x.cps[i]? = some c, fun i _ => x.cps.size ≤ i⟩
theorem turn_enumS {P : Program} {w : World} {K : PySem.W.Frag} {elts : List Expr} {kk : Nat} {tpos : Pos} (e it : Addr) (x : Str) (t : Tok) (ty : String) (hty : ty = "str_ascii_iterator" ∨ ty = "str_iterator") :
    Turn P w K (.Tuple elts kk tpos) (Itse x) [e, it] e (fun i h => (∃ old, IsEnum h e it i old) ∧ h.IsStrIter it ty x t i ∧ e ≠ it ∧ i ≤ x.cps.size) where
  mem := by simp
  obj := fun i h st b hb => by
    obtain ⟨⟨old, he⟩, ⟨o, ho, hc, hd⟩, _⟩ := st
    have e' : b = e ∨ b = it := by simpa using hb
    rcases e' with z | z
    · rw [z]; exact ⟨_, he, fun v q => nomatch q⟩
    · rw [z]; exact ⟨o, ho, fun v q => by rw [hd] at q; cases q⟩
  keep := fun i h h' st k => by
    obtain ⟨⟨old, he⟩, ⟨o, ho, r⟩, hne⟩ := st
    exact ⟨⟨old, k e (by simp) _ he⟩, ⟨o, k it (by simp) o ho, r⟩, hne⟩
  item := by
    intro X hP hw hK hc i pins s σ H E I hf st hg
    subst hP hw hK
    obtain ⟨⟨old, he⟩, hit, hne, hi⟩ := st
    have hg' : i < x.cps.size := hg
    have hel : e < s.heap.objs.size := Heap.lt_size he
    have hil : it < s.heap.objs.size := by obtain ⟨_, q, _⟩ := hit; exact Heap.lt_size q
    have D : Draws X.prog X.w X.A.in1 it [it] x.cps.size (fun i v => ∃ c u, x.cps[i]? = some c ∧ v = .str ⟨#[c]⟩ u) (fun i h => h.IsStrIter it ty x t i) := by
      rcases hty with z | z
      · rw [z]; exact Draws.strAscii (A := X.A.in1) (I.ok.hd hc) it x t
      · rw [z]; exact Draws.strWide (A := X.A.in1) (I.ok.hd hc) it x t
    refine wpAny_pyNext_enum_itemD D he hit hg hne (by simpa using hne) fun v h' tk hv ho hit' hT hsz hk => ?_
    obtain ⟨c, u, hcx, rfl⟩ := hv
    refine ⟨_, rfl, wpAny_letOwnedTupleGo_enum (s := { s with heap := h', toks := tk + 1 }) ho fun h'' he' sb => ?_⟩
    have hT2 : h''.get? s.heap.objs.size = some { cls := .type "tuple", data := .seq #[.int i tk, .str ⟨#[c]⟩ u] } := (sb.2 _ (Nat.ne_of_gt hel)).trans hT
    have new : ObjOk X.prog X.w (upd H s.heap.objs.size (.tup [.int (i : Nat), .str ⟨#[c]⟩])) h'' s.heap.objs.size (.tup [.int (i : Nat), .str ⟨#[c]⟩]) :=
      ⟨(by show 2 ≤ sizeLine; decide), [.int i tk, .str ⟨#[c]⟩ u], .cons ⟨_, rfl⟩ (.cons ⟨u, rfl⟩ .nil), ⟨_, hT2, rfl, _, rfl⟩⟩
    have I1 : Inv X pins σ (upd H s.heap.objs.size (.tup [.int (i : Nat), .str ⟨#[c]⟩])) { s with heap := h'', toks := tk + 1 } :=
      I.turnedNew (ch := [e, it]) (fun b ob hb q => (sb.2 b (fun z => hb (by simp [z]))).trans (hk b ob (fun z => hb (by simp [z])) (fun z => hb (by simp [z])) q)) hf (Nat.le_refl _) new
    refine ⟨.ref s.heap.objs.size, _, I1, rfl, ⟨_, c, rfl, I.hok.fresh (Nat.le_refl _), rfl, hcx⟩, ⟨⟨.str ⟨#[c]⟩ u, ?_⟩, (by obtain ⟨o, a, b⟩ := hit'; exact ⟨o, (sb.2 it (Ne.symm hne)).trans a, b⟩), hne, hg'⟩, fun b hb => ?_⟩
    · rw [show ((i + 1 : Nat) : Int) = (i : Int) + 1 by omega]; exact he'
    · have hb' : b < s.heap.objs.size := by
        have z : b = e ∨ b = it := by simpa using hb
        rcases z with z | z
        · rw [z]; exact hel
        · rw [z]; exact hil
      rw [upd_ne (Nat.ne_of_lt hb')]; exact (hf b hb).1
  done := by
    intro X hP hw hK hc i pins s σ H E I hf st hg
    subst hP hw hK
    obtain ⟨⟨old, he⟩, hit, hne, hi⟩ := st
    have hg' : x.cps.size ≤ i := hg
    obtain rfl : i = x.cps.size := by omega
    have D : Draws X.prog X.w X.A.in1 it [it] x.cps.size (fun i v => ∃ c u, x.cps[i]? = some c ∧ v = .str ⟨#[c]⟩ u) (fun i h => h.IsStrIter it ty x t i) := by
      rcases hty with z | z
      · rw [z]; exact Draws.strAscii (A := X.A.in1) (I.ok.hd hc) it x t
      · rw [z]; exact Draws.strWide (A := X.A.in1) (I.ok.hd hc) it x t
    obtain ⟨f0, f1, f2, f3, f4, f5⟩ := hf it (by simp)
    exact wpAny_pyNext_enum_endD D he hit fun h' eb => ⟨rfl, I.turned (t' := s.toks) (fun b o hb q => eb b o hb q) f0 f1 f3 f4 f5⟩
  self := fun A i s Q E st h => by
    obtain ⟨⟨old, he⟩, _, _⟩ := st
    exact wpAny_pyIter_enum he h
def iEnumS (ta : TA) : TI := fun σ H R => ta σ H fun vs H1 => ∃ x, vs = [.str x] ∧ R (Itse x) H1
theorem strIter_ty (x : Str) : strIterType x = "str_ascii_iterator" ∨ strIterType x = "str_iterator" := by
  unfold strIterType
  cases x.cps.all (· < 128)
  · exact .inr rfl
  · exact .inl rfl
theorem pi_enumS {X : Cx} {e : Expr} {ta : TA} {p pos tpos : Pos} {elts : List Expr} {kk : Nat} (hg : Gl X "enumerate") (hm : X.mg "enumerate" = none) (ha : PA X [e] ta) (hs : starEach [e] X.env = [(false, eval e X.env)] := by rfl) :
    PI X (.Tuple elts kk tpos) (.Call (.Name "enumerate" p) [e] [] pos) (iEnumS ta) := by
  refine ⟨fun pins s σ H R I h => Call_ (ld_blt I hg hm boot_enumerate (PyProof.Rows.callWith_type1 (thn (ha.run pos pins s σ H _ I h) fun us s1 ⟨vs, H1, I1, r1, q1⟩ => ?_) hs rfl))⟩
  obtain ⟨x, ex, q⟩ := q1
  subst ex
  cases r1 with
  | cons r rr =>
    cases rr
    obtain ⟨t, rfl⟩ := r
    refine call_enumerate_str fun h' he hit hsz hk => wpAny_pyIter_enum he ?_
    have I2 : Inv X pins σ H1 { s1 with heap := h' } := I1.kept (t' := s1.toks) hk
    refine ⟨s1.heap.objs.size + 1, [s1.heap.objs.size + 1, s1.heap.objs.size], _, _, H1, rfl, I2, turn_enumS (s1.heap.objs.size + 1) s1.heap.objs.size x t (strIterType x) (strIter_ty x), ⟨⟨.none, he⟩, hit, Nat.succ_ne_self _, Nat.zero_le _⟩, fun b hb => ?_, q⟩
    have hle : s1.heap.objs.size ≤ b := by
      have z : b = s1.heap.objs.size + 1 ∨ b = s1.heap.objs.size := by simpa using hb
      rcases z with z | z
      · rw [z]; exact Nat.le_add_right _ _
      · rw [z]; exact Nat.le_refl _
    exact I1.fpOk hle (I1.hok.fresh hle)
theorem walk_enumS {z : Str} : Walk (Itse z) z.cps.size (fun _ => True) (YPair (fun i => some (.int (i : Nat))) (fun i => z.cps[i]?.map fun c => V.str ⟨#[c]⟩)) := by
  refine ⟨fun _ _ hi _ => hi, fun _ _ => Nat.le_refl _, fun i H v H' _ _ y => ?_⟩
  obtain ⟨T, c, h1, h2, h3, h4⟩ := y
  exact ⟨T, .int (i : Nat), .str ⟨#[c]⟩, h1, h2, h3, rfl, by show (z.cps[i]?).map _ = _; rw [h4]; rfl⟩
theorem d_iEnS {ta : TA} {σ : L2.St} {H : Hp} {R : It → Hp → Prop} (h : ta σ H fun vs H1 => ∃ x, vs = [.str x] ∧ R (Itse x) H1) : iEnumS ta σ H R := h
theorem d_iEnSe {C : Str → Prop} {z : Str} (q : C z) : ∃ x, [V.str z] = [.str x] ∧ C x := ⟨z, rfl, q⟩
theorem d_iEn {K : PySem.W.Frag} {ta : TA} {σ : L2.St} {H : Hp} {R : It → Hp → Prop} (h : ta σ H fun vs H1 => ∃ a xs, vs = [.ref a] ∧ SqL K H1 a xs ∧ R (Ite K a) H1) : iEnum K ta σ H R := h
end Cw

namespace Cw
open PySem PySem.Spec PyProof.Rows L2
theorem erase_map {α β : Type} (f : α → β) : ∀ (l : List α) (m : Nat), (l.map f).eraseIdx m = (l.eraseIdx m).map f
  | [], m => by simp
  | _ :: _, 0 => rfl
  | x :: l, m + 1 => by
    show f x :: (l.map f).eraseIdx m = f x :: (l.eraseIdx m).map f
    rw [erase_map f l m]
theorem erase_perm {α : Type} : ∀ (l : List α) (m : Nat) (h : m < l.length), (l[m] :: l.eraseIdx m).Perm l
  | [], m, h => absurd h (Nat.not_lt_zero _)
  | x :: l, 0, _ => List.Perm.refl _
  | x :: l, m + 1, h => by
    have hm : m < l.length := Nat.lt_of_succ_lt_succ h
    have ih := erase_perm l m hm
    exact (List.Perm.swap x l[m] _).trans (ih.cons x)
/-- as many different numbers below n as there are, at most -/
theorem nodup_len : ∀ (n : Nat) (l : List Nat), l.Nodup → (∀ x ∈ l, x < n) → l.length ≤ n
  | 0, l, _, h => by
    cases l with
    | nil => exact Nat.le_refl _
    | cons x r => exact absurd (h x List.mem_cons_self) (Nat.not_lt_zero _)
  | n + 1, l, hn, h => by
    by_cases hm : n ∈ l
    · have ih := nodup_len n (l.erase n) (hn.erase n) fun x hx => by
        have h1 := h x (List.mem_of_mem_erase hx)
        have h2 : x ≠ n := fun z => by
          subst z
          exact absurd hx (List.Nodup.not_mem_erase hn)
        omega
      rw [List.length_erase_of_mem hm] at ih
      omega
    · have ih := nodup_len n l hn fun x hx => by
        have h1 := h x hx
        have h2 : x ≠ n := fun z => hm (z ▸ hx)
        omega
      omega
/-! ### places called otherwise -/
def qa (qs : List Nat) (p : Nat) : Nat := qs.getD p 0
def mapTie (qs : List Nat) (t : Tie) : Tie := (min (qa qs t.1) (qa qs t.2.1), max (qa qs t.1) (qa qs t.2.1), t.2.2)
theorem qa_at {qs : List Nat} {p : Nat} (h : p < qs.length) : qs[p]? = some (qa qs p) := by
  unfold qa
  rw [List.getD_eq_getElem?_getD, List.getElem?_eq_getElem h]; rfl
structure Ord (qs : List Nat) (n : Nat) : Prop where
  len : qs.length = n
  nd : qs.Nodup
  lt : ∀ q ∈ qs, q < n
  all : ∀ j, j < n → j ∈ qs
theorem Ord.of {qs : List Nat} {n : Nat} (p : qs.Perm (List.range n)) : Ord qs n :=
  ⟨by rw [p.length_eq, List.length_range], p.nodup_iff.mpr List.nodup_range, fun q hq => List.mem_range.mp (p.mem_iff.mp hq), fun j hj => p.mem_iff.mpr (List.mem_range.mpr hj)⟩
theorem Ord.inj {qs : List Nat} {n p r : Nat} (o : Ord qs n) (hp : p < n) (hr : r < n) (h : qa qs p = qa qs r) : p = r := by
  have h1 : p < qs.length := by rw [o.len]; exact hp
  have h2 : r < qs.length := by rw [o.len]; exact hr
  have e1 := qa_at h1
  have e2 := qa_at h2
  rw [List.getElem?_eq_getElem h1] at e1
  rw [List.getElem?_eq_getElem h2] at e2
  exact (List.getElem_inj o.nd).mp ((Option.some.inj e1).trans (h.trans (Option.some.inj e2).symm))
theorem Ord.lt' {qs : List Nat} {n p : Nat} (o : Ord qs n) (hp : p < n) : qa qs p < n := o.lt _ (List.mem_of_getElem? (qa_at (by rw [o.len]; exact hp)))
theorem Ord.onto {qs : List Nat} {n j : Nat} (o : Ord qs n) (hj : j < n) : ∃ p, p < n ∧ qa qs p = j := by
  obtain ⟨p, hp⟩ := List.mem_iff_getElem?.mp (o.all j hj)
  have h1 : p < qs.length := (List.getElem?_eq_some_iff.mp hp).1
  rw [qa_at h1] at hp
  exact ⟨p, by rw [← o.len]; exact h1, Option.some.inj hp⟩
def ends (t : Tie) : Nat × Nat := (t.1, t.2.1)
structure Named (w : Web) (qs : List Nat) (w' : Web) : Prop where
  len : w'.1.length = w.1.length
  kinds : ∀ p, p < w.1.length → w'.1[qa qs p]? = w.1[p]?
  ties : w'.2.Perm (w.2.map (mapTie qs))
theorem mapTie_ends {w : Web} {qs : List Nat} (W : WOk w) (o : Ord qs w.1.length) : (w.2.map (mapTie qs)).Pairwise (fun x y => ends x ≠ ends y) := by
  rw [List.pairwise_map]
  refine List.Pairwise.imp_of_mem (fun {t u} ht hu lt e => ?_) W.rise
  have r1 := W.ends t ht
  have r2 := W.ends u hu
  unfold ends mapTie at e
  simp only [Prod.mk.injEq] at e
  obtain ⟨e1, e2⟩ := e
  by_cases c : qa qs t.1 = qa qs u.1
  · have a := o.inj (by omega) (by omega) c
    have c2 : qa qs t.2.1 = qa qs u.2.1 := by omega
    have b := o.inj (by omega) (by omega) c2
    rcases lt with z | ⟨_, z⟩ <;> omega
  · have c1 : qa qs t.1 = qa qs u.2.1 := by omega
    have c2 : qa qs t.2.1 = qa qs u.1 := by omega
    have a := o.inj (by omega) (by omega) c1
    have b := o.inj (by omega) (by omega) c2
    omega
/-- sorted ties of different ends rise -/
theorem rise_of {ts : List Tie} (s : ts.Pairwise (fun x y => lexT ((y.1 : Int), (y.2.1 : Int), y.2.2) ((x.1 : Int), (x.2.1 : Int), x.2.2) = false)) (d : ts.Pairwise (fun x y => ends x ≠ ends y)) : ts.Pairwise tlt := by
  refine (s.and d).imp fun {x y} h => ?_
  obtain ⟨h1, h2⟩ := h
  have a := lexT_no.mp h1
  unfold ends at h2
  simp only [ne_eq, Prod.mk.injEq, not_and] at h2
  dsimp only at a
  unfold tlt
  by_cases c : x.1 = y.1
  · have := h2 c
    right
    omega
  · left
    omega
theorem named_ok {w w' : Web} {qs : List Nat} (W : WOk w) (o : Ord qs w.1.length) (N : Named w qs w') (s : w'.2.Pairwise (fun x y => lexT ((y.1 : Int), (y.2.1 : Int), y.2.2) ((x.1 : Int), (x.2.1 : Int), x.2.2) = false)) : WOk w' := by
  refine ⟨by rw [N.len]; exact W.few, by rw [N.ties.length_eq, List.length_map]; exact W.most, fun c hc => ?_, rise_of s ?_, fun t ht => ?_⟩
  · obtain ⟨j, hj⟩ := List.mem_iff_getElem?.mp hc
    have hj' : j < w.1.length := by rw [← N.len]; exact (List.getElem?_eq_some_iff.mp hj).1
    obtain ⟨p, hp, rfl⟩ := o.onto hj'
    rw [N.kinds p hp] at hj
    exact W.kinds c (List.mem_of_getElem? hj)
  · exact (List.Perm.pairwise_iff (fun {x y} h => h.symm) N.ties).mpr (mapTie_ends W o)
  · obtain ⟨u, hu, rfl⟩ := List.mem_map.mp (N.ties.mem_iff.mp ht)
    have r := W.ends u hu
    have a := o.lt' (p := u.1) (by omega)
    have b := o.lt' (p := u.2.1) (by omega)
    have n : qa qs u.1 ≠ qa qs u.2.1 := fun z => by
      have := o.inj (by omega) (by omega) z
      omega
    refine ⟨?_, ?_, r.2.2⟩
    · show min _ _ < max _ _; omega
    · show max _ _ < w'.1.length; rw [N.len]; omega
theorem flat_rep (n : Nat) (x : V) : (List.replicate n [x]).flatten = List.replicate n x := by
  induction n with
  | zero => rfl
  | succ n ih => rw [List.replicate_succ, List.flatten_cons, ih, List.replicate_succ]; rfl
end Cw

namespace Cw
open PySem PySem.Spec PyProof.Rows L2
/-! ### a dict of ties by their ends -/
def kE (a b : Int) : List Key := [.inl a, .inl b]
structure DictOk (n : Nat) (kvs : List (List Key × V)) : Prop where
  nd : (kvs.map (·.1)).Nodup
  ok : ∀ p ∈ kvs, ∃ a b c : Nat, p = (kE a b, V.str (sg c)) ∧ a < b ∧ b < n ∧ Ltr c
theorem DictOk.nil (n : Nat) : DictOk n [] := ⟨List.nodup_nil, fun p hp => by simp at hp⟩
theorem valV_mem {kvs : List (List Key × V)} {k : List Key} {v : V} (h : valV kvs k = some v) : (k, v) ∈ kvs := by
  unfold valV at h
  obtain ⟨p, hp, rfl⟩ := Option.map_eq_some_iff.mp h
  have h1 := List.find?_some hp
  have h2 := List.mem_of_find?_eq_some hp
  have e : p.1 = k := of_decide_eq_true h1
  subst e
  exact h2
theorem DictOk.at {n : Nat} {kvs : List (List Key × V)} (d : DictOk n kvs) {k : List Key} {v : V} (h : valV kvs k = some v) : ∃ a b c : Nat, k = kE a b ∧ v = V.str (sg c) ∧ a < b ∧ b < n ∧ Ltr c := by
  obtain ⟨a, b, c, e, r⟩ := d.ok _ (valV_mem h)
  cases e
  exact ⟨a, b, c, rfl, rfl, r⟩
theorem DictOk.put {n : Nat} {kvs : List (List Key × V)} (d : DictOk n kvs) {a b c : Nat} (h1 : a < b) (h2 : b < n) (h3 : Ltr c) : DictOk n (putK kvs (kE a b) (.str (sg c))) := by
  unfold putK
  by_cases h : (kvs.any fun kv => decide (kv.1 = kE a b)) = true
  · rw [if_pos h]
    refine ⟨?_, fun p hp => ?_⟩
    · rw [List.map_map]
      have e : kvs.map ((·.1) ∘ fun kv => if kv.1 = kE a b then (kv.1, V.str (sg c)) else kv) = kvs.map (·.1) := by
        refine List.map_congr_left fun x _ => ?_
        show (if x.1 = kE a b then (x.1, V.str (sg c)) else x).1 = x.1
        split <;> rfl
      rw [e]
      exact d.nd
    · obtain ⟨x, hx, rfl⟩ := List.mem_map.mp hp
      by_cases e : x.1 = kE a b
      · rw [if_pos e, e]
        exact ⟨a, b, c, rfl, h1, h2, h3⟩
      · rw [if_neg e]
        exact d.ok x hx
  · rw [if_neg h]
    have hno : kE a b ∉ kvs.map (·.1) := fun hm => by
      obtain ⟨x, hx, e⟩ := List.mem_map.mp hm
      exact h (List.any_eq_true.mpr ⟨x, hx, decide_eq_true e⟩)
    refine ⟨?_, fun p hp => ?_⟩
    · rw [List.map_append]
      exact List.nodup_append.mpr ⟨d.nd, by simp, fun x hx y hy => by rw [List.mem_singleton.mp hy]; intro z; exact hno (by rw [← (show x = kE a b from z)]; exact hx)⟩
    · rcases List.mem_append.mp hp with hp | hp
      · exact d.ok p hp
      · rw [List.mem_singleton.mp hp]
        exact ⟨a, b, c, rfl, h1, h2, h3⟩
theorem DictOk.drop {n : Nat} {kvs : List (List Key × V)} (d : DictOk n kvs) (k : List Key) : DictOk n (dropK kvs k) :=
  ⟨d.nd.sublist ((List.filter_sublist).map _), fun p hp => d.ok p (List.mem_filter.mp hp).1⟩
theorem valV_drop {kvs : List (List Key × V)} {k j : List Key} (h : j ≠ k) : valV (dropK kvs k) j = valV kvs j := by
  unfold valV dropK
  congr 1
  induction kvs with
  | nil => rfl
  | cons x kvs ih =>
    by_cases e : x.1 = k
    · have e2 : ¬ x.1 = j := fun z => h (z.symm.trans e)
      rw [List.filter_cons_of_neg (by simp [e]), List.find?_cons_of_neg (by simp [e2])]
      exact ih
    · rw [List.filter_cons_of_pos (by simp [e])]
      by_cases e2 : x.1 = j
      · rw [List.find?_cons_of_pos (by simp [e2]), List.find?_cons_of_pos (by simp [e2])]
      · rw [List.find?_cons_of_neg (by simp [e2]), List.find?_cons_of_neg (by simp [e2])]
        exact ih
theorem DictOk.has {n : Nat} {kvs : List (List Key × V)} {k : List Key} (d : DictOk n kvs) (h : k ∈ kvs.map (·.1)) : ∃ v, valV kvs k = some v := by
  obtain ⟨x, hx, rfl⟩ := List.mem_map.mp h
  cases e : valV kvs x.1 with
  | some v => exact ⟨v, rfl⟩
  | none => exact absurd (List.mem_map.mpr ⟨x, hx, rfl⟩) (valV_not e)
theorem DictOk.len {n : Nat} {kvs : List (List Key × V)} (d : DictOk n kvs) (hn : n ≤ 40) : kvs.length ≤ 1600 := by
  let code : List Key × V → Nat := fun p => match p.1 with
    | [.inl a, .inl b] => a.toNat * 40 + b.toNat
    | _ => 0
  have hc : ∀ p ∈ kvs, ∃ a b : Nat, p.1 = kE a b ∧ code p = a * 40 + b ∧ a < 40 ∧ b < 40 := fun p hp => by
    obtain ⟨a, b, c, rfl, h1, h2, _⟩ := d.ok p hp
    exact ⟨a, b, rfl, rfl, by omega, by omega⟩
  have l := nodup_len 1600 (kvs.map code) (by
    have z := d.nd
    unfold List.Nodup at z ⊢
    rw [List.pairwise_map] at z ⊢
    refine List.Pairwise.imp_of_mem (fun {x y} hx hy hne e => ?_) z
    obtain ⟨a, b, e1, e2, b1, b2⟩ := hc x hx
    obtain ⟨a', b', e1', e2', b1', b2'⟩ := hc y hy
    rw [e2, e2'] at e
    have : a = a' ∧ b = b' := by omega
    rw [e1, e1', this.1, this.2] at hne
    exact hne rfl) (fun x hx => by
    obtain ⟨p, hp, rfl⟩ := List.mem_map.mp hx
    obtain ⟨a, b, _, e2, b1, b2⟩ := hc p hp
    rw [e2]; omega)
  rw [List.length_map] at l
  exact l
theorem DictOk.pairs {n : Nat} {kvs : List (List Key × V)} (d : DictOk n kvs) : ∀ p ∈ kvs, ∃ i j : Int, p.1 = [.inl i, .inl j] := fun p hp => by
  obtain ⟨a, b, c, rfl, _⟩ := d.ok p hp
  exact ⟨a, b, rfl⟩
/-- the web's other, in the making -/
def OI (h d : Addr) (H3 : Hp) (N : Nat) (kvs : List (List Key × V)) (H' : Hp) : Prop := H' d = some (.dT kvs) ∧ Keep h H3 H' ∧ Hand H' h ∧ DictOk N kvs
section
variable {h d p : Addr} {H3 H' H'' : Hp} {N : Nat} {kvs : List (List Key × V)} {o : HO}
theorem OI.new (x : OI h d H3 N kvs H') (f : H' p = none) : OI h d H3 N kvs (upd H' p o) := by
  obtain ⟨e, k, hh, dk⟩ := x
  exact ⟨at_upd e f, Keep.new k (Keep.free k (hh.ne f) f), hh.put (hh.ne f), dk⟩
theorem OI.draw (x : OI h d H3 N kvs H') (k' : Keep h H' H'') (hh' : Hand H'' h) : OI h d H3 N kvs H'' := by
  obtain ⟨e, k, hh, dk⟩ := x
  obtain ⟨_, _, eh, _⟩ := hh
  exact ⟨k' d _ (ne_of e eh (by intro z; cases z)) e, Keep.trans k k', hh', dk⟩
theorem OI.same (x : OI h d H3 N kvs H') (s : Same H' H'') : OI h d H3 N kvs H'' := x.draw (Same.keep s) (x.2.2.1.same s)
theorem OI.set (x : OI h d H3 N kvs H') (f : H3 d = none) {kvs' : List (List Key × V)} (dk' : DictOk N kvs') : OI h d H3 N kvs' (upd H' d (.dT kvs')) := by
  obtain ⟨e, k, hh, dk⟩ := x
  obtain ⟨_, _, eh, _⟩ := id hh
  exact ⟨upd_same, Keep.new k f, hh.put (ne_of e eh (by intro z; cases z)), dk'⟩
end
theorem putK_keys {kvs : List (List Key × V)} {k j : List Key} {v : V} (h : j ∈ kvs.map (·.1)) : j ∈ (putK kvs k v).map (·.1) := by
  obtain ⟨x, hx, rfl⟩ := List.mem_map.mp h
  unfold putK
  split
  · refine List.mem_map.mpr ⟨_, List.mem_map.mpr ⟨x, hx, rfl⟩, ?_⟩
    split <;> rfl
  · exact List.mem_map.mpr ⟨x, List.mem_append_left _ hx, rfl⟩
theorem dropK_keys {kvs : List (List Key × V)} {k j : List Key} (h : j ∈ kvs.map (·.1)) (n : j ≠ k) : j ∈ (dropK kvs k).map (·.1) := by
  obtain ⟨x, hx, rfl⟩ := List.mem_map.mp h
  exact List.mem_map.mpr ⟨x, List.mem_filter.mpr ⟨hx, decide_eq_true n⟩, rfl⟩
/-- the web's other, its keys being gone through -/
def OL (h d : Addr) (H3 : Hp) (N : Nat) (p : Addr) (es : List (Addr × Int × Int)) (i : Nat) (kvs : List (List Key × V)) (H' : Hp) : Prop :=
  OI h d H3 N kvs H' ∧ H' p = some (.lst (es.map fun e => V.ref e.1)) ∧ p ≠ h ∧ (∀ e ∈ es, H' e.1 = some (.tup [.int e.2.1, .int e.2.2])) ∧ (∀ j e, i ≤ j → es[j]? = some e → kE e.2.1 e.2.2 ∈ kvs.map (·.1)) ∧ (es.map fun e => kE e.2.1 e.2.2).Nodup
section
variable {h d p b : Addr} {H3 H' H'' : Hp} {N i : Nat} {kvs : List (List Key × V)} {o : HO} {es : List (Addr × Int × Int)}
theorem OL.start (x : OI h d H3 N kvs H') (f : H' p = none) (pm : (es.map fun e => kE e.2.1 e.2.2).Perm (kvs.map (·.1))) (he : ∀ e ∈ es, H' e.1 = some (.tup [.int e.2.1, .int e.2.2])) : OL h d H3 N p es 0 kvs (upd H' p (.lst (es.map fun e => V.ref e.1))) :=
  ⟨x.new f, upd_same, x.2.2.1.ne f, fun e h => at_upd (he e h) f, fun j e _ h => pm.mem_iff.mp (List.mem_map.mpr ⟨e, List.mem_of_getElem? h, rfl⟩), pm.nodup_iff.mpr x.2.2.2.nd⟩
theorem OL.next (x : OL h d H3 N p es i kvs H') : OL h d H3 N p es (i + 1) kvs H' := ⟨x.1, x.2.1, x.2.2.1, x.2.2.2.1, fun j e hj => x.2.2.2.2.1 j e (by omega), x.2.2.2.2.2⟩
theorem OL.new (x : OL h d H3 N p es i kvs H') (f : H' b = none) : OL h d H3 N p es i kvs (upd H' b o) := ⟨x.1.new f, at_upd x.2.1 f, x.2.2.1, fun e h => at_upd (x.2.2.2.1 e h) f, x.2.2.2.2⟩
theorem OL.list (x : OL h d H3 N p es i kvs H') {ys ys' : List V} (e : H' b = some (.lst ys)) (np : b ≠ p) (nh : b ≠ h) (f : H3 b = none) : OL h d H3 N p es i kvs (upd H' b (.lst ys')) := by
  obtain ⟨⟨ed, k, hh, dk⟩, ep, n, he, r⟩ := x
  exact ⟨⟨by rw [upd_ne (ne_of ed e (by intro z; cases z))]; exact ed, Keep.new k f, hh.put nh, dk⟩, by rw [upd_ne np.symm]; exact ep, n, fun t h => by rw [upd_ne (ne_of (he t h) e (by intro z; cases z))]; exact he t h, r⟩
theorem OL.draw (x : OL h d H3 N p es i kvs H') (k' : Keep h H' H'') (hh' : Hand H'' h) : OL h d H3 N p es i kvs H'' := by
  obtain ⟨O, ep, np, he, r⟩ := x
  obtain ⟨_, _, eh, _⟩ := id O.2.2.1
  exact ⟨O.draw k' hh', k' p _ np ep, np, fun e h => k' _ _ (ne_of (he e h) eh (by intro z; cases z)) (he e h), r⟩
theorem OL.set (x : OL h d H3 N p es i kvs H') (f : H3 d = none) {c c2 t : Nat} (h1 : c < c2) (h2 : c2 < N) (h3 : Ltr t) : OL h d H3 N p es i (putK kvs (kE c c2) (.str (sg t))) (upd H' d (.dT (putK kvs (kE c c2) (.str (sg t))))) := by
  obtain ⟨O, ep, np, he, hk, nd⟩ := x
  exact ⟨O.set f (O.2.2.2.put h1 h2 h3), by rw [upd_ne (ne_of ep O.1 (by intro z; cases z))]; exact ep, np, fun e h => by rw [upd_ne (ne_of (he e h) O.1 (by intro z; cases z))]; exact he e h, fun j e hj h => putK_keys (hk j e hj h), nd⟩
theorem OL.pop (x : OL h d H3 N p es i kvs H') (f : H3 d = none) {e : Addr × Int × Int} (h0 : es[i]? = some e) : OL h d H3 N p es (i + 1) (dropK kvs (kE e.2.1 e.2.2)) (upd H' d (.dT (dropK kvs (kE e.2.1 e.2.2)))) := by
  obtain ⟨O, ep, np, he, hk, nd⟩ := x
  refine ⟨O.set f (O.2.2.2.drop _), by rw [upd_ne (ne_of ep O.1 (by intro z; cases z))]; exact ep, np, fun e h => by rw [upd_ne (ne_of (he e h) O.1 (by intro z; cases z))]; exact he e h, fun j e' hj h => dropK_keys (hk j e' (by omega) h) fun z => ?_, nd⟩
  have li : i < es.length := (List.getElem?_eq_some_iff.mp h0).1
  have lj : j < es.length := (List.getElem?_eq_some_iff.mp h).1
  have e1 := (List.getElem?_eq_some_iff.mp h0).2
  have e2 := (List.getElem?_eq_some_iff.mp h).2
  have ne := List.pairwise_iff_getElem.mp nd i j (by rw [List.length_map]; exact li) (by rw [List.length_map]; exact lj) (by omega)
  simp only [List.getElem_map, e1, e2] at ne
  exact ne z.symm
end
theorem valV_mem' {kvs : List (List Key × V)} {n : Nat} (d : DictOk n kvs) {k : List Key} (h : k ∈ kvs.map (·.1)) : ∃ a b c : Nat, k = kE a b ∧ valV kvs k = some (V.str (sg c)) ∧ a < b ∧ b < n ∧ Ltr c := by
  obtain ⟨v, e⟩ := d.has h
  obtain ⟨a, b, c, e1, rfl, r⟩ := d.at e
  exact ⟨a, b, c, e1, e, r⟩
theorem kE_inj {a b c d : Int} (h : kE a b = kE c d) : a = c ∧ b = d := by
  unfold kE at h
  injection h with h1 h2
  injection h1 with h1
  injection h2 with h2
  injection h2 with h2
  exact ⟨h1, h2⟩
theorem rise_keys {es : List (Addr × Int × Int)} {ts : List Tie} (e : ts.map (fun t => ((t.1 : Int), (t.2.1 : Int))) = es.map (·.2)) (nd : (es.map fun e => kE e.2.1 e.2.2).Nodup)
    (s : (es.map (·.2)).Pairwise (fun x y => SrtO.lexB y x = false)) : ts.Pairwise tlt := by
  rw [← e, List.pairwise_map] at s
  have e2 : (es.map fun e => kE e.2.1 e.2.2) = ts.map fun t => kE t.1 t.2.1 := by
    have z := congrArg (List.map fun q : Int × Int => kE q.1 q.2) e
    rw [List.map_map, List.map_map] at z
    exact z.symm
  rw [e2] at nd
  have nd' := List.pairwise_map.mp nd
  refine (List.Pairwise.and s nd').imp fun {x y} ⟨h1, h2⟩ => ?_
  have h3 : ¬ ((y.1 : Int) < x.1 ∨ ((y.1 : Int) = x.1 ∧ (y.2.1 : Int) < x.2.1)) := fun z => by
    rw [← SrtO.lexB_iff (p := ((y.1 : Int), (y.2.1 : Int))) (q := ((x.1 : Int), (x.2.1 : Int)))] at z
    rw [z] at h1; cases h1
  have h4 : ¬ (x.1 = y.1 ∧ x.2.1 = y.2.1) := fun z => h2 (by rw [z.1, z.2])
  unfold tlt
  omega
/-- names that lead each place of the one to a like place of the other -/
structure NamesOk (w w' : Web) (ns : List Nat) : Prop where
  len : ns.length = w.1.length
  nd : ns.Nodup
  like : ∀ p q : Nat, ns[p]? = some q → q < w'.1.length ∧ w'.1[q]? = w.1[p]?
theorem cut_take (xs : List V) (n : Nat) (h : n ≤ xs.length) : cutV xs none (some (n : Nat)) = xs.take n := by
  unfold cutV
  have e : HT.sIx xs.length xs.length (some ((n : Nat) : Int)) = min n xs.length := HT.sIx_nat xs.length xs.length n
  rw [HT.sIx_none, e, List.drop_zero, Nat.sub_zero, Nat.min_eq_left h]
end Cw

namespace Cw
open PySem PySem.Spec PyProof.Rows L2
/-! ### leads -/
abbrev Lead := List (Nat × Nat)
structure LOk (w w' : Web) (ld : Lead) : Prop where
  rise : ld.Pairwise (fun x y => x.1 < y.1)
  ends : (ld.map (·.2)).Nodup
  like : ∀ p ∈ ld, p.1 < w.1.length ∧ p.2 < w'.1.length ∧ w'.1[p.2]? = w.1[p.1]?
def PairAt (K : PySem.W.Frag) (H : Hp) (v : V) (p : Nat × Nat) : Prop := ∃ a, v = .ref a ∧ SqT K H a [.int (p.1 : Nat), .int (p.2 : Nat)]
theorem PairAt.same {K : PySem.W.Frag} {H H' : Hp} {v : V} {p : Nat × Nat} (x : PairAt K H v p) (s : Same H H') : PairAt K H' v p := by
  obtain ⟨a, e, q⟩ := x
  exact ⟨a, e, Same.sqt s q⟩
theorem PairAt.keep {K : PySem.W.Frag} {H H' : Hp} {v : V} {p : Nat × Nat} {h : Addr} {ys : List V} (x : PairAt K H v p) (k : Keep h H H') (e : H h = some (.lst ys)) : PairAt K H' v p := by
  obtain ⟨a, e', q⟩ := x
  exact ⟨a, e', k.sqt e q⟩
theorem PairAt.put {K : PySem.W.Frag} {H : Hp} {v : V} {p : Nat × Nat} {b : Addr} {o : HO} (x : PairAt K H v p) (n : H b = none ∨ ∃ ys, H b = some (.lst ys)) : PairAt K (upd H b o) v p := by
  obtain ⟨a, e, q⟩ := x
  exact ⟨a, e, sqt_upd n q⟩
def Pairs (K : PySem.W.Frag) (H : Hp) (pvs : List V) (ld : Lead) : Prop := Paired (PairAt K H) pvs ld
section
variable {K : PySem.W.Frag} {H H' : Hp} {pvs : List V} {ld : Lead} {h b : Addr} {ys : List V} {o : HO}
theorem Pairs.same (x : Pairs K H pvs ld) (s : Same H H') : Pairs K H' pvs ld := Paired.imp x fun _ _ z => z.same s
theorem Pairs.keep (x : Pairs K H pvs ld) (k : Keep h H H') (e : H h = some (.lst ys)) : Pairs K H' pvs ld := Paired.imp x fun _ _ z => z.keep k e
theorem Pairs.put (x : Pairs K H pvs ld) (n : H b = none ∨ ∃ ys, H b = some (.lst ys)) : Pairs K (upd H b o) pvs ld := Paired.imp x fun _ _ z => z.put n
/-- one more pair, at a new place, and the list itself -/
theorem Pairs.more {p q : Nat} {l : Addr} {zs : List V} (x : Pairs K H pvs ld) (e : H l = some (.lst ys)) (f : H b = none) : Pairs K (upd (upd H b (.tup [.int (p : Nat), .int (q : Nat)])) l (.lst zs)) (pvs ++ [.ref b]) (ld ++ [(p, q)]) := by
  have el : (upd H b (.tup [.int (p : Nat), .int (q : Nat)])) l = some (.lst ys) := at_upd e f
  exact Paired.snoc ((x.put (.inl f)).put (.inr ⟨_, el⟩)) ⟨b, rfl, sqt_upd (.inr ⟨_, el⟩) (SqT.of upd_same)⟩
theorem Pairs.len (x : Pairs K H pvs ld) : pvs.length = ld.length := Paired.length x
end
theorem LOk.few {w w' : Web} {ld : Lead} (l : LOk w w' ld) : ld.length ≤ w'.1.length := by
  have := nodup_len w'.1.length (ld.map (·.2)) l.ends fun x hx => by
    obtain ⟨p, hp, rfl⟩ := List.mem_map.mp hx
    exact (l.like p hp).2.1
  rwa [List.length_map] at this
theorem eqv_nil (ds : List PyData) : PyData.eqv (.list ds) (.list []) = ds.isEmpty := by
  cases ds <;> simp [PyData.eqv, PyData.eqvAll]
theorem erase_zs (ls : List Nat) (j : Nat) : (zs ls).eraseIdx j = zs (ls.eraseIdx j) := erase_map _ _ _
theorem zs_at {ls : List Nat} {j x : Nat} : (zs ls)[j]? = some (x : Int) ↔ ls[j]? = some x := by
  unfold zs
  rw [List.getElem?_map, Option.map_eq_some_iff]
  constructor
  · rintro ⟨a, ha, e⟩
    rw [ha]; congr 1; omega
  · intro h
    exact ⟨x, h, rfl⟩
theorem nodup_at {ls : List Nat} (nd : ls.Nodup) {i j x : Nat} (h1 : ls[i]? = some x) (h2 : ls[j]? = some x) : i = j := by
  obtain ⟨l1, e1⟩ := List.getElem?_eq_some_iff.mp h1
  obtain ⟨l2, e2⟩ := List.getElem?_eq_some_iff.mp h2
  rcases Nat.lt_trichotomy i j with z | z | z
  · exact absurd (e1.trans e2.symm) (List.pairwise_iff_getElem.mp nd i j l1 l2 z)
  · exact z
  · exact absurd (e2.trans e1.symm) (List.pairwise_iff_getElem.mp nd j i l2 l1 z)
theorem nodup_erase {ls : List Nat} (nd : ls.Nodup) {j x : Nat} (h : ls[j]? = some x) : ∀ y, y ∈ ls.eraseIdx j ↔ y ∈ ls ∧ y ≠ x := by
  intro y
  obtain ⟨l1, e1⟩ := List.getElem?_eq_some_iff.mp h
  have p := erase_perm ls j l1
  rw [e1] at p
  have nd2 := p.nodup_iff.mpr nd
  rw [List.nodup_cons] at nd2
  have m := p.mem_iff (a := y)
  rw [List.mem_cons] at m
  constructor
  · intro hy
    exact ⟨m.mp (.inr hy), fun z => nd2.1 (z ▸ hy)⟩
  · rintro ⟨hy, ne⟩
    rcases m.mpr hy with z | z
    · exact absurd z ne
    · exact z
/-! ### led ties -/
def ldAt (ld : Lead) (p : Nat) : Option Nat := (ld.find? fun q => q.1 == p).map (·.2)
def isLed (w' : Web) (ld : Lead) (t : Tie) : Bool := match ldAt ld t.1, ldAt ld t.2.1 with
  | some a, some b => decide (tieL w'.2 a b = some t.2.2)
  | _, _ => false
def dueL (w w' : Web) (ld : Lead) : List Tie := w.2.filter (isLed w' ld)
theorem ldAt_nil (p : Nat) : ldAt [] p = none := rfl
theorem ldAt_pos {x : Nat × Nat} {r : Lead} {p : Nat} (e : x.1 = p) : ldAt (x :: r) p = some x.2 := by
  unfold ldAt; rw [List.find?_cons_of_pos (by simp [e])]; rfl
theorem ldAt_neg {x : Nat × Nat} {r : Lead} {p : Nat} (e : x.1 ≠ p) : ldAt (x :: r) p = ldAt r p := by
  unfold ldAt; rw [List.find?_cons_of_neg (by simp [e])]
theorem ldAt_none {ld : Lead} {p : Nat} (h : ∀ q ∈ ld, q.1 ≠ p) : ldAt ld p = none := by
  unfold ldAt
  rw [List.find?_eq_none.mpr fun q hq => by simp [h q hq]]; rfl
theorem filt_at (p : Nat) : ∀ ld : Lead, ld.Pairwise (fun x y => x.1 < y.1) → (ld.filter fun q => q.1 == p).map (·.2) = (ldAt ld p).toList
  | [], _ => rfl
  | x :: r, s => by
    obtain ⟨h, t⟩ := List.pairwise_cons.mp s
    by_cases e : x.1 = p
    · rw [ldAt_pos e, List.filter_cons_of_pos (by simp [e]), List.map_cons, filt_at p r t, ldAt_none fun q hq => by have := h q hq; omega]; rfl
    · rw [ldAt_neg e, List.filter_cons_of_neg (by simp [e])]; exact filt_at p r t
theorem ldAt_mem {ld : Lead} {p q : Nat} (h : ldAt ld p = some q) : (p, q) ∈ ld := by
  unfold ldAt at h
  obtain ⟨x, hx, rfl⟩ := Option.map_eq_some_iff.mp h
  have e : x.1 = p := by simpa using List.find?_some hx
  subst e
  exact List.mem_of_find?_eq_some hx
theorem led_merge (k : Nat) : ∀ (ld : Lead) (acc : List (Key × V)), ld.Pairwise (fun x y => x.1 < y.1) → valV (mergeK acc (ld.map fun p => ((.inl (p.1 : Int) : Key), V.int (p.2 : Nat)))) (.inl (k : Int)) = ((ldAt ld k).map fun q => V.int (q : Nat)).or (valV acc (.inl (k : Int)))
  | [], acc, _ => rfl
  | x :: r, acc, s => by
    obtain ⟨h, t⟩ := List.pairwise_cons.mp s
    show valV (mergeK (putK acc (.inl (x.1 : Int)) (V.int (x.2 : Nat))) (r.map _)) _ = _
    rw [led_merge k r _ t, valV_put]
    by_cases e : x.1 = k
    · rw [ldAt_pos e, ldAt_none fun q hq => by have := h q hq; omega, e, if_pos rfl]; rfl
    · rw [ldAt_neg e, if_neg (by intro z; injection z with z; omega)]
theorem led_dict (ld : Lead) (s : ld.Pairwise (fun x y => x.1 < y.1)) (k : Nat) : valV (mergeK [] (ld.map fun p => ((.inl (p.1 : Int) : Key), V.int (p.2 : Nat)))) (.inl (k : Int)) = (ldAt ld k).map fun q => V.int (q : Nat) := by
  rw [led_merge k ld [] s]
  show Option.or _ none = _
  rw [Option.or_none]
theorem optV_get (o : Option Nat) : (o.map fun c => V.str (sg c)).getD .non = optV o := by cases o <;> rfl
theorem optV_str (o : Option Nat) (c : Nat) : scal (optV o) (.str (sg c)) = true := by cases o <;> rfl
theorem optV_eq (o : Option Nat) (c : Nat) : decide (optV o = .str (sg c)) = decide (o = some c) := by
  cases o with
  | none => rfl
  | some d =>
    rw [Bool.eq_iff_iff, decide_eq_true_eq, decide_eq_true_eq]
    constructor
    · intro z
      injection z with z
      rw [sg_inj.mp z]
    · intro z
      cases z; rfl
theorem due_snoc {w' : Web} {ld : Lead} {ts : List Tie} {i : Nat} {t : Tie} (h : ts[i]? = some t) : (ts.take (i + 1)).filter (isLed w' ld) = (ts.take i).filter (isLed w' ld) ++ if isLed w' ld t = true then [t] else [] := by
  rw [take_snoc h, List.filter_append]
  congr 1
  by_cases c : isLed w' ld t = true
  · rw [if_pos c, List.filter_cons_of_pos c]; rfl
  · rw [if_neg c, List.filter_cons_of_neg c]; rfl
def Ties (K : PySem.W.Frag) (H : Hp) (xs : List V) (ts : List Tie) : Prop := Paired (TieAt K H) xs ts
section
variable {K : PySem.W.Frag} {H H' : Hp} {xs : List V} {ts : List Tie} {h b : Addr} {ys : List V} {o : HO}
theorem Ties.same (x : Ties K H xs ts) (s : Same H H') : Ties K H' xs ts := Paired.imp x fun _ _ z => z.same s
theorem Ties.keep (x : Ties K H xs ts) (k : Keep h H H') (e : H h = some (.lst ys)) : Ties K H' xs ts := Paired.imp x fun _ _ z => z.keep k e
theorem Ties.put (x : Ties K H xs ts) (n : H b = none ∨ ∃ ys, H b = some (.lst ys)) : Ties K (upd H b o) xs ts := Paired.imp x fun _ _ z => z.put n
theorem Ties.more {t : Tie} {l : Addr} {zs : List V} (x : Ties K H xs ts) (e : H l = some (.lst ys)) (f : H b = none) : Ties K (upd (upd H b (.tup [.int (t.1 : Nat), .int (t.2.1 : Nat), .str (sg t.2.2)])) l (.lst zs)) (xs ++ [.ref b]) (ts ++ [t]) := by
  have el : (upd H b (.tup [.int (t.1 : Nat), .int (t.2.1 : Nat), .str (sg t.2.2)])) l = some (.lst ys) := at_upd e f
  exact Paired.snoc ((x.put (.inl f)).put (.inr ⟨_, el⟩)) ⟨b, rfl, sqt_upd (.inr ⟨_, el⟩) (SqT.of upd_same)⟩
theorem Ties.len (x : Ties K H xs ts) : xs.length = ts.length := Paired.length x
end
theorem two_led {ld : Lead} {t : Tie} (h : ((ldAt ld t.1).toList ++ (ldAt ld t.2.1).toList).length = 2) : ∃ x y, ldAt ld t.1 = some x ∧ ldAt ld t.2.1 = some y := by
  cases e1 : ldAt ld t.1 <;> cases e2 : ldAt ld t.2.1 <;> rw [e1, e2] at h <;> simp at h
  exact ⟨_, _, rfl, rfl⟩
theorem not_two {w' : Web} {ld : Lead} {t : Tie} (h : ¬ ((ldAt ld t.1).toList ++ (ldAt ld t.2.1).toList).length = 2) : isLed w' ld t = false := by
  unfold isLed
  cases e1 : ldAt ld t.1 <;> cases e2 : ldAt ld t.2.1 <;> rw [e1, e2] at h <;> simp at h <;> rfl
theorem isLed_at {w' : Web} {ld : Lead} {t : Tie} {x y : Nat} (h1 : ldAt ld t.1 = some x) (h2 : ldAt ld t.2.1 = some y) : isLed w' ld t = decide (tieL w'.2 x y = some t.2.2) := by
  unfold isLed; rw [h1, h2]
theorem isLed_no {w' : Web} {ld : Lead} {t : Tie} (h : ldAt ld t.1 = none ∨ ldAt ld t.2.1 = none) : isLed w' ld t = false := by
  unfold isLed
  rcases h with h | h
  · rw [h]
  · rw [h]; cases ldAt ld t.1 <;> rfl
theorem Pairs.refs {K : PySem.W.Frag} {H : Hp} : ∀ {pvs : List V} {ld : Lead}, Pairs K H pvs ld → ∃ ps : List Addr, pvs = ps.map V.ref ∧ Paired (fun p (kv : Key × V) => SqT K H p [kV kv.1, kv.2]) ps (ld.map fun p => ((.inl (p.1 : Int) : Key), V.int (p.2 : Nat)))
  | _, _, .nil => ⟨[], rfl, .nil⟩
  | _, _, .cons h t => by
    obtain ⟨a, rfl, q⟩ := h
    obtain ⟨ps, rfl, r⟩ := Pairs.refs t
    exact ⟨a :: ps, rfl, .cons q r⟩
end Cw

namespace Cw
open PySem PySem.Spec PyProof.Rows L2
/-! ### data told -/
def tieD (t : Tie) : PyData := .tuple [.int (t.1 : Nat), .int (t.2.1 : Nat), .str (sg t.2.2)]
def pairD (p : Nat × Nat) : PyData := .tuple [.int (p.1 : Nat), .int (p.2 : Nat)]
def tiesD (ts : List Tie) : PyData := .list (ts.map tieD)
def pairsD (ld : Lead) : PyData := .list (ld.map pairD)
theorem Ties.dpa {K : PySem.W.Frag} {H : Hp} : ∀ {xs : List V} {ts : List Tie}, Ties K H xs ts → DpAll K H xs (ts.map tieD)
  | _, _, .nil => .nil
  | _, _, .cons h t => by
    obtain ⟨a, rfl, q⟩ := h
    exact .cons (.tup q (.cons (.int _) (.cons (.int _) (.cons (.str _) .nil)))) (Ties.dpa t)
theorem Pairs.dpa {K : PySem.W.Frag} {H : Hp} : ∀ {xs : List V} {ts : Lead}, Pairs K H xs ts → DpAll K H xs (ts.map pairD)
  | _, _, .nil => .nil
  | _, _, .cons h t => by
    obtain ⟨a, rfl, q⟩ := h
    exact .cons (.tup q (.cons (.int _) (.cons (.int _) .nil))) (Pairs.dpa t)
theorem Ties.dp {K : PySem.W.Frag} {H : Hp} {xs : List V} {ts : List Tie} {l : Addr} (x : Ties K H xs ts) (e : H l = some (.lst xs)) : Dp K H (.ref l) (tiesD ts) := .lst (SqL.of e) x.dpa
theorem Pairs.dp {K : PySem.W.Frag} {H : Hp} {xs : List V} {ts : Lead} {l : Addr} (x : Pairs K H xs ts) (e : H l = some (.lst xs)) : Dp K H (.ref l) (pairsD ts) := .lst (SqL.of e) x.dpa
theorem lay_all : ∀ {ds : List PyData} {k : Nat}, (∀ d ∈ ds, d.canLay0 = true ∧ d.depth ≤ k) → PyData.canLayAll0 ds = true ∧ PyData.depthAll ds ≤ k
  | [], k, _ => ⟨by simp [PyData.canLayAll0], by simp [PyData.depthAll]⟩
  | d :: ds, k, h => by
    obtain ⟨h1, h2⟩ := lay_all (ds := ds) (k := k) fun x hx => h x (List.mem_cons_of_mem _ hx)
    obtain ⟨h3, h4⟩ := h d List.mem_cons_self
    exact ⟨by simp [PyData.canLayAll0, h1, h3], by simp only [PyData.depthAll]; omega⟩
theorem shaped_list {ds : List PyData} {k : Nat} (hk : k ≤ 63) (h : ∀ d ∈ ds, d.canLay0 = true ∧ d.depth ≤ k) : SeqAt.shaped (.list ds) = true := by
  obtain ⟨h1, h2⟩ := lay_all h
  have : PyData.depth (.list ds) ≤ 64 := by simp only [PyData.depth]; omega
  simp [SeqAt.shaped, PyData.canLay0, h1, this]
theorem good_eqv {d : PyData} (h : SeqAt.shaped d = true) : PyData.eqv d d = true := SeqAt.eqv_refl d (SeqAt.canLay_of_shaped h)
theorem str_ok : ∀ c : Nat, c < 123 → PyData.strOk (sg c) = true := fun c h => by
  unfold PyData.strOk sg
  simp; omega
theorem tieD_lay {t : Tie} (h : Ltr t.2.2) : (tieD t).canLay0 = true ∧ (tieD t).depth ≤ 1 := by
  have := str_ok t.2.2 (by unfold Ltr at h; omega)
  unfold tieD
  simp [PyData.canLay0, PyData.canLayAll0, PyData.depth, PyData.depthAll, this]
theorem pairD_lay (p : Nat × Nat) : (pairD p).canLay0 = true ∧ (pairD p).depth ≤ 1 := by
  unfold pairD
  simp [PyData.canLay0, PyData.canLayAll0, PyData.depth, PyData.depthAll]
theorem tiesD_good {ts : List Tie} (h : ∀ t ∈ ts, Ltr t.2.2) : SeqAt.shaped (tiesD ts) = true := shaped_list (k := 1) (by decide) fun d hd => by
  obtain ⟨t, ht, rfl⟩ := List.mem_map.mp hd
  exact tieD_lay (h t ht)
theorem pairsD_good (ld : Lead) : SeqAt.shaped (pairsD ld) = true := shaped_list (k := 1) (by decide) fun d hd => by
  obtain ⟨t, ht, rfl⟩ := List.mem_map.mp hd
  exact pairD_lay t
theorem due_good {w w' : Web} (W : WOk w) (ld : Lead) : SeqAt.shaped (tiesD (dueL w w' ld)) = true := tiesD_good fun t ht => (W.ends t (List.mem_filter.mp ht).1).2.2
/-! ### what is held -/
def HeldG (K : PySem.W.Frag) (H : Hp) (hd : Addr) (m : Nat) : Prop := ∃ (hs : List V) (xs : List PyData), H hd = some (.lst hs) ∧ hs.length ≤ m ∧ DpAll K (del H hd) hs (xs.map fun x => PyData.list [x, x]) ∧ ∀ x ∈ xs, SeqAt.shaped x = true
/-- and nothing of it at h -/
def HeldH (K : PySem.W.Frag) (H : Hp) (hd h : Addr) (m : Nat) : Prop := ∃ (hs : List V) (xs : List PyData), H hd = some (.lst hs) ∧ hs.length ≤ m ∧ DpAll K (del (del H hd) h) hs (xs.map fun x => PyData.list [x, x]) ∧ ∀ x ∈ xs, SeqAt.shaped x = true
section
variable {K : PySem.W.Frag} {H H' : Hp} {hd h : Addr} {m n : Nat}
theorem HeldG.same (x : HeldG K H hd m) (s : Same H H') : HeldG K H' hd m := by
  obtain ⟨hs, xs, e, l, a, g⟩ := x
  exact ⟨hs, xs, s _ _ e, l, dpa_same (Keep.del (Same.keep s)) _ _ a, g⟩
theorem HeldG.mono (x : HeldG K H hd m) (h : m ≤ n) : HeldG K H hd n := by
  obtain ⟨hs, xs, e, l, a, g⟩ := x
  exact ⟨hs, xs, e, Nat.le_trans l h, a, g⟩
theorem HeldG.hand (x : HeldG K H hd m) (s : Same H H') (f : H h = none) : HeldH K H' hd h m := by
  obtain ⟨hs, xs, e, l, a, g⟩ := x
  refine ⟨hs, xs, s _ _ e, l, dpa_same (fun b o hb => ?_) _ _ a, g⟩
  have h1 := del_same _ _ b o hb
  rw [del_ne (ne_of_none h1 f)]
  exact Keep.del (Same.keep s) b o hb
theorem HeldH.out (x : HeldH K H hd h m) : HeldG K H hd m := by
  obtain ⟨hs, xs, e, l, a, g⟩ := x
  exact ⟨hs, xs, e, l, dpa_same (del_same _ _) _ _ a, g⟩
theorem keep_dd (k : Keep h H H') : Same (del (del H hd) h) (del (del H' hd) h) := Keep.del fun b o nb e => by
  have := del_same _ _ b o e
  by_cases n : b = hd
  · unfold del at e; rw [if_pos n] at e; cases e
  · rw [del_ne n]; exact k b o nb this
theorem HeldH.keep (x : HeldH K H hd h m) (k : Keep h H H') (n : hd ≠ h) : HeldH K H' hd h m := by
  obtain ⟨hs, xs, e, l, a, g⟩ := x
  exact ⟨hs, xs, k _ _ n e, l, dpa_same (keep_dd k) _ _ a, g⟩
theorem HeldH.same (x : HeldH K H hd h m) (s : Same H H') (n : hd ≠ h) : HeldH K H' hd h m := x.keep (Same.keep s) n
end
theorem sqt_del {K : PySem.W.Frag} {H : Hp} {a b : Addr} {xs ys : List V} (e : H b = some (.lst ys)) (q : SqT K H a xs) : SqT K (del H b) a xs := by
  rcases q with (q | ⟨o, q⟩) | q
  · exact .inl (.inl (del_at (ne_of q e (by intro z; cases z)) q))
  · exact .inl (.inr ⟨o, del_at (ne_of q e (by intro z; cases z)) q⟩)
  · exact .inr q
theorem Ties.del {K : PySem.W.Frag} {H : Hp} {b : Addr} {xs ys : List V} {ts : List Tie} (x : Ties K H xs ts) (e : H b = some (.lst ys)) : Ties K (Cw.del H b) xs ts := Paired.imp x fun _ _ ⟨a, r, q⟩ => ⟨a, r, sqt_del e q⟩
/-- a pair of lists of ties, held -/
theorem dp_two {K : PySem.W.Frag} {H : Hp} {hd h r t f : Addr} {hs hv tv fv : List V} {ts : List Tie} (ehd : H hd = some (.lst hs)) (eh : H h = some (.lst hv)) (er : H r = some (.lst [.ref t, .ref f])) (et : H t = some (.lst tv)) (ef : H f = some (.lst fv)) (x : Ties K H tv ts) (y : Ties K H fv ts)
    (n0 : h ≠ hd) (n1 : r ≠ hd) (n2 : t ≠ hd) (n3 : f ≠ hd) (m1 : r ≠ h) (m2 : t ≠ h) (m3 : f ≠ h) : Dp K (del (del H hd) h) (.ref r) (.list [tiesD ts, tiesD ts]) := by
  have eh' := del_at n0 eh
  refine .lst (SqL.of (del_at m1 (del_at n1 er))) (.cons ?_ (.cons ?_ .nil))
  · exact ((x.del ehd).del eh').dp (del_at m2 (del_at n2 et))
  · exact ((y.del ehd).del eh').dp (del_at m3 (del_at n3 ef))
end Cw

/-! list(reversed(xs)), xs[i:j:k] -/
namespace Cw
open PySem PySem.Spec PySem.Calls PyProof.Rows L2
section
variable {prog : Program} {w : World} {A : Around} {E : Value → Shared → Prop} {s : Shared} {rv l S : Addr} {items : Array Value}
abbrev BackOf (items : Array Value) (acc : Array Value) : Prop := ItemsOf (fun k y => items[items.size - 1 - k]? = some y) acc items.size
theorem rv_extend {R : Result → Shared → Prop} (hh : A.handled = none) (hit : s.heap.IsRevIter rv l ((items.size : Int) - 1)) (hl : s.heap.IsList l items) (hli : l ≠ rv) (hiS : rv ≠ S) (hlS : l ≠ S) (res : Value) (c₀ : Nat) (hS : s.heap.get? S = some { cls := .type "list", data := .seq #[] c₀ })
    (hR : ∀ h' tk acc c, (∀ b o, b ≠ S → b ≠ rv → s.heap.get? b = some o → h'.get? b = some o) → h'.get? S = some { cls := .type "list", dict := none, data := .seq acc c, slots := #[] } → BackOf items acc → R (.ok (.ret res)) { s with heap := h', toks := tk })
    (hn : items.size ≤ sizeLine) :
    wpAny (model prog w) A.in1 (Builtin.List.listExtendWith (.ref S) (.ref rv) res)
      (fun fin s' => match fin with | .done f => R (.ok f) s' | .again c' => c'.quiet = true ∧ codeAny (model prog w) A c' R s') (fun e s' => R (.error e) s') s := by
  have Wk := (Walks.listRev (prog := prog) (w := w) (A := A.in1) hh rv l hli items).toS
  have apart : S ∉ [rv, l] := by
    simp only [List.mem_cons, List.not_mem_nil, or_false, not_or]
    exact ⟨hiS.symm, hlS.symm⟩
  have tyR : s.TypeIs (.ref rv) "list_reverseiterator" := Heap.IsRevIter.typeIs hit
  have ns : Builtin.List.listSameRef (.ref S) (.ref rv) = false := by
    simp [Builtin.List.listSameRef, hiS.symm]
  unfold Builtin.List.listExtendWith
  refine wpAny_bind (wpAny_typeOf tyR ?_)
  rw [if_neg (by rw [ns]; decide)]
  refine wpAny_bind (wpAny_pyIter_revIter (s := s) hit ?_)
  refine wpAny_bind (wpAny_holding ?_)
  unfold Builtin.List.listLengthHint
  refine wpAny_bind (wpAny_specialOf tyR RT.nolen_lri ?_)
  show wpAny _ A.in1 (specialOf (Value.ref rv) (Str.ofString "__length_hint__") >>= _) _ _ _
  refine wpAny_bind (wpAny_specialOf tyR RT.hint_lri ?_)
  generalize hid : ("list_reverseiterator.__length_hint__" : String) = nm
  wp_delta
  rw [show splitId nm = some ("list_reverseiterator", "__length_hint__") from by subst hid; decide +kernel]
  subst hid
  refine wpAny_bind (wpAny_isInstance (b := true) tyR (by rw [isSubtype_type]; kernel_rfl) ?_)
  refine wpAny_pure ?_
  rw [if_neg (by decide)]
  have z0 : ((items.size : Nat) : Int) - 1 - ((0 : Nat) : Int) = (items.size : Int) - 1 := by omega
  refine wpAny_pure ⟨plainId_quiet PySem.F.plain_extend_loop _, codeAny_extend_loopS Wk hn _ apart _ items.size 0 _ _ _ rfl (Nat.zero_le _) ⟨Nat.zero_le _, by rw [z0]; exact hit, hl⟩ hS (ItemsOf.nil _) fun s' acc' c' mv eS got => ?_⟩
  rw [Moved.eq_with mv]
  refine hR s'.heap s'.toks acc' c' (fun b o h1 h2 q => mv.heap b o (fun m => ?_) q) eS got
  rcases List.mem_cons.mp m with m | m
  · exact h1 m
  · exact h2 (List.mem_singleton.mp m)
theorem rv_call {Q : Value → Shared → Prop} (hh : A.handled = none) (hit : s.heap.IsRevIter rv l ((items.size : Int) - 1)) (hl : s.heap.IsList l items) (hli : l ≠ rv) (hn : items.size ≤ sizeLine)
    (hQ : ∀ h' tk acc c, (∀ b o, b ≠ rv → s.heap.get? b = some o → h'.get? b = some o) → h'.get? s.heap.objs.size = some { cls := .type "list", dict := none, data := .seq acc c, slots := #[] } → BackOf items acc → Q (.ref s.heap.objs.size) { s with heap := h', toks := tk }) :
    wpAny (model prog w) A (call (.type "list") [.ref rv]) Q E s := by
  refine callType_codes (Q₁ := fun obj s₁ => obj = .ref s.heap.objs.size ∧ s₁ = { s with heap := s.heap.push { cls := .type "list", data := .seq #[] } }) PySem.F.called_list (PySem.F.typeCall_list_1 _) PySem.F.entry_list_init (code_list_new _ ⟨rfl, rfl⟩) fun obj s₁ h₁ => ?_
  obtain ⟨rfl, rfl⟩ := h₁
  have hS : (s.heap.push { cls := .type "list", data := .seq #[] }).get? s.heap.objs.size = some { cls := .type "list", data := .seq #[] } := Heap.get?_push_size _ rfl
  have k1 : ∀ b o, s.heap.get? b = some o → (s.heap.push { cls := .type "list", data := .seq #[] }).get? b = some o := fun b o q => Heap.get?_push_of_some _ q
  have hiS : rv < s.heap.objs.size := by obtain ⟨_, q, _⟩ := hit; exact Heap.lt_size q
  have hlS : l < s.heap.objs.size := by obtain ⟨_, q, _⟩ := hl; exact Heap.lt_size q
  refine ⟨⟨_, hS, rfl⟩, PySem.F.args_list_init_2 _ _, ?_⟩
  show wpAny _ _ (do let old ← Builtin.List.listItems (.ref s.heap.objs.size); Builtin.List.listUpdate (.ref s.heap.objs.size) (fun _ => #[]); letGo old.toList.reverse; Builtin.List.listExtendWith (.ref s.heap.objs.size) (.ref rv) .none) _ _ _
  refine wpAny_bind ?_; unfold Builtin.List.listItems; refine wpAny_bind (wpAny_seqItems hS rfl (wpAny_pure ?_))
  show wpAny _ _ (updateSeq s.heap.objs.size (fun _ => #[]) >>= fun _ => letGo (#[] : Array Value).toList.reverse >>= fun _ => Builtin.List.listExtendWith (.ref s.heap.objs.size) (.ref rv) .none) _ _ _
  refine wpAny_bind (wpAny_updateSeq hS rfl (wpAny_bind (wpAny_letGo ?_)))
  have hS₂ := Heap.get?_update_self (Obj.mapSeq (fun _ => (#[] : Array Value))) hS rfl
  have k2 : ∀ b o, b ≠ s.heap.objs.size → s.heap.get? b = some o → ((s.heap.push { cls := .type "list", data := .seq #[] }).update s.heap.objs.size (Obj.mapSeq (fun _ => (#[] : Array Value)))).get? b = some o := fun b o hb q => (Heap.get?_update_other _ _ (Ne.symm hb)).trans (k1 b o q)
  refine rv_extend (A := A.in1) (s := { s with heap := (s.heap.push { cls := .type "list", data := .seq #[] }).update s.heap.objs.size (Obj.mapSeq (fun _ => (#[] : Array Value))) }) hh (hit.at fun o q => k2 rv o (Nat.ne_of_lt hiS) q) (hl.at fun o q => k2 l o (Nat.ne_of_lt hlS) q) hli (Nat.ne_of_lt hiS) (Nat.ne_of_lt hlS) .none _ hS₂ (fun h' tk acc c hk hS' got => ?_) hn
  exact ⟨rfl, hQ h' tk acc c (fun b o h1 q => hk b o (Nat.ne_of_lt (Heap.lt_size q)) h1 (k2 b o (Nat.ne_of_lt (Heap.lt_size q)) q)) hS' got⟩
end
/-- list(reversed(x)), x a list: a new list -/
def tLstRev (K : PySem.W.Frag) (te : TE) : TE := fun σ H Q => te σ H fun v H1 => ∃ (a : Addr) (xs : List V), v = .ref a ∧ SqL K H1 a xs ∧ ∀ q, H1 q = none → Q (.ref q) (upd H1 q (.lst xs.reverse))
section
variable {X : Cx}
theorem pe_lstRev {e : Expr} {te : TE} {p p2 pos pos2 : Pos} (hc : X.calm = true) (hg : Gl X "list") (hm : X.mg "list" = none) (hg2 : Gl X "reversed") (hm2 : X.mg "reversed" = none) (he : PE X e te)
    (hs : starEach [e] X.env = (false, eval e X.env) :: starEach [] X.env := by rfl)
    (hs2 : starEach [.Call (.Name "reversed" p2) [e] [] pos2] X.env = (false, eval (.Call (.Name "reversed" p2) [e] [] pos2) X.env) :: starEach [] X.env := by rfl) :
    PE X (.Call (.Name "list" p) [.Call (.Name "reversed" p2) [e] [] pos2] [] pos) (tLstRev X.K te) := by
  refine ⟨fun pins s σ H Q I h => ?_⟩
  refine Call_ (ld_blt I hg hm boot_list (PyProof.Rows.callWith_type1 (args_cons (Call_ (ld_blt I hg2 hm2 PyProof.Rows.boot_reversed (PyProof.Rows.callWith_type1 (args_cons (thn (he.run pins s σ H _ I h) fun u s1 ⟨v, H1, I1, r1, q1⟩ => args_nil ?_) hs) hs rfl))) hs2) hs2 rfl))
  obtain ⟨a, xs, rfl, hx, q⟩ := q1
  cases r1
  obtain ⟨its, rel, pl, hz⟩ := I1.list hx
  refine call_reversed_list pl.isList (args_nil ?_)
  have up : ∀ b o, s1.heap.get? b = some o → (s1.heap.push (revObj a ((its.toArray.size : Int) - 1))).get? b = some o := fun b o z => Heap.get?_push_of_some _ z
  have I2 : Inv X pins σ H1 { s1 with heap := s1.heap.push (revObj a ((its.toArray.size : Int) - 1)) } := I1.kept (t' := s1.toks) up
  obtain ⟨f0, f1, f2, f3, f4, f5⟩ := I1.fpOk (H' := H1) (b := s1.heap.objs.size) (Nat.le_refl _) (I1.hok.fresh (Nat.le_refl _))
  have lst := pl.isList
  obtain ⟨ol, eol, _⟩ := id lst
  have apart : a ≠ s1.heap.objs.size := Nat.ne_of_lt (Heap.lt_size eol)
  have few : its.toArray.size ≤ sizeLine := by rw [List.size_toArray, ← rel.length]; exact hz
  refine rv_call (s := { s1 with heap := s1.heap.push (revObj a ((its.toArray.size : Int) - 1)) }) (I1.ok.hd hc) ⟨_, Heap.get?_push_size _ rfl, rfl, rfl⟩ (lst.push _) apart few fun h' tk acc c hk eS got => ?_
  have sz1 : (s1.heap.push (revObj a ((its.toArray.size : Int) - 1))).objs.size = s1.heap.objs.size + 1 := Heap.size_push ..
  -- the new list is no older than the iterator
  have I3 : Inv X pins σ (upd H1 (s1.heap.push (revObj a ((its.toArray.size : Int) - 1))).objs.size (.lst xs.reverse)) { s1 with heap := h', toks := tk } := by
    have k3 : ∀ b u, s1.heap.get? b = some u → h'.get? b = some u := fun b u z => hk b u (Nat.ne_of_lt (Heap.lt_size z)) (up b u z)
    refine I1.laid (t' := tk) k3 (by rw [sz1]; exact Nat.le_succ _) ⟨by rw [List.length_reverse]; exact hz, acc.toList, c, RT.vals_rev rel got, ?_⟩
    rw [Array.toArray_toList]
    exact eS
  exact ⟨.ref _, _, I3, rfl, q _ (I1.hok.fresh (by rw [sz1]; exact Nat.le_succ _))⟩
/-! ### a part of a list by steps: some of its items -/
def tSlStep (K : PySem.W.Frag) (te : TE) (tl tu ts : TO) : TE := fun σ H Q => te σ H fun x H1 => tl σ H1 fun _ H2 => tu σ H2 fun _ H3 => ts σ H3 fun st H4 => ∃ a xs, x = .ref a ∧ SqL K H4 a xs ∧ st ≠ some 0 ∧
  ∀ p ys, (∀ y ∈ ys, y ∈ xs) → ys.length ≤ xs.length → H4 p = none → Q (.ref p) (upd H4 p (.lst ys))
theorem picks_rel {xs : List V} {us : List Value} (r : Vals xs us) : ∀ ks : List Nat, Vals (ks.filterMap (xs[·]?)) (ks.filterMap (us.toArray[·]?))
  | [] => .nil
  | k :: ks => by
    rw [List.filterMap_cons, List.filterMap_cons]
    cases c : xs[k]? with
    | none =>
      have d : us.toArray[k]? = none := by simpa using r.none_of c
      rw [d]
      exact picks_rel r ks
    | some x =>
      obtain ⟨u, e1, e2⟩ := r.get c
      have d : us.toArray[k]? = some u := by simpa using e1
      rw [d]
      exact .cons e2 (picks_rel r ks)
theorem pe_slStep {e lo hi st : Expr} {te : TE} {tl tu ts : TO} {p3 pos : Pos} (he : PE X e te) (hl : PO X (some lo) tl) (hu : PO X (some hi) tu) (hs : PO X (some st) ts) : PE X (.Subscript e (.Slice (some lo) (some hi) (some st) p3) pos) (tSlStep X.K te tl tu ts) := by
  refine ⟨fun pins s σ H Q I h => ?_⟩
  refine Subscript_ (thn (he.run pins s σ H _ I h) fun v s1 ⟨x, H1, I1, r1, q1⟩ => ?_)
  refine wpAny_Slice (thn (hl.run pins s1 σ H1 _ I1 q1) fun vl s2 ⟨l, H2, I2, pl, q2⟩ => thn (hu.run pins s2 σ H2 _ I2 q2) fun vu s3 ⟨u, H3, I3, pu, q3⟩ => thn (hs.run pins s3 σ H3 _ I3 q3) fun vs s4 ⟨o, H4, I4, ps, q4⟩ => ?_)
  obtain ⟨a, xs, rfl, hx, n0, q⟩ := q4
  cases r1
  have I5 : Inv X pins σ H4 { s4 with heap := s4.heap.push { cls := .type "slice", data := .fields #[vl, vu, vs] } } := I4.kept (t' := s4.toks) fun b ob z => Heap.get?_push_of_some _ z
  obtain ⟨its, rel, lst, hz⟩ := I5.list hx
  show wpAny (model X.prog X.w) X.A (subscriptTail e (.Slice (some lo) (some hi) (some st) p3) (.ref a) (.ref s4.heap.objs.size)) (EP X pins σ Q) X.xe { s4 with heap := s4.heap.push { cls := .type "slice", data := .fields #[vl, vu, vs] } }
  refine tail_any (ops := [.ref a, .ref s4.heap.objs.size]) lst.isList.typeIs (PySem.slot_list_getitem.lookup) ?_ (by with_unfolding_all rfl)
  refine wpAny_getItem_list_slice lst.isList (Heap.IsSliceOf.new _ vl vu vs) pl pu ps n0 ?_ (by rw [List.size_toArray, ← rel.length]; exact hz)
  have len := slicePick_size_le its.toArray l u o
  have rp := picks_rel rel (sliceRange (sliceBounds l u o its.toArray.size).1 (sliceBounds l u o its.toArray.size).2.1 (sliceBounds l u o its.toArray.size).2.2)
  generalize hk : (sliceRange (sliceBounds l u o its.toArray.size).1 (sliceBounds l u o its.toArray.size).2.1 (sliceBounds l u o its.toArray.size).2.2) = ks at rp
  have es : slicePick its.toArray l u o = (ks.filterMap (its.toArray[·]?)).toArray := by
    unfold slicePick
    rw [hk]
  have ly : (ks.filterMap (xs[·]?)).length ≤ xs.length := by
    have e1 := rp.length
    have e2 : (slicePick its.toArray l u o).size = (ks.filterMap (its.toArray[·]?)).length := by rw [es, List.size_toArray]
    have e3 := rel.length
    have e4 : its.toArray.size = its.length := by rw [List.size_toArray]
    omega
  refine ⟨.ref _, _, I5.laid (t' := s4.toks) (o := .lst (ks.filterMap (xs[·]?))) (fun b ob z => Heap.get?_push_of_some _ z) (Nat.le_refl _) ?_, rfl, q _ _ (fun y hy => ?_) ly (I5.hok.fresh (Nat.le_refl _))⟩
  · exact ⟨Nat.le_trans ly hz, _, 0, rp, by rw [es]; exact Heap.get?_push_size _ rfl⟩
  · obtain ⟨k, _, ek⟩ := List.mem_filterMap.mp hy
    exact List.mem_of_getElem? ek
end
end Cw

/-! pairs that fit: told, turned about, by other names, by other letters -/
namespace Cw
open PySem PySem.Spec PyProof.Rows L2
theorem tieL_mem {w : Web} (W : WOk w) {a b c : Nat} : tieL w.2 a b = some c ↔ (min a b, max a b, c) ∈ w.2 := by
  constructor
  · intro h
    unfold tieL at h
    obtain ⟨t, ht, rfl⟩ := Option.map_eq_some_iff.mp h
    have hm := List.mem_of_find?_eq_some ht
    have hp := at2_iff.mp (List.find?_some ht)
    have r := (W.ends t hm).1
    have e : (min a b, max a b, t.2.2) = t := by
      obtain ⟨t1, t2, t3⟩ := t
      simp only [Prod.mk.injEq, and_true]
      dsimp only at hp r
      omega
    rw [e]; exact hm
  · intro h
    have r := (W.ends _ h).1
    have q : at2 a b (min a b, max a b, c) = true := at2_iff.mpr (by dsimp only; omega)
    cases e : tieL w.2 a b with
    | none =>
      have z := (tieL_isSome (ts := w.2) (a := a) (b := b)).mpr ⟨_, h, q⟩
      rw [e] at z; cases z
    | some d =>
      unfold tieL at e
      obtain ⟨t, ht, rfl⟩ := Option.map_eq_some_iff.mp e
      have hm := List.mem_of_find?_eq_some ht
      have hp := at2_iff.mp (List.find?_some ht)
      have r2 := (W.ends t hm).1
      obtain ⟨i, hi, ei⟩ := List.getElem_of_mem hm
      obtain ⟨j, hj, ej⟩ := List.getElem_of_mem h
      have s := List.pairwise_iff_getElem.mp W.rise
      rcases Nat.lt_trichotomy i j with c1 | c1 | c1
      · have lt := s i j hi hj c1
        rw [ei, ej] at lt
        rcases lt with lt | lt <;> dsimp only at lt <;> omega
      · subst c1
        rw [ei] at ej
        rw [ej]
      · have lt := s j i hj hi c1
        rw [ei, ej] at lt
        rcases lt with lt | lt <;> dsimp only at lt <;> omega
theorem tieL_named {w w' : Web} {qs : List Nat} (W : WOk w) (W' : WOk w') (o : Ord qs w.1.length) (N : Named w qs w') {a b : Nat} (ha : a < w.1.length) (hb : b < w.1.length) : tieL w'.2 (qa qs a) (qa qs b) = tieL w.2 a b := by
  refine Option.ext fun c => ?_
  rw [tieL_mem W', tieL_mem W, N.ties.mem_iff, List.mem_map]
  constructor
  · rintro ⟨t, ht, e⟩
    have r := W.ends t ht
    unfold mapTie at e
    simp only [Prod.mk.injEq] at e
    obtain ⟨e1, e2, e3⟩ := e
    have key : (t.1 = a ∧ t.2.1 = b) ∨ (t.1 = b ∧ t.2.1 = a) := by
      by_cases c1 : qa qs t.1 = qa qs a
      · have z1 := o.inj (by omega) ha c1
        have z2 := o.inj (p := t.2.1) (r := b) (by omega) hb (by omega)
        exact .inl ⟨z1, z2⟩
      · have z1 := o.inj (p := t.1) (r := b) (by omega) hb (by omega)
        have z2 := o.inj (p := t.2.1) (r := a) (by omega) ha (by omega)
        exact .inr ⟨z1, z2⟩
    have e : (min a b, max a b, c) = t := by
      obtain ⟨t1, t2, t3⟩ := t
      simp only [Prod.mk.injEq]
      dsimp only at key r e3
      omega
    rw [e]; exact ht
  · intro h
    have r := W.ends _ h
    refine ⟨_, h, ?_⟩
    unfold mapTie
    simp only [Prod.mk.injEq, and_true]
    dsimp only at r
    rcases Nat.le_total a b with c1 | c1
    · rw [Nat.min_eq_left c1, Nat.max_eq_right c1]; exact ⟨rfl, rfl⟩
    · rw [Nat.min_eq_right c1, Nat.max_eq_left c1]
      omega
/-- two pairs fit -/
def fitB (w w' : Web) (x y : Nat × Nat) : Bool := if x.1 = y.1 ∨ x.2 = y.2 then false else decide (optV (tieL w.2 x.1 y.1) = optV (tieL w'.2 x.2 y.2))
theorem fitB_congr {w w' u u' : Web} {x y z t : Nat × Nat} (h : (x.1 = y.1 ∨ x.2 = y.2) ↔ (z.1 = t.1 ∨ z.2 = t.2)) (e : optV (tieL w.2 x.1 y.1) = optV (tieL w'.2 x.2 y.2) ↔ optV (tieL u.2 z.1 t.1) = optV (tieL u'.2 z.2 t.2)) : fitB w w' x y = fitB u u' z t := by
  unfold fitB
  by_cases c : x.1 = y.1 ∨ x.2 = y.2
  · rw [if_pos c, if_pos (h.mp c)]
  · rw [if_neg c, if_neg fun q => c (h.mpr q)]
    exact decide_eq_decide.mpr e
theorem fitB_turn (w w' : Web) (x y : Nat × Nat) : fitB w' w (x.2, x.1) (y.2, y.1) = fitB w w' x y := fitB_congr Or.comm eq_comm
theorem fitB_named {w w' u u' : Web} {qs rs : List Nat} (W : WOk w) (U : WOk u) (o : Ord qs w.1.length) (N : Named w qs u) (W' : WOk w') (U' : WOk u') (o' : Ord rs w'.1.length) (N' : Named w' rs u') {x y : Nat × Nat}
    (hx : x.1 < w.1.length ∧ x.2 < w'.1.length) (hy : y.1 < w.1.length ∧ y.2 < w'.1.length) : fitB u u' (qa qs x.1, qa rs x.2) (qa qs y.1, qa rs y.2) = fitB w w' x y := by
  refine fitB_congr ⟨fun h => h.imp (o.inj hx.1 hy.1) (o'.inj hx.2 hy.2), fun h => h.imp (fun e => by show qa qs _ = qa qs _; rw [e]) (fun e => by show qa rs _ = qa rs _; rw [e])⟩ ?_
  show optV (tieL u.2 (qa qs x.1) (qa qs y.1)) = optV (tieL u'.2 (qa rs x.2) (qa rs y.2)) ↔ _
  rw [tieL_named W U o N hx.1 hy.1, tieL_named W' U' o' N' hx.2 hy.2]
theorem fitB_self {w : Web} {a b : Nat} (h : a ≠ b) : fitB w w (a, a) (b, b) = true := by
  unfold fitB
  rw [if_neg (by intro z; rcases z with z | z <;> exact h z)]
  exact decide_eq_true rfl
/-! ### other letters -/
def shl (k c : Nat) : Nat := 97 + (c - 97 + k) % 26
theorem shl_ltr (k c : Nat) : Ltr (shl k c) := by unfold shl Ltr; omega
theorem shl_inj {k c d : Nat} (hc : Ltr c) (hd : Ltr d) (h : shl k c = shl k d) : c = d := by
  unfold shl at h
  unfold Ltr at hc hd
  omega
def lettered (w : Web) (by_ : Nat) : Web := (w.1.map (shl by_), w.2.map fun t => (t.1, t.2.1, shl (3 * by_) t.2.2))
theorem lettered_ok {w : Web} (W : WOk w) (k : Nat) : WOk (lettered w k) := by
  refine ⟨by show (w.1.map _).length ≤ 40; rw [List.length_map]; exact W.few, by show (w.2.map _).length ≤ 1600; rw [List.length_map]; exact W.most, fun c hc => ?_, ?_, fun t ht => ?_⟩
  · obtain ⟨d, _, rfl⟩ := List.mem_map.mp hc
    exact shl_ltr k d
  · show (w.2.map _).Pairwise tlt
    rw [List.pairwise_map]
    exact W.rise
  · obtain ⟨u, hu, rfl⟩ := List.mem_map.mp ht
    have r := W.ends u hu
    exact ⟨r.1, by show u.2.1 < (w.1.map _).length; rw [List.length_map]; exact r.2.1, shl_ltr _ _⟩
theorem tieL_lettered (w : Web) (k a b : Nat) : tieL (lettered w k).2 a b = (tieL w.2 a b).map (shl (3 * k)) := by
  unfold tieL lettered
  dsimp only
  rw [List.find?_map, Option.map_map, Option.map_map]
  rfl
theorem tieL_ltr {w : Web} (W : WOk w) {a b c : Nat} (h : tieL w.2 a b = some c) : Ltr c := (W.ends _ ((tieL_mem W).mp h)).2.2
theorem fitB_lettered {w w' : Web} (W : WOk w) (W' : WOk w') (k : Nat) (x y : Nat × Nat) : fitB (lettered w k) (lettered w' k) x y = fitB w w' x y := by
  refine fitB_congr Iff.rfl ?_
  rw [tieL_lettered, tieL_lettered]
  cases e1 : tieL w.2 x.1 y.1 with
  | none =>
    cases e2 : tieL w'.2 x.2 y.2 with
    | none => exact Iff.rfl
    | some d => exact ⟨fun z => (by cases z), fun z => (by cases z)⟩
  | some c =>
    cases e2 : tieL w'.2 x.2 y.2 with
    | none => exact ⟨fun z => (by cases z), fun z => (by cases z)⟩
    | some d =>
      show V.str (sg (shl (3 * k) c)) = V.str (sg (shl (3 * k) d)) ↔ V.str (sg c) = V.str (sg d)
      constructor
      · intro z
        rw [shl_inj (tieL_ltr W e1) (tieL_ltr W' e2) (sg_inj.mp (V.str.inj z))]
      · intro z
        rw [sg_inj.mp (V.str.inj z)]
/-! ### all pairs of like kinds -/
def rowL (w w' : Web) (p m : Nat) : Lead := ((List.range m).filter fun e => decide (w.1[p]? = w'.1[e]?)).map fun e => (p, e)
def preL (w w' : Web) (n : Nat) : Lead := (List.range n).flatMap fun p => rowL w w' p w'.1.length
def pairsL (w w' : Web) : Lead := preL w w' w.1.length
def plt (x y : Nat × Nat) : Prop := x.1 < y.1 ∨ (x.1 = y.1 ∧ x.2 < y.2)
theorem rowL_succ (w w' : Web) (p m : Nat) : rowL w w' p (m + 1) = rowL w w' p m ++ if w.1[p]? = w'.1[m]? then [(p, m)] else [] := by
  unfold rowL
  rw [List.range_succ, List.filter_append, List.map_append]
  congr 1
  by_cases c : w.1[p]? = w'.1[m]?
  · rw [if_pos c]; simp [c]
  · rw [if_neg c]; simp [c]
theorem preL_succ (w w' : Web) (n : Nat) : preL w w' (n + 1) = preL w w' n ++ rowL w w' n w'.1.length := by
  unfold preL
  rw [List.range_succ, List.flatMap_append]
  simp
theorem mem_rowL {w w' : Web} {p m : Nat} {x : Nat × Nat} : x ∈ rowL w w' p m ↔ x.1 = p ∧ x.2 < m ∧ w.1[p]? = w'.1[x.2]? := by
  unfold rowL
  rw [List.mem_map]
  constructor
  · rintro ⟨e, he, rfl⟩
    obtain ⟨h1, h2⟩ := List.mem_filter.mp he
    exact ⟨rfl, List.mem_range.mp h1, of_decide_eq_true h2⟩
  · rintro ⟨h1, h2, h3⟩
    exact ⟨x.2, List.mem_filter.mpr ⟨List.mem_range.mpr h2, decide_eq_true h3⟩, by rw [← h1]⟩
theorem mem_preL {w w' : Web} {n : Nat} {x : Nat × Nat} : x ∈ preL w w' n ↔ x.1 < n ∧ x.2 < w'.1.length ∧ w.1[x.1]? = w'.1[x.2]? := by
  unfold preL
  rw [List.mem_flatMap]
  constructor
  · rintro ⟨p, hp, hx⟩
    obtain ⟨h1, h2, h3⟩ := mem_rowL.mp hx
    rw [h1]
    exact ⟨List.mem_range.mp hp, h2, h3⟩
  · rintro ⟨h1, h2, h3⟩
    exact ⟨x.1, List.mem_range.mpr h1, mem_rowL.mpr ⟨rfl, h2, h3⟩⟩
theorem mem_pairsL {w w' : Web} {x : Nat × Nat} : x ∈ pairsL w w' ↔ x.1 < w.1.length ∧ x.2 < w'.1.length ∧ w.1[x.1]? = w'.1[x.2]? := mem_preL
theorem rowL_rise (w w' : Web) (p m : Nat) : (rowL w w' p m).Pairwise plt := by
  unfold rowL
  rw [List.pairwise_map]
  exact (List.Pairwise.filter _ List.pairwise_lt_range).imp fun h => .inr ⟨rfl, h⟩
theorem preL_rise (w w' : Web) : ∀ n, (preL w w' n).Pairwise plt
  | 0 => .nil
  | n + 1 => by
    rw [preL_succ]
    refine List.pairwise_append.mpr ⟨preL_rise w w' n, rowL_rise w w' n _, fun x hx y hy => .inl ?_⟩
    have h1 := (mem_preL.mp hx).1
    have h2 := (mem_rowL.mp hy).1
    omega
theorem rowL_len (w w' : Web) (p m : Nat) : (rowL w w' p m).length ≤ m := by
  unfold rowL
  rw [List.length_map]
  exact Nat.le_trans (List.length_filter_le _ _) (by rw [List.length_range]; exact Nat.le_refl _)
theorem preL_len {w w' : Web} (W' : WOk w') : ∀ n, (preL w w' n).length ≤ 40 * n
  | 0 => by simp [preL]
  | n + 1 => by
    rw [preL_succ, List.length_append]
    have h1 := preL_len W' n (w := w)
    have h2 := rowL_len w w' n w'.1.length
    have h3 := W'.few
    omega
theorem plt_ext : ∀ {l m : Lead}, l.Pairwise plt → m.Pairwise plt → (∀ x, x ∈ l ↔ x ∈ m) → l = m
  | [], [], _, _, _ => rfl
  | [], y :: m, _, _, h => absurd ((h y).mpr List.mem_cons_self) (by simp)
  | x :: l, [], _, _, h => absurd ((h x).mp List.mem_cons_self) (by simp)
  | x :: l, y :: m, hl, hm, h => by
    obtain ⟨l1, l2⟩ := List.pairwise_cons.mp hl
    obtain ⟨m1, m2⟩ := List.pairwise_cons.mp hm
    have asym : ∀ {a b : Nat × Nat}, plt a b → plt b a → False := fun {a b} p q => by unfold plt at p q; omega
    have hx : x = y := by
      rcases List.mem_cons.mp ((h x).mp List.mem_cons_self) with z | z
      · exact z
      · rcases List.mem_cons.mp ((h y).mpr List.mem_cons_self) with z' | z'
        · exact z'.symm
        · exact (asym (m1 x z) (l1 y z')).elim
    subst hx
    congr 1
    have irr : ∀ {a : Nat × Nat}, plt a a → False := fun {a} p => asym p p
    refine plt_ext l2 m2 fun z => ⟨fun hz => ?_, fun hz => ?_⟩
    · rcases List.mem_cons.mp ((h z).mp (List.mem_cons_of_mem _ hz)) with q | q
      · subst q; exact (irr (l1 _ hz)).elim
      · exact q
    · rcases List.mem_cons.mp ((h z).mpr (List.mem_cons_of_mem _ hz)) with q | q
      · subst q; exact (irr (m1 _ hz)).elim
      · exact q
/-- pairs turned about are those of the webs the other way about -/
theorem turned_mem {w w' : Web} (x : Nat × Nat) : x ∈ (pairsL w w').map (fun p => (p.2, p.1)) ↔ x ∈ pairsL w' w := by
  rw [List.mem_map, mem_pairsL]
  constructor
  · rintro ⟨p, hp, rfl⟩
    obtain ⟨h1, h2, h3⟩ := mem_pairsL.mp hp
    exact ⟨h2, h1, h3.symm⟩
  · rintro ⟨h1, h2, h3⟩
    exact ⟨(x.2, x.1), mem_pairsL.mpr ⟨h2, h1, h3.symm⟩, rfl⟩
theorem named_mem {w w' u u' : Web} {qs rs : List Nat} (o : Ord qs w.1.length) (N : Named w qs u) (o' : Ord rs w'.1.length) (N' : Named w' rs u') (x : Nat × Nat) : x ∈ (pairsL w w').map (fun p => (qa qs p.1, qa rs p.2)) ↔ x ∈ pairsL u u' := by
  rw [List.mem_map, mem_pairsL, N.len, N'.len]
  constructor
  · rintro ⟨p, hp, rfl⟩
    obtain ⟨h1, h2, h3⟩ := mem_pairsL.mp hp
    refine ⟨o.lt' h1, o'.lt' h2, ?_⟩
    show u.1[qa qs p.1]? = u'.1[qa rs p.2]?
    rw [N.kinds _ h1, N'.kinds _ h2, h3]
  · rintro ⟨h1, h2, h3⟩
    obtain ⟨a, ha, ea⟩ := o.onto h1
    obtain ⟨b, hb, eb⟩ := o'.onto h2
    refine ⟨(a, b), mem_pairsL.mpr ⟨ha, hb, ?_⟩, by show (qa qs a, qa rs b) = x; rw [ea, eb]⟩
    rw [← ea, ← eb, N.kinds _ ha, N'.kinds _ hb] at h3
    exact h3
theorem map_nodup {f : Nat × Nat → Nat × Nat} {l : Lead} (h : l.Pairwise plt) (hf : ∀ x ∈ l, ∀ y ∈ l, f x = f y → x = y) : (l.map f).Nodup := by
  show List.Pairwise _ _
  rw [List.pairwise_map]
  refine List.Pairwise.imp_of_mem (fun {x y} hx hy lt e => ?_) h
  have := hf x hx y hy e
  subst this
  unfold plt at lt
  omega
theorem pairsL_rise (w w' : Web) : (pairsL w w').Pairwise plt := preL_rise w w' _
/-- an arrangement in order of pairs none twice rises -/
theorem arranged {l m : Lead} (p : l.Perm m) (nd : m.Nodup) (s : l.Pairwise fun x y => ¬ plt y x) : l.Pairwise plt := by
  have nl : l.Nodup := p.nodup_iff.mpr nd
  refine (List.Pairwise.and s nl).imp fun {x y} ⟨h1, h2⟩ => ?_
  obtain ⟨a, b⟩ := x
  obtain ⟨c, d⟩ := y
  unfold plt at h1 ⊢
  simp only [ne_eq, Prod.mk.injEq] at h2
  dsimp only at h1 ⊢
  omega
end Cw

/-! webs as texts, and back -/
namespace Cw
open PySem PySem.Spec PyProof.Rows L2
/-- texts in one -/
def tFs (ts : List TE) : TE := fun σ H Q => tJs ts Str.empty σ H fun out H1 => Q (.str out) H1
theorem pe_joinedF {X : Cx} {v1 v2 : Expr} {rest : List Expr} {ts : List TE} {pos : Pos} (h : PJ X (v1 :: v2 :: rest) ts) : PE X (.JoinedStr (v1 :: v2 :: rest) pos) (tFs ts) := pe_joined h
theorem d_fs {t : TE} {ts : List TE} {acc : Str} {σ : L2.St} {H : Hp} {Q : Str → Hp → Prop} (h : t σ H fun x H1 => ∃ y : Str, x = .str y ∧ (acc ++ y).length ≤ sizeLine ∧ tJs ts (acc ++ y) σ H1 Q) : tJs (t :: ts) acc σ H Q := h
theorem d_fs0 {ts : List TE} {σ : L2.St} {H : Hp} {Q : VK} (h : tJs ts Str.empty σ H fun out H1 => Q (.str out) H1) : tFs ts σ H Q := h
theorem d_fsC {y acc : Str} {ts : List TE} {σ : L2.St} {H : Hp} {Q : Str → Hp → Prop} (l : (acc ++ y).length ≤ sizeLine) (h : tJs ts (acc ++ y) σ H Q) : tJs (tC (.str y) :: ts) acc σ H Q := ⟨y, rfl, l, h⟩
theorem d_fsS {i : Nat} {y acc : Str} {ts : List TE} {σ : L2.St} {H : Hp} {Q : Str → Hp → Prop} (e : σ[i]? = some (some (.str y))) (l0 : y.length ≤ sizeLine) (l : (acc ++ y).length ≤ sizeLine) (h : tJs ts (acc ++ y) σ H Q) : tJs (tFmt (tVar i) :: ts) acc σ H Q := ⟨.str y, e, .inl ⟨y, rfl, l0, y, rfl, l, h⟩⟩
theorem d_fsI {i : Nat} {k : Int} {acc : Str} {ts : List TE} {σ : L2.St} {H : Hp} {Q : Str → Hp → Prop} (e : σ[i]? = some (some (.int k))) (l0 : k.natAbs.log2 < 1920) (l : (acc ++ Str.ofString (toString k)).length ≤ sizeLine) (h : tJs ts (acc ++ Str.ofString (toString k)) σ H Q) : tJs (tFmt (tVar i) :: ts) acc σ H Q := ⟨.int k, e, .inr ⟨k, rfl, l0, _, rfl, l, h⟩⟩
theorem d_fsE {acc : Str} {σ : L2.St} {H : Hp} {Q : Str → Hp → Prop} (h : Q acc H) : tJs [] acc σ H Q := h
def spS : Str := Str.ofString " "
def nlS : Str := Str.ofString "\n"
def numS (n : Nat) : Str := Str.ofString (toString ((n : Nat) : Int))
def placeS (c : Nat) : Str := Str.ofString "place " ++ sg c
def tieS (t : Tie) : Str := Str.ofString "tie " ++ numS t.1 ++ spS ++ numS t.2.1 ++ spS ++ sg t.2.2
def linesS (w : Web) : List Str := w.1.map placeS ++ w.2.map tieS
def webS (w : Web) : Str := Txt.join (Str.ofString "") ((linesS w).map (· ++ nlS))
theorem tl_sg (c : Nat) : TL.tl (sg c) = [c] := rfl
theorem tl_sp : TL.tl spS = [32] := by decide +kernel
theorem tl_nl : TL.tl nlS = [10] := by decide +kernel
theorem tl_none : TL.tl (Str.ofString "") = [] := by decide +kernel
theorem tl_place : TL.tl (Str.ofString "place ") = [112, 108, 97, 99, 101, 32] := by decide +kernel
theorem tl_placeW : TL.tl (Str.ofString "place") = [112, 108, 97, 99, 101] := by decide +kernel
theorem tl_tie : TL.tl (Str.ofString "tie ") = [116, 105, 101, 32] := by decide +kernel
theorem tl_tieW : TL.tl (Str.ofString "tie") = [116, 105, 101] := by decide +kernel
theorem tl_numS (n : Nat) : TL.tl (numS n) = TL.numL n := TL.tl_num n
theorem joinL_nl (S : List Nat) : ∀ parts : List (List Nat), TL.joinL S (parts ++ [[]]) = TL.joinL [] (parts.map (· ++ S))
  | [] => rfl
  | [p] => by
    show p ++ (S ++ []) = p ++ S
    rw [List.append_nil]
  | p :: q :: r => by
    show p ++ (S ++ TL.joinL S ((q :: r) ++ [[]])) = (p ++ S) ++ ([] ++ TL.joinL [] ((q :: r).map (· ++ S)))
    rw [joinL_nl S (q :: r), List.nil_append, List.append_assoc]
theorem webS_join (w : Web) : webS w = Txt.join nlS (linesS w ++ [Str.ofString ""]) := by
  refine TL.ext_tl ?_
  unfold webS
  rw [TL.join_eq, TL.join_eq, TL.tl_join, TL.tl_join, tl_none, tl_nl, List.map_append, List.map_map, List.map_cons, List.map_nil, tl_none, joinL_nl, List.map_map]
  congr 1
  refine List.map_congr_left fun x _ => ?_
  show TL.tl (x ++ nlS) = TL.tl x ++ [10]
  rw [TL.tl_append, tl_nl]
theorem free_place {c s : Nat} (hc : Ltr c) (hs : s = 10) : s ∉ TL.tl (placeS c) := by
  subst hs
  unfold placeS
  unfold Ltr at hc
  rw [TL.tl_append, tl_place, tl_sg]
  simp
  omega
theorem free_tie {t : Tie} (hc : Ltr t.2.2) : 10 ∉ TL.tl (tieS t) := by
  unfold tieS
  unfold Ltr at hc
  rw [TL.tl_append, TL.tl_append, TL.tl_append, TL.tl_append, TL.tl_append, tl_tie, tl_numS, tl_numS, tl_sp, tl_sg]
  have h1 : 10 ∉ TL.numL t.1 := TL.numL_free (by omega)
  have h2 : 10 ∉ TL.numL t.2.1 := TL.numL_free (by omega)
  simp [h1, h2]
  omega
theorem split_web {w : Web} (W : WOk w) : Txt.split (webS w) nlS = linesS w ++ [Str.ofString ""] := by
  rw [webS_join]
  refine TL.split_join (s := 10) (S := []) tl_nl (by decide +kernel) (by simp) fun p hp => ?_
  rcases List.mem_append.mp hp with hp | hp
  · unfold linesS at hp
    rcases List.mem_append.mp hp with hp | hp
    · obtain ⟨c, hc, rfl⟩ := List.mem_map.mp hp
      exact free_place (W.kinds c hc) rfl
    · obtain ⟨t, ht, rfl⟩ := List.mem_map.mp hp
      exact free_tie (W.ends t ht).2.2
  · rw [List.mem_singleton.mp hp, tl_none]
    exact fun z => nomatch z
theorem split_place {c : Nat} (hc : Ltr c) : Txt.split (placeS c) spS = [Str.ofString "place", sg c] := by
  have e : placeS c = Txt.join spS [Str.ofString "place", sg c] := by
    refine TL.ext_tl ?_
    unfold placeS
    rw [TL.join_eq, TL.tl_join, TL.tl_append, tl_place, tl_sg, tl_sp, List.map_cons, List.map_cons, List.map_nil, tl_placeW, tl_sg]
    rfl
  rw [e]
  refine TL.split_join (s := 32) (S := []) tl_sp (by decide +kernel) (by simp) fun p hp => ?_
  rcases List.mem_cons.mp hp with rfl | hp
  · rw [tl_placeW]; decide
  · rw [List.mem_singleton.mp hp, tl_sg]
    unfold Ltr at hc
    simp
    omega
theorem split_tie {t : Tie} (hc : Ltr t.2.2) : Txt.split (tieS t) spS = [Str.ofString "tie", numS t.1, numS t.2.1, sg t.2.2] := by
  have e : tieS t = Txt.join spS [Str.ofString "tie", numS t.1, numS t.2.1, sg t.2.2] := by
    refine TL.ext_tl ?_
    unfold tieS
    rw [TL.join_eq, TL.tl_join, TL.tl_append, TL.tl_append, TL.tl_append, TL.tl_append, TL.tl_append, tl_tie, tl_sg, tl_sp, List.map_cons, List.map_cons, List.map_cons, List.map_cons, List.map_nil, tl_tieW, tl_sg]
    show _ = [116, 105, 101] ++ ([32] ++ (TL.tl (numS t.1) ++ ([32] ++ (TL.tl (numS t.2.1) ++ ([32] ++ [t.2.2])))))
    simp
  rw [e]
  refine TL.split_join (s := 32) (S := []) tl_sp (by decide +kernel) (by simp) fun p hp => ?_
  have n1 : 32 ∉ TL.numL t.1 := TL.numL_free (by omega)
  have n2 : 32 ∉ TL.numL t.2.1 := TL.numL_free (by omega)
  simp only [List.mem_cons, List.not_mem_nil, or_false] at hp
  rcases hp with rfl | rfl | rfl | rfl
  · rw [tl_tieW]; decide
  · rw [tl_numS]; exact n1
  · rw [tl_numS]; exact n2
  · rw [tl_sg]
    unfold Ltr at hc
    simp
    omega
theorem split_none : Txt.split (Str.ofString "") spS = [Str.ofString ""] := by
  have e : Str.ofString "" = Txt.join spS [Str.ofString ""] := by
    refine TL.ext_tl ?_
    rw [TL.join_eq, TL.tl_join, tl_none]
    rfl
  conv => lhs; rw [e]
  refine TL.split_join (s := 32) (S := []) tl_sp (by decide +kernel) (by simp) fun p hp => ?_
  rw [List.mem_singleton.mp hp, tl_none]
  exact fun z => nomatch z
theorem split_nothing : Txt.split (Str.ofString "") nlS = [Str.ofString ""] := by
  have e : Str.ofString "" = Txt.join nlS [Str.ofString ""] := by
    refine TL.ext_tl ?_
    rw [TL.join_eq, TL.tl_join, tl_none]
    rfl
  conv => lhs; rw [e]
  refine TL.split_join (s := 10) (S := []) tl_nl (by decide +kernel) (by simp) fun p hp => ?_
  rw [List.mem_singleton.mp hp, tl_none]
  exact fun z => nomatch z
theorem numS_inj {a b : Nat} (h : numS a = numS b) : a = b := TL.numL_inj (by rw [← tl_numS, ← tl_numS, h])
theorem len_num {a : Nat} (h : a < 100) : (numS a).length ≤ 2 := by
  rw [TL.len_tl, tl_numS]
  exact TL.numL_len (by decide) h
theorem len_place (c : Nat) : (placeS c ++ nlS).length = 8 := by
  rw [TL.len_tl, TL.tl_append]
  unfold placeS
  rw [TL.tl_append, tl_place, tl_sg, tl_nl]
  rfl
theorem len_tie {t : Tie} (h1 : t.1 < 100) (h2 : t.2.1 < 100) : (tieS t ++ nlS).length ≤ 12 := by
  rw [TL.len_tl, TL.tl_append]
  unfold tieS
  rw [TL.tl_append, TL.tl_append, TL.tl_append, TL.tl_append, TL.tl_append, tl_tie, tl_sg, tl_sp, tl_nl, tl_numS, tl_numS]
  have a := TL.numL_len (k := 2) (by decide) h1
  have b := TL.numL_len (k := 2) (by decide) h2
  simp
  omega
/-- the lines with their ends -/
def nlL (w : Web) : List Str := (linesS w).map (· ++ nlS)
theorem nlL_eq (w : Web) : nlL w = w.1.map (fun c => placeS c ++ nlS) ++ w.2.map (fun t => tieS t ++ nlS) := by
  unfold nlL linesS
  rw [List.map_append, List.map_map, List.map_map]
  rfl
theorem nlL_len (w : Web) : (nlL w).length = w.1.length + w.2.length := by
  rw [nlL_eq, List.length_append, List.length_map, List.length_map]
theorem sum_le {α : Type} {f : α → Nat} {k : Nat} : ∀ {l : List α}, (∀ x ∈ l, f x ≤ k) → (l.map f).sum ≤ l.length * k
  | [], _ => by simp
  | x :: l, h => by
    have := sum_le fun y hy => h y (List.mem_cons_of_mem _ hy)
    have := h x List.mem_cons_self
    rw [List.map_cons, List.sum_cons, List.length_cons, Nat.add_mul, Nat.one_mul]
    omega
theorem nlL_size {w : Web} (W : WOk w) : ((nlL w).map (·.length)).sum + (nlL w).length * (Str.ofString "").length ≤ 21000 := by
  have e0 : (Str.ofString "").length = 0 := by decide +kernel
  have h : ((nlL w).map (·.length)).sum ≤ (nlL w).length * 12 := sum_le fun x hx => by
    rw [nlL_eq] at hx
    rcases List.mem_append.mp hx with hx | hx
    · obtain ⟨c, _, rfl⟩ := List.mem_map.mp hx
      have := len_place c
      omega
    · obtain ⟨t, ht, rfl⟩ := List.mem_map.mp hx
      have e := W.ends t ht
      have := W.few
      exact len_tie (by omega) (by omega)
  have l40 := W.few
  have l16 := W.most
  rw [nlL_len] at h
  rw [e0, Nat.mul_zero]
  have : (w.1.length + w.2.length) * 12 ≤ 1640 * 12 := Nat.mul_le_mul_right _ (by omega)
  omega
theorem joinL_len : ∀ l : List (List Nat), (TL.joinL [] l).length = (l.map (·.length)).sum
  | [] => rfl
  | [p] => by
    show p.length = _
    simp
  | p :: q :: r => by
    show (p ++ ([] ++ TL.joinL [] (q :: r))).length = (p.length :: (q :: r).map (·.length)).sum
    rw [List.nil_append, List.length_append, joinL_len (q :: r), List.sum_cons]
theorem webS_len {w : Web} (W : WOk w) : (webS w).length ≤ 21000 := by
  have h := nlL_size W
  have e : (webS w).length = ((nlL w).map (·.length)).sum := by
    unfold webS
    rw [TL.len_tl, TL.join_eq, TL.tl_join, tl_none]
    show (TL.joinL [] ((nlL w).map TL.tl)).length = _
    rw [joinL_len, List.map_map]
    congr 1
  rw [e]
  exact Nat.le_trans (Nat.le_add_right _ _) h
end Cw

/-! sets of numbers as one number, bit by bit -/
namespace Cw
open PySem PySem.Spec PyProof.Rows L2
theorem tb_zero (a : Nat) : a.testBit 0 = decide (a % 2 = 1) := by rw [Nat.testBit_eq_decide_div_mod_eq]; simp
theorem tb_lt {a i : Nat} (h : a.testBit i = true) : 2 ^ i ≤ a := by
  rcases Nat.lt_or_ge a (2 ^ i) with lt | ge
  · rw [Nat.testBit_lt_two_pow lt] at h; cases h
  · exact ge
theorem tb_ix {a i : Nat} (h : a.testBit i = true) : i < a := Nat.lt_of_lt_of_le Nat.lt_two_pow_self (tb_lt h)
/-- the numbers in the set, rising -/
def bitsL (a : Nat) : List Nat := (List.range a).filter fun i => a.testBit i
theorem mem_bits {a i : Nat} : i ∈ bitsL a ↔ a.testBit i = true := by
  unfold bitsL
  rw [List.mem_filter, List.mem_range]
  exact ⟨fun h => h.2, fun h => ⟨tb_ix h, h⟩⟩
theorem bits_rise (a : Nat) : (bitsL a).Pairwise (· < ·) := List.Pairwise.filter _ List.pairwise_lt_range
theorem bits_nodup (a : Nat) : (bitsL a).Nodup := (bits_rise a).imp fun h => Nat.ne_of_lt h
def pcN (a : Nat) : Nat := (bitsL a).length
theorem nat_ext {a b : Nat} (h : ∀ i, a.testBit i = b.testBit i) : a = b := Nat.eq_of_testBit_eq h
/-- one bit less -/
theorem tb_clear : ∀ (p a i : Nat), a.testBit p = true → (a - 2 ^ p).testBit i = (a.testBit i && !decide (i = p))
  | 0, a, i, h => by
    have h0 : a % 2 = 1 := by rw [tb_zero] at h; exact of_decide_eq_true h
    cases i with
    | zero =>
      rw [tb_zero, tb_zero]
      have : (a - 2 ^ 0) % 2 = 0 := by show (a - 1) % 2 = 0; omega
      rw [this]; simp
    | succ i =>
      rw [Nat.testBit_succ, Nat.testBit_succ]
      have : (a - 2 ^ 0) / 2 = a / 2 := by show (a - 1) / 2 = a / 2; omega
      rw [this]; simp
  | p + 1, a, i, h => by
    rw [Nat.testBit_succ] at h
    have le := tb_lt h
    have e : 2 ^ (p + 1) = 2 * 2 ^ p := by rw [Nat.pow_succ, Nat.mul_comm]
    cases i with
    | zero =>
      rw [tb_zero, tb_zero]
      have : (a - 2 ^ (p + 1)) % 2 = a % 2 := by rw [e]; omega
      rw [this]; simp
    | succ i =>
      rw [Nat.testBit_succ, Nat.testBit_succ]
      have : (a - 2 ^ (p + 1)) / 2 = a / 2 - 2 ^ p := by rw [e]; omega
      rw [this, tb_clear p (a / 2) i h]
      simp
theorem bits_clear {a p : Nat} (h : a.testBit p = true) : bitsL (a - 2 ^ p) = (bitsL a).filter fun i => !decide (i = p) := by
  refine sorted_ext (bits_rise _) ((bits_rise a).filter _) fun i => ?_
  rw [mem_bits, List.mem_filter, mem_bits, tb_clear p a i h, Bool.and_eq_true]
theorem pc_clear {a p : Nat} (h : a.testBit p = true) : pcN (a - 2 ^ p) + 1 = pcN a := by
  unfold pcN
  rw [bits_clear h]
  have e : (bitsL a).filter (fun i => !decide (i = p)) = (bitsL a).erase p := by
    rw [(bits_nodup a).erase_eq_filter]
    exact List.filter_congr fun x _ => by rw [Bool.eq_iff_iff]; simp
  have m : p ∈ bitsL a := mem_bits.mpr h
  rw [e, List.length_erase_of_mem m]
  have := List.length_pos_of_mem m
  omega
/-- and, by halves -/
theorem and_half (a b : Nat) : a &&& b = 2 * ((a / 2) &&& (b / 2)) + (if a % 2 = 1 ∧ b % 2 = 1 then 1 else 0) := by
  refine nat_ext fun i => ?_
  cases i with
  | zero =>
    rw [Nat.testBit_and, tb_zero, tb_zero, tb_zero]
    split
    · rename_i h; simp [h.1, h.2]
    · rename_i h
      have : (2 * (a / 2 &&& b / 2) + 0) % 2 = 0 := by omega
      rw [this, Bool.eq_iff_iff]
      simp only [Bool.and_eq_true, decide_eq_true_eq]
      omega
  | succ i =>
    rw [Nat.testBit_and, Nat.testBit_succ, Nat.testBit_succ, Nat.testBit_succ]
    have : (2 * (a / 2 &&& b / 2) + (if a % 2 = 1 ∧ b % 2 = 1 then 1 else 0)) / 2 = (a / 2 &&& b / 2) := by split <;> omega
    rw [this, Nat.testBit_and]
/-- the least number in the set -/
def lsb (a : Nat) : Nat := if h : a = 0 then 0 else if a % 2 = 1 then 0 else lsb (a / 2) + 1
termination_by a
decreasing_by omega
theorem lsb_odd {a : Nat} (h : a % 2 = 1) : lsb a = 0 := by unfold lsb; rw [dif_neg (by omega), if_pos h]
theorem lsb_even {a : Nat} (h0 : a ≠ 0) (h : a % 2 = 0) : lsb a = lsb (a / 2) + 1 := by
  rw [lsb, dif_neg h0, if_neg (by omega)]
theorem lsb_tb {a : Nat} (h0 : a ≠ 0) : a.testBit (lsb a) = true ∧ ∀ i, a.testBit i = true → lsb a ≤ i := by
  induction a using Nat.strongRecOn with
  | ind a ih =>
    rcases Nat.mod_two_eq_zero_or_one a with h | h
    · obtain ⟨h1, h2⟩ := ih (a / 2) (by omega) (by omega)
      rw [lsb_even h0 h]
      refine ⟨by rw [Nat.testBit_succ]; exact h1, fun i hi => ?_⟩
      cases i with
      | zero => rw [tb_zero, h] at hi; simp at hi
      | succ i =>
        rw [Nat.testBit_succ] at hi
        have := h2 i hi
        omega
    · rw [lsb_odd h]
      exact ⟨by rw [tb_zero, h]; rfl, fun i _ => Nat.zero_le _⟩
/-- the low bit goes -/
theorem and_pred {a : Nat} (h0 : a ≠ 0) : a &&& (a - 1) = a - 2 ^ lsb a := by
  induction a using Nat.strongRecOn with
  | ind a ih =>
    rcases Nat.mod_two_eq_zero_or_one a with h | h
    · have i := ih (a / 2) (by omega) (by omega)
      have le := tb_lt (lsb_tb (a := a / 2) (by omega)).1
      rw [and_half, lsb_even h0 h, if_neg (by omega), show (a - 1) / 2 = a / 2 - 1 by omega, i, Nat.pow_succ]
      omega
    · rw [and_half, lsb_odd h, if_neg (by omega), show (a - 1) / 2 = a / 2 by omega, Nat.and_self]
      omega
theorem pc_pred {a : Nat} (h0 : a ≠ 0) : pcN (a &&& (a - 1)) + 1 = pcN a := by
  rw [and_pred h0]
  exact pc_clear (lsb_tb h0).1
theorem pc_zero : pcN 0 = 0 := rfl
/-! ### the model's bits -/
theorem bAnd (a b : Nat) : Builtin.bitAnd (a : Int) (b : Int) = ((a &&& b : Nat) : Int) := by
  unfold Builtin.bitAnd
  rw [decide_eq_true (show (0 : Int) ≤ (a : Int) by omega), decide_eq_true (show (0 : Int) ≤ (b : Int) by omega)]
  rfl
theorem bOr (a b : Nat) : Builtin.bitOr (a : Int) (b : Int) = ((a ||| b : Nat) : Int) := by
  unfold Builtin.bitOr Builtin.bitAnd
  rw [decide_eq_false (show ¬ (0 : Int) ≤ Builtin.bitNot (a : Int) by unfold Builtin.bitNot; omega), decide_eq_false (show ¬ (0 : Int) ≤ Builtin.bitNot (b : Int) by unfold Builtin.bitNot; omega)]
  have e : ∀ x : Int, Builtin.bitNot (Builtin.bitNot x) = x := fun x => by unfold Builtin.bitNot; omega
  show Builtin.bitNot (Builtin.bitNot _) = _
  rw [e, e, e]
  rfl
theorem and_pow2 (a p : Nat) : a &&& 2 ^ p = if a.testBit p = true then 2 ^ p else 0 := by
  refine nat_ext fun i => ?_
  rw [Nat.testBit_and, Nat.testBit_two_pow]
  by_cases e : p = i
  · subst e
    by_cases h : a.testBit p = true
    · rw [if_pos h, h, Nat.testBit_two_pow]; simp
    · rw [if_neg h, Bool.eq_false_iff.mpr h]; simp
  · rw [decide_eq_false e, Bool.and_false]
    split
    · rw [Nat.testBit_two_pow, decide_eq_false e]
    · simp
/-- without a bit -/
theorem bClear (a p : Nat) : Builtin.bitAnd (a : Int) (Builtin.bitNot ((2 ^ p : Nat) : Int)) = (((if a.testBit p = true then a - 2 ^ p else a) : Nat) : Int) := by
  unfold Builtin.bitAnd
  have hp : (0 : Int) ≤ ((2 ^ p : Nat) : Int) := Int.natCast_nonneg _
  rw [decide_eq_true (show (0 : Int) ≤ (a : Int) by omega), decide_eq_false (show ¬ (0 : Int) ≤ Builtin.bitNot ((2 ^ p : Nat) : Int) by unfold Builtin.bitNot; omega)]
  have e : ∀ x : Int, Builtin.bitNot (Builtin.bitNot x) = x := fun x => by unfold Builtin.bitNot; omega
  show (a : Int) - (((a : Int).toNat &&& (Builtin.bitNot (Builtin.bitNot ((2 ^ p : Nat) : Int))).toNat : Nat) : Int) = _
  rw [e, Int.toNat_natCast, Int.toNat_natCast, and_pow2]
  by_cases h : a.testBit p = true
  · have := tb_lt h
    rw [if_pos h, if_pos h, Int.ofNat_sub this]
  · rw [if_neg h, if_neg h]
    simp
/-- the low bit alone -/
theorem bLow {a : Nat} (h0 : a ≠ 0) : Builtin.bitAnd (a : Int) (-(a : Int)) = ((2 ^ lsb a : Nat) : Int) := by
  unfold Builtin.bitAnd
  rw [decide_eq_true (show (0 : Int) ≤ (a : Int) by omega), decide_eq_false (show ¬ (0 : Int) ≤ -(a : Int) by omega)]
  show (a : Int) - (((a : Int).toNat &&& (Builtin.bitNot (-(a : Int))).toNat : Nat) : Int) = _
  rw [show Builtin.bitNot (-(a : Int)) = ((a - 1 : Nat) : Int) by unfold Builtin.bitNot; omega, Int.toNat_natCast, Int.toNat_natCast, and_pred h0]
  have := tb_lt (lsb_tb h0).1
  omega
theorem bits_pow (k : Nat) : Builtin.Int.intBits ((2 ^ k : Nat) : Int) = k + 1 := by
  unfold Builtin.Int.intBits
  have : ¬ (((2 ^ k : Nat) : Int) == 0) = true := fun z => by
    have z := eq_of_beq z
    have p := Nat.two_pow_pos k
    have : (2 ^ k : Nat) = 0 := by exact_mod_cast z
    omega
  rw [if_neg this, Int.natAbs_natCast, Nat.log2_two_pow]
theorem bits_lt {a i : Nat} (h : a.testBit i = true) : i < Builtin.Int.intBits (a : Int) := by
  have le := tb_lt h
  have ne : a ≠ 0 := fun z => by subst z; simp at h
  unfold Builtin.Int.intBits
  rw [if_neg (by simpa using ne), Int.natAbs_natCast]
  have := (Nat.le_log2 ne).mpr le
  omega
/-- the set's numbers, asked up to its length -/
theorem bits_range (a : Nat) : (List.range (Builtin.Int.intBits (a : Int))).filter (fun i => a.testBit i) = bitsL a := by
  refine sorted_ext (List.pairwise_lt_range.filter _) (bits_rise a) fun i => ?_
  rw [mem_bits, List.mem_filter, List.mem_range]
  exact ⟨fun h => h.2, fun h => ⟨bits_lt h, h⟩⟩
theorem bOdd (a n : Nat) : decide (Builtin.bitAnd ((a : Int) / 2 ^ n) 1 ≠ 0) = a.testBit n := by
  have e : ((a : Int) / 2 ^ n) = ((a / 2 ^ n : Nat) : Int) := by
    rw [Int.natCast_ediv]; norm_cast
  rw [e, show (1 : Int) = ((1 : Nat) : Int) from rfl, bAnd, Nat.and_one_is_mod, Nat.testBit_eq_decide_div_mod_eq, Bool.eq_iff_iff]
  simp only [decide_eq_true_eq]
  omega
/-! ### sets of lists -/
def maskN (ms : List Nat) : Nat := ms.foldl (fun a k => a ||| 2 ^ k) 0
theorem mask_snoc (ms : List Nat) (k : Nat) : maskN (ms ++ [k]) = maskN ms ||| 2 ^ k := by unfold maskN; rw [List.foldl_append]; rfl
theorem tb_mask : ∀ (ms : List Nat) (i : Nat), (maskN ms).testBit i = decide (i ∈ ms) := by
  have go : ∀ (ms : List Nat) (a i : Nat), (ms.foldl (fun a k => a ||| 2 ^ k) a).testBit i = (a.testBit i || decide (i ∈ ms)) := fun ms => by
    induction ms with
    | nil => intro a i; simp
    | cons k r ih =>
      intro a i
      rw [List.foldl_cons, ih, Nat.testBit_or, Nat.testBit_two_pow, Bool.or_assoc]
      congr 1
      rw [Bool.eq_iff_iff]
      simp only [Bool.or_eq_true, decide_eq_true_eq, List.mem_cons]
      constructor
      · rintro (h | h)
        · exact .inl h.symm
        · exact .inr h
      · rintro (h | h)
        · exact .inl h.symm
        · exact .inr h
  intro ms i
  unfold maskN
  rw [go]
  simp
theorem mask_lt {ms : List Nat} {n : Nat} (h : ∀ k ∈ ms, k < n) : maskN ms < 2 ^ n := by
  refine Nat.lt_pow_two_of_testBit _ fun i hi => ?_
  rw [tb_mask]
  exact decide_eq_false fun z => by have := h i z; omega
theorem mask_zero {ms : List Nat} : maskN ms = 0 ↔ ms = [] := by
  constructor
  · intro h
    cases ms with
    | nil => rfl
    | cons k r =>
      have := tb_mask (k :: r) k
      rw [h] at this
      simp at this
  · intro h; rw [h]; rfl
end Cw

namespace Cw
open PySem PySem.Spec PyProof.Rows L2
theorem d_dc {σ : L2.St} {H : Hp} {Q : VK} {wi : TI} {g : TG} {tt : TT} {tk tv : TE} {vs : List Nat} (h : wi σ H fun J H1 => ∀ D, H1 D = none → ∃ W : Nat → Nat → Hp → Prop, (∃ m, W 0 m (upd H1 D (.dK []))) ∧ ∀ i m H, W i m H →
  (J.stop i H ∧ Q (.ref D) H) ∨ (J.go i H ∧ ∃ Nx : Hp → Prop, (∀ H', Nx H' → ∃ m', m' < m ∧ W (i + 1) m' H') ∧ ∀ x H', J.yld i H x H' → g x (wipe σ vs) H' fun σ2 H2 => wipe σ2 vs = wipe σ vs ∧ tt σ2 H2 fun b H3 =>
    if b = true then tk σ2 H3 fun y H4 => tv σ2 H4 fun z H5 => ∃ kvs k, y = kV k ∧ H5 D = some (.dK kvs) ∧ kvs.length < sizeLine ∧ Nx (upd H5 D (.dK (putK kvs k z))) else Nx H3)) : tDc wi g tt tk tv vs σ H Q := h
/-- the dict made over what is walked -/
theorem dc_it {J : It} {n : Nat} {G : Hp → Prop} {Y : Nat → Hp → V → Hp → Prop} (w : Walk J n G Y) {g : TG} {tt : TT} {tk tv : TE} {vs : List Nat} {σ : L2.St} {H1 : Hp} {D : Addr} {Qd : Hp → Prop} (Pv : Nat → Hp → Prop) (h0 : Pv 0 (upd H1 D (.dK []))) (hG : ∀ i H, i ≤ n → Pv i H → G H)
    (hs : ∀ i x H H', i < n → Pv i H → Y i H x H' → g x (wipe σ vs) H' fun σ2 H2 => wipe σ2 vs = wipe σ vs ∧ tt σ2 H2 fun b H3 =>
      if b = true then tk σ2 H3 fun y H4 => tv σ2 H4 fun z H5 => ∃ kvs k, y = kV k ∧ H5 D = some (.dK kvs) ∧ kvs.length < sizeLine ∧ Pv (i + 1) (upd H5 D (.dK (putK kvs k z))) else Pv (i + 1) H3) (hd : ∀ H, Pv n H → Qd H) :
    ∃ W : Nat → Nat → Hp → Prop, (∃ m, W 0 m (upd H1 D (.dK []))) ∧ ∀ i m H, W i m H →
      (J.stop i H ∧ Qd H) ∨ (J.go i H ∧ ∃ Nx : Hp → Prop, (∀ H', Nx H' → ∃ m', m' < m ∧ W (i + 1) m' H') ∧ ∀ x H', J.yld i H x H' → g x (wipe σ vs) H' fun σ2 H2 => wipe σ2 vs = wipe σ vs ∧ tt σ2 H2 fun b H3 =>
        if b = true then tk σ2 H3 fun y H4 => tv σ2 H4 fun z H5 => ∃ kvs k, y = kV k ∧ H5 D = some (.dK kvs) ∧ kvs.length < sizeLine ∧ Nx (upd H5 D (.dK (putK kvs k z))) else Nx H3) := by
  refine ⟨fun i m H => m = n - i ∧ i ≤ n ∧ Pv i H, ⟨n, by simp, Nat.zero_le _, h0⟩, ?_⟩
  rintro i m H ⟨rfl, hi, p⟩
  have q := hG i H hi p
  by_cases hlt : i < n
  · refine .inr ⟨w.goes i H hlt q, fun H' => Pv (i + 1) H', fun H' h' => ⟨n - (i + 1), by omega, rfl, by omega, h'⟩, fun x H' hy => ?_⟩
    exact hs i x H H' hlt p (w.yields i H x H' hlt q hy)
  · have e : i = n := by omega
    subst e
    exact .inl ⟨w.stops H q, hd H p⟩
/-- where p stands among some places -/
def posOf (os : List Nat) (p : Nat) : Option Nat := os.findIdx? (· == p)
theorem posOf_snoc (os : List Nat) (q p : Nat) (h : q ∉ os) : posOf (os ++ [q]) p = if p = q then some os.length else posOf os p := by
  unfold posOf
  rw [List.findIdx?_append]
  by_cases e : p = q
  · subst e
    rw [if_pos rfl]
    have n : os.findIdx? (· == p) = none := List.findIdx?_eq_none_iff.mpr fun x hx => by
      simp only [beq_eq_false_iff_ne]
      exact fun z => h (z ▸ hx)
    rw [n]; simp
  · rw [if_neg e]
    have : [q].findIdx? (· == p) = none := by
      rw [List.findIdx?_eq_none_iff]
      intro x hx
      rw [List.mem_singleton.mp hx]
      simp only [beq_eq_false_iff_ne]
      exact fun z => e z.symm
    rw [this]; simp
def cutTie (os : List Nat) (t : Tie) : Option Tie := (posOf os t.1).bind fun a => (posOf os t.2.1).map fun b => (a, b, t.2.2)
/-- the web of some places alone, called by their order -/
def cutL (w : Web) (os : List Nat) : Web := (os.map fun p => w.1.getD p 0, w.2.filterMap (cutTie os))
/-! ### name = {k: v for ..} on one line -/
section
variable {X : Cx}
theorem sw_dict {kx vx : Expr} {gs : List Comprehension} {scope : Scope} {pos py : Pos} {y : Str} {l : Nat} {env : Env} (hk : env.scope.kind = .function) (hy : env.scope.names.lookup y = some .local) (hl : (py.line == pos.line) = true)
    (ha : (scope.names.any fun (n, k) => n == y && (k == .local || k == .cell)) = false) : swapsWith (.DictComp kx vx gs scope pos) (some (.Name y py)) l env = pure true := by
  have e1 : env.blockKind = .function := by rw [Env.blockKind, hk]; rfl
  have e2 : env.kindOf y = some .local := hy
  simp only [swapsWith, e1, e2, ha, Expr.pos, hl]
  rfl
theorem ps_setDc {i : Nat} {y : Str} {py : Pos} {kx vx tg iter : Expr} {ifs : List Expr} {scope : Scope} {own : List (Str × Nat)} {pos spos : Pos} {wi : TI} {g : TG} {tt : TT} {tk tv : TE} (hc : X.calm = true) (hN : X.N.Nodup) (hy : X.N[i]? = some y)
    (hyl : X.env.scope.names.lookup y = some .local) (hsw : swapsWith (.DictComp kx vx [⟨tg, iter, ifs, 0⟩] scope pos) (some (.Name y py)) spos.line X.env = pure true) (hi : PI X tg iter wi) (ok : BlkOk X.N X.env.scope scope own)
    (hg : ∀ (s : Shared) (H : Hp) (C : Addr) (cl : List (Str × Addr)) (fp : List Addr), PG (X.blk s H scope (compEnvC scope cl C X.env) fp) tg g)
    (ht : ∀ (s : Shared) (H : Hp) (C : Addr) (cl : List (Str × Addr)) (fp : List Addr), PTs (X.blk s H scope (compEnvC scope cl C X.env) fp) ifs tt)
    (hkx : ∀ (s : Shared) (H : Hp) (C : Addr) (cl : List (Str × Addr)) (fp : List Addr), PE (X.blk s H scope (compEnvC scope cl C X.env) fp) kx tk)
    (hvx : ∀ (s : Shared) (H : Hp) (C : Addr) (cl : List (Str × Addr)) (fp : List Addr), PE (X.blk s H scope (compEnvC scope cl C X.env) fp) vx tv) (hs : ∀ x, foldedSetIterable iter X.env x = pure x := by intro _; rfl) :
    PS X (.Assign [.Name y py] (.DictComp kx vx [⟨tg, iter, ifs, 0⟩] scope pos) spos) (tAsg (tDc wi g tt tk tv (own.map (·.2))) (gName i)) := by
  refine ⟨fun pins s σ H D I h => ?_⟩
  have h : tDc wi g tt tk tv (own.map (·.2)) σ H (fun x H1 => gName i x σ H1 D.nx) := h
  rw [exec_Assign_Name_used _ _ _ _ hsw]
  refine wpAny_bind (wpAny_standAt (wpAny_bind ?_))
  refine wpAny_bind (thn (dc_core (Qf := fun _ s' => SP X pins D .next s') hc hN I hi ok hg ht hkx hvx hs h fun L C s' m H' I' q hn f => ?_) fun _ s' hq => wpAny_pure (wpAny_pure hq))
  refine wpAny_assign_Name (store_ok2 (v := V.ref L) I' hN hy (.inl hyl) rfl (fun s2 I2 ⟨a, sb, ha⟩ => ?_) (.inr hyl))
  obtain ⟨f0, f1, f2, f3, f4, f5⟩ := f
  have ne : C ≠ a := ha.elim (fun z => z ▸ f1) fun z e => f4 y a z e.symm
  exact ⟨m, hn.sameBut sb ne, fun h3 sb3 => ⟨_, H', I2.turned (t' := s2.toks) (fun b o hb e => (sb3.2 b hb).trans e) f0 f1 f3 f4 f5, q⟩⟩
end
theorem nat_list {ns : List Int} {qs : List Nat} (pm : ns.Perm (zs qs)) : ∃ os : List Nat, ns = zs os ∧ os.Perm qs := by
  have h : ∀ n ∈ ns, ((n.toNat : Nat) : Int) = n := fun n hn => by
    obtain ⟨q, _, rfl⟩ := List.mem_map.mp (pm.mem_iff.mp hn)
    rfl
  have e : ns = zs (ns.map Int.toNat) := by
    unfold zs
    rw [List.map_map]
    exact (List.map_id ns).symm.trans (List.map_congr_left fun n hn => (h n hn).symm)
  refine ⟨ns.map Int.toNat, e, ?_⟩
  have z := pm.map Int.toNat
  have e2 : (zs qs).map Int.toNat = qs := by
    unfold zs
    rw [List.map_map]
    exact (List.map_congr_left fun n _ => (rfl : (Int.toNat ∘ fun o : Nat => (o : Int)) n = id n)).trans (List.map_id qs)
  rwa [e2] at z
theorem cutTie_snoc {os : List Nat} {ts : List Tie} {i : Nat} {t : Tie} (h : ts[i]? = some t) : (ts.take (i + 1)).filterMap (cutTie os) = (ts.take i).filterMap (cutTie os) ++ (cutTie os t).toList := by
  rw [take_snoc h, List.filterMap_append]
  cases e : cutTie os t with
  | none => rw [List.filterMap_cons_none e]; rfl
  | some x => rw [List.filterMap_cons_some e]; rfl
end Cw

/-! leads that lie, place by place; the classes of what is left -/
namespace Cw
open PySem PySem.Spec PyProof.Rows L2
abbrev Led := List (Nat × Nat)
abbrev Cl := Nat × Nat
theorem flatMap_cong {α β : Type} {f g : α → List β} : ∀ {l : List α}, (∀ b ∈ l, f b = g b) → l.flatMap f = l.flatMap g
  | [], _ => rfl
  | b :: l, h => by rw [List.flatMap_cons, List.flatMap_cons, h b List.mem_cons_self, flatMap_cong fun c hc => h c (List.mem_cons_of_mem _ hc)]
theorem sum_zeros {α : Type} {f : α → Nat} : ∀ {l : List α}, (∀ b ∈ l, f b = 0) → (l.map f).sum = 0
  | [], _ => rfl
  | b :: l, h => by rw [List.map_cons, List.sum_cons, h b List.mem_cons_self, sum_zeros fun c hc => h c (List.mem_cons_of_mem _ hc)]
section
variable {m : Nat} {fit : Nat × Nat → Nat × Nat → Bool}
/-- all leads of these places by R, any two pairs fitting, in their order -/
def ext (m : Nat) (fit : Nat × Nat → Nat × Nat → Bool) : List Nat → (Nat → Nat → Bool) → List Led
  | [], _ => [[]]
  | x :: xs, R => (((List.range m).filter (R x)).flatMap fun e => (ext m fit xs fun y f => R y f && fit (x, e) (y, f)).map ((x, e) :: ·)) ++ ext m fit xs R
theorem ext_congr : ∀ {xs : List Nat} {R S : Nat → Nat → Bool}, (∀ x ∈ xs, ∀ e, e < m → R x e = S x e) → ext m fit xs R = ext m fit xs S
  | [], _, _, _ => rfl
  | x :: xs, R, S, h => by
    unfold ext
    have e1 : (List.range m).filter (R x) = (List.range m).filter (S x) := List.filter_congr fun e he => h x List.mem_cons_self e (List.mem_range.mp he)
    rw [e1, ext_congr fun y hy e he => h y (List.mem_cons_of_mem _ hy) e he]
    congr 1
    refine flatMap_cong fun e _ => ?_
    rw [ext_congr (S := fun y f => S y f && fit (x, e) (y, f)) fun y hy f hf => by rw [h y (List.mem_cons_of_mem _ hy) f hf]]
/-- a place that can be led nowhere may be left out -/
theorem ext_drop {x : Nat} : ∀ {pre post : List Nat} {R : Nat → Nat → Bool}, (∀ e, e < m → R x e = false) → ext m fit (pre ++ x :: post) R = ext m fit (pre ++ post) R
  | [], post, R, h => by
    show ext m fit (x :: post) R = ext m fit post R
    rw [ext]
    have : (List.range m).filter (R x) = [] := List.filter_eq_nil_iff.mpr fun e he => by rw [h e (List.mem_range.mp he)]; simp
    rw [this]; rfl
  | y :: pre, post, R, h => by
    show ext m fit (y :: (pre ++ x :: post)) R = ext m fit (y :: (pre ++ post)) R
    rw [ext, ext, ext_drop h]
    congr 1
    refine flatMap_cong fun e _ => ?_
    rw [ext_drop fun f hf => by rw [h f hf]; rfl]
theorem ext_drops {R : Nat → Nat → Bool} : ∀ {ys post : List Nat}, (∀ x ∈ ys, ∀ e, e < m → R x e = false) → ext m fit (ys ++ post) R = ext m fit post R
  | [], _, _ => rfl
  | y :: ys, post, h => by
    have z := ext_drop (fit := fit) (pre := []) (post := ys ++ post) (h y List.mem_cons_self)
    rw [List.cons_append]
    exact z.trans (ext_drops fun x hx => h x (List.mem_cons_of_mem _ hx))
/-- how many leads of a length -/
def cnt (L : List Led) (n : Nat) : Nat := (L.filter fun l => decide (l.length = n)).length
theorem cnt_app (A B : List Led) (n : Nat) : cnt (A ++ B) n = cnt A n + cnt B n := by unfold cnt; rw [List.filter_append, List.length_append]
theorem cnt_cons (p : Nat × Nat) (L : List Led) (n : Nat) : cnt (L.map (p :: ·)) (n + 1) = cnt L n := by
  unfold cnt
  rw [List.filter_map, List.length_map]
  congr 1
  refine List.filter_congr fun l _ => ?_
  rw [Bool.eq_iff_iff]
  simp
theorem cnt_cons0 (p : Nat × Nat) (L : List Led) : cnt (L.map (p :: ·)) 0 = 0 := by
  unfold cnt
  rw [List.filter_map, List.length_map, List.length_eq_zero_iff, List.filter_eq_nil_iff]
  intro l _
  simp
theorem cnt_flat {β : Type} (f : β → List Led) (n : Nat) : ∀ l : List β, cnt (l.flatMap f) n = (l.map fun b => cnt (f b) n).sum
  | [] => rfl
  | b :: l => by rw [List.flatMap_cons, cnt_app, cnt_flat f n l, List.map_cons, List.sum_cons]
/-- one lead is empty -/
theorem cnt_zero : ∀ (xs : List Nat) (R : Nat → Nat → Bool), cnt (ext m fit xs R) 0 = 1
  | [], _ => rfl
  | x :: xs, R => by
    rw [ext, cnt_app, cnt_flat, cnt_zero xs R]
    have : (((List.range m).filter (R x)).map fun e => cnt ((ext m fit xs fun y f => R y f && fit (x, e) (y, f)).map ((x, e) :: ·)) 0).sum = 0 := sum_zeros fun e _ => cnt_cons0 _ _
    rw [this]
/-- what is in a lead -/
theorem ext_mem : ∀ {xs : List Nat} {R : Nat → Nat → Bool} {l : Led}, xs.Pairwise (· < ·) → (l ∈ ext m fit xs R ↔ l.Pairwise (fun a b => a.1 < b.1 ∧ fit a b = true) ∧ ∀ p ∈ l, p.1 ∈ xs ∧ p.2 < m ∧ R p.1 p.2 = true)
  | [], R, l, _ => by
    show l ∈ [[]] ↔ _
    rw [List.mem_singleton]
    constructor
    · rintro rfl; exact ⟨.nil, by simp⟩
    · rintro ⟨_, h⟩
      cases l with
      | nil => rfl
      | cons p l => exact absurd (h p List.mem_cons_self).1 (by simp)
  | x :: xs, R, l, s => by
    obtain ⟨s1, s2⟩ := List.pairwise_cons.mp s
    rw [ext, List.mem_append, List.mem_flatMap, ext_mem s2]
    constructor
    · rintro (⟨e, he, hl⟩ | ⟨h1, h2⟩)
      · obtain ⟨k, hk, rfl⟩ := List.mem_map.mp hl
        obtain ⟨k1, k2⟩ := (ext_mem s2).mp hk
        obtain ⟨he1, he2⟩ := List.mem_filter.mp he
        refine ⟨List.pairwise_cons.mpr ⟨fun p hp => ?_, k1⟩, fun p hp => ?_⟩
        · obtain ⟨a, b, c⟩ := k2 p hp
          rw [Bool.and_eq_true] at c
          exact ⟨s1 _ a, c.2⟩
        · rcases List.mem_cons.mp hp with rfl | hp
          · exact ⟨List.mem_cons_self, List.mem_range.mp he1, he2⟩
          · obtain ⟨a, b, c⟩ := k2 p hp
            rw [Bool.and_eq_true] at c
            exact ⟨List.mem_cons_of_mem _ a, b, c.1⟩
      · exact ⟨h1, fun p hp => ⟨List.mem_cons_of_mem _ (h2 p hp).1, (h2 p hp).2⟩⟩
    · rintro ⟨h1, h2⟩
      cases l with
      | nil => exact .inr ⟨.nil, by simp⟩
      | cons p l =>
        obtain ⟨q1, q2⟩ := List.pairwise_cons.mp h1
        obtain ⟨p1, p2, p3⟩ := h2 p List.mem_cons_self
        by_cases e : p.1 = x
        · left
          subst e
          refine ⟨p.2, List.mem_filter.mpr ⟨List.mem_range.mpr p2, p3⟩, List.mem_map.mpr ⟨l, (ext_mem s2).mpr ⟨q2, fun r hr => ?_⟩, rfl⟩⟩
          obtain ⟨r1, r2, r3⟩ := h2 r (List.mem_cons_of_mem _ hr)
          obtain ⟨t1, t2⟩ := q1 r hr
          refine ⟨?_, r2, by rw [r3, Bool.true_and]; exact t2⟩
          rcases List.mem_cons.mp r1 with z | z
          · omega
          · exact z
        · right
          have px : p.1 ∈ xs := (List.mem_cons.mp p1).resolve_left e
          refine ⟨h1, fun r hr => ?_⟩
          obtain ⟨r1, r2⟩ := h2 r hr
          refine ⟨?_, r2⟩
          rcases List.mem_cons.mp r1 with z | z
          · exfalso
            have := s1 _ px
            rcases List.mem_cons.mp hr with rfl | hr
            · omega
            · have := (q1 r hr).1
              omega
          · exact z
end
/-! ### classes -/
def Rof (cs : List Cl) (x e : Nat) : Bool := cs.any fun c => c.1.testBit x && c.2.testBit e
theorem Rof_iff {cs : List Cl} {x e : Nat} : Rof cs x e = true ↔ ∃ c ∈ cs, c.1.testBit x = true ∧ c.2.testBit e = true := by
  unfold Rof
  rw [List.any_eq_true]
  simp only [Bool.and_eq_true]
theorem Rof_perm {cs ds : List Cl} (p : cs.Perm ds) : Rof cs = Rof ds := by
  funext x e
  rw [Bool.eq_iff_iff, Rof_iff, Rof_iff]
  exact ⟨fun ⟨c, h, r⟩ => ⟨c, p.mem_iff.mp h, r⟩, fun ⟨c, h, r⟩ => ⟨c, p.mem_iff.mpr h, r⟩⟩
def bdN (cs : List Cl) : Nat := (cs.map fun c => min (pcN c.1) (pcN c.2)).sum
/-- pairs unlike in both places, each within a class: no more than the bound -/
theorem bd_most : ∀ (l : Led) (cs : List Cl), (l.map (·.1)).Nodup → (l.map (·.2)).Nodup → (∀ p ∈ l, Rof cs p.1 p.2 = true) → l.length ≤ bdN cs
  | [], _, _, _, _ => Nat.zero_le _
  | p :: l, cs, n1, n2, h => by
    rw [List.map_cons] at n1 n2
    obtain ⟨a1, a2⟩ := List.nodup_cons.mp n1
    obtain ⟨b1, b2⟩ := List.nodup_cons.mp n2
    obtain ⟨c, hc, c1, c2⟩ := Rof_iff.mp (h p List.mem_cons_self)
    obtain ⟨A, B, rfl⟩ := List.append_of_mem hc
    have ih := bd_most l (A ++ (c.1 - 2 ^ p.1, c.2 - 2 ^ p.2) :: B) a2 b2 fun q hq => by
      obtain ⟨d, hd, d1, d2⟩ := Rof_iff.mp (h q (List.mem_cons_of_mem _ hq))
      rcases List.mem_append.mp hd with hd | hd
      · exact Rof_iff.mpr ⟨d, List.mem_append_left _ hd, d1, d2⟩
      · rcases List.mem_cons.mp hd with rfl | hd
        · refine Rof_iff.mpr ⟨_, List.mem_append_right _ List.mem_cons_self, ?_, ?_⟩
          · rw [tb_clear _ _ _ c1, d1, Bool.true_and, Bool.not_eq_true']
            exact decide_eq_false fun z => a1 (List.mem_map.mpr ⟨q, hq, z⟩)
          · rw [tb_clear _ _ _ c2, d2, Bool.true_and, Bool.not_eq_true']
            exact decide_eq_false fun z => b1 (List.mem_map.mpr ⟨q, hq, z⟩)
        · exact Rof_iff.mpr ⟨d, List.mem_append_right _ (List.mem_cons_of_mem _ hd), d1, d2⟩
    have e1 := pc_clear c1
    have e2 := pc_clear c2
    unfold bdN at ih ⊢
    simp only [List.map_append, List.map_cons, List.sum_append, List.sum_cons, List.length_cons] at ih ⊢
    omega
/-- classes of places below n and ends below m, no place in two -/
structure VC (n m : Nat) (cs : List Cl) : Prop where
  some_ : ∀ c ∈ cs, c.1 ≠ 0 ∧ c.2 ≠ 0
  low : ∀ c ∈ cs, (∀ x, c.1.testBit x = true → x < n) ∧ ∀ e, c.2.testBit e = true → e < m
  apart : cs.Pairwise fun c d => ∀ x, c.1.testBit x = true → d.1.testBit x = true → False
theorem VC.perm {n m : Nat} {cs ds : List Cl} (v : VC n m cs) (p : ds.Perm cs) : VC n m ds :=
  ⟨fun c hc => v.some_ c (p.mem_iff.mp hc), fun c hc => v.low c (p.mem_iff.mp hc), p.symm.pairwise v.apart fun {a b} h x h1 h2 => h x h2 h1⟩
theorem VC.one {n m : Nat} {cs : List Cl} (v : VC n m cs) {c d : Cl} {x : Nat} (hc : c ∈ cs) (hd : d ∈ cs) (h1 : c.1.testBit x = true) (h2 : d.1.testBit x = true) : c = d := by
  obtain ⟨i, hi, rfl⟩ := List.mem_iff_getElem.mp hc
  obtain ⟨j, hj, rfl⟩ := List.mem_iff_getElem.mp hd
  have ap := List.pairwise_iff_getElem.mp v.apart
  rcases Nat.lt_trichotomy i j with z | z | z
  · exact (ap i j hi hj z x h1 h2).elim
  · subst z; rfl
  · exact (ap j i hj hi z x h2 h1).elim
theorem VC.few {n m : Nat} {cs : List Cl} (v : VC n m cs) : cs.length ≤ n := by
  have h := nodup_len n (cs.map fun c => lsb c.1) ?_ ?_
  · rwa [List.length_map] at h
  · unfold List.Nodup
    rw [List.pairwise_map]
    refine v.apart.imp_of_mem fun {c d} hc hd h z => ?_
    have h1 := (lsb_tb (v.some_ c hc).1).1
    have h2 := (lsb_tb (v.some_ d hd).1).1
    rw [← z] at h2
    exact h _ h1 h2
  · intro x hx
    obtain ⟨c, hc, rfl⟩ := List.mem_map.mp hx
    exact (v.low c hc).1 _ (lsb_tb (v.some_ c hc).1).1
/-- how many places are left -/
def szN (cs : List Cl) : Nat := (cs.map fun c => pcN c.1).sum
/-- the class with the least place -/
structure IsMin (cs : List Cl) (c : Cl) : Prop where
  mem : c ∈ cs
  least : ∀ d ∈ cs, lsb c.1 ≤ lsb d.1
section
variable {n m : Nat} {fit : Nat × Nat → Nat × Nat → Bool} {cs : List Cl} {c : Cl}
/-- leads by classes -/
def extC (n m : Nat) (fit : Nat × Nat → Nat × Nat → Bool) (cs : List Cl) : List Led := ext m fit (List.range n) (Rof cs)
def Wc (n m : Nat) (fit : Nat × Nat → Nat × Nat → Bool) (cs : List Cl) (need : Int) : Nat := if need < 0 then 0 else cnt (extC n m fit cs) need.toNat
theorem Rof_low {x e : Nat} (h : Rof cs x e = true) (M : ∀ d ∈ cs, lsb c.1 ≤ lsb d.1) (v : VC n m cs) : lsb c.1 ≤ x := by
  obtain ⟨d, hd, d1, _⟩ := Rof_iff.mp h
  exact Nat.le_trans (M d hd) ((lsb_tb (v.some_ d hd).1).2 x d1)
/-- the least place goes first -/
theorem ext_split (v : VC n m cs) (M : IsMin cs c) {ds : List Cl} (R : ∀ x, lsb c.1 < x → x < n → ∀ e, e < m → True) :
    extC n m fit cs = ((bitsL c.2).flatMap fun e => (ext m fit ((List.range n).drop (lsb c.1 + 1)) fun y f => Rof cs y f && fit (lsb c.1, e) (y, f)).map ((lsb c.1, e) :: ·)) ++ ext m fit ((List.range n).drop (lsb c.1 + 1)) (Rof cs) := by
  have p0 := (lsb_tb (v.some_ c M.mem).1).1
  have pn := (v.low c M.mem).1 _ p0
  have e1 : List.range n = (List.range n).take (lsb c.1) ++ (List.range n).drop (lsb c.1) := (List.take_append_drop _ _).symm
  have e2 : (List.range n).drop (lsb c.1) = lsb c.1 :: (List.range n).drop (lsb c.1 + 1) := by
    rw [List.drop_eq_getElem_cons (by rw [List.length_range]; exact pn), List.getElem_range]
  unfold extC
  conv => lhs; rw [e1]
  rw [ext_drops fun x hx e _ => by
    rw [List.take_range] at hx
    have hx := List.mem_range.mp hx
    cases h : Rof cs x e with
    | false => rfl
    | true =>
      have := Rof_low (c := c) h M.least v
      omega]
  rw [e2, ext]
  have e3 : (List.range m).filter (Rof cs (lsb c.1)) = bitsL c.2 := by
    refine sorted_ext (List.pairwise_lt_range.filter _) (bits_rise _) fun e => ?_
    rw [List.mem_filter, List.mem_range, mem_bits]
    constructor
    · rintro ⟨_, h⟩
      obtain ⟨d, hd, d1, d2⟩ := Rof_iff.mp h
      rw [v.one M.mem hd p0 d1]
      exact d2
    · intro h
      exact ⟨(v.low c M.mem).2 e h, Rof_iff.mpr ⟨c, M.mem, p0, h⟩⟩
  rw [e3]
/-- what is left behind the least place: any classes that tell it -/
theorem ext_rest {p : Nat} {ds : List Cl} {S : Nat → Nat → Bool} (lo : ∀ x e, Rof ds x e = true → p < x) (eq : ∀ x, p < x → x < n → ∀ e, e < m → Rof ds x e = S x e) :
    extC n m fit ds = ext m fit ((List.range n).drop (p + 1)) S := by
  have e1 : List.range n = (List.range n).take (p + 1) ++ (List.range n).drop (p + 1) := (List.take_append_drop _ _).symm
  unfold extC
  conv => lhs; rw [e1]
  rw [ext_drops fun x hx e _ => by
    rw [List.take_range] at hx
    have hx := List.mem_range.mp hx
    cases h : Rof ds x e with
    | false => rfl
    | true =>
      have := lo x e h
      omega]
  refine ext_congr fun x hx e he => ?_
  obtain ⟨i, hi, rfl⟩ := List.mem_iff_getElem.mp hx
  rw [List.getElem_drop, List.getElem_range]
  rw [List.length_drop, List.length_range] at hi
  exact eq _ (by omega) (by omega) e he
/-- the classes behind a pair; behind none for the least place -/
structure Nar (n m : Nat) (fit : Nat × Nat → Nat × Nat → Bool) (cs : List Cl) (p e : Nat) (ds : List Cl) : Prop where
  vc : VC n m ds
  eq : ∀ x f, Rof ds x f = true ↔ Rof cs x f = true ∧ x ≠ p ∧ fit (p, e) (x, f) = true
structure Wout (n m : Nat) (cs : List Cl) (p : Nat) (ds : List Cl) : Prop where
  vc : VC n m ds
  eq : ∀ x f, Rof ds x f = true ↔ Rof cs x f = true ∧ x ≠ p
theorem Nar.ext (v : VC n m cs) (M : IsMin cs c) {e : Nat} {ds : List Cl} (N : Nar n m fit cs (lsb c.1) e ds) : extC n m fit ds = ext m fit ((List.range n).drop (lsb c.1 + 1)) fun y f => Rof cs y f && fit (lsb c.1, e) (y, f) := by
  refine ext_rest (fun x f h => ?_) fun x hx _ f _ => ?_
  · obtain ⟨h1, h2, _⟩ := (N.eq x f).mp h
    have := Rof_low (c := c) h1 M.least v
    omega
  · rw [Bool.eq_iff_iff, N.eq, Bool.and_eq_true]
    exact ⟨fun ⟨a, _, b⟩ => ⟨a, b⟩, fun ⟨a, b⟩ => ⟨a, by omega, b⟩⟩
theorem Wout.ext (v : VC n m cs) (M : IsMin cs c) {ds : List Cl} (N : Wout n m cs (lsb c.1) ds) : extC n m fit ds = ext m fit ((List.range n).drop (lsb c.1 + 1)) (Rof cs) := by
  refine ext_rest (fun x f h => ?_) fun x hx _ f _ => ?_
  · obtain ⟨h1, h2⟩ := (N.eq x f).mp h
    have := Rof_low (c := c) h1 M.least v
    omega
  · rw [Bool.eq_iff_iff, N.eq]
    exact ⟨fun ⟨a, _⟩ => a, fun a => ⟨a, by omega⟩⟩
/-- the choices, added up -/
theorem Wc_sum (v : VC n m cs) (M : IsMin cs c) {need : Int} (h1 : 1 ≤ need) {ds : Nat → List Cl} {os : List Cl} (N : ∀ e ∈ bitsL c.2, Nar n m fit cs (lsb c.1) e (ds e)) (O : Wout n m cs (lsb c.1) os) :
    ((bitsL c.2).map fun e => Wc n m fit (ds e) (need - 1)).sum + Wc n m fit os need = Wc n m fit cs need := by
  have e0 : need.toNat = (need - 1).toNat + 1 := by omega
  unfold Wc
  rw [if_neg (by omega : ¬ need < 0), ext_split (fit := fit) v M (ds := []) (fun _ _ _ _ _ => trivial), cnt_app, cnt_flat, O.ext v M, if_neg (by omega : ¬ need < 0)]
  congr 1
  congr 1
  refine List.map_congr_left fun e he => ?_
  rw [if_neg (by omega : ¬ need - 1 < 0), (N e he).ext v M, e0, cnt_cons]
theorem Wc_zero : Wc n m fit cs 0 = 1 := by
  unfold Wc
  rw [if_neg (by omega)]
  exact cnt_zero _ _
theorem Wc_neg {need : Int} (h : need < 0) : Wc n m fit cs need = 0 := if_pos h
/-- fitting pairs are unlike in both -/
def Fits (fit : Nat × Nat → Nat × Nat → Bool) : Prop := ∀ a b, fit a b = true → a.1 ≠ b.1 ∧ a.2 ≠ b.2
theorem ext_bd (F : Fits fit) {l : Led} (h : l ∈ extC n m fit cs) : l.length ≤ bdN cs := by
  obtain ⟨h1, h2⟩ := (ext_mem List.pairwise_lt_range).mp h
  refine bd_most l cs ?_ ?_ fun p hp => (h2 p hp).2.2
  · unfold List.Nodup
    rw [List.pairwise_map]
    exact h1.imp fun {a b} h => (F _ _ h.2).1
  · unfold List.Nodup
    rw [List.pairwise_map]
    exact h1.imp fun {a b} h => (F _ _ h.2).2
theorem Wc_bd (F : Fits fit) {need : Int} (h : (bdN cs : Int) < need) : Wc n m fit cs need = 0 := by
  unfold Wc
  rw [if_neg (by omega)]
  unfold cnt
  rw [List.length_eq_zero_iff, List.filter_eq_nil_iff]
  intro l hl
  have := ext_bd F hl
  simp
  omega
/-- less is left -/
theorem Wout.less (v : VC n m cs) (M : IsMin cs c) {ds : List Cl} (w : ∀ x, (∃ d ∈ ds, d.1.testBit x = true) → (∃ d ∈ cs, d.1.testBit x = true) ∧ x ≠ lsb c.1) (vd : VC n m ds) : szN ds < szN cs := by
  have flat : ∀ {es : List Cl}, VC n m es → szN es = ((List.range n).filter fun x => es.any fun d => d.1.testBit x).length := fun {es} ve => by
    obtain ⟨s, l, a⟩ := ve
    clear s
    induction es with
    | nil =>
      show 0 = _
      rw [List.filter_eq_nil_iff.mpr (fun x _ => by simp)]
      rfl
    | cons d es ih =>
      obtain ⟨a1, a2⟩ := List.pairwise_cons.mp a
      have i := ih (fun c hc => l c (List.mem_cons_of_mem _ hc)) a2
      unfold szN at i ⊢
      rw [List.map_cons, List.sum_cons, i]
      have e : ∀ zs : List Nat, (zs.filter fun x => (d :: es).any fun c => c.1.testBit x).length = (zs.filter fun x => d.1.testBit x).length + (zs.filter fun x => es.any fun c => c.1.testBit x).length := fun zs => by
        induction zs with
        | nil => rfl
        | cons z zs ihz =>
          have no : d.1.testBit z = true → (es.any fun c => c.1.testBit z) = true → False := fun h1 h2 => by
            obtain ⟨c, hc, h3⟩ := List.any_eq_true.mp h2
            exact a1 c hc z h1 h3
          have hor : ((d :: es).any fun c => c.1.testBit z) = (d.1.testBit z || es.any fun c => c.1.testBit z) := rfl
          by_cases h1 : d.1.testBit z = true
          · by_cases h2 : (es.any fun c => c.1.testBit z) = true
            · exact (no h1 h2).elim
            · rw [List.filter_cons_of_pos (by rw [hor, h1]; rfl), List.filter_cons_of_pos (p := fun x => d.1.testBit x) h1, List.filter_cons_of_neg (p := fun x => es.any fun c => c.1.testBit x) h2, List.length_cons, List.length_cons, ihz]
              omega
          · by_cases h2 : (es.any fun c => c.1.testBit z) = true
            · rw [List.filter_cons_of_pos (by rw [hor, h2, Bool.or_true]), List.filter_cons_of_neg (p := fun x => d.1.testBit x) h1, List.filter_cons_of_pos (p := fun x => es.any fun c => c.1.testBit x) h2, List.length_cons, List.length_cons, ihz]
              omega
            · rw [List.filter_cons_of_neg (by rw [hor, Bool.eq_false_iff.mpr h1, Bool.eq_false_iff.mpr h2]; decide), List.filter_cons_of_neg (p := fun x => d.1.testBit x) h1, List.filter_cons_of_neg (p := fun x => es.any fun c => c.1.testBit x) h2, ihz]
      rw [e]
      congr 1
      unfold pcN
      congr 1
      refine sorted_ext (bits_rise _) (List.pairwise_lt_range.filter _) fun x => ?_
      rw [mem_bits, List.mem_filter, List.mem_range]
      exact ⟨fun h => ⟨(l d List.mem_cons_self).1 x h, h⟩, fun h => h.2⟩
  rw [flat vd, flat v]
  have p0 := (lsb_tb (v.some_ c M.mem).1).1
  have pn := (v.low c M.mem).1 _ p0
  have go : ∀ zs : List Nat, (zs.filter fun x => ds.any fun d => d.1.testBit x).length ≤ (zs.filter fun x => cs.any fun d => d.1.testBit x).length ∧ (lsb c.1 ∈ zs → (zs.filter fun x => ds.any fun d => d.1.testBit x).length < (zs.filter fun x => cs.any fun d => d.1.testBit x).length) := fun zs => by
    induction zs with
    | nil => exact ⟨Nat.le_refl _, fun h => nomatch h⟩
    | cons z zs ih =>
      obtain ⟨i1, i2⟩ := ih
      rw [List.filter_cons, List.filter_cons]
      have sub : (ds.any fun d => d.1.testBit z) = true → (cs.any fun d => d.1.testBit z) = true ∧ z ≠ lsb c.1 := fun h => by
        obtain ⟨d, hd, h'⟩ := List.any_eq_true.mp h
        obtain ⟨⟨e, he, h2⟩, ne⟩ := w z ⟨d, hd, h'⟩
        exact ⟨List.any_eq_true.mpr ⟨e, he, h2⟩, ne⟩
      by_cases h1 : (ds.any fun d => d.1.testBit z) = true
      · obtain ⟨h2, ne⟩ := sub h1
        rw [if_pos h1, if_pos h2]
        simp only [List.length_cons]
        refine ⟨by omega, fun hm => ?_⟩
        have := i2 ((List.mem_cons.mp hm).resolve_left (Ne.symm ne))
        omega
      · rw [if_neg h1]
        by_cases h2 : (cs.any fun d => d.1.testBit z) = true
        · rw [if_pos h2]
          simp only [List.length_cons]
          exact ⟨by omega, fun _ => by omega⟩
        · rw [if_neg h2]
          refine ⟨i1, fun hm => i2 ((List.mem_cons.mp hm).resolve_left fun z2 => h2 ?_)⟩
          rw [← z2]
          exact List.any_eq_true.mpr ⟨c, M.mem, p0⟩
  exact (go _).2 (List.mem_range.mpr pn)
end
end Cw

/-! classes: behind a pair, without a place, at first -/
namespace Cw
open PySem PySem.Spec PyProof.Rows L2
/-- the others by their tie with p -/
def obt (u : Web) (p : Nat) (k : Option Nat) : Nat := maskN ((List.range u.1.length).filter fun o => decide (o ≠ p) && decide (tieL u.2 p o = k))
theorem tb_obt {u : Web} {p o : Nat} {k : Option Nat} : (obt u p k).testBit o = true ↔ o < u.1.length ∧ o ≠ p ∧ tieL u.2 p o = k := by
  unfold obt
  rw [tb_mask, decide_eq_true_eq, List.mem_filter, List.mem_range, Bool.and_eq_true, decide_eq_true_eq, decide_eq_true_eq]
/-- unlike in both, like ties -/
def fitM (u u' : Web) (a b : Nat × Nat) : Bool := decide (a.1 ≠ b.1) && decide (a.2 ≠ b.2) && decide (tieL u.2 a.1 b.1 = tieL u'.2 a.2 b.2)
theorem fitM_iff {u u' : Web} {a b : Nat × Nat} : fitM u u' a b = true ↔ a.1 ≠ b.1 ∧ a.2 ≠ b.2 ∧ tieL u.2 a.1 b.1 = tieL u'.2 a.2 b.2 := by
  unfold fitM
  rw [Bool.and_eq_true, Bool.and_eq_true, decide_eq_true_eq, decide_eq_true_eq, decide_eq_true_eq, and_assoc]
theorem fitM_fits (u u' : Web) : Fits (fitM u u') := fun a b h => ⟨(fitM_iff.mp h).1, (fitM_iff.mp h).2.1⟩
theorem tb_and {a b x : Nat} : (a &&& b).testBit x = true ↔ a.testBit x = true ∧ b.testBit x = true := by rw [Nat.testBit_and, Bool.and_eq_true]
theorem ne_zero {a x : Nat} (h : a.testBit x = true) : a ≠ 0 := fun z => by subst z; simp at h
theorem some_bit {a : Nat} (h : a ≠ 0) : ∃ x, a.testBit x = true := ⟨_, (lsb_tb h).1⟩
def narC (u u' : Web) (p e : Nat) (k : Option Nat) (c : Cl) : Option Cl := if c.1 &&& obt u p k ≠ 0 ∧ c.2 &&& obt u' e k ≠ 0 then some (c.1 &&& obt u p k, c.2 &&& obt u' e k) else none
def narL (ks : List (Option Nat)) (u u' : Web) (p e : Nat) (cs : List Cl) : List Cl := ks.flatMap fun k => cs.filterMap (narC u u' p e k)
theorem narC_iff {u u' : Web} {p e : Nat} {k : Option Nat} {c d : Cl} : narC u u' p e k c = some d ↔ (c.1 &&& obt u p k ≠ 0 ∧ c.2 &&& obt u' e k ≠ 0) ∧ d = (c.1 &&& obt u p k, c.2 &&& obt u' e k) := by
  unfold narC
  by_cases h : c.1 &&& obt u p k ≠ 0 ∧ c.2 &&& obt u' e k ≠ 0
  · rw [if_pos h]
    exact ⟨fun z => ⟨h, (Option.some.inj z).symm⟩, fun z => by rw [z.2]⟩
  · rw [if_neg h]
    exact ⟨fun z => (nomatch z), fun z => absurd z.1 h⟩
theorem mem_nar {ks : List (Option Nat)} {u u' : Web} {p e : Nat} {cs : List Cl} {d : Cl} : d ∈ narL ks u u' p e cs ↔ ∃ k ∈ ks, ∃ c ∈ cs, (c.1 &&& obt u p k ≠ 0 ∧ c.2 &&& obt u' e k ≠ 0) ∧ d = (c.1 &&& obt u p k, c.2 &&& obt u' e k) := by
  unfold narL
  rw [List.mem_flatMap]
  refine exists_congr fun k => and_congr_right fun _ => ?_
  rw [List.mem_filterMap]
  exact exists_congr fun c => and_congr_right fun _ => narC_iff
theorem nar_ok {ks : List (Option Nat)} {u u' : Web} {p e : Nat} {cs : List Cl} (v : VC u.1.length u'.1.length cs) (nd : ks.Nodup) (all : ∀ k, obt u p k ≠ 0 → k ∈ ks) : Nar u.1.length u'.1.length (fitM u u') cs p e (narL ks u u' p e cs) := by
  refine ⟨⟨fun d hd => ?_, fun d hd => ?_, ?_⟩, fun x f => ?_⟩
  · obtain ⟨k, _, c, _, h, rfl⟩ := mem_nar.mp hd
    exact h
  · obtain ⟨k, _, c, hc, h, rfl⟩ := mem_nar.mp hd
    exact ⟨fun x hx => (v.low c hc).1 x (tb_and.mp hx).1, fun x hx => (v.low c hc).2 x (tb_and.mp hx).1⟩
  · unfold narL
    rw [List.pairwise_flatMap]
    refine ⟨fun k _ => ?_, nd.imp fun {k j} hkj => ?_⟩
    · refine List.Pairwise.filterMap _ (fun c c' h d hd d' hd' x h1 h2 => ?_) v.apart
      obtain ⟨_, rfl⟩ := narC_iff.mp (Option.mem_def.mp hd)
      obtain ⟨_, rfl⟩ := narC_iff.mp (Option.mem_def.mp hd')
      exact h x (tb_and.mp h1).1 (tb_and.mp h2).1
    · intro d hd d' hd' x h1 h2
      obtain ⟨c, _, z1⟩ := List.mem_filterMap.mp hd
      obtain ⟨c', _, z2⟩ := List.mem_filterMap.mp hd'
      obtain ⟨_, rfl⟩ := narC_iff.mp z1
      obtain ⟨_, rfl⟩ := narC_iff.mp z2
      obtain ⟨_, _, t1⟩ := tb_obt.mp (tb_and.mp h1).2
      obtain ⟨_, _, t2⟩ := tb_obt.mp (tb_and.mp h2).2
      exact hkj (t1.symm.trans t2)
  · rw [Rof_iff, Rof_iff, fitM_iff]
    constructor
    · rintro ⟨d, hd, h1, h2⟩
      obtain ⟨k, hk, c, hc, _, rfl⟩ := mem_nar.mp hd
      obtain ⟨a1, a2⟩ := tb_and.mp h1
      obtain ⟨b1, b2⟩ := tb_and.mp h2
      obtain ⟨_, x2, x3⟩ := tb_obt.mp a2
      obtain ⟨_, f2, f3⟩ := tb_obt.mp b2
      exact ⟨⟨c, hc, a1, b1⟩, x2, Ne.symm x2, Ne.symm f2, x3.trans f3.symm⟩
    · rintro ⟨⟨c, hc, a1, b1⟩, x2, _, f2, t⟩
      have xo : (obt u p (tieL u.2 p x)).testBit x = true := tb_obt.mpr ⟨(v.low c hc).1 x a1, x2, rfl⟩
      have fo : (obt u' e (tieL u.2 p x)).testBit f = true := tb_obt.mpr ⟨(v.low c hc).2 f b1, Ne.symm f2, t.symm⟩
      have h1 := tb_and.mpr ⟨a1, xo⟩
      have h2 := tb_and.mpr ⟨b1, fo⟩
      exact ⟨_, mem_nar.mpr ⟨_, all _ (ne_zero xo), c, hc, ⟨ne_zero h1, ne_zero h2⟩, rfl⟩, h1, h2⟩
theorem Nar.perm {n m : Nat} {fit : Nat × Nat → Nat × Nat → Bool} {cs ds es : List Cl} {p e : Nat} (N : Nar n m fit cs p e ds) (q : es.Perm ds) : Nar n m fit cs p e es := ⟨N.vc.perm q, fun x f => by rw [Rof_perm q]; exact N.eq x f⟩
theorem Wout.perm {n m : Nat} {cs ds es : List Cl} {p : Nat} (N : Wout n m cs p ds) (q : es.Perm ds) : Wout n m cs p es := ⟨N.vc.perm q, fun x f => by rw [Rof_perm q]; exact N.eq x f⟩
/-- without a place -/
def clr (a p : Nat) : Nat := if a.testBit p = true then a - 2 ^ p else a
theorem tb_clr {a p x : Nat} : (clr a p).testBit x = true ↔ a.testBit x = true ∧ x ≠ p := by
  unfold clr
  split
  · rename_i h
    rw [tb_clear p a x h, Bool.and_eq_true, Bool.not_eq_true', decide_eq_false_iff_not]
  · rename_i h
    exact ⟨fun z => ⟨z, fun e => h (e ▸ z)⟩, fun z => z.1⟩
def outC (p : Nat) (c : Cl) : Option Cl := if clr c.1 p ≠ 0 then some (clr c.1 p, c.2) else none
def outL (p : Nat) (cs : List Cl) : List Cl := cs.filterMap (outC p)
theorem outC_iff {p : Nat} {c d : Cl} : outC p c = some d ↔ clr c.1 p ≠ 0 ∧ d = (clr c.1 p, c.2) := by
  unfold outC
  by_cases h : clr c.1 p ≠ 0
  · rw [if_pos h]
    exact ⟨fun z => ⟨h, (Option.some.inj z).symm⟩, fun z => by rw [z.2]⟩
  · rw [if_neg h]
    exact ⟨fun z => (nomatch z), fun z => absurd z.1 h⟩
theorem mem_out {p : Nat} {cs : List Cl} {d : Cl} : d ∈ outL p cs ↔ ∃ c ∈ cs, clr c.1 p ≠ 0 ∧ d = (clr c.1 p, c.2) := by
  unfold outL
  rw [List.mem_filterMap]
  exact exists_congr fun c => and_congr_right fun _ => outC_iff
theorem out_ok {n m p : Nat} {cs : List Cl} (v : VC n m cs) : Wout n m cs p (outL p cs) := by
  refine ⟨⟨fun d hd => ?_, fun d hd => ?_, ?_⟩, fun x f => ?_⟩
  · obtain ⟨c, hc, h, rfl⟩ := mem_out.mp hd
    exact ⟨h, (v.some_ c hc).2⟩
  · obtain ⟨c, hc, h, rfl⟩ := mem_out.mp hd
    exact ⟨fun x hx => (v.low c hc).1 x (tb_clr.mp hx).1, (v.low c hc).2⟩
  · unfold outL
    refine List.Pairwise.filterMap _ (fun c c' h d hd d' hd' x h1 h2 => ?_) v.apart
    obtain ⟨_, rfl⟩ := outC_iff.mp (Option.mem_def.mp hd)
    obtain ⟨_, rfl⟩ := outC_iff.mp (Option.mem_def.mp hd')
    exact h x (tb_clr.mp h1).1 (tb_clr.mp h2).1
  · rw [Rof_iff, Rof_iff]
    constructor
    · rintro ⟨d, hd, h1, h2⟩
      obtain ⟨c, hc, _, rfl⟩ := mem_out.mp hd
      obtain ⟨a, b⟩ := tb_clr.mp h1
      exact ⟨⟨c, hc, a, h2⟩, b⟩
    · rintro ⟨⟨c, hc, a, h2⟩, b⟩
      have h1 := tb_clr.mpr ⟨a, b⟩
      exact ⟨_, mem_out.mpr ⟨c, hc, ne_zero h1, rfl⟩, h1, h2⟩
/-- places left stand in both -/
theorem Wout.sz {n m : Nat} {cs : List Cl} {c : Cl} (v : VC n m cs) (M : IsMin cs c) {ds : List Cl} (p : ds.Perm (outL (lsb c.1) cs)) : szN ds < szN cs :=
  Wout.less v M (fun x ⟨d, hd, h⟩ => by
    obtain ⟨c', hc', _, rfl⟩ := mem_out.mp (p.mem_iff.mp hd)
    obtain ⟨a, b⟩ := tb_clr.mp h
    exact ⟨⟨c', hc', a⟩, b⟩) ((out_ok v).perm p).vc
theorem Nar.sz {u u' : Web} {cs : List Cl} {c : Cl} (v : VC u.1.length u'.1.length cs) (M : IsMin cs c) {ks : List (Option Nat)} {e : Nat} {ds : List Cl} (p : ds.Perm (narL ks u u' (lsb c.1) e cs)) (vd : VC u.1.length u'.1.length ds) : szN ds < szN cs :=
  Wout.less v M (fun x ⟨d, hd, h⟩ => by
    obtain ⟨k, _, c', hc', _, rfl⟩ := mem_nar.mp (p.mem_iff.mp hd)
    obtain ⟨a, b⟩ := tb_and.mp h
    exact ⟨⟨c', hc', a⟩, (tb_obt.mp b).2.1⟩) vd
/-! ### at first -/
def clsC (u u' : Web) (ps : List Nat) (k : Nat) : Option Cl :=
  let l := maskN (ps.filter fun p => decide (u.1[p]? = some k))
  let e := maskN ((List.range u'.1.length).filter fun f => decide (u'.1[f]? = some k))
  if l ≠ 0 ∧ e ≠ 0 then some (l, e) else none
def clsL (ks : List Nat) (u u' : Web) (ps : List Nat) : List Cl := ks.filterMap (clsC u u' ps)
theorem clsC_iff {u u' : Web} {ps : List Nat} {k : Nat} {d : Cl} : clsC u u' ps k = some d ↔ d.1 ≠ 0 ∧ d.2 ≠ 0 ∧ d.1 = maskN (ps.filter fun p => decide (u.1[p]? = some k)) ∧ d.2 = maskN ((List.range u'.1.length).filter fun f => decide (u'.1[f]? = some k)) := by
  unfold clsC
  dsimp only
  split
  · rename_i h
    constructor
    · intro z
      rw [← Option.some.inj z]
      exact ⟨h.1, h.2, rfl, rfl⟩
    · rintro ⟨_, _, h1, h2⟩
      rw [← h1, ← h2]
  · rename_i h
    constructor
    · intro z; cases z
    · rintro ⟨a, b, h1, h2⟩
      rw [← h1, ← h2] at h
      exact absurd ⟨a, b⟩ h
theorem cls_ok {ks : List Nat} {u u' : Web} {ps : List Nat} (nd : ks.Nodup) (bp : ∀ p ∈ ps, p < u.1.length) : VC u.1.length u'.1.length (clsL ks u u' ps) := by
  have bitl : ∀ {k x : Nat}, (maskN (ps.filter fun p => decide (u.1[p]? = some k))).testBit x = true ↔ x ∈ ps ∧ u.1[x]? = some k := fun {k x} => by rw [tb_mask, decide_eq_true_eq, List.mem_filter, decide_eq_true_eq]
  have bite : ∀ {k x : Nat}, (maskN ((List.range u'.1.length).filter fun f => decide (u'.1[f]? = some k))).testBit x = true ↔ x < u'.1.length ∧ u'.1[x]? = some k := fun {k x} => by rw [tb_mask, decide_eq_true_eq, List.mem_filter, decide_eq_true_eq, List.mem_range]
  refine ⟨fun d hd => ?_, fun d hd => ?_, ?_⟩
  · obtain ⟨k, _, z⟩ := List.mem_filterMap.mp hd
    obtain ⟨a, b, _⟩ := clsC_iff.mp z
    exact ⟨a, b⟩
  · obtain ⟨k, _, z⟩ := List.mem_filterMap.mp hd
    obtain ⟨_, _, e1, e2⟩ := clsC_iff.mp z
    rw [e1, e2]
    exact ⟨fun x hx => bp x (bitl.mp hx).1, fun x hx => (bite.mp hx).1⟩
  · unfold clsL
    refine List.Pairwise.filterMap _ (fun k j h d hd d' hd' x h1 h2 => ?_) nd
    obtain ⟨_, _, e1, _⟩ := clsC_iff.mp (Option.mem_def.mp hd)
    obtain ⟨_, _, e2, _⟩ := clsC_iff.mp (Option.mem_def.mp hd')
    rw [e1] at h1
    rw [e2] at h2
    have a := (bitl.mp h1).2
    rw [(bitl.mp h2).2] at a
    exact h (Option.some.inj a).symm
theorem cls_R {ks : List Nat} {u u' : Web} {ps : List Nat} (all : ∀ k ∈ u.1, k ∈ ks) {x e : Nat} : Rof (clsL ks u u' ps) x e = true ↔ x ∈ ps ∧ e < u'.1.length ∧ ∃ k, u.1[x]? = some k ∧ u'.1[e]? = some k := by
  have bitl : ∀ {k x : Nat}, (maskN (ps.filter fun p => decide (u.1[p]? = some k))).testBit x = true ↔ x ∈ ps ∧ u.1[x]? = some k := fun {k x} => by rw [tb_mask, decide_eq_true_eq, List.mem_filter, decide_eq_true_eq]
  have bite : ∀ {k x : Nat}, (maskN ((List.range u'.1.length).filter fun f => decide (u'.1[f]? = some k))).testBit x = true ↔ x < u'.1.length ∧ u'.1[x]? = some k := fun {k x} => by rw [tb_mask, decide_eq_true_eq, List.mem_filter, decide_eq_true_eq, List.mem_range]
  rw [Rof_iff]
  constructor
  · rintro ⟨d, hd, h1, h2⟩
    obtain ⟨k, _, z⟩ := List.mem_filterMap.mp hd
    obtain ⟨_, _, e1, e2⟩ := clsC_iff.mp z
    rw [e1] at h1
    rw [e2] at h2
    exact ⟨(bitl.mp h1).1, (bite.mp h2).1, k, (bitl.mp h1).2, (bite.mp h2).2⟩
  · rintro ⟨a, b, k, c, d⟩
    have h1 := bitl.mpr ⟨a, c⟩
    have h2 := bite.mpr ⟨b, d⟩
    exact ⟨(maskN (ps.filter fun p => decide (u.1[p]? = some k)), maskN ((List.range u'.1.length).filter fun f => decide (u'.1[f]? = some k))), List.mem_filterMap.mpr ⟨k, all k (List.mem_of_getElem? c), clsC_iff.mpr ⟨ne_zero h1, ne_zero h2, rfl, rfl⟩⟩, h1, h2⟩
end Cw

namespace Cw
open PySem PySem.Spec PyProof.Rows L2
/-! ### all, any of a generator expression: one clause without tests, over whatever PI serves; its item may call defs -/
/-- a def's table of code objects, which grows at the first call -/
def TbX (P : Addr) : HO := .ext fun h => ∃ ps : Array Value, h.get? P = some { cls := .none, data := .fields ps } ∧ TriplesOk ps.toList
theorem upd_id {H : Hp} {P : Addr} {o : HO} (e : H P = some o) : upd H P o = H := funext fun b => by
  by_cases hb : b = P
  · rw [hb, upd_same, e]
  · exact upd_ne hb
section
variable {X : Cx} {pins : List (Addr × Obj)} {σ : L2.St} {H : Hp} {s : Shared} {P : Addr}
theorem tb_at (I : Inv X pins σ H s) (hP : H P = some (TbX P)) : ∃ ps : Array Value, s.heap.get? P = some { cls := .none, data := .fields ps } ∧ TriplesOk ps.toList := (I.hok P _ hP).1
theorem tb_grown (I : Inv X pins σ H s) (hP : H P = some (TbX P)) {h' : Heap} {tk : Nat} {ps : Array Value} (k : ∀ b o, b ≠ P → s.heap.get? b = some o → h'.get? b = some o)
    (e : h'.get? P = some { cls := .none, data := .fields ps }) (ht : TriplesOk ps.toList) : Inv X pins σ H { s with heap := h', toks := tk } := by
  have J := I.write (x := P) (e := P) (o := TbX P) (t' := tk) (by rw [hP]; exact trivial) (.inl rfl) k ⟨_, e⟩ ⟨⟨ps, e, ht⟩, ⟨_, e⟩, fun h1 h2 ⟨qs, z, zt⟩ st => ⟨qs, st _ z, zt⟩⟩
  rw [upd_id hP] at J
  exact J
/-- the code object of a generator expression, made now or found -/
theorem gx_code {c : Addr} {gpos : Pos} {qual : Str} {scope : Scope} {E : Value → Shared → Prop} {A : Around} {Qc : Value → Shared → Prop} (TB : GxR.TabB X.base X.mg c P) (hcode : X.env.code = .ref c) (I : Inv X pins σ H s) (hP : H P = some (TbX P))
    (h : ∀ code h' tk, Inv X pins σ H { s with heap := h', toks := tk } → (∀ b o, b ≠ P → s.heap.get? b = some o → h'.get? b = some o) → s.heap.objs.size ≤ h'.objs.size → Qc code { s with heap := h', toks := tk }) :
    wpAny (model X.prog X.w) A (genexprCode X.env gpos qual scope) Qc E s := by
  obtain ⟨ps, e, ht⟩ := tb_at I hP
  have cd : PySem.W.CodeHd s.heap c P := TB.code.keeps fun b o q => I.bk b o q
  cases hf : codeAmong gpos ps.toList with
  | some cv => exact wpAny_genexprCode_hit hcode (cd.code e ht) hf (h cv s.heap s.toks I (fun _ _ _ q => q) (Nat.le_refl _))
  | none =>
    refine wpAny_genexprCodeX hcode (cd.code e ht) (cd.tab e) hf fun c' h' tk ext big less known _ tab _ => ?_
    obtain ⟨_, _, _, _, _, _, _, _, _, _, _, _, _, _, _, _, _, _, _, trip, _⟩ := known
    exact h _ h' tk (tb_grown I hP ext tab.2 trip) ext (Nat.le_trans big (Nat.le_of_lt less))
end
/-- where a generator expression's items run: its frame over the frames that stand, made at s -/
abbrev _root_.L2.Cx.gx (X : Cx) (Ag : Around) (s : Shared) (H : Hp) (cenv : Env) (fp : List Addr) : Cx := { X with A := Ag, s_0 := s, H_0 := H, env := cenv, outer := X.stack, stack := cenv :: X.stack, ex := fp, fn := fun _ => false, pn := [], xe := fun _ _ => False }
abbrev gxEnv (X : Cx) (scope : Scope) (C : Addr) (code : Value) : Env := genEnv scope (cloFrom X.env.cells scope.names []) C code builtinsNs X.env
section
variable {X : Cx} {pins : List (Addr × Obj)} {σ : L2.St} {H : Hp} {s : Shared} {scope : Scope} {own : List (Str × Nat)} {fp : List Addr} {Ag : Around} {code : Value} {h5 : Heap} {tk : Nat} {g5 : Array GenState} {a : Addr} {go : Obj}
theorem gx_cells (I : Inv X pins σ H s) {y : Str} {c : Addr} (free : ∀ y ∈ scope.names, y.2 = .free → ∃ c, X.env.cells.lookup y.1 = some c) (e : (cloFrom X.env.cells scope.names []).lookup y = some c) : X.env.cells.lookup y = some c ∧ c < s.heap.objs.size := by
  rcases cloFrom_mem (PySem.mem_of_lookup e) with z | ⟨z, rfl⟩
  · cases z
  · obtain ⟨c, hc⟩ := free _ z rfl
    obtain ⟨v, w⟩ := I.cell _ _ hc
    rw [hc]
    exact ⟨rfl, w.lt⟩
theorem gx_start (I : Inv X pins σ H s) (ok : BlkOk X.N X.env.scope scope own) (nc : ∀ y ∈ scope.names, y.2 ≠ .cell) (hN : X.N.Nodup) (hfp : ∀ b ∈ fp, FpOk X pins H b ∧ b < s.heap.objs.size) (hA : X.calm = true → Ag.handled = none) (hfr : Ag.frames = some (gxEnv X scope s.heap.objs.size code :: X.stack))
    (keep : ∀ b o, s.heap.get? b = some o → h5.get? b = some o) {m : Str → Option Value} (ns : h5.Ns s.heap.objs.size m) (ha : h5.get? a = some go) (la : s.heap.objs.size < a) (nv : ∀ v, go.data ≠ .cell v) (hg : AllBare g5) :
    Inv (X.gx Ag s H (gxEnv X scope s.heap.objs.size code) fp) [(a, go)] (wipe σ (own.map (·.2))) H { s with gens := g5, toks := tk, heap := h5 } := by
  have free : ∀ y ∈ scope.names, y.2 = .free → ∃ c, X.env.cells.lookup y.1 = some c := fun y hy e => (ok.free y hy e).elim (fun k => I.ok.has _ (.inl k)) fun k => I.ok.has _ (.inr k)
  have cm := fun {y : Str} {c : Addr} (e : (cloFrom X.env.cells scope.names []).lookup y = some c) => gx_cells I free e
  have there : ∀ {y : Str}, scope.names.lookup y = some .free → ∃ c, (cloFrom X.env.cells scope.names []).lookup y = some c ∧ X.env.cells.lookup y = some c := fun {y} hl => by
    obtain ⟨c', e'⟩ := mem_lookup (cloFrom_has (cells := X.env.cells) (acc := []) (PySem.mem_of_lookup hl))
    exact ⟨c', e', (cm e').1⟩
  have young : ∀ b o, s.heap.get? b = some o → b ≠ s.heap.objs.size := fun b o e => Nat.ne_of_lt (Heap.lt_size e)
  have okG : (X.gx Ag s H (gxEnv X scope s.heap.objs.size code) fp).Ok := {
    mod := I.ok.mod, kind := ok.kind, glob := I.ok.glob, blt := rfl, above := Nat.le_refl _
    inj := fun x y c e1 e2 => I.ok.inj x y c (cm e1).1 (cm e2).1
    has := fun x hx => by
      rcases hx with hx | hx
      · exact absurd rfl (nc _ (PySem.mem_of_lookup hx))
      · obtain ⟨c, e, _⟩ := there hx
        exact ⟨c, e⟩
    cab := fun x c z _ => nomatch z
    hd := hA, frames := hfr, stk := .inr ⟨rfl, rfl⟩
    exf := fun b hb => ⟨Nat.ne_of_lt (hfp b hb).2, fun x c e => (hfp b hb).1.2.2.2.2.1 x c (cm e).1⟩
    bs := I.bs, bsz := Nat.le_trans I.ok.bsz I.sz
    noex := fun b o e hb => by
      rcases (hfp b hb).1.2.2.2.1 with z | z
      · exact I.ok.noex b o e z
      · exact absurd (Nat.lt_of_lt_of_le (Heap.lt_size e) (Nat.le_trans I.ok.bsz z)) (Nat.lt_irrefl _)
    exfs := fun b hb z => (List.mem_cons.mp (I.stkSub b z)).elim (hfp b hb).1.2.1 (hfp b hb).1.2.2.1
    funs := I.stack, frf := I.stkFree }
  refine { ok := okG, os := rfl, bare := hg, base := Un.kept keep, loc := ⟨m, ns, fun i y v e1 e2 e3 => ?_⟩, cell := fun y c e => ?_, free := I.hok.fresh (Nat.le_refl _), freeC := fun y c e => I.freeC y c (cm e).1, pin := fun p hp => ?_, hok := I.hok.kept keep, len := by rw [wipe_length]; exact I.len }
  · obtain ⟨e2, hne⟩ := wipe_some e2
    have notOwn : ∀ k, scope.names.lookup y = some k → k = .local ∨ k = .cell → False := fun k hk hk' => by
      rcases ok.own _ (PySem.mem_of_lookup hk) hk' with z | z
      · obtain ⟨p, hp, hpy⟩ := List.mem_map.mp z
        exact hne (List.mem_map.mpr ⟨p, hp, nodup_ix hN (by rw [ok.ix p hp, show p.1 = y from hpy]) e1⟩)
      · exact z (List.mem_of_getElem? e1)
    have fr : scope.names.lookup y = some .free := by
      rcases e3 with z | z | z
      · exact (notOwn _ z (.inl rfl)).elim
      · exact (notOwn _ z (.inr rfl)).elim
      · exact z
    obtain ⟨c, h1, h2⟩ := there fr
    obtain ⟨m', _, hl⟩ := I.loc
    have cf := ok.free _ (PySem.mem_of_lookup fr) rfl
    obtain ⟨u, r, q⟩ := hl i y v e1 e2 (cf.elim (fun k => .inr (.inl k)) fun k => .inr (.inr k))
    refine ⟨u, r, .inr ⟨.inr fr, c, h1, ?_⟩⟩
    rcases q with ⟨k, _⟩ | ⟨_, c', e', z⟩
    · have k : X.env.scope.names.lookup y = some .local := k
      rcases cf with z | z <;> (rw [show X.env.scope.names.lookup y = _ from z] at k; cases k)
    · rw [h2] at e'
      cases e'
      exact z.keeps keep
  · obtain ⟨v, z⟩ := I.cell y c (cm e).1
    exact ⟨v, z.keeps keep⟩
  · obtain rfl : p = (a, go) := List.mem_singleton.mp (show p ∈ [(a, go)] from hp)
    refine ⟨ha, I.hok.fresh (Nat.le_of_lt la), Nat.ne_of_gt la, fun z => ?_, nv⟩
    obtain ⟨_, o, ho, _⟩ := I.stack.mem z
    exact absurd (Nat.lt_trans (Heap.lt_size ho) la) (Nat.lt_irrefl _)
/-- the state but for its generators, texts' numbers and draws -/
theorem inv_re {X : Cx} {s s' : Shared} (I : Inv X pins σ H s) (hh : s'.heap = s.heap) (ho : s'.os = s.os) (hg : AllBare s'.gens) : Inv X pins σ H s' := by
  obtain ⟨a1, a2, a3, a4, a5, a6, a7, a8, a9, a10, a11⟩ := I
  rw [← hh] at a4 a5 a6 a9 a10
  exact ⟨a1, ho.trans a2, hg, a4, a5, a6, a7, a8, a9, a10, a11⟩
end
/-! the generator's own run -/
/-- an item handed out: a truth; the one at which the consumer stops, and the others, behind which it asks again -/
def gxY (X : Cx) (p : Addr × Obj) (st : Bool) (QS : Hp → Prop) : Protocol := fun _ _ v s kap => ∃ (b : Bool) (σ : L2.St) (H : Hp), v = .bool b ∧ Inv X [p] σ H s ∧ (b = st → QS H) ∧
  (b = !st → ∀ s2 : Shared, s2.heap = s.heap → s2.os = s.os → AllBare s2.gens → kap (.send .none) s2)
def gxP (X : Cx) (p : Addr × Obj) (QE : Hp → Prop) : Nat → Shared → Shared → Prop := fun _ _ s => ∃ (σ : L2.St) (H : Hp), Inv X [p] σ H s ∧ QE H
abbrev gxR (X : Cx) (p : Addr × Obj) (QE : Hp → Prop) : GenEnd := fun n s0 r s => r = .ok .next ∧ gxP X p QE n s0 s
/-- one turn by the walk, the target, the item -/
def gxTurn (J : It) (g : TG) (te : TE) (vs : List Nat) (st : Bool) (σ : L2.St) (QE QS : Hp → Prop) (W : Nat → Nat → Hp → Prop) : Prop := ∀ i m H, W i m H → (J.stop i H ∧ QE H) ∨ (J.go i H ∧ ∀ x H', J.yld i H x H' →
  g x (wipe σ vs) H' fun σ2 H2 => wipe σ2 vs = wipe σ vs ∧ te σ2 H2 fun y H3 => ∃ b, y = .bl b ∧ (b = st → QS H3) ∧ (b = !st → ∃ m', m' < m ∧ W (i + 1) m' H3))
section
variable {X : Cx} {p : Addr × Obj} {st : Bool} {QE QS : Hp → Prop} {J : It} {g : TG} {te : TE} {vs : List Nat} {σ : L2.St} {W : Nat → Nat → Hp → Prop} {fp : List Addr} {it : Addr} {tn : Nat → Heap → Prop} {elt tg iter : Expr} {scope : Scope} {pos : Pos} {A0 : Around}
theorem gx_loop (hA : X.A = A0.over (.compLoop (.GeneratorExp elt [⟨tg, iter, [], 0⟩] scope pos) 0 (.ref it) .none X.env) []) (hco : X.env.scope.isCoroutine = false) (hx : ∀ e s, X.xe e s → False) (hc : X.calm = true)
    (T : Turn X.prog X.w X.K tg J fp it tn) (hex : ∀ b ∈ fp, b ∈ X.ex) (hpn : X.pn = []) (hap : ∀ b ∈ fp, p.1 ≠ b) (pg : PG X tg g) (pe : PE X elt te) (turn : gxTurn J g te vs st σ QE QS W) :
    ∀ (n i m : Nat) (H : Hp) (s s0 : Shared), m + 1 ≤ n → Inv X [p] (wipe σ vs) H s → tn i s.heap → (∀ b ∈ fp, H b = none) → W i m H →
      Seg (model X.prog X.w) A0 (gxR X p QE) (gxY X p st QS) n s0 (.compLoop (.GeneratorExp elt [⟨tg, iter, [], 0⟩] scope pos) 0 (.ref it) .none X.env)
        ((model X.prog X.w).den (.compLoop (.GeneratorExp elt [⟨tg, iter, [], 0⟩] scope pos) 0 (.ref it) .none X.env)) [] s := by
  have stat : ∀ {σ' : L2.St} {H' : Hp} {s' : Shared}, Inv X [p] σ' H' s' → (∀ b ∈ fp, H' b = none) → ∀ b ∈ fp, FpOk X [p] H' b := fun {σ' H' s'} I' hn b hb =>
    ⟨hn b hb, (I'.ok.exf b (hex b hb)).1, I'.ok.exfs b (hex b hb), .inl (hex b hb), (I'.ok.exf b (hex b hb)).2, fun q hq => by
      rw [hpn] at hq
      rw [List.mem_singleton.mp (show q ∈ [p] from hq)]
      exact hap b hb⟩
  intro n
  induction n with
  | zero => intro i m H s s0 hm; omega
  | succ n ih =>
    intro i m H s s0 hm I t hn w
    show Seg _ A0 _ _ _ s0 _ ((compTurn (.GeneratorExp elt [⟨tg, iter, [], 0⟩] scope pos) 0 (.ref it) .none X.env).onRaise (leaving X.env)) [] s
    rw [compTurn_gen, Sem.onRaise_eq_wrap]
    refine seg_bind_wrap (wpAny_standAt ?_)
    rcases turn i m H w with ⟨stop, qe⟩ | ⟨go, step⟩
    · have d := T.done X rfl rfl rfl hc i [p] s _ H (fun _ _ => False) I (stat I hn) t stop
      rw [hA] at d
      exact seg_bind_wrap (thnF d fun r s1 ⟨hr, I1⟩ => by subst hr; exact seg_end (.ok .next) ⟨rfl, _, _, I1, qe⟩)
    · have d := T.item X rfl rfl rfl hc i [p] s _ H (fun _ _ => False) I (stat I hn) t go
      rw [hA] at d
      refine seg_bind_wrap (thnF d fun r s1 ⟨u, hr, d1⟩ => ?_)
      subst hr
      refine seg_bind_wrap (thnF d1 fun _ s2 ⟨x, H2, I2, r2, y2, t2, n2⟩ => ?_)
      have I2' := I2.pinned (stat I2 n2) (T.obj _ _ t2)
      have dg := pg.run _ s2 _ H2 x u _ I2' r2 (step x H2 y2)
      rw [hA] at dg
      refine seg_bind_wrap (wpAny_mono dg (fun _ s3 ⟨σ3, H3, I3, w3, q3⟩ => ?_) fun e s' z => (hx e s' z).elim)
      simp only [List.forIn_nil]
      refine seg_bind_wrap (wpAny_pure ?_)
      simp only [if_true]
      have out : ∀ v, yieldOut X.env v = yieldValue v := fun v => by simp only [yieldOut, hco, Bool.false_eq_true, if_false]
      simp only [out]
      have de := pe.run _ s3 σ3 H3 _ I3 q3
      rw [hA] at de
      rw [Sem.bind_eq_wrap', Sem.bind_eq_wrap', Sem.wrap_wrap, Sem.wrap_wrap]
      refine seg_wrap (wpAny_mono de (fun v s4 ⟨y, H4, I4, r4, b, hy, qs, qn⟩ => ?_) fun e s' z => (hx e s' z).elim)
      subst hy
      obtain rfl : v = Value.bool b := r4
      have kept : ∀ b ∈ fp, ∀ o, s2.heap.get? b = some o → s4.heap.get? b = some o ∧ H4 b = none := fun b hb o e =>
        let z := I4.pin (b, o) (List.mem_append_right _ (List.mem_append_right _ (mem_pinsAt hb e)))
        ⟨z.1, z.2.1⟩
      refine seg_at (seg_yield rfl rfl rfl ⟨b, σ3, H4, rfl, I4.unpinned, qs, fun hb s5 e1 e2 e3 => ?_⟩)
      obtain ⟨m', lm, w'⟩ := qn hb
      have I5 := inv_re ((I4.unpinned (pins := [p])).weak (σ' := wipe σ vs) (by rw [← w3, wipe_length]) fun j v e => by rw [← w3] at e; exact (wipe_some e).1) e1 e2 e3
      refine seg_again rfl (ih (i + 1) m' H4 s5 s5 (by omega) I5 ?_ (fun b hb => ?_) w')
      · rw [e1]
        exact T.keep _ _ _ t2 fun b hb o e => (kept b hb o e).1
      · obtain ⟨o, e, _⟩ := T.obj _ _ t2 b hb
        exact (kept b hb o e).2
/-- its start: the iterator is asked for itself, then the loop -/
theorem gx_fresh {n : Nat} {s : Shared} (h : ∀ s0, Seg (model X.prog X.w) A0 (gxR X p QE) (gxY X p st QS) n s0 (.compLoop (.GeneratorExp elt [⟨tg, iter, [], 0⟩] scope pos) 0 (.ref it) .none X.env)
        ((model X.prog X.w).den (.compLoop (.GeneratorExp elt [⟨tg, iter, [], 0⟩] scope pos) 0 (.ref it) .none X.env)) [] s) (T : Turn X.prog X.w X.K tg J fp it tn) (t : tn 0 s.heap) (s0 : Shared) :
    Seg (model X.prog X.w) A0 (gxR X p QE) (gxY X p st QS) n s0 (.compStart (.GeneratorExp elt [⟨tg, iter, [], 0⟩] scope pos) 0 (.ref it) .none X.env)
      ((model X.prog X.w).den (.compStart (.GeneratorExp elt [⟨tg, iter, [], 0⟩] scope pos) 0 (.ref it) .none X.env)) [] s := by
  have go := seg_again (c := .compStart (.GeneratorExp elt [⟨tg, iter, [], 0⟩] scope pos) 0 (.ref it) .none X.env) (c' := .compLoop (.GeneratorExp elt [⟨tg, iter, [], 0⟩] scope pos) 0 (.ref it) .none X.env) rfl (h s0)
  show Seg _ A0 _ _ _ s0 _ ((compStart (.GeneratorExp elt [⟨tg, iter, [], 0⟩] scope pos) 0 (.ref it) .none X.env).onRaise (leaving X.env)) [] s
  unfold compStart
  rw [Sem.onRaise_eq_wrap]
  show Seg _ A0 _ _ _ s0 _ ((ask >>= _).wrap _ _ _ _) [] s
  refine seg_bind_wrap (wpAny_askSetting ?_)
  split
  · exact go
  · refine seg_bind_wrap (wpAny_rule ?_)
    show Seg _ A0 _ _ _ s0 _ ((standAt iter.pos >>= _).wrap _ _ _ _) [] s
    exact seg_bind_wrap (wpAny_standAt (seg_bind_wrap (T.self _ 0 s _ _ t go)))
end
/-! the consumer -/
section
variable {X : Cx} {a : Addr} {gn : Nat} {go : Obj} {st : Bool} {QE QS : Hp → Prop} {A : Around} {R : Result → Shared → Prop}
/-- the generator stands ready for at most n turns -/
def GxAt (X : Cx) (A : Around) (a : Addr) (go : Obj) (gn : Nat) (st : Bool) (QE QS : Hp → Prop) (n : Nat) (s : Shared) : Prop := ∃ (gs : GenState) (σ : L2.St) (H : Hp), s.gens[gn]? = some gs ∧ Inv X [(a, go)] σ H s ∧
  ∀ s2 : Shared, s2.heap = s.heap → s2.os = s.os → AllBare s2.gens → gs.Goes (model X.prog X.w) A (gxR X (a, go) QE) (gxY X (a, go) st QS) n (.send .none) s2
theorem allBare_set {gs : GenState} {s : Shared} (h : AllBare s.gens) (hb : gs.bare = true) : AllBare (s.setGen gn gs).gens := fun x hx => by
  obtain ⟨i, hi, e⟩ := Array.mem_iff_getElem.mp hx
  have e2 : (s.gens.setIfInBounds gn gs)[i]? = some x := Array.getElem?_eq_some_iff.mpr ⟨hi, e⟩
  rw [Array.getElem?_setIfInBounds] at e2
  split at e2
  · split at e2
    · cases e2; exact hb
    · cases e2
  · exact h x (Array.mem_of_getElem? e2)
theorem setGen_at {gs : GenState} {s : Shared} (h : gn < (s.setGen gn gs).gens.size) : (s.setGen gn gs).gens[gn]? = some gs := by
  rw [GenW.setGen_size] at h
  simp [Shared.setGen, h]
theorem gx_next {E : Value → Shared → Prop} {s : Shared} {n : Nat} {Qn : Option Value → Shared → Prop} (hh : A.handled = none) (hroom : A.depth < recursionLimit) (isg : ∀ h : Heap, h.get? a = some go → h.IsGen a gn) (G : GxAt X A.in1 a go gn st QE QS n s)
    (hend : ∀ s' σ H, Inv X [(a, go)] σ H s' → QE H → Qn none s') (hstop : ∀ s' σ H, Inv X [(a, go)] σ H s' → QS H → Qn (some (.bool st)) s') (hgo : ∀ k s', n = k + 1 → GxAt X A.in1 a go gn st QE QS k s' → Qn (some (.bool !st)) s') :
    wpAny (model X.prog X.w) A (pyNext (.ref a)) Qn E s := by
  obtain ⟨gs, σ, H, hgs, I, goes⟩ := G
  have at_ := fun {σ' : L2.St} {H' : Hp} {s' : Shared} (I' : Inv X [(a, go)] σ' H' s') => (I'.pin (a, go) (List.mem_append_right _ (List.mem_singleton.mpr rfl))).1
  have lt : gn + 1 ≤ s.gens.size := (Array.getElem?_eq_some_iff.mp hgs).1
  refine GenW.wpAny_gsz lt (wpAny_pyNext_genexpQ (P := gxP X (a, go) QE) hh I.nolimit hroom (isg _ (at_ I)) hgs (goes _ rfl rfl (allBare_set I.bare rfl)) (fun v s1 g1 hb hy => ?_) fun s1 ⟨σ1, H1, I1, q1⟩ h' k => ?_)
  · intro sz
    obtain ⟨b, σ1, H1, rfl, I1, qs, qn⟩ := hy
    have I2 : Inv X [(a, go)] σ1 H1 (s1.setGen gn g1) := inv_re I1 rfl rfl (allBare_set I1.bare hb)
    by_cases e : b = st
    · subst e
      exact hstop _ _ _ I2 (qs rfl)
    · have e2 : b = !st := by cases b <;> cases st <;> simp_all
      subst e2
      match n, qn rfl with
      | 0, qn => exact (qn s1 rfl rfl I1.bare).elim
      | n + 1, qn => exact hgo n _ rfl ⟨g1, σ1, H1, setGen_at sz, I2, qn⟩
  · intro _
    have I2 : Inv X [(a, go)] σ1 H1 (s1.setGen gn .finished) := inv_re I1 rfl rfl (allBare_set I1.bare rfl)
    exact hend _ _ _ (I2.kept (t' := s1.toks) k) q1
theorem gx_all_loop (hh : A.handled = none) (hroom : A.depth < recursionLimit) (isg : ∀ h : Heap, h.get? a = some go → h.IsGen a gn) (hend : ∀ s' σ H, Inv X [(a, go)] σ H s' → QE H → R (.ok (.ret (.bool true))) s')
    (hstop : ∀ s' σ H, Inv X [(a, go)] σ H s' → QS H → R (.ok (.ret (.bool false))) s') : ∀ (n : Nat) (s : Shared), GxAt X A.in1.in1 a go gn false QE QS n s → codeAny (model X.prog X.w) A (.builtin "all.loop" ⟨[.ref a], []⟩) R s := by
  intro n
  induction n with
  | zero =>
    intro s G
    refine codeAny_builtin F.entry_all_loop ?_
    rw [Around.under_plainId F.plain_all_loop _]
    show wpAny _ A.in1 (pyNext (.ref a) >>= _) _ _ s
    refine wpAny_bind (gx_next (A := A.in1) hh hroom isg G (fun s' σ H I q => ?_) (fun s' σ H I q => ?_) fun k s' e => absurd e (by omega))
    · exact wpAny_bind (wpAny_rule (wpAny_pure (hend _ _ _ I q)))
    · exact wpAny_bind (wpAny_holding (wpAny_truthy_bool (wpAny_bind (wpAny_letGo (wpAny_bind (wpAny_rule (wpAny_pure (hstop _ _ _ I q))))))))
  | succ n ih =>
    intro s G
    refine codeAny_builtin F.entry_all_loop ?_
    rw [Around.under_plainId F.plain_all_loop _]
    show wpAny _ A.in1 (pyNext (.ref a) >>= _) _ _ s
    refine wpAny_bind (gx_next (A := A.in1) hh hroom isg G (fun s' σ H I q => ?_) (fun s' σ H I q => ?_) fun k s' e G' => ?_)
    · exact wpAny_bind (wpAny_rule (wpAny_pure (hend _ _ _ I q)))
    · exact wpAny_bind (wpAny_holding (wpAny_truthy_bool (wpAny_bind (wpAny_letGo (wpAny_bind (wpAny_rule (wpAny_pure (hstop _ _ _ I q))))))))
    · cases e
      exact wpAny_bind (wpAny_holding (wpAny_truthy_bool (wpAny_bind (wpAny_letGo (wpAny_pure ⟨plainId_quiet F.plain_all_loop _, ih s' G'⟩)))))
theorem gx_any_loop (hh : A.handled = none) (hroom : A.depth < recursionLimit) (isg : ∀ h : Heap, h.get? a = some go → h.IsGen a gn) (hend : ∀ s' σ H, Inv X [(a, go)] σ H s' → QE H → R (.ok (.ret (.bool false))) s')
    (hstop : ∀ s' σ H, Inv X [(a, go)] σ H s' → QS H → R (.ok (.ret (.bool true))) s') : ∀ (n : Nat) (s : Shared), GxAt X A.in1.in1 a go gn true QE QS n s → codeAny (model X.prog X.w) A (.builtin "any.loop" ⟨[.ref a], []⟩) R s := by
  intro n
  induction n with
  | zero =>
    intro s G
    refine codeAny_builtin F.entry_any_loop ?_
    rw [Around.under_plainId F.plain_any_loop _]
    show wpAny _ A.in1 (pyNext (.ref a) >>= _) _ _ s
    refine wpAny_bind (gx_next (A := A.in1) hh hroom isg G (fun s' σ H I q => ?_) (fun s' σ H I q => ?_) fun k s' e => absurd e (by omega))
    · exact wpAny_bind (wpAny_rule (wpAny_pure (hend _ _ _ I q)))
    · exact wpAny_bind (wpAny_holding (wpAny_truthy_bool (wpAny_bind (wpAny_letGo (wpAny_bind (wpAny_rule (wpAny_pure (hstop _ _ _ I q))))))))
  | succ n ih =>
    intro s G
    refine codeAny_builtin F.entry_any_loop ?_
    rw [Around.under_plainId F.plain_any_loop _]
    show wpAny _ A.in1 (pyNext (.ref a) >>= _) _ _ s
    refine wpAny_bind (gx_next (A := A.in1) hh hroom isg G (fun s' σ H I q => ?_) (fun s' σ H I q => ?_) fun k s' e G' => ?_)
    · exact wpAny_bind (wpAny_rule (wpAny_pure (hend _ _ _ I q)))
    · exact wpAny_bind (wpAny_holding (wpAny_truthy_bool (wpAny_bind (wpAny_letGo (wpAny_bind (wpAny_rule (wpAny_pure (hstop _ _ _ I q))))))))
    · cases e
      exact wpAny_bind (wpAny_holding (wpAny_truthy_bool (wpAny_bind (wpAny_letGo (wpAny_pure ⟨plainId_quiet F.plain_any_loop _, ih s' G'⟩)))))
end
/-! the rule -/
abbrev gxAr (A : Around) (elt tg iter : Expr) (scope : Scope) (pos : Pos) (it : Addr) (env : Env) : Around := A.in1.in1.over (.compLoop (.GeneratorExp elt [⟨tg, iter, [], 0⟩] scope pos) 0 (.ref it) .none env) []
theorem gx_room {k : Nat} {A : Around} {elt tg iter : Expr} {scope : Scope} {pos : Pos} {it : Addr} {env : Env} (hr : Room (k + 1) A) : Room k (gxAr A elt tg iter scope pos it env) := by
  have e1 : (gxAr A elt tg iter scope pos it env).depth ≤ A.depth + 1 := Nat.le_of_eq rfl
  have e2 : (gxAr A elt tg iter scope pos it env).units ≤ A.units + 5 := Nat.le_of_eq rfl
  exact ⟨hr.hd, by have := hr.dp; omega, by have := hr.un; omega⟩
section
variable {X : Cx} {pins : List (Addr × Obj)} {σ : L2.St} {H : Hp} {s : Shared} {scope : Scope} {own : List (Str × Nat)} {elt tg iter : Expr} {gpos : Pos} {c P : Addr} {wi : TI} {g : TG} {te : TE} {k : Nat} {st : Bool} {QE QS : Hp → Prop}
/-- the generator is made at a; s4, H4: ahead of its frame -/
def GxMade (X : Cx) (pins : List (Addr × Obj)) (σ : L2.St) (elt tg iter : Expr) (scope : Scope) (gpos : Pos) (st : Bool) (QE QS : Hp → Prop) (a : Addr) (s5 : Shared) : Prop := ∃ (s4 : Shared) (H4 : Hp) (cenv : Env) (it : Addr) (fp : List Addr) (go : Obj) (gn n : Nat), Inv X pins σ H4 s4 ∧ (∀ b ∈ fp, FpOk X pins H4 b) ∧
  (∀ h : Heap, h.get? a = some go → h.IsGen a gn) ∧ GxAt (X.gx (gxAr X.A elt tg iter scope gpos it cenv) s4 H4 cenv fp) X.A.in1.in1 a go gn st QE QS n s5
theorem gx_made {Q' : Value → Shared → Prop} (hr : Room (k + 1) X.A) (hc : X.calm = true) (hN : X.N.Nodup) (TB : GxR.TabB X.base X.mg c P) (hcode : X.env.code = .ref c) (ok : BlkOk X.N X.env.scope scope own) (nc : ∀ y ∈ scope.names, y.2 ≠ .cell)
    (hdot : scope.names.lookup (".0" : Str) = some .local) (hco : scope.isCoroutine = false) (hi : PI X tg iter wi) (hg : ∀ (Ag : Around) (s : Shared) (H : Hp) (C : Addr) (code : Value) (fp : List Addr), PG (X.gx Ag s H (gxEnv X scope C code) fp) tg g)
    (he : ∀ (Ag : Around) (s : Shared) (H : Hp) (C : Addr) (code : Value) (fp : List Addr), Room k Ag → PE (X.gx Ag s H (gxEnv X scope C code) fp) elt te) (hs : ∀ v, genFold iter X.env v = pure v) (I : Inv X pins σ H s)
    (h : wi σ H fun J H1 => H1 P = some (TbX P) ∧ ∃ W, (∃ m, W 0 m H1) ∧ gxTurn J g te (own.map (·.2)) st σ QE QS W) (hQ : ∀ a s5, GxMade X pins σ elt tg iter scope gpos st QE QS a s5 → Q' (.ref a) s5) :
    wpAny (model X.prog X.w) X.A (eval (.GeneratorExp elt [⟨tg, iter, [], 0⟩] scope gpos) X.env) Q' X.xe s := by
  have free : ∀ y ∈ scope.names, y.2 = .free → ∃ c, X.env.cells.lookup y.1 = some c := fun y hy e => (ok.free y hy e).elim (fun k => I.ok.has _ (.inl k)) fun k => I.ok.has _ (.inr k)
  refine wpAny_GeneratorExp_make hco (closure_ok free) nc hdot ok.kind hr.depth (thn (hi.run pins s σ H _ I h) fun xv s1 hx => thn hx fun itv s2 h2 => ?_) hs
  obtain ⟨it, fp, tn, J, H2, rfl, I2, T, t2, f2, hP, W, ⟨m0, w0⟩, turn⟩ := h2
  refine ⟨I2.nolimit, gx_code TB hcode I2 hP fun code h3 tk I3 k3 z3 => ?_⟩
  obtain ⟨bm, ob, e1, e2, _, _, e5, e6, e7, e8⟩ := TB.bm
  refine wpAny_builtinsFor (m := X.mg) (by rw [I3.ok.glob]; exact I3.mod.glob.keeps I3.bk) e1 e2 (I3.bk _ _ e5) e6 e7 e8 ?_
  have fP : ∀ b ∈ fp, b ≠ P := fun b hb z => by
    have := (f2 b hb).1
    rw [z, hP] at this
    cases this
  have t3 : tn 0 h3 := T.keep _ _ _ t2 fun b hb o e => k3 b o (fP b hb) e
  have f3 : ∀ b ∈ fp, FpOk X pins H2 b ∧ b < h3.objs.size := fun b hb => by
    obtain ⟨o, e, _⟩ := T.obj _ _ t3 b hb
    exact ⟨f2 b hb, Heap.lt_size e⟩
  intro h4 ns sb
  have k4 : ∀ b o, h3.get? b = some o → h4.get? b = some o := fun b o e => sb.extBut b o (Nat.ne_of_lt (Heap.lt_size e)) (Heap.get?_push_of_some _ e)
  have z4 : h4.objs.size = h3.objs.size + 1 := by rw [sb.1, Heap.size_push]
  generalize hgo : ({ cls := .type "generator", data := .fields _ } : Obj) = go
  have nv : ∀ v, go.data ≠ .cell v := fun v z => by rw [← hgo] at z; cases z
  have k5 : ∀ b o, h3.get? b = some o → (h4.push go).get? b = some o := fun b o e => Heap.get?_push_of_some _ (k4 b o e)
  have t5 : tn 0 (h4.push go) := T.keep _ _ _ t3 fun b _ o e => k5 b o e
  have fr : (gxAr X.A elt tg iter scope gpos it (gxEnv X scope h3.objs.size code)).frames = some (gxEnv X scope h3.objs.size code :: X.stack) := by
    have e : (gxAr X.A elt tg iter scope gpos it (gxEnv X scope h3.objs.size code)).frames = pushEnvs (Code.envs (.compLoop (.GeneratorExp elt [⟨tg, iter, [], 0⟩] scope gpos) 0 (.ref it) .none (gxEnv X scope h3.objs.size code))) (pushEnvs (envsOf (([] : List Frame).map Frame.where_)) X.A.frames) := rfl
    rw [e, I.ok.frames]
    rfl
  have IG := fun (g5 : Array GenState) (tk5 : Nat) (hb : AllBare g5) => gx_start (Ag := gxAr X.A elt tg iter scope gpos it (gxEnv X scope h3.objs.size code)) (code := code) (h5 := h4.push go) (tk := tk5) (g5 := g5) (a := h4.objs.size) (go := go) I3 ok nc hN f3 (fun _ => hr.hd) fr k5 (ns.push _) (Heap.get?_push_size _ (by rw [← hgo]; rfl)) (by show h3.objs.size < h4.objs.size; omega) nv hb
  have I5 := IG _ (s2.toks) (AllBare.push (g := .fresh (.compStart (.GeneratorExp elt [⟨tg, iter, [], 0⟩] scope gpos) 0 (.ref it) .none (gxEnv X scope h3.objs.size code))) I3.bare rfl)
  refine hQ _ _ ⟨_, H2, gxEnv X scope h3.objs.size code, it, fp, go, s2.gens.size, m0 + 1, I3, f2, fun h e => ⟨go, _, _, e, by rw [← hgo], by rw [← hgo], by rw [← hgo]⟩, ?_⟩
  refine ⟨_, _, H2, Array.getElem?_push_size .., inv_re I5 rfl rfl I5.bare, fun s6 q1 q2 q3 => ⟨rfl, ?_⟩⟩
  have I6 := inv_re (s' := s6) I5 q1 q2 q3
  have t6 : tn 0 s6.heap := by rw [q1]; exact t5
  refine gx_fresh (X := X.gx (gxAr X.A elt tg iter scope gpos it (gxEnv X scope h3.objs.size code)) _ H2 (gxEnv X scope h3.objs.size code) fp) (fun s0 => ?_) T t6 s6
  exact gx_loop (X := X.gx (gxAr X.A elt tg iter scope gpos it (gxEnv X scope h3.objs.size code)) _ H2 (gxEnv X scope h3.objs.size code) fp) rfl hco (fun _ _ z => z) hc T (fun b hb => hb) rfl (fun b hb z => by
    have q : b < h3.objs.size := (f3 b hb).2
    have e : h4.objs.size = b := z
    have z5 : h4.objs.size = h3.objs.size + 1 := z4
    exact absurd (e ▸ q : h4.objs.size < h3.objs.size) (by rw [z5]; exact Nat.not_lt.mpr (Nat.le_succ _))) (hg _ _ _ _ _ _) (he _ _ _ _ _ _ (gx_room hr)) turn (m0 + 1) 0 m0 H2 s6 s0 (Nat.le_refl _) I6 t6 (fun b hb => (f2 b hb).1) w0
/-- behind it: the def's own state again -/
theorem gx_back {A2 : Around} {s4 : Shared} {H4 : Hp} {cenv : Env} {fp : List Addr} {p : Addr × Obj} {σ2 : L2.St} {H2 : Hp} {s' : Shared} (I : Inv X pins σ H4 s4) (hf : ∀ b ∈ fp, FpOk X pins H4 b) (I2 : Inv (X.gx A2 s4 H4 cenv fp) [p] σ2 H2 s') : Inv X pins σ H2 s' :=
  I.call' (ch := fp) I2.os I2.base I2.hok I2.bare fun b hb => let ⟨_, f1, _, f3, f4, f5⟩ := hf b hb; ⟨f3, f1, f4, f5⟩
/-- all(item for target in iter) where st is false, any(..) where it is true; it ends at the first st -/
def tAA (P : Addr) (st : Bool) (wi : TI) (g : TG) (te : TE) (vs : List Nat) : TE := fun σ H Q => wi σ H fun J H1 => H1 P = some (TbX P) ∧ ∃ W, (∃ m, W 0 m H1) ∧ gxTurn J g te vs st σ (fun H => Q (.bl (!st)) H) (fun H => Q (.bl st) H) W
theorem pe_all {p pos : Pos} (hr : Room (k + 1) X.A) (hc : X.calm = true) (hN : X.N.Nodup) (hgl : Gl X "all") (hm : X.mg "all" = none) (hb : bootBuiltins "all" = some (.builtin "all")) (TB : GxR.TabB X.base X.mg c P) (hcode : X.env.code = .ref c) (ok : BlkOk X.N X.env.scope scope own) (nc : ∀ y ∈ scope.names, y.2 ≠ .cell)
    (hdot : scope.names.lookup (".0" : Str) = some .local) (hco : scope.isCoroutine = false) (hi : PI X tg iter wi) (hg : ∀ (Ag : Around) (s : Shared) (H : Hp) (C : Addr) (code : Value) (fp : List Addr), PG (X.gx Ag s H (gxEnv X scope C code) fp) tg g)
    (he : ∀ (Ag : Around) (s : Shared) (H : Hp) (C : Addr) (code : Value) (fp : List Addr), Room k Ag → PE (X.gx Ag s H (gxEnv X scope C code) fp) elt te) (hs : ∀ v, genFold iter X.env v = pure v := by intro _; rfl)
    (hst : starEach [.GeneratorExp elt [⟨tg, iter, [], 0⟩] scope gpos] X.env = (false, eval (.GeneratorExp elt [⟨tg, iter, [], 0⟩] scope gpos) X.env) :: starEach [] X.env := by rfl) :
    PE X (.Call (.Name "all" p) [.GeneratorExp elt [⟨tg, iter, [], 0⟩] scope gpos] [] pos) (tAA P false wi g te (own.map (·.2))) := ⟨fun pins s σ H Q I h => by
  refine wpAny_Call_Name_kw (ld_blt I hgl hm hb (PyProof.Rows.callWith_builtin1 ?_ hst (by rfl)))
  rw [hst]
  refine Calls.spliced_cons (gx_made hr hc hN TB hcode ok nc hdot hco hi hg he hs I h fun a s5 made => Calls.spliced_nil ?_)
  obtain ⟨s4, H4, cenv, it, fp, go, gn, n, I4, f4, isg, G⟩ := made
  have isg5 : s5.heap.IsGen a gn := isg _ (let ⟨_, _, _, _, J, _⟩ := G; (J.pin (a, go) (List.mem_append_right _ (List.mem_singleton.mpr rfl))).1)
  refine call_function_tree F.kind_all F.plain_all F.entry_all (F.args_all1 _) ?_
  unfold Builtin.«all»
  refine wpAny_bind (m := oneArg "all" _) (wpAny_pure (wpAny_bind (wpAny_pyIter_gen isg5 (wpAny_pure ⟨plainId_quiet F.plain_all_loop _, ?_⟩))))
  exact gx_all_loop (X := X.gx (gxAr X.A elt tg iter scope gpos it cenv) s4 H4 cenv fp) hr.hd hr.depth isg (fun s' σ' H' J q => ⟨.bl true, H', gx_back I4 f4 J, rfl, q⟩) (fun s' σ' H' J q => ⟨.bl false, H', gx_back I4 f4 J, rfl, q⟩) n s5 G⟩
theorem pe_any {p pos : Pos} (hr : Room (k + 1) X.A) (hc : X.calm = true) (hN : X.N.Nodup) (hgl : Gl X "any") (hm : X.mg "any" = none) (hb : bootBuiltins "any" = some (.builtin "any")) (TB : GxR.TabB X.base X.mg c P) (hcode : X.env.code = .ref c) (ok : BlkOk X.N X.env.scope scope own) (nc : ∀ y ∈ scope.names, y.2 ≠ .cell)
    (hdot : scope.names.lookup (".0" : Str) = some .local) (hco : scope.isCoroutine = false) (hi : PI X tg iter wi) (hg : ∀ (Ag : Around) (s : Shared) (H : Hp) (C : Addr) (code : Value) (fp : List Addr), PG (X.gx Ag s H (gxEnv X scope C code) fp) tg g)
    (he : ∀ (Ag : Around) (s : Shared) (H : Hp) (C : Addr) (code : Value) (fp : List Addr), Room k Ag → PE (X.gx Ag s H (gxEnv X scope C code) fp) elt te) (hs : ∀ v, genFold iter X.env v = pure v := by intro _; rfl)
    (hst : starEach [.GeneratorExp elt [⟨tg, iter, [], 0⟩] scope gpos] X.env = (false, eval (.GeneratorExp elt [⟨tg, iter, [], 0⟩] scope gpos) X.env) :: starEach [] X.env := by rfl) :
    PE X (.Call (.Name "any" p) [.GeneratorExp elt [⟨tg, iter, [], 0⟩] scope gpos] [] pos) (tAA P true wi g te (own.map (·.2))) := ⟨fun pins s σ H Q I h => by
  refine wpAny_Call_Name_kw (ld_blt I hgl hm hb (PyProof.Rows.callWith_builtin1 ?_ hst (by rfl)))
  rw [hst]
  refine Calls.spliced_cons (gx_made hr hc hN TB hcode ok nc hdot hco hi hg he hs I h fun a s5 made => Calls.spliced_nil ?_)
  obtain ⟨s4, H4, cenv, it, fp, go, gn, n, I4, f4, isg, G⟩ := made
  have isg5 : s5.heap.IsGen a gn := isg _ (let ⟨_, _, _, _, J, _⟩ := G; (J.pin (a, go) (List.mem_append_right _ (List.mem_singleton.mpr rfl))).1)
  refine call_function_tree F.kind_any F.plain_any F.entry_any (F.args_any1 _) ?_
  unfold Builtin.«any»
  refine wpAny_bind (m := oneArg "any" _) (wpAny_pure (wpAny_bind (wpAny_pyIter_gen isg5 (wpAny_pure ⟨plainId_quiet F.plain_any_loop _, ?_⟩))))
  exact gx_any_loop (X := X.gx (gxAr X.A elt tg iter scope gpos it cenv) s4 H4 cenv fp) hr.hd hr.depth isg (fun s' σ' H' J q => ⟨.bl false, H', gx_back I4 f4 J, rfl, q⟩) (fun s' σ' H' J q => ⟨.bl true, H', gx_back I4 f4 J, rfl, q⟩) n s5 G⟩
end
/-- a def whose code object is at c -/
theorem funOkT {P : Program} {w : World} {K : PySem.W.Frag} {mg : Str → Option Value} {base : Heap} {c : Addr} {x qual : Str} {st : Stmt} {f : Addr} {fd : FuncData} {N ps : List Str} {k : Nat} {sp : Sp} (hc : fd.code = .ref c) (F : Fun K x qual st f fd) (S : FnScope N ps (defScope st)) (len : ∀ vs H Q E, sp vs H Q E → vs.length = ps.length)
    (hbody : ∀ (A : Around) (outer : List Env) (s : Shared) (H : Hp) (vs : List V) (Q : VK) (E : XK), Room k (A.deeper (envOfC qual (defScope st) s.heap.objs.size f (.ref c))) → sp vs H Q E →
      ∃ t, PSs (cxOf CX0 P w K mg base N qual (defScope st) f (.ref c) A outer s H E).nox (defBody st) t ∧ t { nx := fun _ H' => Q .non H', rt := Q } (start N vs) H) : FnOk P w K mg base CX0 (k + 1) f fd ps sp := by
  obtain ⟨oc, od, kV, doc, pm, an, cdv, ct, osl, rfl, lk, hcd⟩ := F.ex
  obtain rfl : cdv = .ref c := hc
  exact fn_of lk hcd S len fun A outer s H vs Q E hr hsp => let ⟨t, h, q⟩ := hbody A outer s H vs Q E hr hsp; ⟨t, h.nox, q⟩
/-- readings -/
theorem d_aa {P : Addr} {st : Bool} {wi : TI} {g : TG} {te : TE} {vs : List Nat} {σ : L2.St} {H : Hp} {Q : VK} (h : wi σ H fun J H1 => H1 P = some (TbX P) ∧ ∃ W, (∃ m, W 0 m H1) ∧ gxTurn J g te vs st σ (fun H => Q (.bl (!st)) H) (fun H => Q (.bl st) H) W) : tAA P st wi g te vs σ H Q := h
theorem aa_it {J : It} {n : Nat} {G : Hp → Prop} {Y : Nat → Hp → V → Hp → Prop} (w : Walk J n G Y) {g : TG} {te : TE} {vs : List Nat} {st : Bool} {σ : L2.St} {H1 : Hp} {QE QS : Hp → Prop} (Pv : Nat → Hp → Prop) (h0 : Pv 0 H1) (hG : ∀ i H, i ≤ n → Pv i H → G H)
    (hs : ∀ i x H H', i < n → Pv i H → Y i H x H' → g x (wipe σ vs) H' fun σ2 H2 => wipe σ2 vs = wipe σ vs ∧ te σ2 H2 fun y H3 => ∃ b, y = .bl b ∧ (b = st → QS H3) ∧ (b = !st → Pv (i + 1) H3)) (hd : ∀ H, Pv n H → QE H) :
    ∃ W, (∃ m, W 0 m H1) ∧ gxTurn J g te vs st σ QE QS W := by
  refine ⟨fun i m H => m = n - i ∧ i ≤ n ∧ Pv i H, ⟨n, by simp, Nat.zero_le _, h0⟩, ?_⟩
  rintro i m H ⟨rfl, hi, p⟩
  have gg := hG i H hi p
  rcases Nat.lt_or_eq_of_le hi with lt | rfl
  · have imp : ∀ {x : V} {H' : Hp} {y : V} {H3 : Hp}, (∃ b, y = V.bl b ∧ (b = st → QS H3) ∧ (b = !st → Pv (i + 1) H3)) → ∃ b, y = V.bl b ∧ (b = st → QS H3) ∧ (b = !st → ∃ m', m' < n - i ∧ m' = n - (i + 1) ∧ i + 1 ≤ n ∧ Pv (i + 1) H3) := fun ⟨b, e, q1, q2⟩ => ⟨b, e, q1, fun z => ⟨n - (i + 1), by omega, rfl, lt, q2 z⟩⟩
    refine .inr ⟨w.goes i H lt gg, fun x H' y => ?_⟩
    have z := hs i x H H' lt p (w.yields i H x H' lt gg y)
    have e : (fun (y : V) (H3 : Hp) => ∃ b, y = V.bl b ∧ (b = st → QS H3) ∧ (b = !st → ∃ m', m' < n - i ∧ m' = n - (i + 1) ∧ i + 1 ≤ n ∧ Pv (i + 1) H3)) = fun y H3 => ∃ b, y = V.bl b ∧ (b = st → QS H3) ∧ (b = !st → Pv (i + 1) H3) := by
      funext y H3
      refine propext ⟨fun ⟨b, e, q1, q2⟩ => ⟨b, e, q1, fun z => ?_⟩, fun q => imp (x := x) (H' := H') q⟩
      obtain ⟨_, _, _, _, q⟩ := q2 z
      exact q
    show g x (wipe σ vs) H' fun σ2 H2 => wipe σ2 vs = wipe σ vs ∧ te σ2 H2 (fun (y : V) (H3 : Hp) => ∃ b, y = V.bl b ∧ (b = st → QS H3) ∧ (b = !st → ∃ m', m' < n - i ∧ m' = n - (i + 1) ∧ i + 1 ≤ n ∧ Pv (i + 1) H3))
    rw [e]
    exact z
  · exact .inl ⟨w.stops H gg, hd H p⟩
end Cw

namespace Cw
open PySem PySem.Spec PyProof.Rows L2
/-! ### the end of a law whose defs hold generator expressions: their tables are tracked, and may grow -/
/-- what is tracked at the law's entry: the tables, and the script where it is not written -/
def entry (T : List Addr) (K : PySem.W.Frag) (a : Addr) (o : Obj) (xs : List V) : Hp := fun b => if b ∈ T then some (TbX b) else if b = a ∧ (K.lookup a).isNone = true then some (.frz o (.lst xs)) else none
section
variable {T : List Addr} {K : PySem.W.Frag} {a b : Addr} {o : Obj} {xs : List V} {u : HO}
theorem entry_tab (h : b ∈ T) : entry T K a o xs b = some (TbX b) := if_pos h
theorem entry_cases (h : entry T K a o xs b = some u) : (b ∈ T ∧ u = TbX b) ∨ (b ∉ T ∧ b = a ∧ K.lookup a = none ∧ u = .frz o (.lst xs)) := by
  unfold entry at h
  split at h
  · rename_i hb; exact .inl ⟨hb, (Option.some.inj h).symm⟩
  · rename_i hb
    split at h
    · rename_i ha; exact .inr ⟨hb, ha.1, Option.isNone_iff_eq_none.mp ha.2, (Option.some.inj h).symm⟩
    · cases h
theorem entry_none (hT : b ∉ T) (ha : b ≠ a ∨ ∃ z, K.lookup a = some z) : entry T K a o xs b = none := by
  cases e : entry T K a o xs b with
  | none => rfl
  | some u =>
    rcases entry_cases e with ⟨h, _⟩ | ⟨_, h, h2, _⟩
    · exact absurd h hT
    · rcases ha with z | ⟨z, e2⟩
      · exact absurd h z
      · rw [h2] at e2; cases e2
end
/-- a promise of a def where it is called from one place -/
structure FnAt (P : Program) (w : World) (K : PySem.W.Frag) (mg : Str → Option Value) (base : Heap) (A : Around) (f : Addr) (fd : FuncData) (ps : List Str) (sp : Sp) : Prop where
  run : ∀ (outer : List Env) (s : Shared) (H : Hp) (args : Args) (us : List Value) (vs : List V) (Q : VK) (E : XK), Env0 P w K mg base A outer s H → BindsTo s fd args (ps.zip us) → Vals vs us → sp vs H Q E → codeAny (model P w) A (.call (.ref f) args) (CR CX0 outer P w H s Q E) s
theorem FnAt.of {P : Program} {w : World} {K : PySem.W.Frag} {mg : Str → Option Value} {base : Heap} {A : Around} {k : Nat} {f : Addr} {fd : FuncData} {ps : List Str} {sp : Sp} (F : FnOk P w K mg base CX0 k f fd ps sp) (hr : Room k A) : FnAt P w K mg base A f fd ps sp :=
  ⟨fun outer s H args us vs Q E => F.run A outer s H args us vs Q E hr⟩
/-- by its body, where what stands around is known (its guards, say) -/
theorem fun_at {P : Program} {w : World} {K : PySem.W.Frag} {mg : Str → Option Value} {base : Heap} {A : Around} {x qual : Str} {st : Stmt} {f : Addr} {fd : FuncData} {N ps : List Str} {k : Nat} {sp : Sp} (F : Fun K x qual st f fd) (S : FnScope N ps (defScope st)) (ha : Room (k + 1) A)
    (len : ∀ vs H Q E, sp vs H Q E → vs.length = ps.length)
    (body : ∀ (cdv : Value) (outer : List Env) (s : Shared) (H : Hp) (vs : List V) (Q : VK) (E : XK), Room k (A.deeper (envOfC qual (defScope st) s.heap.objs.size f cdv)) → sp vs H Q E →
      ∃ t, PSs (cxOf CX0 P w K mg base N qual (defScope st) f cdv A outer s H E).nox (defBody st) t ∧ t { nx := fun _ H' => Q .non H', rt := Q } (start N vs) H) : FnAt P w K mg base A f fd ps sp := by
  obtain ⟨oc, od, kV, doc, pm, an, cdv, ct, osl, rfl, at_, code⟩ := F.ex
  refine ⟨fun outer s H args us vs Q E e0 bnd rv want => ?_⟩
  have nvs := len _ _ _ _ want
  have stays : ∀ b o, base.get? b = some o → s.heap.get? b = some o := fun b o e => (e0.bs b o e).1
  have inK : K.In s.heap := e0.mod.kin.keeps stays
  have kinds : ∀ y ∈ ps.zip us, (defScope st).names.lookup y.1 = some .local ∨ ((defScope st).names.lookup y.1 = some .cell ∧ ((cellsFrom (s.heap.objs.size + 1) (defScope st).names []).lookup y.1).isSome = true) := fun y hy =>
    (S.par y.1 (List.of_mem_zip (show (y.1, y.2) ∈ ps.zip us from hy)).1).imp_right fun q => ⟨q, PySem.W.cellsFrom_some _ _ _ (.inl q)⟩
  refine codeAny_call_function ha.depth (inK _ _ at_) rfl S.co S.gen rfl (PySem.W.codeRec_of inK code) (bnd _ _ _ _ (wpAny_newFunctionEnv_cells S.kind kinds fun env he s1 made => ?_))
  cases he
  obtain ⟨t, ht, hq⟩ := body cdv outer s H vs Q E (ha.deeper _) want
  refine ⟨(e0.mod.nolimit.keeps stays).keeps made.toInCall.keep, codeAny_func (wpAny_mono (ht.nox.run [] s1 (start N vs) H _ (inv_start S ha.hd e0 nvs rv made) hq) (fun fl s' hs => ?_) fun _ _ hs => hs)⟩
  match fl, hs with
  | .ret u, ⟨v, _, H', J, r, q⟩ => exact ⟨v, H', J.os, J.bare, J.base, J.hok, r, q⟩
  | .next, ⟨_, H', J, q⟩ => exact ⟨.non, H', J.os, J.bare, J.base, J.hok, rfl, q⟩
  | .brk, ⟨_, _, _, q⟩ => exact q.elim
  | .cont, ⟨_, _, _, q⟩ => exact q.elim
abbrev tab0 : Obj := { cls := .none, data := .fields #[] }
theorem law_tabs {P : Program} {w : World} {K : PySem.W.Frag} {mg mb : Str → Option Value} {fa a : Addr} {cs : List (Addr × Addr)} {fd : FuncData} {x : Str} {sp : Sp} {s : Shared} {vs : List Value} {ns : List Int}
    (KX : K.In s.heap) (hns : s.heap.Ns mainGlobals mg) (hb : s.heap.Ns builtinsNs mb) (hbb : ∀ x : Str, x ≠ "__name__" → mb x = bootBuiltins x) (hlim : s.heap.NoLimit) (hg : s.gens = #[])
    (hT : ∀ p ∈ cs, s.heap.get? p.2 = some tab0) (nT : ∀ p ∈ cs, K.lookup p.2 = none) (C : ∀ p ∈ cs, PySem.W.CodeHd s.heap p.1 p.2)
    (hbm : ∃ (bm : Addr) (ob : Obj), mg "__builtins__" = some (.ref bm) ∧ bm ≠ builtinsNs ∧ s.heap.get? bm = some ob ∧ ob.cls = .type "module" ∧ ob.dict = some builtinsNs ∧ ob.data = .plain)
    (ha : s.heap.get? a = some { cls := .type "list", data := .seq vs.toArray }) (hi : IntsAre vs ns) (hl : ns.length ≤ sizeLine)
    (F : ∀ base : Heap, K.In base → base.Ns mainGlobals mg → (∀ p ∈ cs, GxR.TabB base mg p.1 p.2) → FnAt P w K mg base callerA fa fd [x] sp) (hbind : ∀ (s : Shared) (u : Value), BindsTo s fd ⟨[u], []⟩ [(x, u)])
    (hsp : ∀ H : Hp, (∀ p ∈ cs, H p.2 = some (TbX p.2)) → SqL K H a (ns.map V.int) → sp [.ref a] H (fun v H' => v = .bl true ∧ ∀ p ∈ cs, H' p.2 = some (TbX p.2)) fun _ _ _ => False)
    :
    codeAny (model P w) callerA (.call (.ref fa) ⟨[.ref a], []⟩) (fun r s' => r = .ok (.ret (.bool true)) ∧ OldK s.heap s'.heap ∧ s'.os = s.os ∧ AllBare s'.gens) s := by
  have inT : ∀ {b}, b ∈ cs.map (·.2) → ∃ p ∈ cs, p.2 = b := fun h => by simpa using h
  have atT : ∀ {b}, b ∈ cs.map (·.2) → s.heap.get? b = some tab0 := fun h => let ⟨p, hp, e⟩ := inT h; e ▸ hT p hp
  have rv : Vals (ns.map V.int) vs := vals_ints hi
  have lv : (ns.map V.int).length = vs.length := rv.length
  generalize hH : entry (cs.map (·.2)) K a { cls := .type "list", data := .seq vs.toArray } (ns.map V.int) = H
  have tabH : ∀ p ∈ cs, H p.2 = some (TbX p.2) := fun p hp => by rw [← hH]; exact entry_tab (List.mem_map.mpr ⟨p, hp, rfl⟩)
  -- what is neither a table nor a list is not tracked
  have off : ∀ {b : Addr} {o : Obj}, s.heap.get? b = some o → o.data ≠ .fields #[] → (∀ zs n, o.data ≠ .seq zs n) → H b = none := fun {b o} e d1 d2 => by
    rw [← hH]
    refine entry_none (fun z => ?_) (.inl fun z => ?_)
    · rw [atT z] at e; cases e; exact d1 rfl
    · rw [z, ha] at e; cases e; exact d2 _ _ rfl
  have okH : HOk P w H s.heap := fun b u e => by
    rw [← hH] at e
    rcases entry_cases e with ⟨h, rfl⟩ | ⟨_, rfl, _, rfl⟩
    · exact ⟨⟨#[], atT h, trivial⟩, ⟨_, atT h⟩, fun h1 h2 ⟨ps, z, zt⟩ st => ⟨ps, st _ z, zt⟩⟩
    · exact ⟨ha, by rw [List.length_map]; exact hl, vs, _, rv, ha⟩
  have hidden : ∀ {b : Addr} {m : Str → Option Value}, s.heap.Ns b m → (hidT s.heap H).Ns b m := fun ⟨o, es, ep, e, d, r⟩ => ⟨o, es, ep, hidT_get e (off e (by rw [d]; exact fun z => nomatch z) (by rw [d]; exact fun _ _ z => nomatch z)), d, r⟩
  have KB : K.In (hidT s.heap H) := fun b o e => hidT_get (KX b o e) (by
    rw [← hH]
    refine entry_none (fun z => ?_) ?_
    · obtain ⟨p, hp, rfl⟩ := inT z
      rw [nT p hp] at e; cases e
    · by_cases z : b = a
      · exact .inr ⟨o, z ▸ e⟩
      · exact .inl z)
  have TB : ∀ p ∈ cs, GxR.TabB (hidT s.heap H) mg p.1 p.2 := fun p hp => by
    refine ⟨?_, ?_, fun z => ?_⟩
    · obtain ⟨o, us, fl, tf, fs, tg, iF, tx, tt, e1, r1, r2, r3, r⟩ := C p hp
      exact ⟨o, us, fl, tf, fs, tg, iF, tx, tt, hidT_get e1 (off e1 (fun z => by rw [r2] at z; cases z; simp at r3) (by rw [r2]; exact fun _ _ z => nomatch z)), r1, r2, r3, r⟩
    · obtain ⟨bm, ob, b1, b2, b3, b4, b5, b6⟩ := hbm
      refine ⟨bm, ob, b1, b2, fun q => ?_, fun q => ?_, hidT_get b3 (off b3 (by rw [b6]; exact fun z => nomatch z) (by rw [b6]; exact fun _ _ z => nomatch z)), b4, b5, b6⟩
      · obtain ⟨o, es, ep, e, d, _⟩ := hns
        rw [← q, b3] at e; cases e; rw [b6] at d; cases d
      · rw [q, hT p hp] at b3; cases b3; cases b6
    · obtain ⟨o, es, ep, e, d, _⟩ := hns
      rw [z, hT p hp] at e; cases e; cases d
  have SQ : SqL K H a (ns.map V.int) := by
    cases e : K.lookup a with
    | some o =>
      have e' := KX a o e
      rw [ha] at e'; cases e'
      exact .inr ⟨_, vs.toArray, _, e, rfl, rfl, rfl, by rw [List.size_toArray, ← lv, List.length_map]; exact hl, by simpa using rv⟩
    | none =>
      refine .inl (.inr ⟨{ cls := .type "list", data := .seq vs.toArray }, ?_⟩)
      rw [← hH]
      unfold entry
      rw [if_neg (fun z => by have := atT z; rw [ha] at this; cases this), if_pos ⟨rfl, by rw [e]; rfl⟩]
  have E0 : Env0 P w K mg (hidT s.heap H) callerA [] s H := ⟨rfl, ⟨KB, hidden hns, ⟨mb, hidden hb, hbb⟩, let ⟨mc, h1, h2⟩ := hlim; ⟨mc, hidden h1, h2⟩⟩, fun b o e => of_hidT e, Nat.le_of_eq (hidT_size _ _), trivial, fun b z => (nomatch z), okH, .of_eq hg⟩
  refine codeAny_mono ((F _ KB (hidden hns) TB).run [] s H ⟨[.ref a], []⟩ [.ref a] [.ref a] _ _ E0 (hbind s (.ref a)) (.cons rfl .nil) (hsp H tabH SQ)) fun r s' h => ?_
  match r, h with
  | .error e, h => exact h.elim
  | .ok .next, h => exact h.elim
  | .ok .brk, h => exact h.elim
  | .ok .cont, h => exact h.elim
  | .ok (.ret u), ⟨v, H', os, bare, un, ok', rel, ev, tabs⟩ =>
    subst ev
    obtain rfl : u = Value.bool true := rel
    have grown : ∀ p ∈ cs, ∃ more : Array Value, s'.heap.get? p.2 = some { cls := .none, data := .fields more } := fun p hp => let ⟨ps, e, _⟩ := (ok' _ _ (tabs p hp)).1; ⟨ps, e⟩
    have stays : ∀ b o, b ∉ cs.map (·.2) → s.heap.get? b = some o → s'.heap.get? b = some o := fun b o nb e => by
      cases q : H b with
      | none => exact un.keep b o e q (fun z => nomatch z) (fun z => nomatch z)
      | some u =>
        have q2 := q
        rw [← hH] at q2
        rcases entry_cases q2 with ⟨z, _⟩ | ⟨_, _, _, rfl⟩
        · exact absurd z nb
        · have e1 := (okH b _ q).1
          rw [e] at e1
          rw [e1]
          exact (ok' b _ (un.frzs b _ _ q)).1
    refine ⟨rfl, ⟨fun b o e => ?_, fun b o e => ?_⟩, os, bare⟩ <;> by_cases hb : b ∈ cs.map (·.2)
    · obtain ⟨p, hp, rfl⟩ := inT hb
      obtain ⟨more, hm⟩ := grown p hp
      rw [hT p hp] at e
      cases e
      exact .inr (.inl ⟨((C p hp).tab (hT p hp)).isCodeTable, rfl, #[], more, rfl, by rw [Array.empty_append]; exact hm⟩)
    · exact .inl (stays b o hb e)
    · obtain ⟨p, hp, rfl⟩ := inT hb
      obtain ⟨more, hm⟩ := grown p hp
      exact ⟨_, hm⟩
    · exact ⟨o, stays b o hb e⟩
/-- a def of the top with its empty table -/
def TabFact (mg : Str → Option Value) (h : Heap) (x : Str) : Prop := ∃ (a : Addr) (o : Obj) (fd : FuncData) (c P : Addr), mg x = some (.ref a) ∧ h.get? a = some o ∧ o.data = .func fd ∧ fd.code = .ref c ∧ h.IsCode c P #[] ∧ h.TableAt c P #[]
theorem tab_of {K : PySem.W.Frag} {mg : Str → Option Value} {h : Heap} {x : Str} {f c P : Addr} {oc tc : Value} {od td : Option Addr} {fd : FuncData} {osl ts : Array (Option Value)} {tv : Array Value} (X : K.In h) (hf : mg x = some (.ref f)) (l : K.lookup f = some ⟨oc, od, .func fd, osl⟩)
    (hc : fd.code = .ref c) (t : K.lookup c = some ⟨tc, td, .fields tv, ts⟩) (u : tv[11]? = some (.ref P)) (F : TabFact mg h x) : h.get? P = some tab0 ∧ PySem.W.CodeHd h c P := by
  obtain ⟨a, o, fd', c', P', h1, h2, h3, h4, h5, h6⟩ := F
  rw [hf] at h1
  cases h1
  rw [X _ _ l] at h2
  cases h2
  cases h3
  rw [hc] at h4
  cases h4
  have cd := PySem.W.CodeHd.of h5 h6
  obtain ⟨⟨o2, vs2, e1, _, e3, e4⟩, hP⟩ := h6
  rw [X _ _ t] at e1
  cases e1
  cases e3
  rw [u] at e4
  cases e4
  exact ⟨hP, cd⟩
/-- the law's promise, its tables tracked -/
def spLawT (K : PySem.W.Frag) (cs : List (Addr × Addr)) : Sp := fun vs H Q _ => ∃ (a : Addr) (ns : List Int), vs = [.ref a] ∧ SqL K H a (ns.map V.int) ∧ ns.length ≤ 63 ∧ (∀ p ∈ cs, H p.2 = some (TbX p.2)) ∧ ∀ H', (∀ p ∈ cs, H' p.2 = some (TbX p.2)) → Q (.bl true) H'
def LawX (l : PySem.W.OpenLaw) (w : World) (K : PySem.W.Frag) (mg : Str → Option Value) (fa : Addr) (h : Heap) : Prop := ∃ (fd : FuncData) (cs : List (Addr × Addr)), (∀ (s : Shared) (u : Value), BindsTo s fd ⟨[u], []⟩ [("script", u)]) ∧ (∀ p ∈ cs, h.get? p.2 = some tab0) ∧ (∀ p ∈ cs, K.lookup p.2 = none) ∧ (∀ p ∈ cs, PySem.W.CodeHd h p.1 p.2) ∧
  ∀ base : Heap, K.In base → base.Ns mainGlobals mg → (∀ p ∈ cs, GxR.TabB base mg p.1 p.2) → FnAt l.prog w K mg base callerA fa fd ["script"] (spLawT K cs)
theorem walk_ofX {l : PySem.W.OpenLaw} {q : Program} {loose : List Str} {XP : (Str → Option Value) → Heap → Prop} {YP : World → Heap → Prop} {d : DefRec} {K : Params → PySem.W.Frag} (names : List Str)
    (hn : l.most = some 63) (hdf : d.params.defaults = []) (hrec : (names.all fun x => (recsOf q).any fun e => e.name == x) = true) (hY : ∀ (w : World) (h : Heap), YP w h → (K w.params).In h)
    (F : ∀ (w : World) (mg : Str → Option Value) (fa : Addr) (h : Heap), (K w.params).In h → h.Ns mainGlobals mg → mg d.name = some (.ref fa) → (∀ x ∈ names, TabFact mg h x) → LawX l w (K w.params) mg fa h) :
    PySem.W.WalkO q loose XP YP l.row.toRowW d [] (fun f vs => PySem.call f vs) := by
  refine Att.attach_callB hn hdf fun w s₀ s₁ mg mb fa o pm cd doc a vs ns G Y ho hd hcd hmg hobj hints hlen hbits hg => ?_
  have KX := hY w _ Y
  have facts : ∀ x ∈ names, TabFact mg s₁.heap x := fun x hx => by
    obtain ⟨e, he, ee⟩ := List.any_eq_true.mp (List.all_eq_true.mp hrec x hx)
    obtain ⟨a1, o1, fd1, c1, P1, r⟩ := G.T.tab e he
    have : e.name = x := beq_iff_eq.mp ee
    rw [this] at r
    exact ⟨a1, o1, fd1, c1, P1, r⟩
  obtain ⟨fd, cs, hb, hT, nT, C, hF⟩ := F w mg fa _ KX G.T.g hmg facts
  exact law_tabs KX G.T.g G.T.b G.T.builtins G.T.nolimit hg hT nT C G.T.bmain hobj hints (Nat.le_trans hlen (by decide)) hF hb (fun H hH hS => ⟨a, ns, rfl, hS, hlen, hH, fun H' h' => ⟨rfl, h'⟩⟩)
end Cw

/-! dicts whose keys are None, whole numbers or texts -/
namespace Cw
open PySem PySem.Spec PyProof.Rows L2
abbrev NK := Option L2.Key
def nV : NK → V
  | none => .non
  | some k => kV k
theorem nV_is {P : Program} {w : World} {k : NK} {u : Value} (r : RelV (nV k) u) : (noneKind P w).is k u = true := by
  cases k with
  | none =>
    have e : u = .none := r
    rw [e]; rfl
  | some k => exact kV_is (P := P) (w := w) r
theorem relV_nkey {k : NK} {u : Value} (h : nkIs k u = true) : RelV (nV k) u := by
  cases k with
  | none => rw [nk_none h]; exact rfl
  | some k => exact relV_key (show keyIs k u = true from h)
def DNp (P : Program) (w : World) (a : Addr) (kvs : List (NK × V)) (h : Heap) : Prop := kvs.length ≤ sizeLine ∧ (a == sysModules) = false ∧ ∃ vs, KV kvs vs ∧ h.DictOf (noneKind P w) a vs
/-- a dict with None among its keys -/
def DN (P : Program) (w : World) (a : Addr) (kvs : List (NK × V)) : HO := .ext (DNp P w a kvs)
theorem DNp.obj {P : Program} {w : World} {a : Addr} {kvs : List (NK × V)} {h : Heap} (x : DNp P w a kvs h) : ∃ o, h.get? a = some o := by
  obtain ⟨_, _, vs, _, o, es, ep, ho, _⟩ := x
  exact ⟨o, ho⟩
theorem DNp.stay {P : Program} {w : World} {a : Addr} {kvs : List (NK × V)} {h1 h2 : Heap} (x : DNp P w a kvs h1) (k : ∀ o, h1.get? a = some o → h2.get? a = some o) : DNp P w a kvs h2 := by
  obtain ⟨z, y, vs, r, o, es, ep, ho, q⟩ := x
  exact ⟨z, y, vs, r, o, es, ep, k _ ho, q⟩
theorem dn_ok {P : Program} {w : World} {H : Hp} {h : Heap} {a : Addr} {kvs : List (NK × V)} (x : DNp P w a kvs h) : ObjOk P w H h a (DN P w a kvs) :=
  ⟨x, x.obj, fun _ _ y k => y.stay k⟩
theorem dn_rd {P : Program} {w : World} {H : Hp} {h : Heap} {a b : Addr} {kvs : List (NK × V)} (ok : HOk P w H h) (e : Rd H a (DN P w b kvs)) : DNp P w b kvs h := (show ObjOk P w H h a (DN P w b kvs) from rd_of ok e).1
section
variable {X : Cx} {pd : Program} {wd : World} {o i e f value : Expr} {pos pos' apos cpos : Pos} {td ty tv tx : TE}
/-- {}, its keys to be None or texts -/
def tDNewN (P : Program) (w : World) : TE := fun _ H Q => ∀ p, H p = none → Q (.ref p) (upd H p (DN P w p []))
theorem pe_dnewN (hp : X.prog = pd) (hw : X.w = wd) : PE X (.Dict [] [] pos) (tDNewN pd wd) := ⟨fun pins s σ H Q I h => by
  subst hp hw
  exact wpAny_Dict_empty ⟨.ref s.heap.objs.size, _, I.laid (a := s.heap.objs.size) (o := DN X.prog X.w s.heap.objs.size []) (t' := s.toks) (fun _ _ q => Heap.get?_push_of_some _ q) (Nat.le_refl _)
    (dn_ok ⟨Nat.zero_le _, beq_eq_false_iff_ne.mpr (Ne.symm (Nat.ne_of_lt I.big)), [], .nil, Heap.DictOf.new s.heap⟩), rfl, h _ (I.hok.fresh (Nat.le_refl _))⟩⟩
/-- d.get(y, x) -/
def tNGet2 (P : Program) (w : World) (td ty tx : TE) : TE := fun σ H Q => td σ H fun x H1 => ∃ a kvs, x = .ref a ∧ Rd H1 a (DN P w a kvs) ∧ ty σ H1 fun y H2 => tx σ H2 fun z H3 => ∃ k, Rd H3 a (DN P w a kvs) ∧ y = nV k ∧ Q ((valV kvs k).getD z) H3
theorem pe_nget2 (hp : X.prog = pd) (hw : X.w = wd) (ho : PE X o td) (he : PE X e ty) (hf : PE X f tx) (m : M2 X o "get" apos e f cpos) : PE X (.Call (.Attribute o "get" apos) [e, f] [] cpos) (tNGet2 pd wd td ty tx) := by
  subst hp hw
  refine ⟨fun pins s σ H Q I h => ?_⟩
  refine wpAny_Call_method m.base m.few m.line PySem.F.plainAttrs_dict PySem.F.slot_dict_get PySem.F.type_dict_get (thn (ho.run pins s σ H _ I h) fun u s1 ⟨x, H1, I1, rx, a, kvs, ex, hd, q1⟩ => ?_)
  subst ex
  obtain rfl : u = Value.ref a := rx
  obtain ⟨_, hs, vs, rel, dd⟩ := dn_rd I1.hok hd
  refine ⟨dd.typeIs, fun b q => ?_, ?_⟩
  · cases q
    obtain ⟨ob, _, _, h1, h2, _⟩ := dd
    exact ⟨ob, h1, h2.2.1⟩
  rw [m.trees]
  refine Calls.callWith_builtin rfl (Calls.evalArgs_plain (Calls.spliced_cons (thn (he.run pins s1 σ H1 _ I1 q1) fun iv s2 ⟨y, H2, I2, ry, q2⟩ =>
    Calls.spliced_cons (thn (hf.run pins s2 σ H2 _ I2 q2) fun fv s3 ⟨z, H3, I3, rz, k, hd3, ek, q3⟩ => Calls.spliced_nil ?_))))
  subst ek
  obtain ⟨_, hs3, vs3, rel3, dd3⟩ := dn_rd I3.hok hd3
  refine call_meetsIn PySem.F.slot_dict_get dd3.typeIs PySem.F.entry_dict_get (PySem.F.args_dict_get_3 _ _ _) (meets_dict_get_default (noneKind X.prog X.w) a (nV_is ry) hs3 fv) ⟨_, dd3.mapOf, ⟨_, H3, I3.tok _, (rel3.val k).getD rz, q3⟩⟩
/-- d[y] = v -/
def sNPut (P : Program) (w : World) (td ty tv : TE) : TS := fun D σ H => tv σ H fun v H1 => td σ H1 fun x H2 => ty σ H2 fun y H3 => ∃ a kvs k, x = .ref a ∧ H3 a = some (DN P w a kvs) ∧ y = nV k ∧ kvs.length < sizeLine ∧ D.nx σ (upd H3 a (DN P w a (putK kvs k v)))
theorem ps_nput (hp : X.prog = pd) (hw : X.w = wd) (ho : PE X o td) (hi : PE X i ty) (hv : PE X value tv) (hs : swapsWith value (some (.Subscript o i pos')) pos.line X.env = pure false) :
    PS X (.Assign [.Subscript o i pos'] value pos) (sNPut pd wd td ty tv) := by
  subst hp hw
  refine ⟨fun pins s σ H D I h => ?_⟩
  refine wpAny_Assign_Subscript (thn (hv.run pins s σ H _ I h) fun r s1 ⟨v, H1, I1, rv, q1⟩ => thn (ho.run pins s1 σ H1 _ I1 q1) fun u s2 ⟨x, H2, I2, rx, q2⟩ => thn (hi.run pins s2 σ H2 _ I2 q2) fun iv s3 ⟨y, H3, I3, ry, a, kvs, k, ex, hd, ey, hl, q3⟩ => ?_) hs
  subst ex ey
  obtain rfl : u = Value.ref a := rx
  obtain ⟨z, hd0, vs, rel, dd⟩ := dn_rd I3.hok (Rd.of hd)
  have hz : vs.length ≤ sizeLine := by rw [← rel.length]; exact z
  have hl2 : (putK kvs k v).length ≤ sizeLine := by have := length_putK kvs k v; omega
  refine wpAny_setItem_pairs (hsz := hz) (nV_is ry) dd fun h' dd' hs' => ?_
  have he : ∃ q, h'.get? a = some q := let ⟨q, _, _, hq, _⟩ := dd'; ⟨q, hq⟩
  exact ⟨σ, _, d_write I3 (by rw [hd]; exact True.intro) hs' he (dn_ok ⟨hl2, hd0, _, rel.put k rv, dd'⟩), q3⟩
end
/-! ### for k, v in d.items(), the dict locked -/
section
variable {X : Cx} {pins : List (Addr × Obj)} {σ : L2.St} {H : Hp} {s : Shared} {d : Addr} {o : Obj}
theorem frzN {kvs : List (NK × V)} (I : Inv X pins σ H s) (h : H d = some (.frz o (DN X.prog X.w d kvs))) :
    (d == sysModules) = false ∧ s.heap.get? d = some o ∧ o.ExactDict ∧ ∃ (es : Array DictEntry) (ep : Nat) (vs : List (NK × Value)), o.data = .dict es ep ∧ es.size = kvs.length ∧ KV kvs vs ∧ s.heap.DictAt (noneKind X.prog X.w) d vs ep := by
  obtain ⟨hd, ⟨z, hs, vs, kv, o', es, ep, ho, hx, hdt, r⟩, _⟩ := I.hok d _ h
  rw [hd] at ho
  cases ho
  refine ⟨hs, hd, hx, es, ep, vs, hdt, ?_, kv, o, es, hd, hx, hdt, r⟩
  have l1 := r.2.1.length
  have l2 : kvs.length = vs.length := Paired.length kv
  rw [Array.length_toList] at l1
  omega
end
/-- the pairs, each a new tuple -/
def ItN (P : Program) (w : World) (d : Addr) (o : Obj) (kvs : List (NK × V)) : It :=
  ⟨fun i H => H d = some (.frz o (DN P w d kvs)) ∧ i < kvs.length, fun i H x H' => ∃ T k v, kvs[i]? = some (k, v) ∧ x = .ref T ∧ H T = none ∧ H' = upd H T (.tup [nV k, v]), fun i H => H d = some (.frz o (DN P w d kvs)) ∧ kvs.length ≤ i⟩
section
variable {P : Program} {w : World} {K : PySem.W.Frag} {d : Addr} {o : Obj} {es : Array DictEntry} {ep : Nat}
theorem turn_itemsN {kvs : List (NK × V)} {elts : List Expr} {kk : Nat} {tpos : Pos} (it : Addr) (hod : o.data = .dict es ep) :
    Turn P w K (.Tuple elts kk tpos) (ItN P w d o kvs) [it] it (fun i h => ∃ ok ov, IsItemIter h it d i kvs.length ep ok ov) where
  mem := by simp
  obj := fun i h st b hb => by
    have e : b = it := by simpa using hb
    subst e
    obtain ⟨ok, ov, e⟩ := st
    exact ⟨_, e, fun v z => nomatch z⟩
  keep := fun i h h' st k => let ⟨ok, ov, e⟩ := st; ⟨ok, ov, k it (by simp) _ e⟩
  item := by
    intro X hP hw hK hc i pins s σ H E I hf st hg
    subst hP hw hK
    obtain ⟨hd, hi⟩ := hg
    obtain ⟨hs, hgd, hx, es', ep', vs, hdt, hsz, kv, hm⟩ := frzN I hd
    obtain ⟨rfl, rfl⟩ := dict_ep hod hdt
    obtain ⟨⟨k, v⟩, hkv⟩ : ∃ p, kvs[i]? = some p := ⟨kvs[i], List.getElem?_eq_getElem hi⟩
    obtain ⟨u, hu, ru⟩ := kv_get kv hkv
    have hl : kvs.length = vs.length := Paired.length kv
    obtain ⟨ok, ov, he⟩ := st
    rw [hl] at he
    have hlt : it < s.heap.objs.size := Heap.lt_size he
    refine wpAny_pyNext_items_item he hm hu fun key h' hkey ho hT hz hk => ?_
    refine ⟨_, rfl, wpAny_letOwnedTupleGo_items (s := { s with heap := h' }) ho fun h'' he' sb => ?_⟩
    have hT2 : h''.get? s.heap.objs.size = some { cls := .type "tuple", data := .seq #[key, u] } := (sb.2 _ (Nat.ne_of_gt hlt)).trans hT
    have new : ObjOk X.prog X.w (upd H s.heap.objs.size (.tup [nV k, v])) h'' s.heap.objs.size (.tup [nV k, v]) :=
      ⟨by show 2 ≤ sizeLine; decide, [key, u], .cons (relV_nkey (show nkIs k key = true from hkey)) (.cons ru .nil), ⟨_, hT2, rfl, _, rfl⟩⟩
    have I1 : Inv X pins σ (upd H s.heap.objs.size (.tup [nV k, v])) { s with heap := h'' } :=
      I.turnedNew (t' := s.toks) (ch := [it]) (fun b ob hb e => (sb.2 b (by simpa using hb)).trans (hk b ob (by simpa using hb) e)) hf (Nat.le_refl _) new
    refine ⟨.ref s.heap.objs.size, _, I1, rfl, ⟨_, k, v, hkv, rfl, I.hok.fresh (Nat.le_refl _), rfl⟩, ⟨key, u, ?_⟩, fun b hb => ?_⟩
    · rw [hl]; exact he'
    · have e : b = it := by simpa using hb
      rw [e, upd_ne (Nat.ne_of_lt hlt)]
      exact (hf it (by simp)).1
  done := by
    intro X hP hw hK hc i pins s σ H E I hf st hg
    subst hP hw hK
    obtain ⟨hd, hi⟩ := hg
    obtain ⟨f0, f1, f2, f3, f4, f5⟩ := hf it (by simp)
    obtain ⟨hs, hgd, hx, es', ep', vs, hdt, hsz, kv, hm⟩ := frzN I hd
    obtain ⟨rfl, rfl⟩ := dict_ep hod hdt
    have hl : kvs.length = vs.length := Paired.length kv
    obtain ⟨ok, ov, he⟩ := st
    rw [hl] at he
    exact wpAny_pyNext_items_end (I.ok.hd hc) he hm (List.getElem?_eq_none (by omega)) fun h' eb => ⟨rfl, I.turned (t' := s.toks) (fun b ob hb e => eb b ob hb e) f0 f1 f3 f4 f5⟩
  self := fun A i s Q E st h => let ⟨_, _, e⟩ := st; PySem.W.kcp_self e h
end
def iItemsN (P : Program) (w : World) (td : TE) : TI := fun σ H R => td σ H fun x H1 => ∃ d o kvs, x = .ref d ∧ H1 d = some (.frz o (DN P w d kvs)) ∧ R (ItN P w d o kvs) H1
section
variable {X : Cx} {pd : Program} {wd : World} {e : Expr} {td : TE} {apos cpos : Pos}
theorem pi_itemsN {elts : List Expr} {kk : Nat} {tpos : Pos} (hp : X.prog = pd) (hw : X.w = wd) (he : PE X e td) (hbase : attributeBase e "items" X.env (eval e X.env) = eval e X.env := by rfl) (hline : (apos.endLine == cpos.line) = true := by rfl) :
    PI X (.Tuple elts kk tpos) (.Call (.Attribute e "items" apos) [] [] cpos) (iItemsN pd wd td) := by
  subst hp hw
  refine ⟨fun pins s σ H R I h => ?_⟩
  refine wpAny_Call_method (T := "dict") (id := "dict.items") hbase rfl hline F.plainAttrs_dict F.slot_dict_items F.type_dict_items (thn (he.run pins s σ H _ I h) fun u s1 ⟨x, H1, I1, rx, d, o, kvs, ex, hd, q⟩ => ?_)
  subst ex
  obtain rfl : u = Value.ref d := rx
  obtain ⟨hs, hgd, hx, es, ep, vs, hdt, hsz, kv, hm⟩ := frzN I1 hd
  have hl : kvs.length = vs.length := Paired.length kv
  refine ⟨hm.dictOf.typeIs, hm.dictOf.mapOf.noDict, ?_⟩
  have I2 : Inv X pins σ H1 { s1 with heap := s1.heap.push { cls := .type "dict_items", data := .fields #[.ref d] } } := I1.kept (t' := s1.toks) fun b ob q => Heap.get?_push_of_some _ q
  have fin : wpAny (model X.prog X.w) X.A (pyIter (.ref s1.heap.objs.size)) (PIE X pins σ (.Tuple elts kk tpos) R) X.xe { s1 with heap := s1.heap.push { cls := .type "dict_items", data := .fields #[.ref d] } } := by
    refine wpAny_pyIter_items (d := d) (knd := noneKind X.prog X.w) ⟨_, Heap.get?_push_size _ rfl, rfl, rfl⟩ (hm.push _) (pi_one (tk := s1.toks) I2 _ (turn_itemsN _ hdt) ⟨.none, .none, ?_⟩ q)
    rw [hl]
    exact Heap.get?_push_size _ rfl
  show wpAny _ _ (callWith cpos (.builtin "dict.items") [.ref d] [] []) _ X.xe s1
  exact method_meetsIn F.slot_dict_items F.entry_dict_items rfl (PySem.evalArgs_none ⟨rfl, hm.dictOf.typeIs, F.args_dict_items_1 _, _, meets_dict_items (noneKind X.prog X.w) d hs, ⟨vs, hm.dictOf⟩, fin⟩)
end
theorem walk_itemsN {P : Program} {w : World} {d : Addr} {o : Obj} {kvs : List (NK × V)} : True := trivial
end Cw

/-! dicts whose keys are tuples within tuples -/
namespace Cw
open PySem PySem.Spec PyProof.Rows L2
mutual
/-- the value is such a key, its tuples tracked -/
inductive NkV (H : Hp) : NestedKey → V → Prop
  | none : NkV H .none .non
  | int (i : Int) : NkV H (.num i) (.int i)
  | text (x : Str) : NkV H (.text x) (.str x)
  | tup {a : Addr} {vs : List V} {ks : List NestedKey} : H a = some (.tup vs) → NkAll H ks vs → NkV H (.tup ks) (.ref a)
inductive NkAll (H : Hp) : List NestedKey → List V → Prop
  | nil : NkAll H [] []
  | cons {k : NestedKey} {v : V} {ks : List NestedKey} {vs : List V} : NkV H k v → NkAll H ks vs → NkAll H (k :: ks) (v :: vs)
end
mutual
theorem NkV.same {H H' : Hp} (s : Same H H') : ∀ (k : NestedKey) (v : V), NkV H k v → NkV H' k v
  | .none, _, h => by cases h; exact .none
  | .num _, _, h => by cases h; exact .int _
  | .text _, _, h => by cases h; exact .text _
  | .tup ks, _, h => by
    cases h with
    | tup e a => exact .tup (s _ _ e) (NkAll.same s ks _ a)
theorem NkAll.same {H H' : Hp} (s : Same H H') : ∀ (ks : List NestedKey) (vs : List V), NkAll H ks vs → NkAll H' ks vs
  | [], _, h => by cases h; exact .nil
  | k :: ks, _, h => by
    cases h with
    | cons a b => exact .cons (NkV.same s k _ a) (NkAll.same s ks _ b)
end
mutual
/-- tuples stay -/
theorem NkV.tups {H H' : Hp} (s : ∀ b xs, H b = some (.tup xs) → H' b = some (.tup xs)) : ∀ (k : NestedKey) (v : V), NkV H k v → NkV H' k v
  | .none, _, h => by cases h; exact .none
  | .num _, _, h => by cases h; exact .int _
  | .text _, _, h => by cases h; exact .text _
  | .tup ks, _, h => by
    cases h with
    | tup e a => exact .tup (s _ _ e) (NkAll.tups s ks _ a)
theorem NkAll.tups {H H' : Hp} (s : ∀ b xs, H b = some (.tup xs) → H' b = some (.tup xs)) : ∀ (ks : List NestedKey) (vs : List V), NkAll H ks vs → NkAll H' ks vs
  | [], _, h => by cases h; exact .nil
  | k :: ks, _, h => by
    cases h with
    | cons a b => exact .cons (NkV.tups s k _ a) (NkAll.tups s ks _ b)
end
mutual
theorem NkV.is {P : Program} {w : World} {H : Hp} {h : Heap} (ok : HOk P w H h) : ∀ (k : NestedKey) (v : V) (u : Value), NkV H k v → RelV v u → NestedIs h k u
  | .none, _, u, x, r => by
    cases x
    have e : u = .none := r
    rw [e]; exact .none
  | .num i, _, u, x, r => by
    cases x
    obtain ⟨t, rfl⟩ := r
    exact .int _ _
  | .text y, _, u, x, r => by
    cases x
    obtain ⟨t, rfl⟩ := r
    exact .text _ _
  | .tup ks, _, u, x, r => by
    cases x with
    | @tup a vs _ e al =>
      obtain rfl : u = Value.ref a := r
      obtain ⟨_, its, rv, o, h1, h2, n, h3⟩ := (show ObjOk P w H h a (.tup vs) from ok a _ e)
      exact .tup h1 h2 h3 (by simpa using NkAll.are ok ks vs its al rv)
theorem NkAll.are {P : Program} {w : World} {H : Hp} {h : Heap} (ok : HOk P w H h) : ∀ (ks : List NestedKey) (vs : List V) (us : List Value), NkAll H ks vs → Vals vs us → NestedAll h ks us
  | [], _, us, x, r => by
    cases x
    cases r
    exact .nil
  | k :: ks, _, us, x, r => by
    cases x with
    | cons a b =>
      cases r with
      | cons c d => exact .cons (NkV.is ok k _ _ a c) (NkAll.are ok ks _ _ b d)
end
abbrev KEnt := NestedKey × Addr × V
/-- what the dict holds at a key -/
def valH (es : List KEnt) (k : NestedKey) : Option V := (es.find? fun e => decide (e.1 = k)).map (·.2.2)
abbrev KEs (es : List KEnt) (xs : List (NestedKey × Addr × Value)) : Prop := Paired (fun p q => p.1 = q.1 ∧ p.2.1 = q.2.1 ∧ RelV p.2.2 q.2.2) es xs
theorem KEs.val {es : List KEnt} {xs : List (NestedKey × Addr × Value)} (r : KEs es xs) (k : NestedKey) : RelO (valH es k) ((atKey xs k).map (·.2)) := by
  unfold KEs at r
  induction r with
  | nil => exact True.intro
  | @cons p q ps qs h t ih =>
    obtain ⟨h1, _, h2⟩ := h
    by_cases e : p.1 = k
    · have e' : q.1 = k := h1.symm.trans e
      have b : atKey (q :: qs) k = some q.2 := by simp [atKey, List.find?_cons, e']
      have c : valH (p :: ps) k = some p.2.2 := by simp [valH, List.find?_cons, e]
      rw [c, b]; exact h2
    · have e' : ¬ q.1 = k := fun z => e (h1.trans z)
      have b : atKey (q :: qs) k = atKey qs k := by simp [atKey, List.find?_cons, e']
      have c : valH (p :: ps) k = valH ps k := by simp [valH, List.find?_cons, e]
      rw [c, b]; exact ih
def DHp (P : Program) (w : World) (a : Addr) (es : List KEnt) (h : Heap) : Prop := es.length ≤ sizeLine ∧ (a == sysModules) = false ∧ ∃ xs, KEs es xs ∧
  ∃ o ds ep, h.get? a = some o ∧ o.ExactDict ∧ o.data = .dict ds ep ∧ ds.toList = xs.map (entryOfKey (nestedKind P w)) ∧ (xs.map (·.1)).Nodup
/-- a dict keyed by tuples within tuples -/
def DH (P : Program) (w : World) (a : Addr) (es : List KEnt) : HO := .ext (DHp P w a es)
/-- its keys' tuples -/
def KeyAt (H : Hp) (es : List KEnt) : Prop := ∀ e ∈ es, NkV H e.1 (.ref e.2.1) ∧ e.1.depth ≤ 8
theorem KeyAt.same {H H' : Hp} {es : List KEnt} (x : KeyAt H es) (s : Same H H') : KeyAt H' es := fun e he => ⟨NkV.same s _ _ (x e he).1, (x e he).2⟩
theorem KeyAt.tups {H H' : Hp} {es : List KEnt} (x : KeyAt H es) (s : ∀ b xs, H b = some (.tup xs) → H' b = some (.tup xs)) : KeyAt H' es := fun e he => ⟨NkV.tups s _ _ (x e he).1, (x e he).2⟩
theorem dh_ok {P : Program} {w : World} {H : Hp} {h : Heap} {a : Addr} {es : List KEnt} (x : DHp P w a es h) : ObjOk P w H h a (DH P w a es) :=
  ⟨x, let ⟨_, _, _, _, o, _, _, ho, _⟩ := x; ⟨o, ho⟩, fun _ _ ⟨z, y, xs, r, o, ds, ep, ho, q⟩ k => ⟨z, y, xs, r, o, ds, ep, k _ ho, q⟩⟩
theorem dh_rd {P : Program} {w : World} {H : Hp} {h : Heap} {a : Addr} {es : List KEnt} (ok : HOk P w H h) (e : H a = some (DH P w a es)) (ka : KeyAt H es) : es.length ≤ sizeLine ∧ (a == sysModules) = false ∧
    ∃ xs, KEs es xs ∧ h.DictOfH (nestedKind P w) a xs := by
  obtain ⟨z, y, xs, r, o, ds, ep, h1, h2, h3, h4, h5⟩ := (show ObjOk P w H h a (DH P w a es) from ok a _ e).1
  refine ⟨z, y, xs, r, o, ds, ep, h1, h2, h3, h4, fun x hx => ?_, h5⟩
  have all : ∀ {l : List KEnt} {m : List (NestedKey × Addr × Value)}, KEs l m → (∀ e ∈ l, NkV H e.1 (.ref e.2.1) ∧ e.1.depth ≤ 8) → ∀ x ∈ m, (nestedKind P w).is h x.1 x.2.1 := by
    intro l m q
    unfold KEs at q
    induction q with
    | nil => intro _ x hx; exact nomatch hx
    | @cons p q ps qs hq t ih =>
      intro ha x hx
      rcases List.mem_cons.mp hx with e | hx
      · subst e
        obtain ⟨k1, k2⟩ := ha p List.mem_cons_self
        rw [← hq.1, ← hq.2.1]
        exact ⟨NkV.is ok _ _ _ k1 rfl, k2⟩
      · exact ih (fun e he => ha e (List.mem_cons_of_mem _ he)) x hx
  exact all r ka x hx
section
variable {X : Cx} {pd : Program} {wd : World} {o i e f value : Expr} {pos pos' apos cpos : Pos} {td ty tv tx : TE}
def tDNewH (P : Program) (w : World) : TE := fun _ H Q => ∀ p, H p = none → Q (.ref p) (upd H p (DH P w p []))
theorem pe_dnewH (hp : X.prog = pd) (hw : X.w = wd) : PE X (.Dict [] [] pos) (tDNewH pd wd) := ⟨fun pins s σ H Q I h => by
  subst hp hw
  exact wpAny_Dict_empty ⟨.ref s.heap.objs.size, _, I.laid (a := s.heap.objs.size) (o := DH X.prog X.w s.heap.objs.size []) (t' := s.toks) (fun _ _ q => Heap.get?_push_of_some _ q) (Nat.le_refl _)
    (dh_ok ⟨Nat.zero_le _, beq_eq_false_iff_ne.mpr (Ne.symm (Nat.ne_of_lt I.big)), [], .nil, _, #[], 0, Heap.get?_push_size _ rfl, ⟨rfl, rfl, rfl⟩, rfl, rfl, List.nodup_nil⟩), rfl, h _ (I.hok.fresh (Nat.le_refl _))⟩⟩
/-- what stands at the key y of the dict at a -/
def HGet (P : Program) (w : World) (H : Hp) (a : Addr) (y : V) (r : Option V) : Prop := ∃ es k b, H a = some (DH P w a es) ∧ KeyAt H es ∧ y = .ref b ∧ NkV H k y ∧ k.depth ≤ 8 ∧ r = valH es k
theorem room_in1 {A : Around} (hu : A.units + 65 < cLine) : (nestedKind pd wd).room A.in1 := by
  show A.in1.units + 8 < cLine
  have : A.in1.units = A.units + 1 := rfl
  omega
/-- y not in d -/
def tHNotIn (P : Program) (w : World) (ty td : TE) : TE := fun σ H Q => ty σ H fun y H1 => td σ H1 fun x H2 => ∃ a r, x = .ref a ∧ HGet P w H2 a y r ∧ Q (.bl (!r.isSome)) H2
theorem pc_hnotin (hp : X.prog = pd) (hw : X.w = wd) (hu : X.A.units + 65 < cLine) (hi : PE X i ty) (ho : PE X o td) : PC X .NotIn i o (tHNotIn pd wd ty td) := by
  subst hp hw
  refine ⟨fun pins s σ H Q I h => ?_⟩
  refine thn (hi.run pins s σ H _ I h) fun iv s1 ⟨y, H1, I1, ry, q1⟩ => thn (ho.run pins s1 σ H1 _ I1 q1) fun u s2 ⟨x, H2, I2, rx, a, r, ex, ⟨es, k, b, hd, ka, ey, nk, dp, er⟩, q2⟩ => ?_
  subst ex ey er
  obtain rfl : u = Value.ref a := rx
  obtain rfl : iv = Value.ref b := ry
  obtain ⟨z, hs, xs, rel, dd⟩ := dh_rd I2.hok hd ka
  refine wpAny_notIn_heap (room_in1 hu) ⟨NkV.is I2.hok _ _ _ nk rfl, dp⟩ hs dd ?_
  have q := (rel.val k).isSome_eq
  rw [Option.isSome_map] at q
  rw [← q]
  exact ⟨.bl _, H2, I2.tok _, rfl, q2⟩
/-- d[y] -/
def tHGet (P : Program) (w : World) (td ty : TE) : TE := fun σ H Q => td σ H fun x H1 => ty σ H1 fun y H2 => ∃ a v, x = .ref a ∧ HGet P w H2 a y (some v) ∧ Q v H2
theorem pe_hget (hp : X.prog = pd) (hw : X.w = wd) (hu : X.A.units + 65 < cLine) (ho : PE X o td) (hi : PE X i ty) (hs : NoSl i) : PE X (.Subscript o i pos) (tHGet pd wd td ty) := by
  subst hp hw
  refine ⟨fun pins s σ H Q I h => ?_⟩
  refine subD_of PySem.F.slot_dict_getitem.lookup hs (thn (ho.run pins s σ H _ I h) fun u s1 ⟨x, H1, I1, rx, q1⟩ => thn (hi.run pins s1 σ H1 _ I1 q1) fun iv s2 ⟨y, H2, I2, ry, a, v, ex, ⟨es, k, b, hd, ka, ey, nk, dp, er⟩, q2⟩ => ?_)
  subst ex ey
  obtain rfl : u = Value.ref a := rx
  obtain rfl : iv = Value.ref b := ry
  obtain ⟨z, hs', xs, rel, dd⟩ := dh_rd I2.hok hd ka
  obtain ⟨w', hw', rw'⟩ := RelO.some_of (v := v) (o := (atKey xs k).map (·.2)) (by rw [er]; exact rel.val k)
  obtain ⟨p, hp, hp2⟩ := Option.map_eq_some_iff.mp hw'
  refine ⟨dd.typeIs, wpAny_getItem_heap (room_in1 hu) ⟨NkV.is I2.hok _ _ _ nk rfl, dp⟩ dd hp ?_⟩
  rw [hp2]
  exact ⟨v, H2, I2.tok _, rw', q2⟩
/-- d[y] = v, where y is new -/
def sHPut (P : Program) (w : World) (td ty tv : TE) : TS := fun D σ H => tv σ H fun v H1 => td σ H1 fun x H2 => ty σ H2 fun y H3 => ∃ a es k b, x = .ref a ∧ H3 a = some (DH P w a es) ∧ KeyAt H3 es ∧ y = .ref b ∧ NkV H3 k y ∧ k.depth ≤ 8 ∧ valH es k = none ∧ es.length < sizeLine ∧
  D.nx σ (upd H3 a (DH P w a (es ++ [(k, b, v)])))
theorem ps_hput (hp : X.prog = pd) (hw : X.w = wd) (hu : X.A.units + 65 < cLine) (ho : PE X o td) (hi : PE X i ty) (hv : PE X value tv) (hs : swapsWith value (some (.Subscript o i pos')) pos.line X.env = pure false) :
    PS X (.Assign [.Subscript o i pos'] value pos) (sHPut pd wd td ty tv) := by
  subst hp hw
  refine ⟨fun pins s σ H D I h => ?_⟩
  refine wpAny_Assign_Subscript (thn (hv.run pins s σ H _ I h) fun r s1 ⟨v, H1, I1, rv, q1⟩ => thn (ho.run pins s1 σ H1 _ I1 q1) fun u s2 ⟨x, H2, I2, rx, q2⟩ => thn (hi.run pins s2 σ H2 _ I2 q2) fun iv s3 ⟨y, H3, I3, ry, a, es, k, b, ex, hd, ka, ey, nk, dp, no, hl, q3⟩ => ?_) hs
  subst ex ey
  obtain rfl : u = Value.ref a := rx
  obtain rfl : iv = Value.ref b := ry
  obtain ⟨z, hs', xs, rel, dd⟩ := dh_rd I3.hok hd ka
  have hz : xs.length ≤ sizeLine := by rw [← Paired.length rel]; exact z
  have no' : (atKey xs k).isSome = false := by
    have q := (rel.val k).isSome_eq
    rw [Option.isSome_map, no] at q
    exact q.symm
  have est : storedH xs k b r = xs ++ [(k, b, r)] := by
    unfold storedH
    rw [if_neg (by rw [no']; decide)]
  refine wpAny_setItem_heap (hsz := hz) (room_in1 hu) ⟨NkV.is I3.hok _ _ _ nk rfl, dp⟩ dd fun h' dd' hs2 => ?_
  rw [est] at dd'
  obtain ⟨q, ds, ep, hq, h2, h3, h4, _, h5⟩ := dd'
  exact ⟨σ, _, d_write I3 (by rw [hd]; exact True.intro) hs2 ⟨q, hq⟩ (dh_ok ⟨by rw [List.length_append]; show es.length + 1 ≤ sizeLine; omega, hs', _, Paired.snoc rel ⟨rfl, rfl, rv⟩, q, ds, ep, hq, h2, h3, h4, h5⟩), q3⟩
end
end Cw

/-! a lambda of one name that captures nothing; min(.., key=lambda ..) over a tuple -/
namespace Cw
open PySem PySem.Spec PyProof.Rows L2 LamX NdefX
structure LamF where
  qual : Str
  params : Arguments
  body : Expr
  scope : Scope
  c : Addr
/-- as if it were a def within a def: its frame is the same -/
abbrev LamF.nf (F : LamF) : NF := ⟨"<lambda>", F.qual, F.params, [], F.scope, [], F.c⟩
def LamO (f : Addr) (F : LamF) : HO := .ext fun h => ∃ pm ctv, h.get? f = some (PySem.W.kla_obj "<lambda>" F.qual F.params F.body F.scope [] pm F.c ctv)
theorem lamO_at {P : Program} {w : World} {H : Hp} {h : Heap} {f : Addr} {F : LamF} (ok : HOk P w H h) (e : H f = some (LamO f F)) : ∃ pm ctv, h.get? f = some (PySem.W.kla_obj "<lambda>" F.qual F.params F.body F.scope [] pm F.c ctv) := (show ObjOk P w H h f (LamO f F) from ok f _ e).1
theorem inv_lam {X : Cx} {pins : List (Addr × Obj)} {σ : L2.St} {H : Hp} {s : Shared} {F : LamF} {t' : Nat} {pm ctv : Value} (I : Inv X pins σ H s) :
    Inv X pins σ (upd H s.heap.objs.size (LamO s.heap.objs.size F)) { s with heap := s.heap.push (PySem.W.kla_obj "<lambda>" F.qual F.params F.body F.scope [] pm F.c ctv), toks := t' } := by
  refine I.laid (a := s.heap.objs.size) (fun b u e => Heap.get?_push_of_some _ e) (Nat.le_refl _) ?_
  have e : (s.heap.push (PySem.W.kla_obj "<lambda>" F.qual F.params F.body F.scope [] pm F.c ctv)).get? s.heap.objs.size = some (PySem.W.kla_obj "<lambda>" F.qual F.params F.body F.scope [] pm F.c ctv) := Heap.get?_push_size _ rfl
  exact ⟨⟨pm, ctv, e⟩, ⟨_, e⟩, fun h1 h2 ⟨p, t, z⟩ st => ⟨p, t, st _ z⟩⟩
/-- the table at P: each code object that it tells bears the name q, and stands not where N says -/
def TabN (N : Addr → Prop) (H : Hp) (P : Addr) (q : Str) : Prop := ∃ ps : Array Value, H P = some (.tbl ps) ∧ TriplesOk ps.toList ∧ ∀ (pos : Pos) (cv : Value), codeAmong pos ps.toList = some cv → ∃ c, cv = .ref c ∧ ¬ N c ∧ H c = some (CodeO c q)
/-- what is not the table stays -/
theorem lam_evals {X : Cx} {pins : List (Addr × Obj)} {σ : L2.St} {H : Hp} {s : Shared} {c P : Addr} {q : Str} {params : Arguments} {body : Expr} {scope : Scope} {pos : Pos} {E : Value → Shared → Prop} {Q : Value → Shared → Prop} (I : Inv X pins σ H s) (TB : TabB X.base X.mg c P) (hcode : X.env.code = .ref c) (hq : X.env.qual ++ "<lambda>" = q)
    (N : Addr → Prop) (hT : TabN N H P q) (hN : ∀ b, N b → H b ≠ none) (hdef : defaultsOf params X.env = ([], [])) (hfree : ∀ y ∈ scope.names, y.2 ≠ .free)
    (h : ∀ (f c' : Addr) (H1 : Hp) (s' : Shared), Inv X pins σ H1 s' → (∀ b o, b ≠ P → H b = some o → H1 b = some o) → TabN N H1 P q → H f = none → f ≠ P → H1 f = some (LamO f ⟨q, params, body, scope, c'⟩) → H1 c' = some (CodeO c' q) → Q (.ref f) s') :
    wpAny (model X.prog X.w) X.A (eval (.Lambda params body scope pos) X.env) Q E s := by
  subst hq
  obtain ⟨ps, hP, ht, ha⟩ := hT
  refine PySem.W.kla_eval hdef ?_
  have bP : s.heap.BuiltinsAt X.mg P := TB.bm.keeps I.bk
  have hP' : s.heap.get? P = some { cls := .none, data := .fields ps } := I.hok P _ hP
  have nofree : ∀ y ∈ scope.names, y.2 = .free → ∃ c, X.env.cells.lookup y.1 = some c := fun y hy e => absurd e (hfree y hy)
  have ecl : cloFrom X.env.cells scope.names [] = [] := by
    cases e : cloFrom X.env.cells scope.names [] with
    | nil => rfl
    | cons p l =>
      have hm : (p.1, p.2) ∈ cloFrom X.env.cells scope.names [] := by rw [e]; exact List.mem_cons_self
      rcases cloFrom_mem hm with z | ⟨z, _⟩
      · cases z
      · exact absurd rfl (hfree _ z)
  have hclo := closure_ok (env := X.env) nofree
  rw [ecl] at hclo
  cases hc : codeAmong pos ps.toList with
  | none =>
    refine PySem.W.kla_makeFunction (mg := X.mg) (c := c) (P := P) (ps := ps) hclo I.ok.glob (I.mod.glob.keeps I.bk) hcode (TB.code.keeps I.bk) hP' ht hc TB.gP bP fun c' ctv h' tk hx hge hlt hrec htb => ?_
    obtain ⟨c2, oc, vs, t, e2, hoc, hd, hv⟩ := hrec
    cases e2
    have hsz : s.heap.objs.size ≤ h'.objs.size := Nat.le_trans hge (Nat.le_of_lt hlt)
    have nC : H c' = none := I.hok.fresh hge
    have nF : H h'.objs.size = none := I.hok.fresh hsz
    have n1 : h'.objs.size ≠ c' := Nat.ne_of_gt hlt
    have n2 : h'.objs.size ≠ P := Nat.ne_of_gt (Nat.lt_of_lt_of_le (Heap.lt_size hP') hsz)
    have nPc : P ≠ c' := ne_of_none hP nC
    have I0 := inv_table (t' := tk) (more := #[rawInt pos.line, rawInt pos.col, .ref c']) (h' := h') I hP hx htb hge ⟨oc, vs, t, hoc, hd, hv⟩
    have I1 := inv_lam (F := ⟨X.env.qual ++ "<lambda>", params, body, scope, c'⟩) (t' := tk) (pm := (X.mg "__name__").getD .none) (ctv := ctv) I0
    have eL : (ps ++ #[rawInt pos.line, rawInt pos.col, .ref c']).toList = ps.toList ++ [rawInt pos.line, rawInt pos.col, .ref c'] := by simp
    have up : ∀ b, b ≠ P → b ≠ c' → b ≠ h'.objs.size → upd (upd (upd H P (.tbl (ps ++ #[rawInt pos.line, rawInt pos.col, .ref c']))) c' (CodeO c' (X.env.qual ++ "<lambda>"))) h'.objs.size (LamO h'.objs.size ⟨X.env.qual ++ "<lambda>", params, body, scope, c'⟩) b = H b := fun b b1 b2 b3 => by
      rw [upd_ne b3, upd_ne b2, upd_ne b1]
    have kept : ∀ b o, b ≠ P → H b = some o → upd (upd (upd H P (.tbl (ps ++ #[rawInt pos.line, rawInt pos.col, .ref c']))) c' (CodeO c' (X.env.qual ++ "<lambda>"))) h'.objs.size (LamO h'.objs.size ⟨X.env.qual ++ "<lambda>", params, body, scope, c'⟩) b = some o := fun b o nb e => by
      rw [up b nb (ne_of_none e nC) (ne_of_none e nF)]; exact e
    refine h h'.objs.size c' _ _ I1 kept ⟨_, by rw [upd_ne n2.symm, upd_ne nPc, upd_same], by rw [eL]; exact PySem.TriplesOk_snoc _ _ _ _ ht, fun p' cv hcv => ?_⟩ nF n2 upd_same (by rw [upd_ne n1.symm, upd_same])
    rw [eL] at hcv
    rcases among_app _ ht hcv with z | z
    · obtain ⟨c0, e1, e3, e2⟩ := ha p' cv z
      refine ⟨c0, e1, e3, kept _ _ (fun z => ?_) e2⟩
      rw [z, hP] at e2
      exact codeO_ne _ (Option.some.inj e2).symm
    · exact ⟨c', z, fun y => hN _ y nC, by rw [upd_ne n1.symm, upd_same]⟩
  | some cv =>
    obtain ⟨c', e, _, hco⟩ := ha pos cv hc
    subst e
    refine PySem.W.kla_makeFunctionHit (mg := X.mg) (c := c) (P := P) (ps := ps) hclo I.ok.glob (I.mod.glob.keeps I.bk) hcode (TB.code.keeps I.bk) hP' ht hc bP fun ctv h' tk hx hsz => ?_
    have nF : H h'.objs.size = none := I.hok.fresh hsz
    have n2 : h'.objs.size ≠ P := Nat.ne_of_gt (Nat.lt_of_lt_of_le (Heap.lt_size hP') hsz)
    have I0 : Inv X pins σ H { s with heap := h', toks := tk } := I.kept hx
    have I1 := inv_lam (F := ⟨X.env.qual ++ "<lambda>", params, body, scope, c'⟩) (t' := tk) (pm := (X.mg "__name__").getD .none) (ctv := ctv) I0
    have kept : ∀ b o, H b = some o → upd H h'.objs.size (LamO h'.objs.size ⟨X.env.qual ++ "<lambda>", params, body, scope, c'⟩) b = some o := fun b o e => by rw [upd_ne (ne_of_none e nF)]; exact e
    exact h h'.objs.size c' _ _ I1 (fun b o _ e => kept b o e) ⟨ps, kept _ _ hP, ht, fun p' cv hcv => let ⟨c0, e1, e3, e2⟩ := ha p' cv hcv; ⟨c0, e1, e3, kept _ _ e2⟩⟩ nF n2 upd_same (kept _ _ hco)
/-- the lambda as a value -/
def tLamb (P : Addr) (q : Str) (params : Arguments) (body : Expr) (scope : Scope) : TE := fun σ H Q => ∃ N : Addr → Prop, TabN N H P q ∧ (∀ b, N b → H b ≠ none) ∧ ∀ (f c' : Addr) (H1 : Hp), (∀ b o, b ≠ P → H b = some o → H1 b = some o) → TabN N H1 P q → H f = none → H1 f = some (LamO f ⟨q, params, body, scope, c'⟩) → H1 c' = some (CodeO c' q) → Q (.ref f) H1
theorem pe_lamb {X : Cx} {c P : Addr} {q : Str} {params : Arguments} {body : Expr} {scope : Scope} {pos : Pos} (TB : TabB X.base X.mg c P) (hcode : X.env.code = .ref c) (hq : X.env.qual ++ "<lambda>" = q) (hdef : defaultsOf params X.env = ([], [])) (hfree : ∀ y ∈ scope.names, y.2 ≠ .free) :
    PE X (.Lambda params body scope pos) (tLamb P q params body scope) :=
  ⟨fun pins s σ H Q I ⟨N, hT, hN, h⟩ => lam_evals I TB hcode hq N hT hN hdef hfree fun f c' H1 s' I1 k t n _ l co => ⟨.ref f, H1, I1, rfl, h f c' H1 k t n l co⟩⟩
section
variable {P : Program} {w : World} {K : PySem.W.Frag} {mg : Str → Option Value} {base : Heap} {A : Around} {outer : List Env} {s : Shared} {H : Hp} {Q : VK} {f : Addr} {F : LamF} {k : Nat} {x : Str} {u : Value} {v : V} {tb : TE}
/-- the context of its body -/
abbrev lamCxN (P : Program) (w : World) (K : PySem.W.Frag) (mg : Str → Option Value) (base : Heap) (x : Str) (F : LamF) (f : Addr) (A : Around) (outer : List Env) (s : Shared) (H : Hp) : Cx := ncx CX0 P w K mg base [x] F.nf f A outer s H (fun _ _ _ => False)
theorem lam_run (S : NScope [x] [x] [] F.scope) (hb : ∀ (pm ctv u : Value), bindArgs (PySem.W.kla_fn "<lambda>" F.qual F.params F.body F.scope [] pm (.ref F.c) ctv) ⟨[u], []⟩ = pure [(x, u)]) (e0 : Env0 P w K mg base A outer s H) (hr : Room (k + 1) A)
    (hf : H f = some (LamO f F)) (hc : H F.c = some (CodeO F.c F.qual)) (body : ∀ s : Shared, Room k (A.deeper (envF F.nf f s.heap.objs.size)) → PE (lamCxN P w K mg base x F f A outer s H) F.body tb) (rv : RelV v u) (q : tb [some v] H Q) :
    codeAny (model P w) A (.call (.ref f) ⟨[u], []⟩) (CR CX0 outer P w H s Q (fun _ _ _ => False)) s := by
  have lim : s.heap.NoLimit := e0.mod.nolimit.keeps fun b o e => (e0.bs b o e).1
  obtain ⟨pm, ctv, ho⟩ := lamO_at e0.hok hf
  obtain ⟨oc, vs, t, hoc, hdc, hvc⟩ := (show ObjOk P w H s.heap F.c (CodeO F.c F.qual) from e0.hok _ _ hc).1
  refine PySem.W.kla_callFunE hr.depth ho rfl S.co S.gen rfl ⟨F.c, oc, vs, t, rfl, hoc, hdc, hvc⟩ ?_
  rw [hb pm ctv u]
  refine wpAny_pure (wpAny_newFunctionEnv S.nocell (fun ⟨n, _⟩ hy => S.par n (by
    have z := List.mem_singleton.mp hy
    cases z
    exact List.mem_cons_self)) (fun h₁ hns hsb => ⟨lim.fresh _ hsb, ?_⟩) S.kind)
  show codeAny _ _ (.expr F.body (envF F.nf f s.heap.objs.size)) _ _
  have kp : ∀ b o, s.heap.get? b = some o → h₁.get? b = some o := fun b o e => hsb.extBut b o (Nat.ne_of_lt (Heap.lt_size e)) (Heap.get?_push_of_some _ e)
  have C : CellsAt F.nf.cl [] [] s.heap H := ⟨rfl, (fun y c e => nomatch e), (fun a b c e => nomatch e), (fun i y e => nomatch e)⟩
  have I : Inv (lamCxN P w K mg base x F f A outer s H) [] (startF [x] [v] []) H { s with heap := h₁, toks := s.toks + [(x, u)].length } :=
    inv_startN (ps := [x]) (us := [u]) S hr.hd e0 rfl (.cons rv .nil) C hns kp
  refine PySem.W.kla_codeExpr (wpAny_mono ((body s (hr.deeper _)).run [] _ _ H Q I q) (fun v' s' hq => ?_) fun e s' hq => hq)
  obtain ⟨w', H', J', rv', q'⟩ := hq
  exact ⟨w', H', J'.os, J'.bare, J'.base, J'.hok, rv', q'⟩
end
/-- records of ours have turned -/
theorem inv_moved {X : Cx} {pins : List (Addr × Obj)} {σ : L2.St} {H : Hp} {s s' : Shared} {ch : List Addr} (I : Inv X pins σ H s) (hf : ∀ b ∈ ch, FpOk X pins H b) (m : Moved ch (fun a b => b = a) s s') : Inv X pins σ H s' := by
  obtain ⟨hh, g, d, t, o'⟩ := s'
  obtain rfl : g = s.gens := m.gens
  obtain rfl : d = s.drawn := m.drawn
  obtain rfl : o' = s.os := m.os
  have nit : ∀ b u, H b = some u → b ∉ ch := fun b u e z => by
    have q := (hf b z).1
    rw [q] at e; cases e
  refine I.step (g' := s.gens) (d' := s.drawn) (ch := ch) (fun b hb => ⟨(hf b hb).2.2.2.1, (hf b hb).2.1, (hf b hb).2.2.2.2.1, (hf b hb).2.2.2.2.2⟩) (fun b o _ _ hc e _ => m.heap b o hc e) (fun b o _ _ hc e _ => ⟨o.slots, m.heap b o hc e⟩) (fun _ _ _ _ n => n)
    (fun b o hc e => ⟨o, m.heap b o hc e⟩) (fun _ _ e => e) (fun _ _ _ e => e) (fun b ps e => ⟨#[], by rw [e]; simp⟩) (fun m' hm => ?_) (fun b u e => ?_) I.bare
  · obtain ⟨o, es, ep, ho, r⟩ := hm
    exact ⟨o, es, ep, m.heap _ o (fun z => (hf _ z).2.1 rfl) ho, r⟩
  · refine (I.hok b u e).stay (fun c v hc q => m.heap c v ?_ q) (fun _ q => q) fun _ _ q => q
    rcases hc with z | z
    · rw [z]; exact nit b u e
    · exact nit c _ z
/-- a tuple's items, told by what stands for them -/
theorem walks_vals {prog : Program} {w : World} {A : Around} (hh : A.handled = none) (I t : Addr) (ne : t ≠ I) (xs : List V) : WalksS prog w A I [I, t] [I] (fun a b => b = a) xs.length (fun i v => ∃ x, xs[i]? = some x ∧ RelV x v)
    (fun i s => s.heap.IsTupleIter I t i ∧ ∃ its : List Value, Vals xs its ∧ s.heap.IsTuple t its.toArray) := by
  have W : ∀ its : List Value, WalksS prog w A I [I, t] [I] (fun a b => b = a) its.toArray.size (fun i v => its.toArray[i]? = some v) (fun i s => s.heap.IsTupleIter I t i ∧ s.heap.IsTuple t its.toArray) := fun its => (Walks.tuple (A := A) hh I t ne its.toArray).toS
  refine ⟨(W []).sub, (W []).grefl, (W []).gtrans, ?_, ?_, ?_, ?_⟩
  · rintro i s h' tk ⟨a, its, r, b⟩ le k
    obtain ⟨a', b'⟩ := (W its).frame i s h' tk ⟨a, b⟩ le k
    exact ⟨a', its, r, b'⟩
  · rintro i s Q E hi ⟨a, its, r, b⟩ cont
    have hl : xs.length = its.length := Paired.length r
    refine (W its).item i s Q E (by simp; omega) ⟨a, b⟩ fun v s' hp st m => ?_
    obtain ⟨y, hy, ry⟩ := paired_get r (List.getElem?_eq_getElem hi)
    rw [List.getElem?_toArray, hy] at hp
    cases hp
    exact cont _ s' ⟨_, List.getElem?_eq_getElem hi, ry⟩ ⟨st.1, its, r, st.2⟩ m
  · rintro s Q E ⟨a, its, r, b⟩ cont
    have hl : xs.length = its.length := Paired.length r
    have a' : s.heap.IsTupleIter I t its.toArray.size := by
      have e : its.toArray.size = xs.length := by simp [hl]
      rw [e]; exact a
    exact (W its).done s Q E ⟨a', b⟩ cont
  · rintro i s Q E ⟨a, its, r, b⟩ h
    exact (W its).self i s Q E ⟨a, b⟩ h
/-- min(t, key=f): the items' numbers, the first of the least -/
def rMinKey (K : PySem.W.Frag) (mk : Addr → LamF) (tb : TE) : List V → List V → Hp → VK → Prop := fun vs zs H Q => ∃ (t f c : Addr) (xs : List V) (num : Nat → Int), vs = [.ref t] ∧ zs = [.ref f] ∧ SqT K H t xs ∧ 0 < xs.length ∧ H f = some (LamO f (mk c)) ∧ H (mk c).c = some (CodeO (mk c).c (mk c).qual) ∧
  (∀ (i : Nat) (v : V) (H1 : Hp), xs[i]? = some v → Same H H1 → tb [some v] H1 fun r H2 => r = .int (num i) ∧ Same H1 H2) ∧
  ∀ (i : Nat) (v : V) (H1 : Hp), xs[i]? = some v → (∀ j, j < xs.length → num i ≤ num j) → Same H H1 → Q v H1
theorem cr_minKey {X : Cx} {mk : Addr → LamF} {tb : TE} {x : Str} {k : Nat} (hcalm : X.calm = true) (S : ∀ c, NScope [x] [x] [] (mk c).scope) (hb : ∀ (c : Addr) (pm ctv u : Value), bindArgs (PySem.W.kla_fn "<lambda>" (mk c).qual (mk c).params (mk c).body (mk c).scope [] pm (.ref (mk c).c) ctv) ⟨[u], []⟩ = pure [(x, u)]) (hr : Room (k + 2) X.A)
    (body : ∀ (c f : Addr) (A : Around) (outer : List Env) (s : Shared) (H : Hp), Room k (A.deeper (envF (mk c).nf f s.heap.objs.size)) → PE (lamCxN X.prog X.w X.K X.mg X.base x (mk c) f A outer s H) (mk c).body tb) :
    CallRK X (.builtin "min") [Str.ofString "key"] (rMinKey X.K mk tb) := by
  intro pins s σ H vs zs us ws Q I r r2 h
  obtain ⟨t, f, c0, xs, num, rfl, rfl, ht, hn, hf, hc, step, fin⟩ := h
  obtain ⟨u, rfl, ru⟩ := vals1 r
  obtain rfl : u = Value.ref t := ru
  obtain ⟨u, rfl, ru⟩ := vals1 r2
  obtain rfl : u = Value.ref f := ru
  obtain ⟨its, rx, hit, _⟩ := I.tuple ht
  have hl : its.length = xs.length := (Paired.length rx).symm
  have hd := I.ok.hd hcalm
  show wpAny _ _ (call (.builtin "min") [.ref t] [(Str.ofString "key", .ref f)]) _ _ _
  have hlt : t < s.heap.objs.size := by obtain ⟨_, e, _⟩ := hit; exact Heap.lt_size e
  have W := walks_vals (prog := X.prog) (w := X.w) (A := X.A.in1) (show X.A.in1.handled = none from hd) s.heap.objs.size t (Nat.ne_of_lt hlt) xs
  refine call_min_walkK (wpAny_pyIter_tuple hit ?_)
  have fpb : ∀ b ∈ [s.heap.objs.size, t], b < (s.heap.push { cls := .type "tuple_iterator", data := .fields #[.ref t, .int 0 0] }).objs.size := fun b hb => by
    rw [Heap.size_push]
    rcases List.mem_cons.mp hb with rfl | hb
    · exact Nat.lt_succ_self _
    · rw [List.mem_singleton.mp hb]; exact Nat.lt_succ_of_lt hlt
  refine ⟨_, _, _, _, _, _, _, fun s' => ∃ H', Inv X pins σ H' s' ∧ Same H H' ∧ FpOk X pins H' s.heap.objs.size ∧ FpOk X pins H' (s.heap.push { cls := .type "tuple_iterator", data := .fields #[.ref t, .int 0 0] }).objs.size, fun i v s' => ∃ t, v = .int (num i) t, fun i j => decide (num i < num j), rfl, W,
    ⟨⟨_, Heap.get?_push_size _ rfl, rfl, rfl⟩, its, rx, hit.push _⟩, fpb, hn, ⟨?_, ?_, ?_, ?_⟩, ?_, ?_⟩
  · rintro s1 s2 ⟨H', I', sm, f1, f2⟩ m
    refine ⟨H', inv_moved I' (fun b hb => ?_) m, sm, f1, f2⟩
    rcases List.mem_cons.mp hb with rfl | hb
    · exact f2
    · rw [List.mem_singleton.mp hb]; exact f1
  · exact fun i k s1 s2 h _ => h
  · rintro i v s1 o Q' E' hi ⟨x0, hx, rv⟩ ⟨H', I', sm, f1, f2⟩ ⟨st1, _⟩ hS cont
    have hr' : Room (k + 1) X.A.in1 := hr.in1
    refine wpAny_call (codeAny_mono (lam_run (S c0) (hb c0) I'.env0.in1 hr' (sm _ _ hf) (sm _ _ hc) (fun s rm => body c0 f _ _ s H' rm) rv (step i x0 H' hx sm)) fun r s' hq => ?_)
    cases r with
    | error e => exact False.elim hq
    | ok fl =>
      cases fl with
      | next => exact False.elim hq
      | brk => exact False.elim hq
      | cont => exact False.elim hq
      | ret u =>
        obtain ⟨v2, H2, os, bare, un, hok, rv2, e2, s2⟩ := hq
        obtain ⟨hh, g, d, t', os'⟩ := s'
        obtain rfl : os' = s1.os := os
        have I2 : Inv X pins σ H2 { s1 with heap := hh, gens := g, drawn := d, toks := t' } := I'.call (h' := hh) (g' := g) (d' := d) (t' := t') (ch := []) un hok bare (fun b z => absurd z (by simp))
        have nfs : ∀ b, FpOk X pins H' b → b ∉ frs X.stack := fun b fb z => (List.mem_cons.mp (I'.stkSub b z)).elim fb.2.1 fb.2.2.1
        have stays : ∀ b ob, s1.heap.get? b = some ob → FpOk X pins H' b → hh.get? b = some ob ∧ FpOk X pins H2 b := fun b ob e fb => ⟨un.keep b ob e fb.1 (nfs b fb) (by simp), un.free b ob e fb.1 (by simp), fb.2⟩
        obtain ⟨oi, ei, ci, di⟩ := st1
        obtain ⟨its2, rx2, hit2, _⟩ := I2.tuple (Same.sqt (Same.trans sm s2) ht)
        rw [e2] at rv2
        obtain ⟨t3, e3⟩ := rv2
        exact cont u _ ⟨H2, I2, Same.trans sm s2, (stays _ _ ei f1).2, (stays _ _ hS f2).2⟩ ⟨⟨oi, (stays _ _ ei f1).1, ci, di⟩, its2, rx2, hit2⟩ (stays _ _ hS f2).1 ⟨t3, e3⟩ (fun _ _ h => h)
  · rintro i j ki kj s1 Q' E' _ ⟨t1, rfl⟩ ⟨t2, rfl⟩ hQ
    show wpAny _ _ (compareOp .Lt _ _) _ _ _
    exact wpAny_lt_int hQ
  · exact ⟨H, I.kept (t' := s.toks) fun b o q => Heap.get?_push_of_some _ q, Same.refl _, I.fpOk (Nat.le_refl _) (I.hok.fresh (Nat.le_refl _)), I.fpOk (by rw [Heap.size_push]; exact Nat.le_succ _) (I.hok.fresh (by rw [Heap.size_push]; exact Nat.le_succ _))⟩
  · rintro v s' ⟨x0, hx, rv⟩ ⟨H', I', sm, _, _⟩
    obtain ⟨_, best⟩ := argBest_lt num (xs.length - 1)
    exact ⟨x0, H', I', rv, fin _ x0 H' hx (fun j hj => best j (by omega)) sm⟩
end Cw

namespace Cw
open PySem PySem.Spec PyProof.Rows L2
/-! ### the end of a law of whose defs some hold generator expressions (their tables are tracked, and may grow), some lambdas (their tables are told, and grow) -/
def entryL (T L : List Addr) (K : PySem.W.Frag) (a : Addr) (o : Obj) (xs : List V) : Hp := fun b => if b ∈ L then some (.tbl #[]) else if b ∈ T then some (TbX b) else if b = a ∧ (K.lookup a).isNone = true then some (.frz o (.lst xs)) else none
section
variable {T L : List Addr} {K : PySem.W.Frag} {a b : Addr} {o : Obj} {xs : List V} {u : HO}
theorem entryL_lam (h : b ∈ L) : entryL T L K a o xs b = some (.tbl #[]) := if_pos h
theorem entryL_tab (h : b ∈ T) (n : b ∉ L) : entryL T L K a o xs b = some (TbX b) := by unfold entryL; rw [if_neg n, if_pos h]
theorem entryL_cases (h : entryL T L K a o xs b = some u) : (b ∈ L ∧ u = .tbl #[]) ∨ (b ∉ L ∧ b ∈ T ∧ u = TbX b) ∨ (b ∉ L ∧ b ∉ T ∧ b = a ∧ K.lookup a = none ∧ u = .frz o (.lst xs)) := by
  unfold entryL at h
  split at h
  · rename_i hb; exact .inl ⟨hb, (Option.some.inj h).symm⟩
  · rename_i hl
    split at h
    · rename_i hb; exact .inr (.inl ⟨hl, hb, (Option.some.inj h).symm⟩)
    · rename_i hb
      split at h
      · rename_i ha; exact .inr (.inr ⟨hl, hb, ha.1, Option.isNone_iff_eq_none.mp ha.2, (Option.some.inj h).symm⟩)
      · cases h
theorem entryL_none (hL : b ∉ L) (hT : b ∉ T) (ha : b ≠ a ∨ ∃ z, K.lookup a = some z) : entryL T L K a o xs b = none := by
  cases e : entryL T L K a o xs b with
  | none => rfl
  | some u =>
    rcases entryL_cases e with ⟨h, _⟩ | ⟨_, h, _⟩ | ⟨_, _, h, h2, _⟩
    · exact absurd h hL
    · exact absurd h hT
    · rcases ha with z | ⟨z, e2⟩
      · exact absurd h z
      · rw [h2] at e2; cases e2
end
theorem law_tabsL {P : Program} {w : World} {K : PySem.W.Frag} {mg mb : Str → Option Value} {fa a : Addr} {cs ls : List (Addr × Addr)} {fd : FuncData} {x : Str} {sp : Sp} {s : Shared} {vs : List Value} {ns : List Int}
    (KX : K.In s.heap) (hns : s.heap.Ns mainGlobals mg) (hb : s.heap.Ns builtinsNs mb) (hbb : ∀ x : Str, x ≠ "__name__" → mb x = bootBuiltins x) (hlim : s.heap.NoLimit) (hg : s.gens = #[])
    (hT : ∀ p ∈ cs ++ ls, s.heap.get? p.2 = some tab0) (nT : ∀ p ∈ cs ++ ls, K.lookup p.2 = none) (C : ∀ p ∈ cs ++ ls, PySem.W.CodeHd s.heap p.1 p.2) (dis : ∀ p ∈ cs, p.2 ∉ ls.map (·.2))
    (hbm : ∃ (bm : Addr) (ob : Obj), mg "__builtins__" = some (.ref bm) ∧ bm ≠ builtinsNs ∧ s.heap.get? bm = some ob ∧ ob.cls = .type "module" ∧ ob.dict = some builtinsNs ∧ ob.data = .plain)
    (ha : s.heap.get? a = some { cls := .type "list", data := .seq vs.toArray }) (hi : IntsAre vs ns) (hl : ns.length ≤ sizeLine)
    (F : ∀ base : Heap, K.In base → base.Ns mainGlobals mg → (∀ p ∈ cs, GxR.TabB base mg p.1 p.2) → (∀ p ∈ ls, LamX.TabB base mg p.1 p.2) → FnAt P w K mg base callerA fa fd [x] sp) (hbind : ∀ (s : Shared) (u : Value), BindsTo s fd ⟨[u], []⟩ [(x, u)])
    (hsp : ∀ H : Hp, (∀ p ∈ cs, H p.2 = some (TbX p.2)) → (∀ p ∈ ls, H p.2 = some (.tbl #[])) → SqL K H a (ns.map V.int) → sp [.ref a] H (fun v H' => v = .bl true ∧ ∀ p ∈ cs, H' p.2 = some (TbX p.2)) fun _ _ _ => False)
    :
    codeAny (model P w) callerA (.call (.ref fa) ⟨[.ref a], []⟩) (fun r s' => r = .ok (.ret (.bool true)) ∧ OldK s.heap s'.heap ∧ s'.os = s.os ∧ AllBare s'.gens) s := by
  have inT : ∀ {b}, b ∈ (cs ++ ls).map (·.2) → ∃ p ∈ cs ++ ls, p.2 = b := fun h => let ⟨p, hp, e⟩ := List.mem_map.mp h; ⟨p, hp, e⟩
  have atT : ∀ {b}, b ∈ (cs ++ ls).map (·.2) → s.heap.get? b = some tab0 := fun h => let ⟨p, hp, e⟩ := inT h; e ▸ hT p hp
  have cI : ∀ {b}, b ∈ cs.map (·.2) → b ∈ (cs ++ ls).map (·.2) := fun h => by rw [List.map_append]; exact List.mem_append_left _ h
  have lI : ∀ {b}, b ∈ ls.map (·.2) → b ∈ (cs ++ ls).map (·.2) := fun h => by rw [List.map_append]; exact List.mem_append_right _ h
  have rv : Vals (ns.map V.int) vs := vals_ints hi
  have lv : (ns.map V.int).length = vs.length := rv.length
  generalize hH : entryL (cs.map (·.2)) (ls.map (·.2)) K a { cls := .type "list", data := .seq vs.toArray } (ns.map V.int) = H
  have tabH : ∀ p ∈ cs, H p.2 = some (TbX p.2) := fun p hp => by rw [← hH]; exact entryL_tab (List.mem_map.mpr ⟨p, hp, rfl⟩) (dis p hp)
  have lamH : ∀ p ∈ ls, H p.2 = some (.tbl #[]) := fun p hp => by rw [← hH]; exact entryL_lam (List.mem_map.mpr ⟨p, hp, rfl⟩)
  -- what is neither a table nor a list is not tracked
  have off : ∀ {b : Addr} {o : Obj}, s.heap.get? b = some o → o.data ≠ .fields #[] → (∀ zs n, o.data ≠ .seq zs n) → H b = none := fun {b o} e d1 d2 => by
    rw [← hH]
    refine entryL_none (fun z => ?_) (fun z => ?_) (.inl fun z => ?_)
    · rw [atT (lI z)] at e; cases e; exact d1 rfl
    · rw [atT (cI z)] at e; cases e; exact d1 rfl
    · rw [z, ha] at e; cases e; exact d2 _ _ rfl
  have okH : HOk P w H s.heap := fun b u e => by
    rw [← hH] at e
    rcases entryL_cases e with ⟨h, rfl⟩ | ⟨_, h, rfl⟩ | ⟨_, _, rfl, _, rfl⟩
    · exact atT (lI h)
    · exact ⟨⟨#[], atT (cI h), trivial⟩, ⟨_, atT (cI h)⟩, fun h1 h2 ⟨ps, z, zt⟩ st => ⟨ps, st _ z, zt⟩⟩
    · exact ⟨ha, by rw [List.length_map]; exact hl, vs, _, rv, ha⟩
  have hidden : ∀ {b : Addr} {m : Str → Option Value}, s.heap.Ns b m → (hidT s.heap H).Ns b m := fun ⟨o, es, ep, e, d, r⟩ => ⟨o, es, ep, hidT_get e (off e (by rw [d]; exact fun z => nomatch z) (by rw [d]; exact fun _ _ z => nomatch z)), d, r⟩
  have KB : K.In (hidT s.heap H) := fun b o e => hidT_get (KX b o e) (by
    rw [← hH]
    refine entryL_none (fun z => ?_) (fun z => ?_) ?_
    · obtain ⟨p, hp, rfl⟩ := inT (lI z)
      rw [nT p hp] at e; cases e
    · obtain ⟨p, hp, rfl⟩ := inT (cI z)
      rw [nT p hp] at e; cases e
    · by_cases z : b = a
      · exact .inr ⟨o, z ▸ e⟩
      · exact .inl z)
  have TB : ∀ p ∈ cs ++ ls, PySem.W.CodeHd (hidT s.heap H) p.1 p.2 ∧ (hidT s.heap H).BuiltinsAt mg p.2 ∧ mainGlobals ≠ p.2 := fun p hp => by
    refine ⟨?_, ?_, fun z => ?_⟩
    · obtain ⟨o, us, fl, tf, fs, tg, iF, tx, tt, e1, r1, r2, r3, r⟩ := C p hp
      exact ⟨o, us, fl, tf, fs, tg, iF, tx, tt, hidT_get e1 (off e1 (fun z => by rw [r2] at z; cases z; simp at r3) (by rw [r2]; exact fun _ _ z => nomatch z)), r1, r2, r3, r⟩
    · obtain ⟨bm, ob, b1, b2, b3, b4, b5, b6⟩ := hbm
      refine ⟨bm, ob, b1, b2, fun q => ?_, fun q => ?_, hidT_get b3 (off b3 (by rw [b6]; exact fun z => nomatch z) (by rw [b6]; exact fun _ _ z => nomatch z)), b4, b5, b6⟩
      · obtain ⟨o, es, ep, e, d, _⟩ := hns
        rw [← q, b3] at e; cases e; rw [b6] at d; cases d
      · rw [q, hT p hp] at b3; cases b3; cases b6
    · obtain ⟨o, es, ep, e, d, _⟩ := hns
      rw [z, hT p hp] at e; cases e; cases d
  have SQ : SqL K H a (ns.map V.int) := by
    cases e : K.lookup a with
    | some o =>
      have e' := KX a o e
      rw [ha] at e'; cases e'
      exact .inr ⟨_, vs.toArray, _, e, rfl, rfl, rfl, by rw [List.size_toArray, ← lv, List.length_map]; exact hl, by simpa using rv⟩
    | none =>
      refine .inl (.inr ⟨{ cls := .type "list", data := .seq vs.toArray }, ?_⟩)
      rw [← hH]
      unfold entryL
      rw [if_neg (fun z => by have := atT (lI z); rw [ha] at this; cases this), if_neg (fun z => by have := atT (cI z); rw [ha] at this; cases this), if_pos ⟨rfl, by rw [e]; rfl⟩]
  have E0 : Env0 P w K mg (hidT s.heap H) callerA [] s H := ⟨rfl, ⟨KB, hidden hns, ⟨mb, hidden hb, hbb⟩, let ⟨mc, h1, h2⟩ := hlim; ⟨mc, hidden h1, h2⟩⟩, fun b o e => of_hidT e, Nat.le_of_eq (hidT_size _ _), trivial, fun b z => (nomatch z), okH, .of_eq hg⟩
  refine codeAny_mono ((F _ KB (hidden hns) (fun p hp => let ⟨x, y, z⟩ := TB p (List.mem_append_left _ hp); ⟨x, y, z⟩) (fun p hp => let ⟨x, y, z⟩ := TB p (List.mem_append_right _ hp); ⟨x, y, z⟩)).run [] s H ⟨[.ref a], []⟩ [.ref a] [.ref a] _ _ E0 (hbind s (.ref a)) (.cons rfl .nil) (hsp H tabH lamH SQ)) fun r s' h => ?_
  match r, h with
  | .error e, h => exact h.elim
  | .ok .next, h => exact h.elim
  | .ok .brk, h => exact h.elim
  | .ok .cont, h => exact h.elim
  | .ok (.ret u), ⟨v, H', os, bare, un, ok', rel, ev, tabs⟩ =>
    subst ev
    obtain rfl : u = Value.bool true := rel
    have grown : ∀ p ∈ cs ++ ls, ∃ more : Array Value, s'.heap.get? p.2 = some { cls := .none, data := .fields more } := fun p hp => by
      rcases List.mem_append.mp hp with hp | hp
      · exact let ⟨ps, e, _⟩ := (ok' _ _ (tabs p hp)).1; ⟨ps, e⟩
      · obtain ⟨more, e⟩ := un.tbls _ _ (lamH p hp)
        exact ⟨_, ok' _ _ e⟩
    have stays : ∀ b o, b ∉ (cs ++ ls).map (·.2) → s.heap.get? b = some o → s'.heap.get? b = some o := fun b o nb e => by
      cases q : H b with
      | none => exact un.keep b o e q (fun z => nomatch z) (fun z => nomatch z)
      | some u =>
        have q2 := q
        rw [← hH] at q2
        rcases entryL_cases q2 with ⟨z, _⟩ | ⟨_, z, _⟩ | ⟨_, _, _, _, rfl⟩
        · exact absurd (lI z) nb
        · exact absurd (cI z) nb
        · have e1 := (okH b _ q).1
          rw [e] at e1
          rw [e1]
          exact (ok' b _ (un.frzs b _ _ q)).1
    refine ⟨rfl, ⟨fun b o e => ?_, fun b o e => ?_⟩, os, bare⟩ <;> by_cases hb : b ∈ (cs ++ ls).map (·.2)
    · obtain ⟨p, hp, rfl⟩ := inT hb
      obtain ⟨more, hm⟩ := grown p hp
      rw [hT p hp] at e
      cases e
      exact .inr (.inl ⟨((C p hp).tab (hT p hp)).isCodeTable, rfl, #[], more, rfl, by rw [Array.empty_append]; exact hm⟩)
    · exact .inl (stays b o hb e)
    · obtain ⟨p, hp, rfl⟩ := inT hb
      obtain ⟨more, hm⟩ := grown p hp
      exact ⟨_, hm⟩
    · exact ⟨o, stays b o hb e⟩
/-- the law's promise, its tables tracked or told -/
def spLawL (K : PySem.W.Frag) (cs ls : List (Addr × Addr)) : Sp := fun vs H Q _ => ∃ (a : Addr) (ns : List Int), vs = [.ref a] ∧ SqL K H a (ns.map V.int) ∧ ns.length ≤ 63 ∧ (∀ p ∈ cs, H p.2 = some (TbX p.2)) ∧ (∀ p ∈ ls, H p.2 = some (.tbl #[])) ∧ ∀ H', (∀ p ∈ cs, H' p.2 = some (TbX p.2)) → Q (.bl true) H'
def LawL (l : PySem.W.OpenLaw) (w : World) (K : PySem.W.Frag) (mg : Str → Option Value) (fa : Addr) (h : Heap) : Prop := ∃ (fd : FuncData) (cs ls : List (Addr × Addr)), (∀ (s : Shared) (u : Value), BindsTo s fd ⟨[u], []⟩ [("script", u)]) ∧ (∀ p ∈ cs ++ ls, h.get? p.2 = some tab0) ∧ (∀ p ∈ cs ++ ls, K.lookup p.2 = none) ∧ (∀ p ∈ cs ++ ls, PySem.W.CodeHd h p.1 p.2) ∧ (∀ p ∈ cs, p.2 ∉ ls.map (·.2)) ∧
  ∀ base : Heap, K.In base → base.Ns mainGlobals mg → (∀ p ∈ cs, GxR.TabB base mg p.1 p.2) → (∀ p ∈ ls, LamX.TabB base mg p.1 p.2) → FnAt l.prog w K mg base callerA fa fd ["script"] (spLawL K cs ls)
theorem walk_ofL {l : PySem.W.OpenLaw} {q : Program} {loose : List Str} {XP : (Str → Option Value) → Heap → Prop} {YP : World → Heap → Prop} {d : DefRec} {K : Params → PySem.W.Frag} (names : List Str)
    (hn : l.most = some 63) (hdf : d.params.defaults = []) (hrec : (names.all fun x => (recsOf q).any fun e => e.name == x) = true) (hY : ∀ (w : World) (h : Heap), YP w h → (K w.params).In h)
    (F : ∀ (w : World) (mg : Str → Option Value) (fa : Addr) (h : Heap), (K w.params).In h → YP w h → h.Ns mainGlobals mg → mg d.name = some (.ref fa) → (∀ x ∈ names, TabFact mg h x) → LawL l w (K w.params) mg fa h) :
    PySem.W.WalkO q loose XP YP l.row.toRowW d [] (fun f vs => PySem.call f vs) := by
  refine Att.attach_callB hn hdf fun w s₀ s₁ mg mb fa o pm cd doc a vs ns G Y ho hd hcd hmg hobj hints hlen hbits hg => ?_
  have KX := hY w _ Y
  have facts : ∀ x ∈ names, TabFact mg s₁.heap x := fun x hx => by
    obtain ⟨e, he, ee⟩ := List.any_eq_true.mp (List.all_eq_true.mp hrec x hx)
    obtain ⟨a1, o1, fd1, c1, P1, r⟩ := G.T.tab e he
    have : e.name = x := beq_iff_eq.mp ee
    rw [this] at r
    exact ⟨a1, o1, fd1, c1, P1, r⟩
  obtain ⟨fd, cs, ls, hb, hT, nT, C, dis, hF⟩ := F w mg fa _ KX Y G.T.g hmg facts
  exact law_tabsL KX G.T.g G.T.b G.T.builtins G.T.nolimit hg hT nT C dis G.T.bmain hobj hints (Nat.le_trans hlen (by decide)) hF hb (fun H hH hL hS => ⟨a, ns, rfl, hS, hlen, hH, hL, fun H' h' => ⟨rfl, h'⟩⟩)
end Cw

/-! sorted() of a list of told data -/
namespace Cw
open PySem PySem.Spec PyProof.Rows L2
theorem vals_each : ∀ {bs : List (V × PyData)} {its : List Value}, Vals (bs.map (·.1)) its → PySem.W.EachIs (fun v (b : V × PyData) => RelV b.1 v) its bs
  | [], _, r => by
    cases r
    exact .nil
  | b :: bs, _, r => by
    cases r with
    | cons h t => exact .cons h (vals_each t)
theorem each_vals : ∀ {bs : List (V × PyData)} {its : List Value}, PySem.W.EachIs (fun v (b : V × PyData) => RelV b.1 v) its bs → Vals (bs.map (·.1)) its
  | _, _, .nil => .nil
  | _, _, .cons h t => .cons h (each_vals t)
theorem each_imp {α β : Type} {R S : α → β → Prop} : ∀ {as : List α} {bs : List β}, PySem.W.EachIs R as bs → (∀ b ∈ bs, ∀ a, R a b → S a b) → PySem.W.EachIs S as bs
  | _, _, .nil, _ => .nil
  | _, _, .cons h t, f => .cons (f _ List.mem_cons_self _ h) (each_imp t fun b hb => f b (List.mem_cons_of_mem _ hb))
/-- the list sorted by its items' data -/
def sortD (bs : List (V × PyData)) : List (V × PyData) := bs.mergeSort (PySem.W.dataLe false Prod.snd)
def rSortedDat (K : PySem.W.Frag) : List V → Hp → VK → Prop := fun vs H Q => ∃ (a : Addr) (bs : List (V × PyData)), vs = [V.ref a] ∧ SqL K H a (bs.map (·.1)) ∧ (∀ b ∈ bs, Dp K H b.1 b.2) ∧ PySem.W.AllAlike (bs.map (·.2)) ∧ PySem.W.Sortable (bs.map (·.2)) ∧ (∀ b ∈ bs, b.2.depth ≤ 60) ∧
  ∀ p, H p = none → Q (.ref p) (upd H p (.lst ((sortD bs).map (·.1))))
theorem cr_sortedDat {X : Cx} (hu : X.A.units + 65 < cLine) : CallR X (.builtin "sorted") (rSortedDat X.K) := by
  intro pins s σ H vs us Q I r h
  obtain ⟨a, bs, rfl, hs, hd, hal, hk, hdep, q⟩ := h
  obtain ⟨its, rv, hl, hz⟩ := I.list hs
  obtain ⟨u, rfl, ru⟩ := vals1 r
  obtain rfl : u = Value.ref a := ru
  have e := vals_each rv
  have er : PySem.W.EachIs (fun v (b : V × PyData) => ∃ as, Reads s.heap v (Prod.snd b) as) its bs := each_imp e fun b hb v hv => Dp.reads I b.2 b.1 v (hd b hb) hv
  rw [List.length_map] at hz
  refine PySem.W.sorted_data (enc := Prod.snd) hl.isList e er hal hk hz (fun b hb => by have := hdep b hb; omega) fun out lo eo => ?_
  have hvb := each_vals eo
  have ln : ((sortD bs).map (·.1)).length ≤ sizeLine := by
    rw [List.length_map]
    unfold sortD
    rw [List.length_mergeSort]
    exact hz
  obtain ⟨n, hn⟩ := sortedAll_at s.heap its out.toArray
  exact ⟨.ref _, upd H _ (.lst ((sortD bs).map (·.1))), I.laid (t' := s.toks) (fun b o e => sortedAll_old e) (Nat.le_succ _) (show ObjOk X.prog X.w _ _ _ (.lst ((sortD bs).map (·.1))) from ⟨ln, out, n, hvb, hn⟩), rfl, q _ (I.hok.fresh (Nat.le_succ _))⟩
theorem sortD_perm (bs : List (V × PyData)) : (sortD bs).Perm bs := List.mergeSort_perm _ _
end Cw

/-! sets of whole numbers: set(a list), {one}; a def's code told to its body -/
namespace Cw
open PySem PySem.Spec PySem.Calls PyProof.Rows L2
section
variable {P : Program} {w : World} {A : Around} {E : Value → Shared → Prop} {s : Shared}
abbrev noSet (w : World) : Obj := { cls := .type "set", dict := none, data := .set #[] 0 (.fresh 0 0 (!w.params.followText "set-order")) }
set_option maxHeartbeats 3200000 in
theorem call_set_lstI {l : Addr} {items : Array Value} (ns : List Int) {Q : Value → Shared → Prop} (hh : A.handled = none) (lst : s.heap.IsList l items) (nums : IntsAre items.toList ns) (room : ns.length + 1 < scanBound)
    (h : ∀ (h' : Heap) (tk c : Nat), SetR w h' s.heap.objs.size (fun j => decide (j ∈ ns)) c → c ≤ ns.length → (∀ b o, s.heap.get? b = some o → h'.get? b = some o) → Q (.ref s.heap.objs.size) { s with heap := h', toks := tk }) :
    wpAny (model P w) A (call (.type "set") [.ref l]) Q E s := by
  have many : items.size = ns.length := by
    have z := IntsAre.length nums
    rwa [Array.length_toList] at z
  obtain ⟨c, tl, hmro⟩ := F.called_set.mro
  have hmade := F.called_set.made
  have hsub := F.called_set.sub
  (refine wpAny_call (codeAny_of_tree ?_))
  show wpAny _ _ (callAny (.type "set") _) _ _ _
  (refine wpAny_pure ⟨Code.quiet_builtin _ (by decide +kernel), codeAny_builtin F.entry_type_call ?_⟩)
  (rw [Around.under_plain (weight_type_call_type "set" [.ref l] []) rfl])
  have h1 := F.called_set.notType
  have h2 := F.called_set.canCreate
  have hct := F.typeCall_set_1 (.ref l)
  (repeat (any_goals (first | assumption | wp_step)))
  refine codeAny_mono (code_set_led1 (.ref l) (E := E) (Q₁ := fun obj s₁ => obj = .ref s.heap.objs.size ∧ s₁ = { s with heap := s.heap.push (noSet w) }) ⟨rfl, rfl⟩) fun r s₁ hr => ?_
  match r, hr with
  | .error e, hr => exact hr
  | .ok (.next), hr => exact hr.elim
  | .ok (.brk), hr => exact hr.elim
  | .ok (.cont), hr => exact hr.elim
  | .ok (.ret obj), hr =>
    obtain ⟨rfl, rfl⟩ := hr
    have eS : (s.heap.push (noSet w)).get? s.heap.objs.size = some (noSet w) := Heap.get?_push_size _ rfl
    have tyS : Shared.TypeIs { s with heap := s.heap.push (noSet w) } (.ref s.heap.objs.size) "set" := ⟨_, eS, rfl⟩
    have hli := F.called_set.init.lookup
    have hbi := F.called_set.init.bind (.ref s.heap.objs.size)
    (repeat (any_goals (first | assumption | wp_step)))
    refine codeAny_mono (codeAny_call_builtin (R := wants (fun r s₂ => r = .none ∧ ∃ h' tk c, s₂ = { s with heap := h', toks := tk } ∧ SetR w h' s.heap.objs.size (fun j => decide (j ∈ ns)) c ∧ c ≤ ns.length ∧
        (∀ b o, s.heap.get? b = some o → h'.get? b = some o)) E) F.called_set.init.plain F.entry_set_init (check_set_init_1 tyS ?_)) fun r₂ s₂ hr₂ => ?_
    · obtain ⟨ol, eol, cl, nl, dl⟩ := lst
      obtain ⟨lcls, ldict, ldata, lslots⟩ := ol
      simp only at cl dl
      subst cl
      subst dl
      have eol' : (s.heap.push (noSet w)).get? l = some { cls := .type "list", dict := ldict, data := .seq items nl, slots := lslots } := Heap.get?_push_of_some _ eol
      have hsls := F.sub_list_set
      have hslf := F.sub_list_frozenset
      have hne : (Value.type "list" == Value.type "dict") = false := by decide
      have lst1 : (s.heap.push (noSet w)).IsList l items := ⟨_, eol', rfl, nl, rfl⟩
      (unfold Builtin.«set.__init__» noKeywords; unfold Builtin.Frozenset.updateFrom)
      generalize hPI : pyIter = PI
      wp_walk
      subst hPI
      refine wpAny_pyIter_list lst1 ?_
      refine wpAny_bind (wpAny_runValue ?_)
      have below : l < s.heap.objs.size := Heap.lt_size eol
      have hh3 : A.in1.in1.in1.handled = none := by simp [hh]
      have sz1 : (s.heap.push (noSet w)).objs.size = s.heap.objs.size + 1 := Heap.size_push ..
      have neI : l ≠ (s.heap.push (noSet w)).objs.size := by
        rw [sz1]
        exact Nat.ne_of_lt (Nat.lt_succ_of_lt below)
      have apart : s.heap.objs.size ∉ [(s.heap.push (noSet w)).objs.size, l] := by
        rw [sz1]
        intro z
        rcases List.mem_cons.mp z with z | z
        · exact absurd z (Nat.ne_of_lt (Nat.lt_succ_self _))
        · exact absurd (List.mem_singleton.mp z) (Nat.ne_of_gt below)
      have vals : ∀ (i : Nat) (v : Value), items[i]? = some v → ∃ k t, ns[i]? = some k ∧ v = .int k t := fun i v hv => by
        have hi : i < ns.length := by rw [← many]; exact (Array.getElem?_eq_some_iff.mp hv).1
        obtain ⟨t, e⟩ := PyProof.Rows.IntsAre.int_at nums i v (by rw [Array.getElem?_toList]; exact hv)
        exact ⟨ns[i], t, List.getElem?_eq_getElem hi, by rw [e, List.getD_eq_getElem?_getD, List.getElem?_eq_getElem hi]; rfl⟩
      refine set_update_ints ((Walks.list hh3 _ l neI items).toS) s.heap.objs.size apart ns many room vals (items.size - 0) 0 _ (by omega) (Nat.zero_le _) ⟨⟨_, Heap.get?_push_size _ rfl, rfl, rfl⟩, (lst1.push _)⟩ ⟨0, Nat.le_refl 0, setR_new_at (Heap.get?_push_of_some _ eS)⟩ ?_
      intro s' c' mv le' new
      obtain ⟨h', g2, d', tk', os'⟩ := s'
      have eg : g2 = s.gens := mv.gens
      have ed : d' = s.drawn := mv.drawn
      have eo : os' = s.os := mv.os
      subst eg
      subst ed
      subst eo
      show wpAny _ _ _ _ _ _
      refine wpAny_pure ?_
      show wpAny _ _ (ret Value.none) _ _ _
      rw [many] at le'
      refine wpAny_pure ⟨rfl, h', tk', c', rfl, new, le', fun b o e => ?_⟩
      have b0 : b < s.heap.objs.size := Heap.lt_size e
      refine mv.heap b o (fun z => ?_) (Heap.get?_push_of_some _ (Heap.get?_push_of_some _ e))
      rcases List.mem_cons.mp z with z | z
      · exact absurd z (Nat.ne_of_lt b0)
      · have z := List.mem_singleton.mp z
        rw [sz1] at z
        exact absurd z (Nat.ne_of_lt (Nat.lt_succ_of_lt b0))
    · match r₂, hr₂ with
      | .error e, hr₂ => exact hr₂
      | .ok (.next), hr₂ => exact hr₂.elim
      | .ok (.brk), hr₂ => exact hr₂.elim
      | .ok (.cont), hr₂ => exact hr₂.elim
      | .ok (.ret r), hr₂ =>
        obtain ⟨rfl, h', tk, c', rfl, new, le', kept⟩ := hr₂
        (repeat (any_goals (first | assumption | wp_step)))
        exact h _ _ _ new le' kept
end
section
variable {X : Cx}
/-- set(xs), xs a list of whole numbers -/
def rSetL (K : PySem.W.Frag) (w : World) : List V → Hp → VK → Prop := fun xs H Q => ∃ (a : Addr) (ns : List Int), xs = [.ref a] ∧ SqL K H a (ns.map V.int) ∧ ns.length ≤ 1000 ∧
  ∀ p c, c ≤ ns.length → H p = none → Q (.ref p) (upd H p (SetO w p (fun k => decide (k ∈ ns)) c))
theorem cr_setL (hc : X.calm = true) : CallR X (.type "set") (rSetL X.K X.w) := by
  intro pins s σ H xs us Q I r h
  obtain ⟨a, ns, rfl, hx, few, q⟩ := h
  obtain ⟨u, rfl, ru⟩ := vals1 r
  cases ru
  obtain ⟨its, rel, lst, _⟩ := I.list hx
  refine call_set_lstI ns (I.ok.hd hc) lst.isList (by simpa using intsAre_of rel) (by unfold scanBound; omega) fun h' tk c R le kept => ?_
  exact ⟨.ref _, _, I.laid (t' := tk) kept (Nat.le_refl _) (setO_new R), rfl, q _ c le (I.hok.fresh (Nat.le_refl _))⟩
end
/-! ### {one} -/
theorem codeIn_kds {K : PySem.W.Frag} {cd : Value} {q : Str} (h : PySem.W.codeIn K cd q = true) : PySem.W.kdsCode K cd = true := by
  unfold PySem.W.codeIn at h
  unfold PySem.W.kdsCode
  split at h
  · split at h
    · rename_i e
      simp only [e]
    · cases h
  · cases h
section
variable {P : Program} {w : World} {A : Around} {E : Value → Shared → Prop} {s : Shared}
theorem newSet_led {Q : Value → Shared → Prop} (h : Q (.ref s.heap.objs.size) { s with heap := s.heap.push (noSet w) }) : wpAny (model P w) A (newSet (.type "set")) Q E s := by
  unfold newSet
  refine wpAny_bind (wpAny_byText ?_)
  dsimp only
  exact wpAny_newObj_type h
theorem display_one {b : Bool} {T : Sem Value} {Q : Value → Shared → Prop}
    (h : wpAny (model P w) A T (fun v s1 => wpAny (model P w) A (setAdd s.heap.objs.size v) (fun _ s2 => Q (.ref s.heap.objs.size) s2) E s1) E { s with heap := s.heap.push (noSet w) }) :
    wpAny (model P w) A (setDisplay .oneByOne b [(false, T)]) Q E s := by
  unfold setDisplay
  dsimp only
  rw [if_neg (by decide)]
  refine wpAny_bind (newSet_led ?_)
  dsimp only
  refine wpAny_bind (wpAny_holding ?_)
  refine wpAny_bind ?_
  show wpAny _ _ (T >>= fun v => holding [v] (evalAll []) >>= fun r => pure (v :: r)) _ _ _
  refine wpAny_bind (wpAny_mono h (fun v s1 h1 => ?_) fun _ _ x => x)
  refine wpAny_bind (wpAny_holding (wpAny_pure ?_))
  refine wpAny_pure ?_
  refine wpAny_bind (wpAny_holding ?_)
  rw [List.forIn_cons]
  refine wpAny_bind (wpAny_bind (wpAny_bind (wpAny_mono h1 (fun _ s2 h2 => wpAny_pure ?_) fun _ _ x => x)))
  dsimp only
  rw [List.forIn_nil]
  refine wpAny_pure ?_
  rw [if_neg (by decide)]
  refine wpAny_pure ?_
  refine wpAny_bind ?_
  show wpAny _ _ (forIn ([] : List (Bool × Sem Value)) PUnit.unit _) _ _ s2
  rw [List.forIn_nil]
  exact wpAny_pure (wpAny_pure (wpAny_pure h2))
end
def tSet1 (w : World) (te : TE) : TE := fun σ H Q => ∀ p, H p = none → te σ (upd H p (SetO w p (fun _ => false) 0)) fun x H1 => ∃ k : Int, x = .int k ∧ H1 p = some (SetO w p (fun _ => false) 0) ∧ Q (.ref p) (upd H1 p (SetO w p (fun j => false || decide (j = k)) 1))
theorem pe_set1 {X : Cx} {e : Expr} {te : TE} {pos : Pos} {q : Str} {wd : World} (hw : X.w = wd) (hcd : PySem.W.codeIn X.K X.env.code q = true) (he : PE X e te) (hp : PySem.W.kdsPlain e = true := by rfl) : PE X (.Set [e] 0 pos) (tSet1 wd te) := by
  subst hw
  refine ⟨fun pins s σ H Q I h => ?_⟩
  rw [arm_eval_Set]
  refine wpAny_bind (wpAny_standAt ?_)
  refine wpAny_bind (PySem.W.kds_main I.kIn (codeIn_kds hcd) fun bm => ?_)
  rw [PySem.W.kds_star [e] (by simp [hp]), List.map_map, arm_evalEach_cons]
  refine (show wpAny (model X.prog X.w) X.A (setDisplay .oneByOne bm [(false, do let v ← eval e X.env; standAt pos; pure v)]) (EP X pins σ Q) X.xe s from display_one ?_)
  have R0 : SetR X.w (s.heap.push (noSet X.w)) s.heap.objs.size (fun _ => false) 0 := setR_fresh X.w
  have f0 : H s.heap.objs.size = none := I.hok.fresh (Nat.le_refl _)
  have I1 : Inv X pins σ (upd H s.heap.objs.size (SetO X.w s.heap.objs.size (fun _ => false) 0)) { s with heap := s.heap.push (noSet X.w) } := I.laid (t' := s.toks) (fun b u g => Heap.get?_push_of_some _ g) (Nat.le_refl _) (setO_new R0)
  refine wpAny_bind (thn (he.run pins _ σ _ _ I1 (h _ f0)) fun v s1 ⟨x, H1, I2, r1, k, ex, ep, q1⟩ => ?_)
  subst ex
  obtain ⟨tk, rfl⟩ := r1
  refine wpAny_bind (wpAny_standAt (wpAny_pure ?_))
  have R1 := setO_get I2 ep
  unfold setAdd
  refine wpAny_holding ?_
  refine wpAny_bind ((intKind X.prog X.w).pyHash (k := k) (intKind_is _ _ _ _) ?_)
  refine setR_add_hashed (s := { s1 with toks := s1.toks + 1 }) R1 (by decide) fun h' sb new => ?_
  have he' : ∃ u, h'.get? s.heap.objs.size = some u := let ⟨o, _, _, _, ho, _⟩ := new; ⟨o, ho⟩
  exact ⟨.ref _, _, I2.write (e := s.heap.objs.size) (t' := s1.toks + 1) (by rw [ep]; trivial) (.inl rfl) (fun b u hb hu => (sb.2 b hb).trans hu) he' (setO_new new), rfl, q1⟩
end Cw

/-! sets of texts of any size: set(text), sorted of it -/
namespace Cw
open PySem PySem.Spec PySem.Calls PyProof.Rows L2
section
variable {P : Program} {w : World} {A : Around} {E : Value → Shared → Prop} {s : Shared} {a : Addr} {ms : List Str}
def txtOf (e : Int × Value) : Str := match e.2 with | .str x _ => x | _ => Str.empty
def TxtE (P : Program) (w : World) (e : Int × Value) : Prop := ∃ x tk, e.2 = Value.str x tk ∧ e.1 = (PySem.strKind P w).hash x
/-- a set of texts at a: its members in some order -/
def TxtSet (P : Program) (w : World) (h : Heap) (a : Addr) (ms : List Str) : Prop :=
  ∃ ob rows ep tab, h.get? a = some ob ∧ ob.ExactSet ∧ ob.data = .set rows ep tab ∧ (∀ e ∈ rows.toList, TxtE P w e) ∧ (rows.toList.map txtOf).Perm ms ∧ ms.Nodup ∧
    rows.size < scanBound ∧ tab.fits rows.size = true ∧ Ris tab.place.toList ∧ (w.params.followText "set-order" = true ∨ tab.led = true)
def addT (ms : List Str) (x : Str) : List Str := if x ∈ ms then ms else ms ++ [x]
theorem TxtSet.at {h h' : Heap} (z : TxtSet P w h a ms) (k : ∀ u, h.get? a = some u → h'.get? a = some u) : TxtSet P w h' a ms := by
  obtain ⟨ob, rows, ep, tab, e, r⟩ := z
  exact ⟨ob, rows, ep, tab, k ob e, r⟩
theorem txt_is {e : Int × Value} (g : TxtE P w e) (x : Str) : (PySem.strKind P w).is x e.2 = true ↔ txtOf e = x := by
  obtain ⟨y, tk, e1, _⟩ := g
  unfold txtOf
  rw [e1]
  show _ ↔ y = x
  exact ⟨fun h => (PySem.strKind P w).inj _ _ _ (PySem.strKind_is P w y tk) h, fun h => h ▸ PySem.strKind_is P w y tk⟩
theorem txt_elems {l : List (Int × Value)} (g : ∀ e ∈ l, TxtE P w e) : ElemsOf (PySem.strKind P w) l := fun e he => by
  obtain ⟨y, tk, e1, e2⟩ := g e he
  exact ⟨⟨y, by rw [e1]; exact PySem.strKind_is P w y tk, e2⟩, by rw [e1] <;> rfl⟩
/-- laid down, and anew where the table grows -/
theorem txt_tail {gw : Bool → Sem Unit} (hgw : ∀ (b : Bool) (s₂ : Shared) (Q' : Unit → Shared → Prop), Q' () s₂ → wpAny (model P w) A (gw b) Q' E s₂)
    {ob : Obj} {rows : Array (Int × Value)} {ep : Nat} {tab : SetTable} (e0 : s.heap.get? a = some ob) (ex : ob.ExactSet) (ed : ob.data = .set rows ep tab)
    {rows' : Array (Int × Value)} {tab' : SetTable} {ms' : List Str} (gd : ∀ e ∈ rows'.toList, TxtE P w e) (pm : (rows'.toList.map txtOf).Perm ms') (nd : ms'.Nodup)
    (few : rows'.size < scanBound) (ft : tab'.fits rows'.size = true) (ri : Ris tab'.place.toList) (ld : w.params.followText "set-order" = true ∨ tab'.led = true) {wasD : Bool} {R : Option Bool → Shared → Prop}
    (q : ∀ h', Heap.SameBut a s.heap h' → TxtSet P w h' a ms' → R (some true) { s with heap := h' }) :
    wpAny (model P w) A (do
        storeSet a rows' tab'
        if (!wasD && tab'.tooFull) = true then do
            gw (relayAll tab' rows' (SetTable.grown rows'.size)).2.2
            storeSet a (relayAll tab' rows' (SetTable.grown rows'.size)).1 (relayAll tab' rows' (SetTable.grown rows'.size)).2.1
            pure (some true)
          else pure (some true)) R E s := by
  have e1 := store_at (es' := rows') (t' := tab') e0 ed
  have b1 := Heap.SameBut.update s.heap a (Obj.putSet rows' tab')
  refine wpAny_bind (wpAny_storeSet_of e0 ed ?_ (fits_of_scanBound few))
  split
  · have p2 := relayAll_perm tab' rows' (SetTable.grown rows'.size)
    have f2 := relayAll_fits tab' rows' (SetTable.grown rows'.size)
    have r2 := relayAll_ris tab' rows' (SetTable.grown rows'.size)
    have l2 := relayAll_led tab' rows' (SetTable.grown rows'.size)
    generalize relayAll tab' rows' (SetTable.grown rows'.size) = Y at p2 f2 r2 l2 ⊢
    obtain ⟨rows2, tab2, gv⟩ := Y
    dsimp only at p2 f2 r2 l2 ⊢
    have z2 : rows2.size = rows'.size := by rw [← Array.length_toList, p2.length_eq, Array.length_toList]
    have few2 : rows2.size < scanBound := by rw [z2]; exact few
    refine wpAny_bind (hgw _ _ _ ?_)
    refine wpAny_bind (wpAny_storeSet_of e1 rfl ?_ (fits_of_scanBound few2))
    have e2 := store_at (es' := rows2) (t' := tab2) e1 rfl
    exact wpAny_pure (q _ (b1.trans (Heap.SameBut.update _ a _)) ⟨_, rows2, _, tab2, e2, ex, rfl, fun e he => gd e (p2.mem_iff.mp he), (p2.map txtOf).trans pm, nd, few2, f2, r2, ld.imp id fun y => by rw [l2]; exact y⟩)
  · exact wpAny_pure (q _ b1 ⟨_, rows', _, tab', e1, ex, rfl, gd, pm, nd, few, ft, ri, ld⟩)
theorem txt_add {x : Str} {tk : Tok} {Q : Bool → Shared → Prop} (z : TxtSet P w s.heap a ms) (room : ms.length + 1 < scanBound)
    (q : ∀ b h', Heap.SameBut a s.heap h' → TxtSet P w h' a (addT ms x) → Q b { s with heap := h' }) : wpAny (model P w) A (setAddHashed a (.str x tk) ((PySem.strKind P w).hash x)) Q E s := by
  obtain ⟨ob, rows, ep, tab, e0, ex, ed, gd, pm, nd, few, ft, ri, ld⟩ := z
  have key : (PySem.strKind P w).is x (.str x tk) = true := PySem.strKind_is P w x tk
  have sc : (Value.str x tk).scannable = true := rfl
  have els : ElemsOf (PySem.strKind P w) rows.toList := txt_elems gd
  have sz : rows.size = ms.length := by rw [← pm.length_eq, List.length_map, Array.length_toList]
  unfold setAddHashed setAddHashedIn
  refine wpAny_holding (wpAny_bind (wpAny_setState_of e0 ed ft ?_))
  dsimp only
  rw [byScan_of sc few els]
  simp only [↓reduceIte]
  unfold setAddByScan
  refine wpAny_bind ?_
  refine wpAny_bind (wpAny_rule ?_)
  refine wpAny_bind (wpAny_setScan_of key e0 ed ft els ?_)
  cases fi : List.findIdx? (fun e => (PySem.strKind P w).is x e.2) rows.toList with
  | some j =>
    dsimp only
    obtain ⟨hj, pj, _⟩ := List.findIdx?_eq_some_iff_getElem.mp fi
    have hm : x ∈ ms := pm.mem_iff.mp (List.mem_map.mpr ⟨_, List.getElem_mem hj, (txt_is (gd _ (List.getElem_mem hj)) x).mp pj⟩)
    refine wpAny_pure (wpAny_pure (q _ s.heap (Heap.SameBut.refl a s.heap) ⟨ob, rows, ep, tab, e0, ex, ed, gd, ?_, ?_, few, ft, ri, ld⟩))
    · unfold addT; rw [if_pos hm]; exact pm
    · unfold addT; rw [if_pos hm]; exact nd
  | none =>
    dsimp only
    have hm : x ∉ ms := fun y => by
      obtain ⟨e, he, e1⟩ := List.mem_map.mp (pm.mem_iff.mpr y)
      have c := List.findIdx?_eq_none_iff.mp fi e he
      rw [(txt_is (gd e he) x).mpr e1] at c
      cases c
    have eA : addT ms x = ms ++ [x] := by unfold addT; rw [if_neg hm]
    rw [eA] at q
    have gave : ∀ (b : Bool) {s₂ : Shared} {Q' : Unit → Shared → Prop}, Q' () s₂ → wpAny (model P w) A (match b with | true => rule "set.scan.the-table-gave-way" | false => pure ()) Q' E s₂ :=
      fun b s₂ Q' y => by cases b <;> first | exact wpAny_pure y | exact wpAny_rule y
    have p1 := layNew_perm tab rows ((PySem.strKind P w).hash x) (.str x tk)
    have f1 := layNew_fits tab rows ((PySem.strKind P w).hash x) (.str x tk)
    have r1 := layNew_ris tab rows ((PySem.strKind P w).hash x) (.str x tk) ri
    have l1 := layNew_led tab rows ((PySem.strKind P w).hash x) (.str x tk)
    generalize layNew tab rows ((PySem.strKind P w).hash x) (.str x tk) = Y at p1 f1 r1 l1 ⊢
    obtain ⟨rows1, tab1, wasD, gv⟩ := Y
    dsimp only at p1 f1 r1 l1 ⊢
    rw [Array.toList_push] at p1
    have gd1 : ∀ e ∈ rows1.toList, TxtE P w e := fun e he => by
      rcases List.mem_append.mp (p1.mem_iff.mp he) with y | y
      · exact gd e y
      · rw [List.mem_singleton.mp y]; exact ⟨x, tk, rfl, rfl⟩
    have pm1 : (rows1.toList.map txtOf).Perm (ms ++ [x]) := by
      refine (p1.map txtOf).trans ?_
      rw [List.map_append]
      exact pm.append_right _
    have nd1 : (ms ++ [x]).Nodup := List.nodup_append.mpr ⟨nd, by simp, fun u hu v hv => by rw [List.mem_singleton.mp hv]; exact fun y => hm (y ▸ hu)⟩
    have few1 : rows1.size < scanBound := by
      have y := p1.length_eq
      rw [Array.length_toList, List.length_append, Array.length_toList] at y
      rw [y, sz]
      exact room
    have ld1 : w.params.followText "set-order" = true ∨ tab1.led = true := ld.imp id fun y => by rw [l1]; exact y
    refine wpAny_bind (gave _ ?_)
    split
    · refine wpAny_bind ?_
      rw [hashByValue_scannable 8 sc]
      refine wpAny_pure ?_
      refine txt_tail ?_ e0 ex ed gd1 pm1 nd1 few1 ?_ ?_ ?_ ?_
      · intro b s₂ Q' y; cases b <;> first | exact wpAny_pure y | exact wpAny_rule y
      · first | (split <;> first | exact f1 | exact SetTable.fits_plain_off f1) | exact f1
      · first | (split <;> exact r1) | exact r1
      · first | (split <;> exact ld1) | exact ld1
      · intro h' sb r; dsimp only; exact wpAny_pure (q _ h' sb r)
    · refine wpAny_bind (wpAny_pure ?_)
      simp only [↓reduceIte]
      refine txt_tail ?_ e0 ex ed gd1 pm1 nd1 few1 f1 r1 ld1 ?_
      · intro b s₂ Q' y; cases b <;> first | exact wpAny_pure y | exact wpAny_rule y
      · intro h' sb r; dsimp only; exact wpAny_pure (q _ h' sb r)
def uniqT (xs : List Str) : List Str := xs.foldl addT []
theorem uniqT_snoc (xs : List Str) (x : Str) : uniqT (xs ++ [x]) = addT (uniqT xs) x := by unfold uniqT; rw [List.foldl_append]; rfl
theorem addT_len (l : List Str) (x : Str) : (addT l x).length ≤ l.length + 1 := by unfold addT; split <;> simp
theorem addT_mem {l : List Str} {x y : Str} : y ∈ addT l x ↔ y ∈ l ∨ y = x := by
  unfold addT
  split
  · rename_i h
    exact ⟨.inl, fun z => z.elim id fun e => e ▸ h⟩
  · simp
theorem uniqT_take {xs : List Str} {i : Nat} {x : Str} (h : xs[i]? = some x) : uniqT (xs.take (i + 1)) = addT (uniqT (xs.take i)) x := by
  rw [List.take_add_one, h]
  exact uniqT_snoc _ _
theorem uniqT_len (xs : List Str) : ∀ i, (uniqT (xs.take i)).length ≤ i
  | 0 => by simp [uniqT]
  | i + 1 => by
    cases h : xs[i]? with
    | none =>
      rw [List.take_add_one, h]
      have := uniqT_len xs i
      simp
      omega
    | some x =>
      rw [uniqT_take h]
      have := uniqT_len xs i
      have := addT_len (uniqT (xs.take i)) x
      omega
theorem uniqT_mem {y : Str} : ∀ {xs : List Str}, y ∈ uniqT xs ↔ y ∈ xs := by
  intro xs
  have go : ∀ i, y ∈ uniqT (xs.take i) ↔ y ∈ xs.take i := fun i => by
    induction i with
    | zero => simp [uniqT]
    | succ i ih =>
      cases h : xs[i]? with
      | none => rw [List.take_add_one, h]; simpa using ih
      | some x => rw [uniqT_take h, addT_mem, ih, List.take_add_one, h]; simp
  have := go xs.length
  rwa [List.take_length] at this
/-- what is walked goes in, text by text -/
theorem txt_update {I : Addr} {fp wr : List Addr} {G : Array GenState → Array GenState → Prop} {n : Nat} {Pv : Nat → Value → Prop} {St : Nat → Shared → Prop} {R : Result → Shared → Prop}
    (W : WalksS P w A.in1 I fp wr G n Pv St) (D : Addr) (out : D ∉ fp) (xs : List Str) (hn : n = xs.length) (few : xs.length + 1 < scanBound) (vals : ∀ i v, Pv i v → ∃ x t, xs[i]? = some x ∧ v = .str x t) :
    ∀ (k i : Nat) (s : Shared), n - i = k → i ≤ n → St i s → TxtSet P w s.heap D (uniqT (xs.take i)) →
      (∀ s', Moved (D :: wr) G s s' → TxtSet P w s'.heap D (uniqT xs) → R (.ok (.ret .none)) s') → codeAny (model P w) A (.builtin "set.update.loop" ⟨[.ref D, .ref I], []⟩) R s := by
  have offw : D ∉ wr := fun h => out (W.sub _ h)
  have wide : ∀ b ∈ wr, b ∈ D :: wr := fun b hb => List.mem_cons_of_mem _ hb
  intro k
  induction k with
  | zero =>
    intro i s e1 e2 st z q
    obtain rfl : i = n := by omega
    refine codeAny_builtin F.entry_set_update_loop ?_
    rw [Around.under_plainId F.plain_set_update_loop _]
    show wpAny _ A.in1 (pyNext (.ref I) >>= _) _ _ s
    refine wpAny_bind (W.done s _ _ st fun s2 mv => ?_)
    show wpAny _ A.in1 (ret Value.none) _ _ s2
    rw [List.take_of_length_le (by omega)] at z
    exact wpAny_pure (q s2 (mv.mono wide) (z.at fun u e => mv.heap D u offw e))
  | succ k ih =>
    intro i s e1 e2 st z q
    have lt : i < n := by omega
    refine codeAny_builtin F.entry_set_update_loop ?_
    rw [Around.under_plainId F.plain_set_update_loop _]
    show wpAny _ A.in1 (pyNext (.ref I) >>= _) _ _ s
    refine wpAny_bind (W.item i s _ _ lt st fun v s2 pv st2 mv => ?_)
    obtain ⟨x, t, hx, rfl⟩ := vals i v pv
    have z2 : TxtSet P w s2.heap D (uniqT (xs.take i)) := z.at fun u e => mv.heap D u offw e
    have lu := uniqT_len xs i
    show wpAny _ A.in1 (holding [Value.str x t] (setAdd D (.str x t)) >>= _) _ _ s2
    refine wpAny_bind (wpAny_holding ?_)
    unfold setAdd
    refine wpAny_holding ?_
    refine wpAny_bind ((PySem.strKind P w).pyHash (k := x) (PySem.strKind_is P w x t) ?_)
    refine txt_add (s := { s2 with toks := s2.toks + 1 }) z2 (by omega) fun b h' sb z3 => ?_
    rw [← uniqT_take hx] at z3
    refine wpAny_pure ⟨plainId_quiet F.plain_set_update_loop _, ih (i + 1) _ (by omega) lt (W.frame _ s2 _ _ st2 (Nat.le_succ _) fun b hb u e => ?_) z3 fun s3 mv3 z4 => ?_⟩
    · rw [sb.2 b (fun y : b = D => out (by rw [← y]; exact hb))]; exact e
    · refine q s3 (Moved.trans W.gtrans ((mv.mono wide).then_heap (Nat.le_succ _) fun b u hb e => ?_) mv3) z4
      rw [sb.2 b (fun y : b = D => hb (by rw [y]; exact List.mem_cons_self))]; exact e
def signsT (x : Str) : List Str := x.cps.toList.map fun c => (⟨#[c]⟩ : Str)
set_option maxHeartbeats 3200000 in
theorem call_set_text {x : Str} {t : Tok} {Q : Value → Shared → Prop} (hh : A.handled = none) (room : x.cps.size + 1 < scanBound)
    (h : ∀ (h' : Heap) (tk : Nat), TxtSet P w h' s.heap.objs.size (uniqT (signsT x)) → (∀ b o, s.heap.get? b = some o → h'.get? b = some o) → Q (.ref s.heap.objs.size) { s with heap := h', toks := tk }) :
    wpAny (model P w) A (call (.type "set") [.str x t]) Q E s := by
  obtain ⟨c, tl, hmro⟩ := F.called_set.mro
  have hmade := F.called_set.made
  have hsub := F.called_set.sub
  (refine wpAny_call (codeAny_of_tree ?_))
  show wpAny _ _ (callAny (.type "set") _) _ _ _
  (refine wpAny_pure ⟨Code.quiet_builtin _ (by decide +kernel), codeAny_builtin F.entry_type_call ?_⟩)
  (rw [Around.under_plain (weight_type_call_type "set" [.str x t] []) rfl])
  have h1 := F.called_set.notType
  have h2 := F.called_set.canCreate
  have hct := F.typeCall_set_1 (.str x t)
  (repeat (any_goals (first | assumption | wp_step)))
  refine codeAny_mono (code_set_led1 (.str x t) (E := E) (Q₁ := fun obj s₁ => obj = .ref s.heap.objs.size ∧ s₁ = { s with heap := s.heap.push (noSet w) }) ⟨rfl, rfl⟩) fun r s₁ hr => ?_
  match r, hr with
  | .error e, hr => exact hr
  | .ok (.next), hr => exact hr.elim
  | .ok (.brk), hr => exact hr.elim
  | .ok (.cont), hr => exact hr.elim
  | .ok (.ret obj), hr =>
    obtain ⟨rfl, rfl⟩ := hr
    have eS : (s.heap.push (noSet w)).get? s.heap.objs.size = some (noSet w) := Heap.get?_push_size _ rfl
    have tyS : Shared.TypeIs { s with heap := s.heap.push (noSet w) } (.ref s.heap.objs.size) "set" := ⟨_, eS, rfl⟩
    have hli := F.called_set.init.lookup
    have hbi := F.called_set.init.bind (.ref s.heap.objs.size)
    (repeat (any_goals (first | assumption | wp_step)))
    refine codeAny_mono (codeAny_call_builtin (R := wants (fun r s₂ => r = .none ∧ ∃ h' tk, s₂ = { s with heap := h', toks := tk } ∧ TxtSet P w h' s.heap.objs.size (uniqT (signsT x)) ∧
        (∀ b o, s.heap.get? b = some o → h'.get? b = some o)) E) F.called_set.init.plain F.entry_set_init (check_set_init_1 tyS ?_)) fun r₂ s₂ hr₂ => ?_
    · have hsls := PySem.F.sub_str_set
      have hslf := PySem.F.sub_str_frozenset
      have hne : (Value.type "str" == Value.type "dict") = false := by decide
      have tyx : ∀ s' : Shared, s'.TypeIs (.str x t) "str" := fun s' => typeIs_str s' x t
      (unfold Builtin.«set.__init__» noKeywords; unfold Builtin.Frozenset.updateFrom)
      generalize hPI : pyIter = PI
      wp_walk
      subst hPI
      refine wpAny_pyIter_str fun io St Wk st0 => ?_
      refine wpAny_bind (wpAny_runValue ?_)
      have hh3 : A.in1.in1.in1.handled = none := by simp [hh]
      have sz1 : (s.heap.push (noSet w)).objs.size = s.heap.objs.size + 1 := Heap.size_push ..
      have apart : s.heap.objs.size ∉ [(s.heap.push (noSet w)).objs.size] := by
        rw [sz1]
        exact fun z => absurd (List.mem_singleton.mp z) (Nat.ne_of_lt (Nat.lt_succ_self _))
      have lx : (signsT x).length = x.cps.size := by unfold signsT; rw [List.length_map, Array.length_toList]
      have vals : ∀ (i : Nat) (v : Value), SignAt x i v → ∃ y t, (signsT x)[i]? = some y ∧ v = .str y t := fun i v hv => by
        obtain ⟨c, u, hc, rfl⟩ := hv
        refine ⟨_, u, ?_, rfl⟩
        unfold signsT
        rw [List.getElem?_map, Array.getElem?_toList, hc]
        rfl
      have z0 : TxtSet P w ((s.heap.push (noSet w)).push io) s.heap.objs.size (uniqT ((signsT x).take 0)) :=
        ⟨noSet w, #[], 0, _, Heap.get?_push_of_some _ eS, ⟨rfl, rfl, rfl⟩, rfl, (fun e he => by simp at he), by simp [uniqT], by simp [uniqT], (by decide), (by rfl), List.Pairwise.nil, by
          show _ ∨ (!w.params.followText "set-order") = true
          cases w.params.followText "set-order"
          · exact .inr rfl
          · exact .inl rfl⟩
      refine txt_update ((Wk _ hh3).toS) s.heap.objs.size apart (signsT x) lx.symm (by rw [lx]; exact room) vals (x.cps.size - 0) 0 _ (by omega) (Nat.zero_le _) st0 z0 ?_
      intro s' mv new
      obtain ⟨h', g2, d', tk', os'⟩ := s'
      have eg : g2 = s.gens := mv.gens
      have ed : d' = s.drawn := mv.drawn
      have eo : os' = s.os := mv.os
      subst eg
      subst ed
      subst eo
      show wpAny _ _ _ _ _ _
      refine wpAny_pure ?_
      show wpAny _ _ (ret Value.none) _ _ _
      refine wpAny_pure ⟨rfl, h', tk', rfl, new, fun b o e => ?_⟩
      have b0 : b < s.heap.objs.size := Heap.lt_size e
      refine mv.heap b o (fun z => ?_) (Heap.get?_push_of_some _ (Heap.get?_push_of_some _ e))
      rcases List.mem_cons.mp z with z | z
      · exact absurd z (Nat.ne_of_lt b0)
      · have z := List.mem_singleton.mp z
        rw [sz1] at z
        exact absurd z (Nat.ne_of_lt (Nat.lt_succ_of_lt b0))
    · match r₂, hr₂ with
      | .error e, hr₂ => exact hr₂
      | .ok (.next), hr₂ => exact hr₂.elim
      | .ok (.brk), hr₂ => exact hr₂.elim
      | .ok (.cont), hr₂ => exact hr₂.elim
      | .ok (.ret r), hr₂ =>
        obtain ⟨rfl, h', tk, rfl, new, kept⟩ := hr₂
        (repeat (any_goals (first | assumption | wp_step)))
        exact h _ _ new kept
theorem strs_txt : ∀ (l : List Value), (∀ v ∈ l, ∃ y tk, v = Value.str y tk) → ∃ ys : List Str, StrsAre l ys ∧ ∀ g : Value → Str, (∀ y tk, g (.str y tk) = y) → ys = l.map g
  | [], _ => ⟨[], .nil, fun _ _ => rfl⟩
  | v :: l, h => by
    obtain ⟨y, tk, rfl⟩ := h v List.mem_cons_self
    obtain ⟨ys, e1, e2⟩ := strs_txt l fun u hu => h u (List.mem_cons_of_mem _ hu)
    exact ⟨y :: ys, .cons y tk e1, fun g hg => by rw [List.map_cons, hg, e2 g hg]⟩
def ofTxt (v : Value) : Str := match v with | .str x _ => x | _ => Str.empty
/-- sorted(texts) -/
theorem sorted_txt {Q : Value → Shared → Prop} (z : TxtSet P w s.heap a ms) (hh : A.handled = none) (few : ms.length ≤ sizeLine)
    (q : ∀ s' p (out : Array Value) (c : Nat) (ys : List Str), (∀ b o, s.heap.get? b = some o → s'.heap.get? b = some o) → s'.gens = s.gens → s'.os = s.os → s.heap.objs.size ≤ p →
      s'.heap.get? p = some (seqObj "list" out c) → StrsAre out.toList ys → ys.Perm ms → sortedS ys = true → Q (.ref p) s') :
    wpAny (model P w) A (call (.builtin "sorted") [.ref a]) Q E s := by
  obtain ⟨ob, rows, ep, tab, e0, ex, ed, gd, pm, nd, fw, ft, ri, ld⟩ := z
  refine call_function_entry kind_sorted plain_sorted entry_sorted (args_sorted1 _) ?_
  unfold Builtin.«sorted»
  refine wpAny_bind (m := checkCount "sorted" 1 1 _) (wpAny_pure ?_)
  refine wpAny_bind (collect_set (A := A.in1) hh ⟨ob, e0, ex.1, ed⟩ ft fw ri ld fun s1 vs k1 big g1 o1 pv => ?_)
  have hv : ∀ v ∈ vs, ∃ y tk, v = Value.str y tk := fun v hv => by
    obtain ⟨e, he, e1⟩ := List.mem_map.mp (pv.mem_iff.mp hv)
    obtain ⟨y, tk, e2, _⟩ := gd e he
    exact ⟨y, tk, by rw [← e1]; exact e2⟩
  obtain ⟨ys0, hS, hg⟩ := strs_txt vs hv
  have e3 := hg ofTxt fun _ _ => rfl
  have pp : ys0.Perm ms := by
    rw [e3]
    have y := pv.map ofTxt
    rw [List.map_map] at y
    exact y.trans pm
  have lv : vs.length = ms.length := by rw [← pp.length_eq, e3, List.length_map]
  have hL : vs.length ≤ sizeLine := by rw [lv]; exact few
  refine wpAny_bind (wpAny_newList ?_ hL)
  have oL : (s1.heap.push (seqObj "list" vs.toArray 0)).get? s1.heap.objs.size = some (seqObj "list" vs.toArray 0) := Heap.get?_push_size _ rfl
  refine wpAny_bind (wpAny_holding (wpAny_call_entry slot_list_sort ⟨_, oL, rfl⟩ entry_list_sort (list_sort_treeKAny strKind_oneLt oL hS.keysOf (fun v₁ v₂ rest e => keyKind_strs (by rw [← e]; exact hS)) hL fun st' hp hs => ⟨_, rfl, ?_⟩) (args_list_sort _)))
  obtain ⟨ys, h1, h2, h3⟩ := sorted_out_str hS hp hs
  obtain ⟨c, hc⟩ := sortedHeap_at (vs := vs) (out := (arrOf st').map (·.2)) oL
  refine wpAny_pure ⟨_, rfl, q _ s1.heap.objs.size _ c ys (fun b u e => ?_) g1 o1 big hc h1 (h2.trans pp) h3⟩
  have y := k1 b u e
  have lt := Heap.lt_size y
  show (sortedHeap (s1.heap.push (seqObj "list" vs.toArray 0)) s1.heap.objs.size vs _).get? b = some u
  rw [sortedHeap_old (Nat.ne_of_lt lt) (by rw [size_push']; exact Nat.lt_succ_of_lt lt)]
  exact Heap.get?_push_of_some _ y
end
/-- the set of texts at a -/
def TxtO (P : Program) (w : World) (a : Addr) (ms : List Str) : HO := .ext fun h => TxtSet P w h a ms
section
variable {X : Cx}
theorem txtO_new {w : World} {P : Program} {H : Hp} {h : Heap} {a : Addr} {ms : List Str} (z : TxtSet P w h a ms) : ObjOk P w H h a (TxtO P w a ms) := by
  have ⟨ob, _, _, _, e, _⟩ := z
  exact ⟨z, ⟨ob, e⟩, fun h1 h2 p k => TxtSet.at p k⟩
theorem txtO_get {pins : List (Addr × Obj)} {σ : L2.St} {H : Hp} {s : Shared} {a : Addr} {ms : List Str} (I : Inv X pins σ H s) (e : H a = some (TxtO X.prog X.w a ms)) : TxtSet X.prog X.w s.heap a ms := (I.hok a _ e).1
/-- set(text) -/
def rSetTxt (P : Program) (w : World) : List V → Hp → VK → Prop := fun xs H Q => ∃ x : Str, xs = [.str x] ∧ x.cps.size ≤ 1000 ∧ ∀ p, H p = none → Q (.ref p) (upd H p (TxtO P w p (uniqT (signsT x))))
theorem cr_setTxt (hc : X.calm = true) : CallR X (.type "set") (rSetTxt X.prog X.w) := by
  intro pins s σ H xs us Q I r h
  obtain ⟨x, rfl, few, q⟩ := h
  obtain ⟨u, rfl, ru⟩ := vals1 r
  obtain ⟨t, rfl⟩ := ru
  refine call_set_text (I.ok.hd hc) (by unfold scanBound; omega) fun h' tk z kept => ?_
  exact ⟨.ref _, _, I.laid (t' := tk) kept (Nat.le_refl _) (txtO_new z), rfl, q _ (I.hok.fresh (Nat.le_refl _))⟩
/-- sorted(found) -/
def rSortedTxt (P : Program) (w : World) : List V → Hp → VK → Prop := fun vs H Q => ∃ (a : Addr) (ms : List Str), vs = [V.ref a] ∧ H a = some (TxtO P w a ms) ∧ ms.length ≤ 1000 ∧
  ∀ (ys : List Str) p, ys.Perm ms → sortedS ys = true → H p = none → Q (.ref p) (upd H p (.lst (ys.map V.str)))
theorem cr_sortedTxt (hc : X.calm = true) : CallR X (.builtin "sorted") (rSortedTxt X.prog X.w) := by
  intro pins s σ H vs us Q I r h
  obtain ⟨a, ms, rfl, e, few, q⟩ := h
  have h1000 : (1000 : Nat) ≤ sizeLine := by decide
  rw [Vals.ref1 r]
  refine sorted_txt (txtO_get I e) (I.ok.hd hc) (by omega) fun s' p out c ys kept eg eo big hp hS pm so => ?_
  have fp : H p = none := I.hok.fresh big
  have hlen : (ys.map V.str).length ≤ sizeLine := by rw [List.length_map, pm.length_eq]; omega
  have J : Inv X pins σ (upd H p (.lst (ys.map V.str))) { s with heap := s'.heap, gens := s'.gens, drawn := s'.drawn, toks := s'.toks } :=
    I.call (ch := []) (Un.laid kept big fp) (I.hok.laid kept big ⟨hlen, out.toList, c, vals_of_strs hS, hp⟩) (by rw [eg]; exact I.bare) (fun _ y => nomatch y)
  have es : s' = { s with heap := s'.heap, gens := s'.gens, drawn := s'.drawn, toks := s'.toks } := by
    cases s'
    cases s
    cases eo
    rfl
  rw [es]
  exact ⟨.ref p, _, J, rfl, q ys p pm so fp⟩
end
theorem cr_setTxtw {X : Cx} {pd : Program} {wd : World} (hp : X.prog = pd) (hw : X.w = wd) (hc : X.calm = true) : CallR X (.type "set") (rSetTxt pd wd) := by
  subst hp hw
  exact cr_setTxt hc
theorem cr_sortedTxtw {X : Cx} {pd : Program} {wd : World} (hp : X.prog = pd) (hw : X.w = wd) (hc : X.calm = true) : CallR X (.builtin "sorted") (rSortedTxt pd wd) := by
  subst hp hw
  exact cr_sortedTxt hc
theorem uniqT_nodup (xs : List Str) : (uniqT xs).Nodup := by
  have go : ∀ i, (uniqT (xs.take i)).Nodup := fun i => by
    induction i with
    | zero => simp [uniqT]
    | succ i ih =>
      cases h : xs[i]? with
      | none => rw [List.take_add_one, h]; simpa using ih
      | some x =>
        rw [uniqT_take h]
        unfold addT
        split
        · exact ih
        · rename_i n
          exact List.nodup_append.mpr ⟨ih, by simp, fun u hu v hv => by rw [List.mem_singleton.mp hv]; exact fun y => n (y ▸ hu)⟩
  have := go xs.length
  rwa [List.take_length] at this
end Cw

/-! states as they lie in the heap -/
namespace Cw
open PySem PySem.Spec PyProof.Rows L2
/-- a method of the text's class at C, called by its name -/
structure DfM (K : PySem.W.Frag) (C : Addr) (x qual : Str) (st : Stmt) (ps : List Str) where
  f : Addr
  fd : FuncData
  F : Fun K x qual st f fd
  b : Binds K fd ps []
  m : Meth K C x f
theorem ip_of {X : Cx} {op : Operator} {r : V → V → Hp → VK → Prop} (h : OpR X (inplaceOp op) r) : PIp X op r := fun pins s σ H x y u v Q I rx ry q => h pins s σ H x y u v Q I rx ry q
def ClAt (H : Hp) (v : V) (c : Cl) : Prop := ∃ a, v = .ref a ∧ H a = some (.tup [.int (c.1 : Nat), .int (c.2 : Nat)])
def StAt (H : Hp) (v : V) (cs : List Cl) : Prop := ∃ t vs, v = .ref t ∧ H t = some (.tup vs) ∧ Paired (ClAt H) vs cs
theorem ClAt.same {H H' : Hp} {v : V} {c : Cl} (x : ClAt H v c) (s : Same H H') : ClAt H' v c := let ⟨a, e, h⟩ := x; ⟨a, e, s _ _ h⟩
theorem StAt.same {H H' : Hp} {v : V} {cs : List Cl} (x : StAt H v cs) (s : Same H H') : StAt H' v cs := let ⟨t, vs, e, h, p⟩ := x; ⟨t, vs, e, s _ _ h, Paired.imp p fun _ _ z => z.same s⟩
/-- tuples stay -/
def Tups (H H' : Hp) : Prop := ∀ b xs, H b = some (.tup xs) → H' b = some (.tup xs)
theorem Tups.of {H H' : Hp} (s : Same H H') : Tups H H' := fun b xs e => s _ _ e
theorem ClAt.tups {H H' : Hp} {v : V} {c : Cl} (x : ClAt H v c) (s : Tups H H') : ClAt H' v c := let ⟨a, e, h⟩ := x; ⟨a, e, s _ _ h⟩
theorem StAt.tups {H H' : Hp} {v : V} {cs : List Cl} (x : StAt H v cs) (s : Tups H H') : StAt H' v cs := let ⟨t, vs, e, h, p⟩ := x; ⟨t, vs, e, s _ _ h, Paired.imp p fun _ _ z => z.tups s⟩
def nkCl (c : Cl) : NestedKey := .tup [.num (c.1 : Nat), .num (c.2 : Nat)]
def nkSt (cs : List Cl) : NestedKey := .tup (cs.map nkCl)
def nkKey (cs : List Cl) (need : Int) : NestedKey := .tup [nkSt cs, .num need]
theorem ClAt.nk {H : Hp} {v : V} {c : Cl} (x : ClAt H v c) : NkV H (nkCl c) v := by
  obtain ⟨a, rfl, h⟩ := x
  exact .tup h (.cons (.int _) (.cons (.int _) .nil))
theorem StAt.nk {H : Hp} {v : V} {cs : List Cl} (x : StAt H v cs) : NkV H (nkSt cs) v := by
  obtain ⟨t, vs, rfl, h, p⟩ := x
  refine .tup h ?_
  clear h
  induction p with
  | nil => exact .nil
  | cons h t ih => exact .cons h.nk ih
theorem nkSt_depth (cs : List Cl) : (nkSt cs).depth ≤ 2 := by
  have go : ∀ l : List Cl, NestedKey.depthAll (l.map nkCl) ≤ 1 := fun l => by
    induction l with
    | nil => exact Nat.zero_le _
    | cons c l ih =>
      rw [List.map_cons, NestedKey.depthAll]
      have : (nkCl c).depth = 1 := by simp [nkCl, NestedKey.depth, NestedKey.depthAll]
      omega
  unfold nkSt
  rw [NestedKey.depth]
  have := go cs
  omega
theorem nkKey_depth (cs : List Cl) (need : Int) : (nkKey cs need).depth ≤ 8 := by
  have := nkSt_depth cs
  unfold nkKey
  simp only [NestedKey.depth, NestedKey.depthAll]
  omega
theorem nkCl_inj {c d : Cl} (h : nkCl c = nkCl d) : c = d := by
  unfold nkCl at h
  injection h with h
  injection h with h1 h
  injection h with h2 _
  injection h1 with h1
  injection h2 with h2
  exact Prod.ext (by omega) (by omega)
theorem nkSt_inj {cs ds : List Cl} (h : nkSt cs = nkSt ds) : cs = ds := by
  unfold nkSt at h
  injection h with h
  exact (List.map_inj_right fun _ _ => nkCl_inj).mp h
theorem nkKey_inj {cs ds : List Cl} {n m : Int} (h : nkKey cs n = nkKey ds m) : cs = ds ∧ n = m := by
  unfold nkKey at h
  injection h with h
  injection h with h1 h
  injection h with h2 _
  injection h2 with h2
  exact ⟨nkSt_inj h1, h2⟩
/-- what is known is so -/
def KnOk (W : List Cl → Int → Nat) (es : List KEnt) : Prop := ∀ e ∈ es, ∃ cs need, e.1 = nkKey cs need ∧ e.2.2 = .int (W cs need : Nat)
theorem KnOk.get {W : List Cl → Int → Nat} {es : List KEnt} (k : KnOk W es) {cs : List Cl} {need : Int} {v : V} (h : valH es (nkKey cs need) = some v) : v = .int (W cs need : Nat) := by
  unfold valH at h
  obtain ⟨e, he, rfl⟩ := Option.map_eq_some_iff.mp h
  obtain ⟨ds, n, e1, e2⟩ := k e (List.mem_of_find?_eq_some he)
  have z := List.find?_some he
  have z := of_decide_eq_true z
  rw [e1] at z
  obtain ⟨rfl, rfl⟩ := nkKey_inj z
  exact e2
theorem KnOk.put {W : List Cl → Int → Nat} {es : List KEnt} (k : KnOk W es) {cs : List Cl} {need : Int} {a : Addr} : KnOk W (es ++ [(nkKey cs need, a, .int (W cs need : Nat))]) := fun e he => by
  rcases List.mem_append.mp he with he | he
  · exact k e he
  · rw [List.mem_singleton.mp he]; exact ⟨cs, need, rfl, rfl⟩
/-- all but the objects in S is as it was -/
def KS (S : Addr → Prop) (H H' : Hp) : Prop := ∀ b o, ¬ S b → H b = some o → H' b = some o
theorem KS.refl {S : Addr → Prop} (H : Hp) : KS S H H := fun _ _ _ e => e
theorem KS.trans {S : Addr → Prop} {H H1 H2 : Hp} (a : KS S H H1) (b : KS S H1 H2) : KS S H H2 := fun c o n e => b c o n (a c o n e)
theorem KS.of {S : Addr → Prop} {H H' : Hp} (s : Same H H') : KS S H H' := fun c o _ e => s c o e
theorem KS.mono {S T : Addr → Prop} {H H' : Hp} (a : KS S H H') (h : ∀ b, S b → T b) : KS T H H' := fun c o n e => a c o (fun z => n (h c z)) e
theorem KS.put {S : Addr → Prop} {H H' : Hp} {p : Addr} {o : HO} (a : KS S H H') (h : S p) : KS S H (upd H' p o) := fun c u n e => by rw [upd_ne (fun (z : c = p) => n (by rw [z]; exact h))]; exact a c u n e
theorem KS.new {S : Addr → Prop} {H H' : Hp} {p : Addr} {o : HO} (a : KS S H H') (n : H' p = none) : KS S H (upd H' p o) := fun c u nc e => by rw [upd_ne (ne_of_none (a c u nc e) n)]; exact a c u nc e
/-- what was new need not be told -/
theorem KS.out {S T : Addr → Prop} {H H' : Hp} (a : KS T H H') (h : ∀ b, T b → S b ∨ H b = none) : KS S H H' := fun c o n e => a c o (fun z => (h c z).elim n fun q => by rw [q] at e; cases e) e
theorem KS.free {S : Addr → Prop} {H H' : Hp} {p : Addr} (a : KS S H H') (n : ¬ S p) (f : H' p = none) : H p = none := by
  cases e : H p with
  | none => rfl
  | some o => rw [a p o n e] at f; cases f
end Cw

namespace Cw
open PySem PySem.Spec PyProof.Rows L2
theorem LOk.sub {w w' : Web} {ld kd : Lead} (L : LOk w w' ld) (s : kd.Sublist ld) : LOk w w' kd := ⟨L.rise.sublist s, L.ends.sublist (s.map _), fun p hp => L.like p (s.subset hp)⟩
theorem ldAt_iff {ld : Lead} (s : ld.Pairwise (fun x y => x.1 < y.1)) {p q : Nat} : ldAt ld p = some q ↔ (p, q) ∈ ld := by
  refine ⟨ldAt_mem, fun h => ?_⟩
  cases e : ldAt ld p with
  | none =>
    have : ld.find? (fun q => q.1 == p) = none := by
      unfold ldAt at e
      exact Option.map_eq_none_iff.mp e
    have := List.find?_eq_none.mp this _ h
    simp at this
  | some r =>
    have h2 := ldAt_mem e
    obtain ⟨i, hi, e1⟩ := List.getElem_of_mem h
    obtain ⟨j, hj, e2⟩ := List.getElem_of_mem h2
    have pw := List.pairwise_iff_getElem.mp s
    rcases Nat.lt_trichotomy i j with z | z | z
    · have := pw i j hi hj z
      rw [e1, e2] at this
      exact absurd this (Nat.lt_irrefl _)
    · subst z
      rw [e1] at e2
      injection e2 with _ e2
      rw [e2]
    · have := pw j i hj hi z
      rw [e1, e2] at this
      exact absurd this (Nat.lt_irrefl _)
theorem isLed_iff {w' : Web} {ld : Lead} (s : ld.Pairwise (fun x y => x.1 < y.1)) {t : Tie} : isLed w' ld t = true ↔ ∃ a b, (t.1, a) ∈ ld ∧ (t.2.1, b) ∈ ld ∧ tieL w'.2 a b = some t.2.2 := by
  constructor
  · intro h
    cases e1 : ldAt ld t.1 with
    | none => rw [isLed_no (.inl e1)] at h; cases h
    | some a =>
      cases e2 : ldAt ld t.2.1 with
      | none => rw [isLed_no (.inr e2)] at h; cases h
      | some b =>
        rw [isLed_at e1 e2] at h
        exact ⟨a, b, ldAt_mem e1, ldAt_mem e2, of_decide_eq_true h⟩
  · rintro ⟨a, b, h1, h2, h3⟩
    rw [isLed_at ((ldAt_iff s).mpr h1) ((ldAt_iff s).mpr h2)]
    exact decide_eq_true h3
def onT (p : Nat) (t : Tie) : Bool := t.1 == p || t.2.1 == p
/-- the pairs on some ties -/
def tiedL (ts : List Tie) (ld : Lead) : Lead := ld.filter fun p => ts.any (onT p.1)
theorem due_tied {w w' : Web} {ld : Lead} (L : LOk w w' ld) : dueL w w' (tiedL (dueL w w' ld) ld) = dueL w w' ld := by
  have sub : (tiedL (dueL w w' ld) ld).Sublist ld := List.filter_sublist
  refine List.filter_congr fun t ht => ?_
  rw [Bool.eq_iff_iff, isLed_iff (L.rise.sublist sub), isLed_iff L.rise]
  constructor
  · rintro ⟨a, b, h1, h2, h3⟩
    exact ⟨a, b, sub.subset h1, sub.subset h2, h3⟩
  · rintro ⟨a, b, h1, h2, h3⟩
    have hd : t ∈ dueL w w' ld := List.mem_filter.mpr ⟨ht, (isLed_iff L.rise).mpr ⟨a, b, h1, h2, h3⟩⟩
    exact ⟨a, b, List.mem_filter.mpr ⟨h1, List.any_eq_true.mpr ⟨t, hd, by simp [onT]⟩⟩, List.mem_filter.mpr ⟨h2, List.any_eq_true.mpr ⟨t, hd, by simp [onT]⟩⟩, h3⟩
theorem optV_scal2 (a b : Option Nat) : scal (optV a) (optV b) = true := by cases a <;> cases b <;> rfl
theorem optV_inj (a b : Option Nat) : decide (optV a = optV b) = decide (a = b) := by
  rw [Bool.eq_iff_iff, decide_eq_true_eq, decide_eq_true_eq]
  constructor
  · intro z
    cases a <;> cases b
    · rfl
    · cases z
    · cases z
    · injection z with z; rw [sg_inj.mp z]
  · intro z; rw [z]
theorem tiedL_snoc {ts : List Tie} {ld : Lead} {i : Nat} {p : Nat × Nat} (h : ld[i]? = some p) : tiedL ts (ld.take (i + 1)) = tiedL ts (ld.take i) ++ if ts.any (onT p.1) = true then [p] else [] := by
  unfold tiedL
  rw [take_snoc h, List.filter_append]
  congr 1
  by_cases c : ts.any (onT p.1) = true
  · rw [if_pos c, List.filter_cons_of_pos (p := fun p : Nat × Nat => ts.any (onT p.1)) c]; rfl
  · rw [if_neg c, List.filter_cons_of_neg (p := fun p : Nat × Nat => ts.any (onT p.1)) c]; rfl
/-- a block in a block -/
theorem any_ends (ts : List Tie) (p : Nat) : (!(((ts.map ends).filter fun e => e.1 == p || e.2 == p).map pairD).isEmpty) = ts.any (onT p) := by
  induction ts with
  | nil => rfl
  | cons t r ih =>
    rw [List.any_cons, List.map_cons]
    by_cases c : onT p t = true
    · rw [List.filter_cons_of_pos (p := fun e : Nat × Nat => e.1 == p || e.2 == p) (a := ends t) c, c, Bool.true_or]; rfl
    · rw [List.filter_cons_of_neg (p := fun e : Nat × Nat => e.1 == p || e.2 == p) (a := ends t) c, ih, Bool.eq_false_iff.mpr c, Bool.false_or]
theorem sh2 (x y : Int) : SeqAt.shaped (.tuple [.int x, .int y]) = true := by simp [SeqAt.shaped, PyData.canLay0, PyData.canLayAll0, PyData.depth, PyData.depthAll]
theorem two_good (a b : Lead) : SeqAt.shaped (.list [pairsD a, pairsD b]) = true := shaped_list (k := 2) (by decide) fun d hd => by
  have g : ∀ l : Lead, (pairsD l).canLay0 = true ∧ (pairsD l).depth ≤ 2 := fun l => by
    obtain ⟨h1, h2⟩ := lay_all (ds := l.map pairD) (k := 1) fun d hd => by
      obtain ⟨t, ht, rfl⟩ := List.mem_map.mp hd
      exact pairD_lay t
    unfold pairsD
    exact ⟨by simp only [PyData.canLay0]; exact h1, by simp only [PyData.depth]; omega⟩
  rcases List.mem_cons.mp hd with e | hd
  · rw [e]; exact g a
  · rw [List.mem_singleton.mp hd]; exact g b
end Cw

namespace Cw
open PySem PySem.Spec PyProof.Rows L2

/-! ### l.remove(x) where items are data of any depth; least and greatest of texts -/
section
variable {X : Cx}
def rRemD (K : PySem.W.Frag) : V → List V → Hp → VK → Prop := fun x xs H Q => ∃ (l : Addr) (ys : List V) (y : V) (d : PyData) (ds : List PyData) (j : Nat), x = V.ref l ∧ xs = [y] ∧ H l = some (.lst ys) ∧ DpAll K H ys ds ∧ Dp K H y d ∧
  SeqAt.shaped (.list ds) = true ∧ SeqAt.shaped d = true ∧ SeqAt.dataPlace ds d = some j ∧ Q .non (upd H l (.lst (ys.eraseIdx j)))
/-- by the library's own rule for data: the first equal one is gone -/
theorem mt_removeD (hu : X.A.units + 65 < cLine) : MtR X "list.remove" (rRemD X.K) := fun pins s σ H x xs v us Q I rx rxs ⟨l, ys, y, d, ds, j, e1, e2, hH, ha, hy, sl, sd, hj, q⟩ => by
  subst e1 e2
  obtain rfl : v = Value.ref l := rx
  obtain ⟨uy, eu, ry⟩ := rxs.one
  obtain ⟨big, its, n, rv, hlen, ho⟩ := I.lstM hH
  obtain ⟨cs, got⟩ := Dp.readsAll I ds _ its ha rv
  obtain ⟨bs, got2⟩ := Dp.reads I d y uy hy ry
  rw [eu]
  refine SeqAt.remove_list_data (vs := its.toArray) (xs := ds) (d := d) ⟨_, ho, rfl, n, rfl⟩ (by simpa using got) got2 (PyData.plainAll_of_canLay0 ds (SeqAt.canLay_of_shaped sl)) (PyData.plain_of_canLay0 d (SeqAt.canLay_of_shaped sd)) (room_in_shaped sd hu) hj (by simpa [← hlen] using big) ?_
  exact ⟨.non, upd H l (.lst (ys.eraseIdx j)), I.lset (its' := its.eraseIdx j) (f := fun zs => zs.eraseIdxIfInBounds j) hH ho (List.eraseIdxIfInBounds_toArray ..) (rv.eraseIdx j) (Nat.le_trans (List.length_eraseIdx_le ys j) big), rfl, q⟩
end

theorem cmp_gtS {prog : Program} {w : World} {A : Around} {P : Nat → Value → Prop} (val : Nat → Str) (hval : ∀ i v, P i v → ∃ t, v = .str (val i) t) :
    CmpOf prog w A .Gt P (fun i j => decide ((val j).cps.toList < (val i).cps.toList)) := fun i j vi vj s Q E hi hj h => by
  obtain ⟨t, rfl⟩ := hval i vi hi
  obtain ⟨u, rfl⟩ := hval j vj hj
  exact richCompare_gives (op := .Gt) (typeIs_str s _ t) (typeIs_str s _ u) F.slot_str_gt F.entry_str_gt (F.args_str_gt_2 _ _) (gives_str_gt _ _ t u) (fun x => nomatch x) h
theorem cmp_ltS {prog : Program} {w : World} {A : Around} {P : Nat → Value → Prop} (val : Nat → Str) (hval : ∀ i v, P i v → ∃ t, v = .str (val i) t) :
    CmpOf prog w A .Lt P (fun i j => decide ((val i).cps.toList < (val j).cps.toList)) := fun i j vi vj s Q E hi hj h => by
  obtain ⟨t, rfl⟩ := hval i vi hi
  obtain ⟨u, rfl⟩ := hval j vj hj
  exact richCompare_gives (op := .Lt) (typeIs_str s _ t) (typeIs_str s _ u) F.slot_str_lt F.entry_str_lt (F.args_str_lt_2 _ _) (gives_str_lt _ _ t u) (fun x => nomatch x) h
/-- two texts -/
def two (x y : Str) (i : Nat) : Str := if i = 0 then x else y
theorem two_at {x y : Str} {t u : Tok} {i : Nat} {v : Value} (h : (#[Value.str x t, Value.str y u] : Array Value)[i]? = some v) : ∃ t', v = .str (two x y i) t' := by
  match i, h with
  | 0, h => exact ⟨t, (Option.some.inj h).symm⟩
  | 1, h => exact ⟨u, (Option.some.inj h).symm⟩
  | i + 2, h => simp at h
theorem two_max {x y : Str} {t u : Tok} {v : Value} (h : (#[Value.str x t, Value.str y u] : Array Value)[argBest (fun i j => decide ((two x y j).cps.toList < (two x y i).cps.toList)) 1]? = some v) :
    ∃ t', v = .str (if x.cps.toList < y.cps.toList then y else x) t' := by
  by_cases hb : x.cps.toList < y.cps.toList
  · have e : argBest (fun i j => decide ((two x y j).cps.toList < (two x y i).cps.toList)) 1 = 1 := by simp [argBest, two, hb]
    rw [e] at h
    rw [if_pos hb]
    exact ⟨u, (Option.some.inj h).symm⟩
  · have e : argBest (fun i j => decide ((two x y j).cps.toList < (two x y i).cps.toList)) 1 = 0 := by simp [argBest, two, hb]
    rw [e] at h
    rw [if_neg hb]
    exact ⟨t, (Option.some.inj h).symm⟩
theorem two_min {x y : Str} {t u : Tok} {v : Value} (h : (#[Value.str x t, Value.str y u] : Array Value)[argBest (fun i j => decide ((two x y i).cps.toList < (two x y j).cps.toList)) 1]? = some v) :
    ∃ t', v = .str (if y.cps.toList < x.cps.toList then y else x) t' := by
  by_cases hb : y.cps.toList < x.cps.toList
  · have e : argBest (fun i j => decide ((two x y i).cps.toList < (two x y j).cps.toList)) 1 = 1 := by simp [argBest, two, hb]
    rw [e] at h
    rw [if_pos hb]
    exact ⟨u, (Option.some.inj h).symm⟩
  · have e : argBest (fun i j => decide ((two x y i).cps.toList < (two x y j).cps.toList)) 1 = 0 := by simp [argBest, two, hb]
    rw [e] at h
    rw [if_neg hb]
    exact ⟨t, (Option.some.inj h).symm⟩
section
variable {prog : Program} {w : World} {A : Around} {E : Value → Shared → Prop} {s : Shared} {x y : Str} {t u : Tok} {Q : Value → Shared → Prop}
/-- an iterator that was just laid over what stands at l: both are old, what was there ahead of s₂ is kept -/
theorem two_room {h : Heap} {o : Obj} {l : Addr} (hl : l < h.objs.size) : ∀ c ∈ [h.objs.size, l], c < (h.push o).objs.size := fun c hc => by
  rw [Heap.size_push]
  rcases List.mem_cons.mp hc with e | e
  · exact Nat.lt_succ_of_le (Nat.le_of_eq e)
  · rw [List.mem_singleton.mp e]; exact Nat.lt_succ_of_lt hl
theorem two_kept {g h h' : Heap} {o : Obj} (ext : ∀ b ob, g.get? b = some ob → h.get? b = some ob) (sz : g.objs.size ≤ h.objs.size) (k : ∀ b ob, b ∉ [h.objs.size] → (h.push o).get? b = some ob → h'.get? b = some ob) :
    ∀ b ob, g.get? b = some ob → h'.get? b = some ob := fun b ob e => k b ob (by have z := Heap.lt_size e; simp only [List.mem_singleton]; exact Nat.ne_of_lt (Nat.lt_of_lt_of_le z sz)) (Heap.get?_push_of_some _ (ext b ob e))
/-- the two texts as a tuple that is new, as a list that stands -/
theorem two_tup (v1 v2 : Value) : (s.heap.push { cls := .type "tuple", data := .seq #[v1, v2] }).IsTuple s.heap.objs.size #[v1, v2] := ⟨_, Heap.get?_push_size _ rfl, rfl, 0, rfl⟩
theorem max_twoS (hh : A.handled = none) (h : ∀ h' tk t', (∀ c o, s.heap.get? c = some o → h'.get? c = some o) → Q (.str (if x.cps.toList < y.cps.toList then y else x) t') { s with heap := h', toks := tk }) :
    wpAny (model prog w) A (call (.builtin "max") [.str x t, .str y u]) Q E s := by
  have T := two_tup (s := s) (Value.str x t) (Value.str y u)
  have lt : s.heap.objs.size < (s.heap.push { cls := .type "tuple", data := .seq #[Value.str x t, Value.str y u] }).objs.size := by rw [Heap.size_push]; exact Nat.lt_succ_self _
  exact call_max_two (wpAny_pyIter_tuple T ⟨_, [_, s.heap.objs.size], [_], _, _, _, _, rfl, Walks.tuple (A := A.in1) hh _ _ (Nat.ne_of_lt lt) _, ⟨⟨_, Heap.get?_push_size _ rfl, rfl, rfl⟩, T.push _⟩, two_room lt, Nat.succ_pos 1, cmp_gtS (two x y) (fun _ _ => two_at),
    fun v h' tk hP hk => (two_max hP).elim fun t' e => by subst e; exact h h' tk t' (two_kept (fun b o e => Heap.get?_push_of_some _ e) (Nat.le_of_lt lt) hk)⟩)
theorem min_twoS (hh : A.handled = none) (h : ∀ h' tk t', (∀ c o, s.heap.get? c = some o → h'.get? c = some o) → Q (.str (if y.cps.toList < x.cps.toList then y else x) t') { s with heap := h', toks := tk }) :
    wpAny (model prog w) A (call (.builtin "min") [.str x t, .str y u]) Q E s := by
  have T := two_tup (s := s) (Value.str x t) (Value.str y u)
  have lt : s.heap.objs.size < (s.heap.push { cls := .type "tuple", data := .seq #[Value.str x t, Value.str y u] }).objs.size := by rw [Heap.size_push]; exact Nat.lt_succ_self _
  exact call_min_two (wpAny_pyIter_tuple T ⟨_, [_, s.heap.objs.size], [_], _, _, _, _, rfl, Walks.tuple (A := A.in1) hh _ _ (Nat.ne_of_lt lt) _, ⟨⟨_, Heap.get?_push_size _ rfl, rfl, rfl⟩, T.push _⟩, two_room lt, Nat.succ_pos 1, cmp_ltS (two x y) (fun _ _ => two_at),
    fun v h' tk hP hk => (two_min hP).elim fun t' e => by subst e; exact h h' tk t' (two_kept (fun b o e => Heap.get?_push_of_some _ e) (Nat.le_of_lt lt) hk)⟩)
theorem max_listS {l : Addr} (hh : A.handled = none) (hl : s.heap.IsList l #[Value.str x t, Value.str y u]) (h : ∀ h' tk t', (∀ c o, s.heap.get? c = some o → h'.get? c = some o) → Q (.str (if x.cps.toList < y.cps.toList then y else x) t') { s with heap := h', toks := tk }) :
    wpAny (model prog w) A (call (.builtin "max") [.ref l]) Q E s := by
  have lt : l < s.heap.objs.size := hl.elim fun _ e => Heap.lt_size e.1
  exact call_max_walk (wpAny_pyIter_list hl ⟨_, [_, l], [_], _, _, _, _, rfl, Walks.list (A := A.in1) hh _ l (Nat.ne_of_lt lt) _, ⟨⟨_, Heap.get?_push_size _ rfl, rfl, rfl⟩, hl.push _⟩, two_room lt, Nat.succ_pos 1, cmp_gtS (two x y) (fun _ _ => two_at),
    fun v h' tk hP hk => (two_max hP).elim fun t' e => by subst e; exact h h' tk t' (two_kept (fun b o e => e) (Nat.le_refl _) hk)⟩)
theorem min_listS {l : Addr} (hh : A.handled = none) (hl : s.heap.IsList l #[Value.str x t, Value.str y u]) (h : ∀ h' tk t', (∀ c o, s.heap.get? c = some o → h'.get? c = some o) → Q (.str (if y.cps.toList < x.cps.toList then y else x) t') { s with heap := h', toks := tk }) :
    wpAny (model prog w) A (call (.builtin "min") [.ref l]) Q E s := by
  have lt : l < s.heap.objs.size := hl.elim fun _ e => Heap.lt_size e.1
  exact call_min_walk (wpAny_pyIter_list hl ⟨_, [_, l], [_], _, _, _, _, rfl, Walks.list (A := A.in1) hh _ l (Nat.ne_of_lt lt) _, ⟨⟨_, Heap.get?_push_size _ rfl, rfl, rfl⟩, hl.push _⟩, two_room lt, Nat.succ_pos 1, cmp_ltS (two x y) (fun _ _ => two_at),
    fun v h' tk hP hk => (two_min hP).elim fun t' e => by subst e; exact h h' tk t' (two_kept (fun b o e => e) (Nat.le_refl _) hk)⟩)
end
section
variable {X : Cx}
theorem plainL_is {h : Heap} {a : Addr} {its : Array Value} (p : PlainL h a its) : h.IsList a its := by
  obtain ⟨o, n, e, h1, h2, h3⟩ := p
  exact ⟨o, e, h1, n, h3⟩
theorem cr_max2S (hc : X.calm = true) : CallR X (.builtin "max") (fun xs H Q => ∃ x y : Str, xs = [.str x, .str y] ∧ Q (.str (if x.cps.toList < y.cps.toList then y else x)) H) := by
  intro pins s σ H xs us Q I r h
  obtain ⟨x, y, rfl, q⟩ := h
  obtain ⟨u, w', rfl, ⟨t, rfl⟩, ⟨t', rfl⟩⟩ := vals2 r
  exact max_twoS (I.ok.hd hc) fun h' tk t2 k => ⟨.str _, H, I.kept k, ⟨_, rfl⟩, q⟩
theorem cr_min2S (hc : X.calm = true) : CallR X (.builtin "min") (fun xs H Q => ∃ x y : Str, xs = [.str x, .str y] ∧ Q (.str (if y.cps.toList < x.cps.toList then y else x)) H) := by
  intro pins s σ H xs us Q I r h
  obtain ⟨x, y, rfl, q⟩ := h
  obtain ⟨u, w', rfl, ⟨t, rfl⟩, ⟨t', rfl⟩⟩ := vals2 r
  exact min_twoS (I.ok.hd hc) fun h' tk t2 k => ⟨.str _, H, I.kept k, ⟨_, rfl⟩, q⟩
theorem cr_maxLS (hc : X.calm = true) : CallR X (.builtin "max") (fun xs H Q => ∃ (a : Addr) (x y : Str), xs = [.ref a] ∧ SqL X.K H a [.str x, .str y] ∧ Q (.str (if x.cps.toList < y.cps.toList then y else x)) H) := by
  intro pins s σ H xs us Q I r h
  obtain ⟨a, x, y, rfl, hS, q⟩ := h
  obtain ⟨u, rfl, ru⟩ := vals1 r
  cases ru
  obtain ⟨its, rv, pl, _⟩ := I.list hS
  obtain ⟨u1, u2, rfl, ⟨t, rfl⟩, ⟨t', rfl⟩⟩ := rv.two
  exact max_listS (I.ok.hd hc) (plainL_is pl) fun h' tk t2 k => ⟨.str _, H, I.kept k, ⟨_, rfl⟩, q⟩
theorem cr_minLS (hc : X.calm = true) : CallR X (.builtin "min") (fun xs H Q => ∃ (a : Addr) (x y : Str), xs = [.ref a] ∧ SqL X.K H a [.str x, .str y] ∧ Q (.str (if y.cps.toList < x.cps.toList then y else x)) H) := by
  intro pins s σ H xs us Q I r h
  obtain ⟨a, x, y, rfl, hS, q⟩ := h
  obtain ⟨u, rfl, ru⟩ := vals1 r
  cases ru
  obtain ⟨its, rv, pl, _⟩ := I.list hS
  obtain ⟨u1, u2, rfl, ⟨t, rfl⟩, ⟨t', rfl⟩⟩ := rv.two
  exact min_listS (I.ok.hd hc) (plainL_is pl) fun h' tk t2 k => ⟨.str _, H, I.kept k, ⟨_, rfl⟩, q⟩
theorem vals_ix {xs : List V} {us : List Value} (hl : us.length = xs.length) (k : ∀ (j : Nat) (u : Value), us[j]? = some u → ∃ x, xs[j]? = some x ∧ RelV x u) : Vals xs us := by
  induction us generalizing xs with
  | nil =>
    obtain rfl : xs = [] := List.eq_nil_of_length_eq_zero hl.symm
    exact .nil
  | cons u us ih =>
    match xs, hl with
    | x :: xs, hl =>
      obtain ⟨y, e, r⟩ := k 0 u rfl
      obtain rfl : x = y := Option.some.inj e
      exact .cons r (ih (Nat.succ.inj hl) fun j v hj => k (j + 1) v hj)
/-- list(text): its signs -/
theorem cr_listStr (hc : X.calm = true) : CallR X (.type "list") (fun xs H Q => ∃ x : Str, xs = [.str x] ∧ x.length ≤ sizeLine ∧ ∀ l, H l = none → Q (.ref l) (upd H l (.lst (x.cps.toList.map fun c => V.str (sg c))))) := by
  intro pins s σ H xs us Q I r h
  obtain ⟨x, rfl, hl, q⟩ := h
  obtain ⟨u, rfl, ru⟩ := vals1 r
  obtain ⟨t, rfl⟩ := ru
  refine call_list_str (I.ok.hd hc) x t (fun h' tk acc' c' hk hS hit => ?_) (by exact hl)
  have nw : H s.heap.objs.size = none := I.hok.fresh (Nat.le_refl _)
  refine ⟨.ref s.heap.objs.size, _, I.laid (t' := tk) hk (Nat.le_refl _) ?_, rfl, q _ nw⟩
  obtain ⟨hz, hv⟩ := hit
  refine ⟨by rw [List.length_map]; exact hl, acc'.toList, c', vals_ix (by simp [hz]) (fun j u hj => ?_), by simpa using hS⟩
  rw [Array.getElem?_toList] at hj
  obtain ⟨c, k, e, rfl⟩ := hv j u hj
  exact ⟨.str (sg c), by rw [List.getElem?_map, Array.getElem?_toList, e]; rfl, _, rfl⟩
end
end Cw

/-! what hangs together -/
namespace Cw
open PySem PySem.Spec PyProof.Rows L2
noncomputable def dec (p : Prop) : Bool := @decide p (Classical.propDecidable p)
theorem dec_iff {p : Prop} : dec p = true ↔ p := by unfold dec; exact @decide_eq_true_iff p (Classical.propDecidable p)
theorem dec_true {p : Prop} (h : p) : dec p = true := dec_iff.mpr h
theorem dec_false {p : Prop} (h : ¬ p) : dec p = false := by
  cases e : dec p with
  | false => rfl
  | true => exact absurd (dec_iff.mp e) h
theorem dec_congr {p q : Prop} (h : p ↔ q) : dec p = dec q := by
  rw [Bool.eq_iff_iff, dec_iff, dec_iff]; exact h
theorem mem_nb {w : Web} (W : WOk w) {p q : Nat} : q ∈ nb w.2 p ↔ ∃ t ∈ w.2, at2 p q t = true := by
  unfold nb
  rw [List.mem_filterMap]
  constructor
  · rintro ⟨t, ht, h⟩
    exact ⟨t, ht, (beside_iff (W.ends t ht).1).mp h⟩
  · rintro ⟨t, ht, h⟩
    exact ⟨t, ht, (beside_iff (W.ends t ht).1).mpr h⟩
theorem nb_symm {w : Web} (W : WOk w) {p q : Nat} (h : q ∈ nb w.2 p) : p ∈ nb w.2 q := by
  obtain ⟨t, ht, e⟩ := (mem_nb W).mp h
  exact (mem_nb W).mpr ⟨t, ht, by rw [at2_swap]; exact e⟩
theorem nb_lt {w : Web} (W : WOk w) {p q : Nat} (h : q ∈ nb w.2 p) : p < w.1.length ∧ q < w.1.length := by
  obtain ⟨t, ht, e⟩ := (mem_nb W).mp h
  have r := W.ends t ht
  rcases at2_iff.mp e with ⟨a, b⟩ | ⟨a, b⟩ <;> omega
/-- from a one comes to it -/
inductive Rch (ts : List Tie) (a : Nat) : Nat → Prop
  | base : Rch ts a a
  | step {p q : Nat} : Rch ts a p → q ∈ nb ts p → Rch ts a q
theorem Rch.trans {ts : List Tie} {a b c : Nat} (h : Rch ts a b) (k : Rch ts b c) : Rch ts a c := by
  induction k with
  | base => exact h
  | step _ m ih => exact ih.step m
theorem Rch.symm {w : Web} (W : WOk w) {a b : Nat} (h : Rch w.2 a b) : Rch w.2 b a := by
  induction h with
  | base => exact .base
  | step _ m ih => exact Rch.trans (Rch.base.step (nb_symm W m)) ih
theorem Rch.lt {w : Web} (W : WOk w) {a b : Nat} (h : Rch w.2 a b) (ha : a < w.1.length) : b < w.1.length := by
  cases h with
  | base => exact ha
  | step _ m => exact (nb_lt W m).2
/-- the places that hang together with a -/
noncomputable def partL (w : Web) (a : Nat) : List Nat := (List.range w.1.length).filter fun k => dec (Rch w.2 a k)
theorem mem_partL {w : Web} (W : WOk w) {a k : Nat} (ha : a < w.1.length) : k ∈ partL w a ↔ Rch w.2 a k := by
  unfold partL
  rw [List.mem_filter, dec_iff, List.mem_range]
  exact ⟨fun h => h.2, fun h => ⟨h.lt W ha, h⟩⟩
theorem partL_rise (w : Web) (a : Nat) : (partL w a).Pairwise (· < ·) := List.Pairwise.filter _ List.pairwise_lt_range
theorem partL_len (w : Web) (a : Nat) : (partL w a).length ≤ w.1.length := Nat.le_trans (List.length_filter_le _ _) (by rw [List.length_range]; exact Nat.le_refl _)
/-- no lesser place hangs together with it -/
def Lst (w : Web) (a : Nat) : Prop := ∀ b, Rch w.2 a b → a ≤ b
noncomputable def leastsL (w : Web) (n : Nat) : List Nat := (List.range n).filter fun a => dec (Lst w a)
noncomputable def partsN (w : Web) (n : Nat) : List (List Nat) := (leastsL w n).map (partL w)
noncomputable def partsL (w : Web) : List (List Nat) := partsN w w.1.length
theorem leastsL_succ (w : Web) (n : Nat) : leastsL w (n + 1) = leastsL w n ++ if dec (Lst w n) = true then [n] else [] := by
  unfold leastsL
  rw [List.range_succ, List.filter_append]
  congr 1
  by_cases c : dec (Lst w n) = true
  · rw [if_pos c]; simp [c]
  · rw [if_neg c]; simp [c]
theorem partsN_succ (w : Web) (n : Nat) : partsN w (n + 1) = partsN w n ++ if dec (Lst w n) = true then [partL w n] else [] := by
  unfold partsN
  rw [leastsL_succ, List.map_append]
  congr 1
  split <;> rfl
theorem partsN_len (w : Web) (n : Nat) : (partsN w n).length ≤ n := by
  unfold partsN leastsL
  rw [List.length_map]
  exact Nat.le_trans (List.length_filter_le _ _) (by rw [List.length_range]; exact Nat.le_refl _)
/-- a place that none of the lesser ones comes to is least -/
theorem seen_iff {w : Web} (W : WOk w) {n : Nat} : (∃ a, a < n ∧ Rch w.2 a n) ↔ ¬ Lst w n := by
  constructor
  · rintro ⟨a, h1, h2⟩ l
    have := l a (h2.symm W)
    omega
  · intro h
    unfold Lst at h
    obtain ⟨b, hb⟩ := Classical.not_forall.mp h
    obtain ⟨h1, h2⟩ := Classical.not_imp.mp hb
    exact ⟨b, by omega, h1.symm W⟩
/-! ### the least place that one comes to, by turns -/
def Dn (ts : List Tie) : Nat → Nat → Nat → Prop
  | 0, p, q => p = q
  | k + 1, p, q => Dn ts k p q ∨ ∃ r, r ∈ nb ts p ∧ Dn ts k r q
theorem Dn.mono {ts : List Tie} {k p q : Nat} (h : Dn ts k p q) : ∀ m, Dn ts (k + m) p q
  | 0 => h
  | m + 1 => .inl (Dn.mono h m)
theorem filter_lt {α : Type} {P Q : α → Bool} : ∀ {l : List α}, (∀ x ∈ l, P x = true → Q x = true) → (∃ x ∈ l, Q x = true ∧ P x = false) → (l.filter P).length < (l.filter Q).length
  | [], _, ⟨x, h, _⟩ => absurd h (by simp)
  | y :: l, i, ⟨x, h, h1, h2⟩ => by
    have le : ∀ {l : List α}, (∀ x ∈ l, P x = true → Q x = true) → (l.filter P).length ≤ (l.filter Q).length := fun {l} i => by
      induction l with
      | nil => exact Nat.le_refl _
      | cons a r ih =>
        have ihr := ih fun x hx => i x (List.mem_cons_of_mem _ hx)
        by_cases c : P a = true
        · rw [List.filter_cons_of_pos c, List.filter_cons_of_pos (i a List.mem_cons_self c)]
          exact Nat.succ_le_succ ihr
        · rw [List.filter_cons_of_neg c]
          by_cases d : Q a = true
          · rw [List.filter_cons_of_pos d]; exact Nat.le_succ_of_le ihr
          · rw [List.filter_cons_of_neg d]; exact ihr
    have il : ∀ x ∈ l, P x = true → Q x = true := fun x hx => i x (List.mem_cons_of_mem _ hx)
    rcases List.mem_cons.mp h with z | z
    · subst z
      rw [List.filter_cons_of_neg (by rw [h2]; simp), List.filter_cons_of_pos h1]
      exact Nat.lt_succ_of_le (le il)
    · have ih := filter_lt il ⟨x, z, h1, h2⟩
      by_cases c : P y = true
      · rw [List.filter_cons_of_pos c, List.filter_cons_of_pos (i y List.mem_cons_self c)]
        exact Nat.succ_lt_succ ih
      · rw [List.filter_cons_of_neg c]
        by_cases d : Q y = true
        · rw [List.filter_cons_of_pos d]; exact Nat.lt_succ_of_lt ih
        · rw [List.filter_cons_of_neg d]; exact ih
/-- as many turns as there are places are enough -/
theorem dn_all {w : Web} (W : WOk w) {p q : Nat} (hq : q < w.1.length) (h : Rch w.2 p q) : Dn w.2 w.1.length p q := by
  have grow : ∀ k, (∀ a r, r ∈ nb w.2 a → Dn w.2 k r q → Dn w.2 k a q) ∨ k + 1 ≤ ((List.range w.1.length).filter fun a => dec (Dn w.2 k a q)).length := by
    intro k
    induction k with
    | zero =>
      right
      have : q ∈ (List.range w.1.length).filter fun a => dec (Dn w.2 0 a q) := List.mem_filter.mpr ⟨List.mem_range.mpr hq, dec_true rfl⟩
      exact List.length_pos_of_mem this
    | succ k ih =>
      rcases Classical.em (∀ a r, r ∈ nb w.2 a → Dn w.2 k r q → Dn w.2 k a q) with c | c
      · left
        have back : ∀ a, Dn w.2 (k + 1) a q → Dn w.2 k a q := fun a d => by
          rcases d with d | ⟨r, h1, h2⟩
          · exact d
          · exact c a r h1 h2
        intro a r h1 h2
        exact .inl (c a r h1 (back r h2))
      · right
        rcases ih with ih | ih
        · exact absurd ih c
        obtain ⟨a, ha⟩ := Classical.not_forall.mp c
        obtain ⟨r, hr⟩ := Classical.not_forall.mp ha
        obtain ⟨h1, hr⟩ := Classical.not_imp.mp hr
        obtain ⟨h2, h3⟩ := Classical.not_imp.mp hr
        have lt := filter_lt (l := List.range w.1.length) (P := fun a => dec (Dn w.2 k a q)) (Q := fun a => dec (Dn w.2 (k + 1) a q)) (fun x _ hx => dec_true (.inl (dec_iff.mp hx)))
          ⟨a, List.mem_range.mpr (nb_lt W h1).1, dec_true (.inr ⟨r, h1, h2⟩), dec_false h3⟩
        omega
  have closed : ∀ a r, r ∈ nb w.2 a → Dn w.2 w.1.length r q → Dn w.2 w.1.length a q := by
    rcases grow w.1.length with c | c
    · exact c
    · have := List.length_filter_le (fun a => dec (Dn w.2 w.1.length a q)) (List.range w.1.length)
      rw [List.length_range] at this
      omega
  have d0 : Dn w.2 w.1.length q q := by
    have z := Dn.mono (show Dn w.2 0 q q from rfl) w.1.length
    rw [Nat.zero_add] at z
    exact z
  have go : ∀ x, Rch w.2 p x → Dn w.2 w.1.length x q → Dn w.2 w.1.length p q := by
    intro x hx
    induction hx with
    | base => exact id
    | step _ m ih => exact fun d => ih (closed _ _ m d)
  exact go q h d0
/-- what the labels are while they sink: of its own part, and no greater than what k steps come to -/
structure Lab (w : Web) (k : Nat) (ls : List Nat) : Prop where
  len : ls.length = w.1.length
  own : ∀ (p l : Nat), ls[p]? = some l → Rch w.2 p l
  low : ∀ (p l q : Nat), ls[p]? = some l → Dn w.2 k p q → l ≤ q
/-- within a turn: i ties are done -/
structure LabT (w : Web) (k i : Nat) (old ls : List Nat) : Prop where
  len : ls.length = w.1.length
  own : ∀ (p l : Nat), ls[p]? = some l → Rch w.2 p l
  sink : ∀ (p l m : Nat), ls[p]? = some l → old[p]? = some m → l ≤ m
  done : ∀ t ∈ w.2.take i, ∀ (l m : Nat), (ls[t.1]? = some l → old[t.2.1]? = some m → l ≤ m) ∧ (ls[t.2.1]? = some l → old[t.1]? = some m → l ≤ m)
theorem Lab.start (w : Web) : Lab w 0 (List.range w.1.length) := by
  refine ⟨List.length_range, fun p l h => ?_, fun p l q h d => ?_⟩
  · obtain ⟨h1, h2⟩ := List.getElem?_eq_some_iff.mp h
    rw [List.getElem_range] at h2
    subst h2
    exact .base
  · obtain ⟨h1, h2⟩ := List.getElem?_eq_some_iff.mp h
    rw [List.getElem_range] at h2
    have : p = q := d
    omega
theorem LabT.start {w : Web} {k : Nat} {ls : List Nat} (L : Lab w k ls) : LabT w k 0 ls ls :=
  ⟨L.len, L.own, fun p l m h1 h2 => by rw [h1] at h2; cases h2; exact Nat.le_refl _, fun t ht => by simp at ht⟩
theorem LabT.tie {w : Web} (W : WOk w) {k i : Nat} {old ls : List Nat} (T : LabT w k i old ls) {t : Tie} (ht : w.2[i]? = some t) {l m : Nat} (hl : ls[t.1]? = some l) (hm : ls[t.2.1]? = some m) :
    LabT w k (i + 1) old ((ls.set t.1 (min l m)).set t.2.1 (min l m)) := by
  have r := W.ends t (List.mem_of_getElem? ht)
  have n1 : t.1 < ls.length := by rw [T.len]; omega
  have n2 : t.2.1 < ls.length := by rw [T.len]; omega
  have adj : t.2.1 ∈ nb w.2 t.1 := (mem_nb W).mpr ⟨t, List.mem_of_getElem? ht, at2_iff.mpr (.inl ⟨rfl, rfl⟩)⟩
  have at_ : ∀ p, ((ls.set t.1 (min l m)).set t.2.1 (min l m))[p]? = if p = t.1 ∨ p = t.2.1 then some (min l m) else ls[p]? := fun p => by
    by_cases c2 : t.2.1 = p
    · subst c2
      rw [List.getElem?_set_self (by rw [List.length_set]; exact n2), if_pos (.inr rfl)]
    · rw [List.getElem?_set_ne c2]
      by_cases c1 : t.1 = p
      · subst c1
        rw [List.getElem?_set_self n1, if_pos (.inl rfl)]
      · rw [List.getElem?_set_ne c1, if_neg (by intro z; rcases z with z | z; exact c1 z.symm; exact c2 z.symm)]
  have rl := T.own _ _ hl
  have rm := T.own _ _ hm
  have down : ∀ p x y, ((ls.set t.1 (min l m)).set t.2.1 (min l m))[p]? = some x → ls[p]? = some y → x ≤ y := fun p x y hx hy => by
    rw [at_] at hx
    split at hx
    · rename_i c
      have e := (Option.some.inj hx).symm
      subst e
      rcases c with c | c
      · subst c; rw [hl] at hy; cases hy; exact Nat.min_le_left _ _
      · subst c; rw [hm] at hy; cases hy; exact Nat.min_le_right _ _
    · rw [hx] at hy; cases hy; exact Nat.le_refl _
  have here : ∀ p x, ((ls.set t.1 (min l m)).set t.2.1 (min l m))[p]? = some x → ∃ y, ls[p]? = some y := fun p x hx => by
    have := (List.getElem?_eq_some_iff.mp hx).1
    rw [List.length_set, List.length_set] at this
    exact ⟨_, List.getElem?_eq_getElem this⟩
  refine ⟨by rw [List.length_set, List.length_set]; exact T.len, fun p x hx => ?_, fun p x y hx hy => ?_, fun u hu x y => ⟨fun hx hy => ?_, fun hx hy => ?_⟩⟩
  · rw [at_] at hx
    split at hx
    · rename_i c
      have e := (Option.some.inj hx).symm
      subst e
      have to1 : Rch w.2 t.1 (min l m) := by
        rcases Nat.le_total l m with z | z
        · rw [Nat.min_eq_left z]; exact rl
        · rw [Nat.min_eq_right z]; exact Rch.trans (Rch.base.step adj) rm
      rcases c with c | c
      · subst c; exact to1
      · subst c; exact Rch.trans (Rch.base.step (nb_symm W adj)) to1
    · exact T.own p x hx
  · obtain ⟨z, hz⟩ := here p x hx
    exact Nat.le_trans (down p x z hx hz) (T.sink p z y hz hy)
  · rw [take_snoc ht] at hu
    rcases List.mem_append.mp hu with hu | hu
    · obtain ⟨z, hz⟩ := here _ x hx
      exact Nat.le_trans (down _ x z hx hz) ((T.done u hu z y).1 hz hy)
    · rw [List.mem_singleton.mp hu] at hx hy
      rw [at_, if_pos (.inl rfl)] at hx
      cases hx
      exact Nat.le_trans (Nat.min_le_right _ _) (T.sink _ m y hm hy)
  · rw [take_snoc ht] at hu
    rcases List.mem_append.mp hu with hu | hu
    · obtain ⟨z, hz⟩ := here _ x hx
      exact Nat.le_trans (down _ x z hx hz) ((T.done u hu z y).2 hz hy)
    · rw [List.mem_singleton.mp hu] at hx hy
      rw [at_, if_pos (.inr rfl)] at hx
      cases hx
      exact Nat.le_trans (Nat.min_le_left _ _) (T.sink _ l y hl hy)
theorem LabT.turn {w : Web} (W : WOk w) {k : Nat} {old ls : List Nat} (L : Lab w k old) (T : LabT w k w.2.length old ls) : Lab w (k + 1) ls := by
  refine ⟨T.len, T.own, fun p l q hl d => ?_⟩
  have hp : p < old.length := by rw [L.len, ← T.len]; exact (List.getElem?_eq_some_iff.mp hl).1
  have ho := List.getElem?_eq_getElem hp
  rcases d with d | ⟨r, h1, h2⟩
  · exact Nat.le_trans (T.sink p l _ hl ho) (L.low p _ q ho d)
  · obtain ⟨t, ht, e⟩ := (mem_nb W).mp h1
    have hr : r < old.length := by rw [L.len]; exact (nb_lt W h1).2
    have hr' := List.getElem?_eq_getElem hr
    have tm : t ∈ w.2.take w.2.length := by rw [List.take_length]; exact ht
    have dn := T.done t tm l old[r]
    have le : l ≤ old[r] := by
      rcases at2_iff.mp e with ⟨a, b⟩ | ⟨a, b⟩
      · exact dn.1 (by rw [a]; exact hl) (by rw [b]; exact hr')
      · exact dn.2 (by rw [b]; exact hl) (by rw [a]; exact hr')
    exact Nat.le_trans le (L.low r _ q hr' h2)
/-- at the end: each label is the least place of its part -/
theorem Lab.end_ {w : Web} (W : WOk w) {ls : List Nat} (L : Lab w w.1.length ls) {p l : Nat} (h : ls[p]? = some l) : Rch w.2 p l ∧ Lst w l := by
  have hp : p < w.1.length := by rw [← L.len]; exact (List.getElem?_eq_some_iff.mp h).1
  have r := L.own p l h
  refine ⟨r, fun b hb => ?_⟩
  have rb := r.trans hb
  exact L.low p l b h (dn_all W (rb.lt W hp) rb)
theorem lst_uniq {w : Web} (W : WOk w) {a b : Nat} (ha : Lst w a) (hb : Lst w b) (h : Rch w.2 a b) : a = b := by
  have h1 := ha b h
  have h2 := hb a (h.symm W)
  omega
theorem Lab.is_ {w : Web} (W : WOk w) {ls : List Nat} (L : Lab w w.1.length ls) {p l a : Nat} (h : ls[p]? = some l) (ha : Lst w a) : l = a ↔ Rch w.2 a p := by
  obtain ⟨h1, h2⟩ := L.end_ W h
  constructor
  · rintro rfl
    exact h1.symm W
  · intro z
    exact (lst_uniq W ha h2 (z.trans h1)).symm
theorem labs_mem {w : Web} (W : WOk w) {ls : List Nat} (L : Lab w w.1.length ls) (x : Nat) : x ∈ ls ↔ x ∈ leastsL w w.1.length := by
  unfold leastsL
  rw [List.mem_filter, List.mem_range, dec_iff]
  constructor
  · intro h
    obtain ⟨p, hp⟩ := List.getElem?_of_mem h
    obtain ⟨h1, h2⟩ := L.end_ W hp
    have hp' : p < w.1.length := by rw [← L.len]; exact (List.getElem?_eq_some_iff.mp hp).1
    exact ⟨h1.lt W hp', h2⟩
  · rintro ⟨h1, h2⟩
    have hx : x < ls.length := by rw [L.len]; exact h1
    have g := List.getElem?_eq_getElem hx
    have e := (L.is_ W g h2).mpr .base
    rw [e] at g
    exact List.mem_of_getElem? g
theorem leasts_rise (w : Web) (n : Nat) : (leastsL w n).Pairwise (· < ·) := List.Pairwise.filter _ List.pairwise_lt_range
theorem mem_leasts {w : Web} {n x : Nat} (h : x ∈ leastsL w n) : x < n ∧ Lst w x := by
  unfold leastsL at h
  rw [List.mem_filter, List.mem_range, dec_iff] at h
  exact h
theorem labs_part {w : Web} (W : WOk w) {ls : List Nat} (L : Lab w w.1.length ls) {a : Nat} (ha : Lst w a) : ((List.range w.1.length).filter fun p => decide (ls[p]? = some a)) = partL w a := by
  unfold partL
  refine List.filter_congr fun p hp => ?_
  have hp' : p < ls.length := by rw [L.len]; exact List.mem_range.mp hp
  have g := List.getElem?_eq_getElem hp'
  rw [Bool.eq_iff_iff, dec_iff, decide_eq_true_eq, g, Option.some.injEq]
  exact L.is_ W g ha

/-! ### a def's code told to its body -/
section
variable {P : Program} {w : World} {K : PySem.W.Frag} {mg : Str → Option Value} {base : Heap}
theorem funOkC {x qual : Str} {st : Stmt} {f : Addr} {fd : FuncData} {N ps : List Str} {k : Nat} {sp : Sp} (F : Fun K x qual st f fd) (S : FnScope N ps (defScope st)) (len : ∀ vs H Q E, sp vs H Q E → vs.length = ps.length)
    (hbody : ∀ (cdv : Value), PySem.W.codeIn K cdv qual = true → ∀ (A : Around) (outer : List Env) (s : Shared) (H : Hp) (vs : List V) (Q : VK) (E : XK), Room k (A.deeper (envOfC qual (defScope st) s.heap.objs.size f cdv)) → sp vs H Q E →
      ∃ t, PSs (cxOf CX0 P w K mg base N qual (defScope st) f cdv A outer s H E).nox (defBody st) t ∧ t { nx := fun _ H' => Q .non H', rt := Q } (start N vs) H) : FnOk P w K mg base CX0 (k + 1) f fd ps sp := by
  obtain ⟨oc, od, kV, doc, pm, an, cdv, ct, osl, rfl, lk, hcd⟩ := F.ex
  refine fn_of lk hcd S len fun A outer s H vs Q E hr hsp => ?_
  obtain ⟨t, h, q⟩ := hbody cdv hcd A outer s H vs Q E hr hsp
  exact ⟨t, h.nox, q⟩
end
/-! ### a set of places -/
theorem cr_set0w {X : Cx} {wd : World} (hw : X.w = wd) : CallR X (.type "set") (rSet0 wd) := by
  subst hw
  exact cr_set0
def SetN (wd : World) (H : Hp) (S : Addr) (ms : List Nat) : Prop := ∃ Sx n, H S = some (SetO wd S Sx n) ∧ n ≤ ms.length ∧ (ms.Nodup → n = ms.length) ∧ ∀ k : Int, Sx k = true ↔ ∃ q : Nat, k = (q : Int) ∧ q ∈ ms
section
variable {wd : World} {K : PySem.W.Frag} {H H' : Hp} {S : Addr} {ms : List Nat} {q : Nat} {Q : VK}
theorem SetN.new (h : H S = some (SetO wd S (fun _ => false) 0)) : SetN wd H S [] := ⟨_, 0, h, Nat.le_refl _, fun _ => rfl, fun k => by simp⟩
theorem SetN.same (x : SetN wd H S ms) (s : Same H H') : SetN wd H' S ms := by
  obtain ⟨a, n, e, r⟩ := x
  exact ⟨a, n, s _ _ e, r⟩
theorem SetN.at_ (x : SetN wd H S ms) {b : Addr} {o : HO} (n : b ≠ S) : SetN wd (upd H b o) S ms := by
  obtain ⟨a, m, e, r⟩ := x
  exact ⟨a, m, by rw [upd_ne n.symm]; exact e, r⟩
theorem SetN.ne (x : SetN wd H S ms) {b : Addr} {ys : List V} (e : H b = some (.lst ys)) : b ≠ S := by
  obtain ⟨a, m, e', r⟩ := x
  exact ne_of e e' (by intro z; cases z)
theorem d_snotin (x : SetN wd H S ms) (k : Q (.bl (!decide (q ∈ ms))) H) : rSNotIn wd (.int (q : Nat)) (.ref S) H Q := by
  obtain ⟨Sx, n, e, l, l', m⟩ := x
  refine ⟨q, S, Sx, n, rfl, rfl, e, ?_⟩
  have : Sx (q : Nat) = decide (q ∈ ms) := by
    rw [Bool.eq_iff_iff, decide_eq_true_eq, m]
    constructor
    · rintro ⟨q', h1, h2⟩
      have : q = q' := by omega
      rw [this]; exact h2
    · intro h
      exact ⟨q, rfl, h⟩
  rw [this]
  exact k
theorem d_tsadd {to : TE} {t : TA} {σ : L2.St} (h : to σ H fun x H1 => (∃ a S n, x = V.ref a ∧ H1 a = some (SetO wd a S n)) ∧ t σ H1 fun xs H2 => rSAdd wd x xs H2 Q) : tSAdd wd to t σ H Q := h
theorem d_sadd0 (x : SetN wd H S ms) {C : Prop} (h : C) : (∃ a Sx n, V.ref S = V.ref a ∧ H a = some (SetO wd a Sx n)) ∧ C := by
  obtain ⟨a, n, e, r⟩ := x
  exact ⟨⟨S, a, n, rfl, e⟩, h⟩
theorem d_sadd (x : SetN wd H S ms) (few : ms.length ≤ 4000) (k : ∀ o ms', SetN wd (upd H S o) S ms' → (∀ y, y ∈ ms' ↔ y ∈ ms ∨ y = q) → ms'.length ≤ ms.length + 1 → (q ∉ ms → ms' = ms ++ [q]) → Q .non (upd H S o)) : rSAdd wd (.ref S) [.int (q : Nat)] H Q := by
  obtain ⟨Sx, n, e, l, l', m⟩ := x
  refine ⟨S, q, Sx, n, rfl, rfl, e, by unfold scanBound; omega, ?_⟩
  have mem : ∀ j : Int, (Sx j || decide (j = (q : Int))) = true ↔ ∃ y : Nat, j = (y : Int) ∧ (y ∈ ms ∨ y = q) := fun j => by
    rw [Bool.or_eq_true, m, decide_eq_true_eq]
    constructor
    · rintro (⟨y, h1, h2⟩ | h)
      · exact ⟨y, h1, .inl h2⟩
      · exact ⟨q, h, .inr rfl⟩
    · rintro ⟨y, h1, h2 | h2⟩
      · exact .inl ⟨y, h1, h2⟩
      · exact .inr (by rw [h1, h2])
  by_cases c : q ∈ ms
  · have c' : Sx (q : Nat) = true := (m _).mpr ⟨q, rfl, c⟩
    rw [if_pos c']
    refine k _ ms ⟨_, n, upd_same, l, l', fun j => ?_⟩ (fun y => ⟨.inl, fun h => h.elim id fun z => z ▸ c⟩) (by omega) fun z => absurd c z
    rw [mem]
    exact ⟨fun ⟨y, h1, h2⟩ => ⟨y, h1, h2.elim id fun z => z ▸ c⟩, fun ⟨y, h1, h2⟩ => ⟨y, h1, .inl h2⟩⟩
  · have c' : ¬ Sx (q : Nat) = true := fun z => by
      obtain ⟨y, h1, h2⟩ := (m _).mp z
      have : q = y := by omega
      exact c (this ▸ h2)
    rw [if_neg c']
    refine k _ (ms ++ [q]) ⟨_, n + 1, upd_same, by rw [List.length_append]; show n + 1 ≤ ms.length + 1; omega, fun nd => ?_, fun j => ?_⟩ (fun y => by rw [List.mem_append, List.mem_singleton]) (by rw [List.length_append]; exact Nat.le_refl _) fun _ => rfl
    · rw [List.length_append, l' (List.nodup_append.mp nd).1]; rfl
    · rw [mem]
      exact ⟨fun ⟨y, h1, h2⟩ => ⟨y, h1, by rw [List.mem_append, List.mem_singleton]; exact h2⟩, fun ⟨y, h1, h2⟩ => ⟨y, h1, by rw [List.mem_append, List.mem_singleton] at h2; exact h2⟩⟩
theorem nats_of {ns : List Int} {l : List Nat} (s : ns.Pairwise (· < ·)) (sl : l.Pairwise (· < ·)) (m : ∀ k, k ∈ ns ↔ ∃ q : Nat, k = (q : Int) ∧ q ∈ l) : ns = zs l := by
  have nn : ∀ k ∈ ns, 0 ≤ k := fun k hk => by
    obtain ⟨q, h, _⟩ := (m k).mp hk
    omega
  have e1 : zs (ns.map Int.toNat) = ns := by
    unfold zs
    rw [List.map_map]
    refine (List.map_congr_left fun k hk => ?_).trans (List.map_id _)
    show ((k.toNat : Nat) : Int) = k
    exact Int.toNat_of_nonneg (nn k hk)
  rw [← e1]
  congr 1
  refine sorted_ext ?_ sl fun x => ?_
  · rw [List.pairwise_map]
    refine s.imp_of_mem fun {x y} hx hy h => ?_
    have := nn x hx
    have := nn y hy
    omega
  · rw [List.mem_map]
    constructor
    · rintro ⟨k, h1, h2⟩
      obtain ⟨q, h3, h4⟩ := (m k).mp h1
      have : x = q := by omega
      rw [this]; exact h4
    · intro h
      exact ⟨(x : Int), (m _).mpr ⟨x, rfl, h⟩, by simp⟩
theorem d_ssort (x : SetN wd H S ms) {l : List Nat} (nd : ms.Nodup) (few : ms.length < 64) (sl : l.Pairwise (· < ·)) (m : ∀ y, y ∈ ms ↔ y ∈ l) (k : ∀ p, H p = none → Q (.ref p) (upd H p (.lst (l.map fun y => V.int (y : Nat))))) : rSortedSet wd [.ref S] H Q := by
  obtain ⟨Sx, n, e, l1, l2, m1⟩ := x
  refine ⟨S, Sx, n, rfl, e, by have := l2 nd; omega, fun ns p s mem len fp => ?_⟩
  have : ns = zs l := nats_of s sl fun j => by
    rw [mem, m1]
    exact ⟨fun ⟨y, h1, h2⟩ => ⟨y, h1, (m y).mp h2⟩, fun ⟨y, h1, h2⟩ => ⟨y, h1, (m y).mpr h2⟩⟩
  rw [this, ← ints_map]
  exact k p fp
end
/-! ### lists of lists of places -/
abbrev natsV (p : List Nat) : List V := p.map fun q => V.int (q : Nat)
def PartsAt (H : Hp) (rs : List Addr) (ps : List (List Nat)) : Prop := Paired (fun r p => H r = some (.lst (natsV p))) rs ps
def partsD (ps : List (List Nat)) : PyData := .list (ps.map fun p => .list ((zs p).map PyData.int))
section
variable {K : PySem.W.Frag} {H H' : Hp} {rs : List Addr} {ps : List (List Nat)}
theorem PartsAt.same (x : PartsAt H rs ps) (s : Same H H') : PartsAt H' rs ps := Paired.imp x fun _ _ e => s _ _ e
theorem PartsAt.keep {h : Addr} (x : PartsAt H rs ps) (k : Keep h H H') (n : h ∉ rs) : PartsAt H' rs ps := by
  induction x with
  | nil => exact .nil
  | cons e _ ih =>
    exact .cons (k _ _ (fun z => n (z ▸ List.mem_cons_self)) e) (ih fun z => n (List.mem_cons_of_mem _ z))
theorem PartsAt.dpa : ∀ {rs : List Addr} {ps : List (List Nat)}, PartsAt H rs ps → DpAll K H (rs.map V.ref) (ps.map fun p => PyData.list ((zs p).map PyData.int))
  | _, _, .nil => .nil
  | _, _, .cons e r => .cons (dp_nats e) (PartsAt.dpa r)
theorem PartsAt.dp {T : Addr} (x : PartsAt H rs ps) (e : H T = some (.lst (rs.map V.ref))) : Dp K H (.ref T) (partsD ps) := .lst (SqL.of e) x.dpa
theorem partsD_good (ps : List (List Nat)) : SeqAt.shaped (partsD ps) = true := by
  refine shaped_list (k := 1) (by decide) fun d hd => ?_
  obtain ⟨p, _, rfl⟩ := List.mem_map.mp hd
  have h := shaped_ints (zs p)
  refine ⟨SeqAt.canLay_of_shaped h, ?_⟩
  have : PyData.depthAll ((zs p).map PyData.int) ≤ 0 := by
    generalize zs p = l
    induction l with
    | nil => simp [PyData.depthAll]
    | cons a l ih => simp [PyData.depthAll, PyData.depth]; omega
  simp only [PyData.depth]; omega
end
theorem cr_setLw {X : Cx} {wd : World} (hw : X.w = wd) (hc : X.calm = true) : CallR X (.type "set") (rSetL X.K wd) := by
  subst hw
  exact cr_setL hc
/-! ### webs beside one another; a row -/
def shiftT (n : Nat) (t : Tie) : Tie := (t.1 + n, t.2.1 + n, t.2.2)
def joinW (u v : Web) : Web := (u.1 ++ v.1, u.2 ++ v.2.map (shiftT u.1.length))
def rowW (u : Web) : Web := (u.1, (List.range (u.1.length - 1)).map fun j => (j, j + 1, 115))
theorem ties_few {ts : List Tie} {n : Nat} (s : ts.Pairwise tlt) (e : ∀ t ∈ ts, t.1 < n ∧ t.2.1 < n) : ts.length ≤ n * n := by
  have h := nodup_len (n * n) (ts.map fun t => t.1 * n + t.2.1) ?_ ?_
  · rw [List.length_map] at h; exact h
  · unfold List.Nodup
    rw [List.pairwise_map]
    refine s.imp_of_mem fun {x y} hx hy h z => ?_
    obtain ⟨a1, a2⟩ := e x hx
    obtain ⟨b1, b2⟩ := e y hy
    unfold tlt at h
    have e1 : (x.1 * n + x.2.1) / n = x.1 := by rw [Nat.add_comm, Nat.add_mul_div_right _ _ (by omega), Nat.div_eq_of_lt a2, Nat.zero_add]
    have e2 : (y.1 * n + y.2.1) / n = y.1 := by rw [Nat.add_comm, Nat.add_mul_div_right _ _ (by omega), Nat.div_eq_of_lt b2, Nat.zero_add]
    have : x.1 = y.1 := by rw [← e1, ← e2, z]
    rw [this] at z
    omega
  · intro x hx
    obtain ⟨t, ht, rfl⟩ := List.mem_map.mp hx
    obtain ⟨a1, a2⟩ := e t ht
    calc t.1 * n + t.2.1 < t.1 * n + n := by omega
      _ = (t.1 + 1) * n := by rw [Nat.add_mul, Nat.one_mul]
      _ ≤ n * n := Nat.mul_le_mul_right _ a1
theorem few_most {n m : Nat} (h : n ≤ 40) (k : m ≤ n * n) : m ≤ 1600 := Nat.le_trans k (Nat.le_trans (Nat.mul_le_mul h h) (by decide))
theorem joinW_ok {u v : Web} (U : WOk u) (V : WOk v) (h : u.1.length + v.1.length ≤ 40) : WOk (joinW u v) := by
  have en : ∀ t ∈ (joinW u v).2, t.1 < t.2.1 ∧ t.2.1 < (joinW u v).1.length ∧ Ltr t.2.2 := fun t ht => by
    unfold joinW at ht ⊢
    dsimp only at ht ⊢
    rw [List.length_append]
    rcases List.mem_append.mp ht with ht | ht
    · obtain ⟨a, b, c⟩ := U.ends t ht
      exact ⟨a, by omega, c⟩
    · obtain ⟨s, hs, rfl⟩ := List.mem_map.mp ht
      obtain ⟨a, b, c⟩ := V.ends s hs
      unfold shiftT
      exact ⟨by dsimp only; omega, by dsimp only; omega, c⟩
  have ri : (joinW u v).2.Pairwise tlt := by
    unfold joinW
    refine List.pairwise_append.mpr ⟨U.rise, ?_, fun x hx y hy => ?_⟩
    · rw [List.pairwise_map]
      refine V.rise.imp fun {x y} h => ?_
      unfold tlt shiftT at *
      dsimp only
      omega
    · obtain ⟨s, hs, rfl⟩ := List.mem_map.mp hy
      obtain ⟨a, b, c⟩ := U.ends x hx
      unfold tlt shiftT
      left
      dsimp only
      omega
  have le : (joinW u v).1.length ≤ 40 := by unfold joinW; rw [List.length_append]; exact h
  refine ⟨le, few_most le (ties_few ri fun t ht => ?_), fun c hc => ?_, ri, en⟩
  · obtain ⟨a, b, _⟩ := en t ht
    omega
  · unfold joinW at hc
    rcases List.mem_append.mp hc with hc | hc
    · exact U.kinds c hc
    · exact V.kinds c hc
theorem rowW_ok {u : Web} (U : WOk u) : WOk (rowW u) := by
  refine ⟨U.few, ?_, U.kinds, ?_, fun t ht => ?_⟩
  · unfold rowW
    rw [List.length_map, List.length_range]
    have := U.few
    omega
  · unfold rowW
    rw [List.pairwise_map]
    refine List.pairwise_lt_range.imp fun {x y} h => ?_
    unfold tlt
    left
    exact h
  · unfold rowW at ht ⊢
    obtain ⟨j, hj, rfl⟩ := List.mem_map.mp ht
    rw [List.mem_range] at hj
    exact ⟨Nat.lt_succ_self _, by dsimp only; omega, by unfold Ltr; dsimp only; omega⟩
theorem wok_nil : WOk ([], []) := ⟨by decide, by decide, by simp, .nil, by simp⟩
theorem partsL_nil : partsL ([], []) = [] := rfl
end Cw

/-! cuts: their ties, their neighbours, cuts of cuts -/
namespace Cw
open PySem PySem.Spec PyProof.Rows L2
theorem posOf_iff {os : List Nat} (nd : os.Nodup) {p i : Nat} : posOf os p = some i ↔ os[i]? = some p := by
  unfold posOf
  rw [List.findIdx?_eq_some_iff_getElem]
  constructor
  · rintro ⟨h, e, _⟩
    rw [List.getElem?_eq_getElem h, beq_iff_eq.mp e]
  · intro h
    obtain ⟨h1, h2⟩ := List.getElem?_eq_some_iff.mp h
    refine ⟨h1, beq_iff_eq.mpr h2, fun j hj => ?_⟩
    have : os[j] ≠ p := fun z => by
      have z2 : os[j] = os[i] := z.trans h2.symm
      have := (List.getElem_inj nd).mp z2
      omega
    simpa using this
theorem posOf_none {os : List Nat} {p : Nat} : posOf os p = none ↔ p ∉ os := by
  unfold posOf
  rw [List.findIdx?_eq_none_iff]
  constructor
  · intro h z
    have := h p z
    simp at this
  · intro h x hx
    simp only [beq_eq_false_iff_ne]
    exact fun z => h (z ▸ hx)
theorem rise_nodup {os : List Nat} (s : os.Pairwise (· < ·)) : os.Nodup := s.imp fun h => Nat.ne_of_lt h
theorem cutTie_some {os : List Nat} (nd : os.Nodup) {t s : Tie} : cutTie os t = some s ↔ os[s.1]? = some t.1 ∧ os[s.2.1]? = some t.2.1 ∧ s.2.2 = t.2.2 := by
  unfold cutTie
  rw [Option.bind_eq_some_iff]
  constructor
  · rintro ⟨a, h1, h2⟩
    obtain ⟨b, h3, h4⟩ := Option.map_eq_some_iff.mp h2
    subst h4
    exact ⟨(posOf_iff nd).mp h1, (posOf_iff nd).mp h3, rfl⟩
  · rintro ⟨h1, h2, h3⟩
    refine ⟨s.1, (posOf_iff nd).mpr h1, ?_⟩
    rw [(posOf_iff nd).mpr h2]
    show some (s.1, s.2.1, t.2.2) = some s
    rw [← h3]
theorem cutTie_at {os : List Nat} (nd : os.Nodup) {i j p q : Nat} (hi : os[i]? = some p) (hj : os[j]? = some q) (t : Tie) : ((cutTie os t).any (at2 i j)) = at2 p q t := by
  rw [Bool.eq_iff_iff, at2_iff]
  constructor
  · intro h
    obtain ⟨s, h1, h2⟩ := (Option.any_eq_true _ _).mp h
    obtain ⟨a, b, _⟩ := (cutTie_some nd).mp h1
    rcases at2_iff.mp h2 with ⟨e1, e2⟩ | ⟨e1, e2⟩
    · rw [e1, hi] at a; rw [e2, hj] at b
      exact .inl ⟨(Option.some.inj a).symm, (Option.some.inj b).symm⟩
    · rw [e1, hj] at a; rw [e2, hi] at b
      exact .inr ⟨(Option.some.inj a).symm, (Option.some.inj b).symm⟩
  · rintro (⟨e1, e2⟩ | ⟨e1, e2⟩)
    · exact (Option.any_eq_true _ _).mpr ⟨(i, j, t.2.2), (cutTie_some nd).mpr ⟨by rw [e1]; exact hi, by rw [e2]; exact hj, rfl⟩, at2_iff.mpr (.inl ⟨rfl, rfl⟩)⟩
    · exact (Option.any_eq_true _ _).mpr ⟨(j, i, t.2.2), (cutTie_some nd).mpr ⟨by rw [e1]; exact hj, by rw [e2]; exact hi, rfl⟩, at2_iff.mpr (.inr ⟨rfl, rfl⟩)⟩
theorem tieL_cut {u : Web} {os : List Nat} (nd : os.Nodup) {i j p q : Nat} (hi : os[i]? = some p) (hj : os[j]? = some q) : tieL (cutL u os).2 i j = tieL u.2 p q := by
  unfold tieL cutL
  dsimp only
  rw [List.find?_filterMap]
  have e : (fun a => (cutTie os a).any (at2 i j)) = at2 p q := funext fun t => cutTie_at nd hi hj t
  rw [e]
  cases h : u.2.find? (at2 p q) with
  | none => rfl
  | some t =>
    have h1 : at2 p q t = true := List.find?_some h
    rw [← cutTie_at nd hi hj] at h1
    obtain ⟨s, h2, _⟩ := (Option.any_eq_true _ _).mp h1
    show (cutTie os t).map (·.2.2) = some t.2.2
    rw [h2]
    exact congrArg some ((cutTie_some nd).mp h2).2.2
theorem at_rise {os : List Nat} (s : os.Pairwise (· < ·)) {i j p q : Nat} (hi : os[i]? = some p) (hj : os[j]? = some q) : i < j ↔ p < q := by
  obtain ⟨h1, rfl⟩ := List.getElem?_eq_some_iff.mp hi
  obtain ⟨h2, rfl⟩ := List.getElem?_eq_some_iff.mp hj
  have s' := List.pairwise_iff_getElem.mp s
  constructor
  · intro h
    exact s' i j h1 h2 h
  · intro h
    rcases Nat.lt_trichotomy i j with c | c | c
    · exact c
    · subst c; omega
    · have := s' j i h2 h1 c; omega
theorem cutL_ok {u : Web} (U : WOk u) {os : List Nat} (s : os.Pairwise (· < ·)) (b : ∀ p ∈ os, p < u.1.length) : WOk (cutL u os) := by
  have nd := rise_nodup s
  have lo : os.length ≤ u.1.length := nodup_len _ _ nd b
  have l40 := U.few
  refine ⟨by unfold cutL; rw [List.length_map]; omega, ?_, fun c hc => ?_, ?_, fun t ht => ?_⟩
  · have := List.length_filterMap_le (cutTie os) u.2
    have := U.most
    unfold cutL
    dsimp only
    omega
  · unfold cutL at hc
    obtain ⟨p, hp, rfl⟩ := List.mem_map.mp hc
    have := b p hp
    rw [List.getD_eq_getElem?_getD, List.getElem?_eq_getElem this]
    exact U.kinds _ (List.getElem_mem _)
  · unfold cutL
    dsimp only
    refine List.Pairwise.filterMap (cutTie os) (fun a a' h x hx y hy => ?_) U.rise
    obtain ⟨x1, x2, _⟩ := (cutTie_some nd).mp (Option.mem_def.mp hx)
    obtain ⟨y1, y2, _⟩ := (cutTie_some nd).mp (Option.mem_def.mp hy)
    unfold tlt at *
    rcases h with h | ⟨h1, h2⟩
    · exact .inl ((at_rise s x1 y1).mpr h)
    · right
      refine ⟨?_, (at_rise s x2 y2).mpr h2⟩
      rw [h1] at x1
      have e1 := (posOf_iff nd).mpr x1
      have e2 := (posOf_iff nd).mpr y1
      rw [e1] at e2
      exact Option.some.inj e2
  · unfold cutL at ht ⊢
    dsimp only at ht ⊢
    obtain ⟨t0, h0, h1⟩ := List.mem_filterMap.mp ht
    obtain ⟨a, b', c⟩ := (cutTie_some nd).mp h1
    obtain ⟨d, e, f⟩ := U.ends t0 h0
    refine ⟨(at_rise s a b').mpr d, ?_, by rw [c]; exact f⟩
    rw [List.length_map]
    exact (List.getElem?_eq_some_iff.mp b').1
theorem nb_cut {u : Web} (U : WOk u) {os : List Nat} (s : os.Pairwise (· < ·)) (b : ∀ p ∈ os, p < u.1.length) {i p : Nat} (hi : os[i]? = some p) :
    (nb (cutL u os).2 i).map (fun j => os.getD j 0) = (nb u.2 p).filter fun q => decide (q ∈ os) := by
  have nd := rise_nodup s
  have C := cutL_ok U s b
  have lc : (cutL u os).1.length = os.length := by unfold cutL; rw [List.length_map]
  have mem : ∀ j, j ∈ nb (cutL u os).2 i ↔ ∃ q, os[j]? = some q ∧ q ∈ nb u.2 p := fun j => by
    rw [nb_eq C, nb_eq U, List.mem_filter, List.mem_range, lc]
    constructor
    · rintro ⟨h1, h2⟩
      have hj := List.getElem?_eq_getElem h1
      refine ⟨_, hj, List.mem_filter.mpr ⟨List.mem_range.mpr (b _ (List.getElem_mem h1)), ?_⟩⟩
      rw [← tieL_cut nd hi hj]
      exact h2
    · rintro ⟨q, h1, h2⟩
      refine ⟨(List.getElem?_eq_some_iff.mp h1).1, ?_⟩
      rw [tieL_cut nd hi h1]
      exact (List.mem_filter.mp h2).2
  have getD : ∀ {j q}, os[j]? = some q → os.getD j 0 = q := fun {j q} h => by rw [List.getD_eq_getElem?_getD, h]; rfl
  refine sorted_ext ?_ ((nb_rise U.rise (fun t ht => (U.ends t ht).1) p).filter _) fun x => ?_
  · rw [List.pairwise_map]
    refine (nb_rise C.rise (fun t ht => (C.ends t ht).1) i).imp_of_mem fun {x y} hx hy h => ?_
    obtain ⟨q1, h1, _⟩ := (mem x).mp hx
    obtain ⟨q2, h2, _⟩ := (mem y).mp hy
    rw [getD h1, getD h2]
    exact (at_rise s h1 h2).mp h
  · rw [List.mem_map, List.mem_filter, decide_eq_true_eq]
    constructor
    · rintro ⟨j, h1, rfl⟩
      obtain ⟨q, h2, h3⟩ := (mem j).mp h1
      rw [getD h2]
      exact ⟨h3, List.mem_of_getElem? h2⟩
    · rintro ⟨h1, h2⟩
      obtain ⟨j, hj⟩ := List.getElem?_of_mem h2
      exact ⟨j, (mem j).mpr ⟨x, hj, h1⟩, getD hj⟩
theorem posOf_comp {os ls : List Nat} (no : os.Nodup) (nl : ls.Nodup) (b : ∀ k ∈ ls, k < os.length) (x : Nat) : posOf (ls.map fun k => os.getD k 0) x = (posOf os x).bind (posOf ls) := by
  have getD : ∀ {j}, (h : j < os.length) → os.getD j 0 = os[j] := fun {j} h => by rw [List.getD_eq_getElem?_getD, List.getElem?_eq_getElem h]; rfl
  have nm : (ls.map fun k => os.getD k 0).Nodup := by
    unfold List.Nodup
    rw [List.pairwise_map]
    refine nl.imp_of_mem fun {x y} hx hy h z => h ?_
    rw [getD (b x hx), getD (b y hy)] at z
    exact (List.getElem_inj no).mp z
  refine Option.ext fun i => ?_
  rw [posOf_iff nm, Option.bind_eq_some_iff, List.getElem?_map, Option.map_eq_some_iff]
  constructor
  · rintro ⟨k, h1, h2⟩
    have hk := b k (List.mem_of_getElem? h1)
    rw [getD hk] at h2
    refine ⟨k, (posOf_iff no).mpr (by rw [List.getElem?_eq_getElem hk, h2]), (posOf_iff nl).mpr h1⟩
  · rintro ⟨k, h1, h2⟩
    have h1 := (posOf_iff no).mp h1
    refine ⟨k, (posOf_iff nl).mp h2, ?_⟩
    rw [List.getD_eq_getElem?_getD, h1]; rfl
theorem cut_cut (u : Web) {os ls : List Nat} (no : os.Nodup) (nl : ls.Nodup) (b : ∀ k ∈ ls, k < os.length) : cutL (cutL u os) ls = cutL u (ls.map fun k => os.getD k 0) := by
  unfold cutL
  refine Prod.ext ?_ ?_
  · dsimp only
    rw [List.map_map]
    refine List.map_congr_left fun k hk => ?_
    have := b k hk
    simp [List.getD_eq_getElem?_getD, this]
  · dsimp only
    rw [List.filterMap_filterMap]
    congr 1
    funext t
    unfold cutTie
    rw [posOf_comp no nl b, posOf_comp no nl b]
    cases posOf os t.1 <;> cases posOf os t.2.1 <;> simp
end Cw

/-! parts of webs with a tie more, of webs without ties, of cuts -/
namespace Cw
open PySem PySem.Spec PyProof.Rows L2
theorem rch_nil {a b : Nat} : Rch [] a b ↔ a = b := by
  constructor
  · intro h
    induction h with
    | base => rfl
    | step _ m _ => simp [nb] at m
  · rintro rfl
    exact .base
theorem partsL_none (cs : List Nat) : partsL (cs, []) = (List.range cs.length).map fun a => [a] := by
  have l : ∀ a, Lst (cs, []) a := fun a b h => by
    have := rch_nil.mp h
    omega
  have e : leastsL (cs, []) cs.length = List.range cs.length := by
    unfold leastsL
    exact List.filter_eq_self.mpr fun a _ => dec_true (l a)
  unfold partsL partsN
  dsimp only
  rw [e]
  refine List.map_congr_left fun a ha => ?_
  have ha' := List.mem_range.mp ha
  refine sorted_ext (partL_rise _ _) (by simp) fun x => ?_
  unfold partL
  rw [List.mem_filter, dec_iff, List.mem_range, List.mem_singleton]
  constructor
  · rintro ⟨_, h⟩
    exact (rch_nil.mp h).symm
  · rintro rfl
    exact ⟨ha', .base⟩
/-- a tie more, between x and y -/
structure More (u u' : Web) (x y : Nat) : Prop where
  lt : x ≠ y
  same : u'.1.length = u.1.length
  adj : ∀ p q, q ∈ nb u'.2 p ↔ q ∈ nb u.2 p ∨ (p = x ∧ q = y) ∨ (p = y ∧ q = x)
section
variable {u u' : Web} {x y : Nat}
theorem More.swap (M : More u u' x y) : More u u' y x := ⟨M.lt.symm, M.same, fun p q => by rw [M.adj]; exact ⟨fun h => h.elim .inl fun h => .inr h.symm, fun h => h.elim .inl fun h => .inr h.symm⟩⟩
theorem More.up (M : More u u' x y) {a b : Nat} (h : Rch u.2 a b) : Rch u'.2 a b := by
  induction h with
  | base => exact .base
  | step _ m ih => exact ih.step ((M.adj _ _).mpr (.inl m))
theorem More.iff (M : More u u' x y) {a b : Nat} : Rch u'.2 a b ↔ Rch u.2 a b ∨ (Rch u.2 a x ∧ Rch u.2 y b) ∨ (Rch u.2 a y ∧ Rch u.2 x b) := by
  constructor
  · intro h
    induction h with
    | base => exact .inl .base
    | step _ m ih =>
      rcases (M.adj _ _).mp m with m | ⟨rfl, rfl⟩ | ⟨rfl, rfl⟩
      · rcases ih with h | ⟨h1, h2⟩ | ⟨h1, h2⟩
        · exact .inl (h.step m)
        · exact .inr (.inl ⟨h1, h2.step m⟩)
        · exact .inr (.inr ⟨h1, h2.step m⟩)
      · rcases ih with h | ⟨h1, h2⟩ | ⟨h1, h2⟩
        · exact .inr (.inl ⟨h, .base⟩)
        · exact .inr (.inl ⟨h1, .base⟩)
        · exact .inl h1
      · rcases ih with h | ⟨h1, h2⟩ | ⟨h1, h2⟩
        · exact .inr (.inr ⟨h, .base⟩)
        · exact .inl h1
        · exact .inr (.inr ⟨h1, .base⟩)
  · have s1 : Rch u'.2 x y := Rch.base.step ((M.adj _ _).mpr (.inr (.inl ⟨rfl, rfl⟩)))
    have s2 : Rch u'.2 y x := Rch.base.step ((M.adj _ _).mpr (.inr (.inr ⟨rfl, rfl⟩)))
    rintro (h | ⟨h1, h2⟩ | ⟨h1, h2⟩)
    · exact M.up h
    · exact ((M.up h1).trans s1).trans (M.up h2)
    · exact ((M.up h1).trans s2).trans (M.up h2)
/-- it lies within a part: nothing changes -/
theorem More.within (U : WOk u) (M : More u u' x y) (r : Rch u.2 x y) {a b : Nat} : Rch u'.2 a b ↔ Rch u.2 a b := by
  rw [M.iff]
  constructor
  · rintro (h | ⟨h1, h2⟩ | ⟨h1, h2⟩)
    · exact h
    · exact (h1.trans r).trans h2
    · exact (h1.trans (r.symm U)).trans h2
  · exact .inl
end
/-- each place has a least one -/
theorem least_of {u : Web} (U : WOk u) (a : Nat) : ∃ l, Rch u.2 a l ∧ Lst u l := by
  have h : ∀ n a, a ≤ n → ∃ l, Rch u.2 a l ∧ Lst u l := by
    intro n
    induction n with
    | zero =>
      intro a h
      exact ⟨a, .base, fun b _ => by omega⟩
    | succ n ih =>
      intro a h
      rcases Classical.em (Lst u a) with c | c
      · exact ⟨a, .base, c⟩
      · obtain ⟨b, h1, h2⟩ := (seen_iff U).mpr c
        obtain ⟨l, h3, h4⟩ := ih b (by omega)
        exact ⟨l, (h2.symm U).trans h3, h4⟩
  exact h a a (Nat.le_refl _)
section
variable {u u' : Web} {x y lx ly : Nat}
/-- it joins two parts: the greater of the least places is least no more -/
theorem More.least (U : WOk u) (M : More u u' x y) (h1 : Rch u.2 x lx) (h2 : Lst u lx) (h3 : Rch u.2 y ly) (h4 : Lst u ly) (lt : lx < ly) (a : Nat) : Lst u' a ↔ Lst u a ∧ a ≠ ly := by
  constructor
  · intro h
    refine ⟨fun b hb => h b (M.up hb), ?_⟩
    rintro rfl
    have := h lx (M.iff.mpr (.inr (.inr ⟨h3.symm U, h1⟩)))
    omega
  · rintro ⟨h, ne⟩ b hb
    rcases M.iff.mp hb with hb | ⟨b1, b2⟩ | ⟨b1, b2⟩
    · exact h b hb
    · have e : a = lx := lst_uniq U h h2 (b1.trans h1)
      have := h4 b ((h3.symm U).trans b2)
      omega
    · exact absurd (lst_uniq U h h4 (b1.trans h3)) ne
theorem leasts_filter (U : WOk u) (M : More u u' x y) (h1 : Rch u.2 x lx) (h2 : Lst u lx) (h3 : Rch u.2 y ly) (h4 : Lst u ly) (lt : lx < ly) (n : Nat) : leastsL u' n = (leastsL u n).filter fun a => decide (a ≠ ly) := by
  unfold leastsL
  rw [List.filter_filter]
  refine List.filter_congr fun a _ => ?_
  rw [Bool.eq_iff_iff, dec_iff, Bool.and_eq_true, dec_iff, decide_eq_true_eq, M.least U h1 h2 h3 h4 lt a]
  exact And.comm
theorem filter_one {l : List Nat} (s : l.Pairwise (· < ·)) {a : Nat} (h : a ∈ l) : (l.filter fun b => decide (b ≠ a)).length + 1 = l.length := by
  induction l with
  | nil => cases h
  | cons b r ih =>
    have sr := (List.pairwise_cons.mp s)
    by_cases c : b = a
    · subst c
      rw [List.filter_cons_of_neg (by simp)]
      rw [List.filter_eq_self.mpr fun z hz => by
        have := sr.1 z hz
        simp; omega]
      rfl
    · rw [List.filter_cons_of_pos (by simpa using c)]
      have := ih sr.2 (by
        rcases List.mem_cons.mp h with h | h
        · exact absurd h.symm c
        · exact h)
      simp only [List.length_cons]
      omega
/-- a tie more: as many parts, or one fewer -/
theorem More.count (U : WOk u) (M : More u u' x y) (hx : x < u.1.length) (hy : y < u.1.length) : (partsL u').length ≤ (partsL u).length ∧ (partsL u).length ≤ (partsL u').length + 1 := by
  have len : ∀ w : Web, (partsL w).length = (leastsL w w.1.length).length := fun w => by unfold partsL partsN; rw [List.length_map]
  rw [len, len, M.same]
  obtain ⟨lx, h1, h2⟩ := least_of U x
  obtain ⟨ly, h3, h4⟩ := least_of U y
  have go : ∀ {x y lx ly}, More u u' x y → y < u.1.length → Rch u.2 x lx → Lst u lx → Rch u.2 y ly → Lst u ly → lx < ly → (leastsL u' u.1.length).length + 1 = (leastsL u u.1.length).length := fun {x y lx ly} M hy h1 h2 h3 h4 lt => by
    rw [leasts_filter U M h1 h2 h3 h4 lt]
    refine filter_one (leasts_rise u _) ?_
    unfold leastsL
    exact List.mem_filter.mpr ⟨List.mem_range.mpr (h3.lt U hy), dec_true h4⟩
  rcases Nat.lt_trichotomy lx ly with c | c | c
  · have := go M hy h1 h2 h3 h4 c
    omega
  · subst c
    have r : Rch u.2 x y := h1.trans (h3.symm U)
    have e : leastsL u' u.1.length = leastsL u u.1.length := by
      unfold leastsL
      refine List.filter_congr fun a _ => dec_congr ?_
      unfold Lst
      exact ⟨fun h b hb => h b ((M.within U r).mpr hb), fun h b hb => h b ((M.within U r).mp hb)⟩
    rw [e]
    omega
  · have := go M.swap hx h3 h4 h1 h2 c
    omega
end
/-! ### without one place -/
theorem rch_cut {u : Web} (U : WOk u) {os : List Nat} (s : os.Pairwise (· < ·)) (b : ∀ p ∈ os, p < u.1.length) {i p : Nat} (hi : os[i]? = some p) {j : Nat} (h : Rch (cutL u os).2 i j) : ∃ q, os[j]? = some q ∧ Rch u.2 p q := by
  induction h with
  | base => exact ⟨p, hi, .base⟩
  | step _ m ih =>
    obtain ⟨q, h1, h2⟩ := ih
    have e := nb_cut U s b h1
    have m' := List.mem_map_of_mem (f := fun j => os.getD j 0) m
    rw [e, List.mem_filter, decide_eq_true_eq] at m'
    have C := cutL_ok U s b
    have lt := (nb_lt C m).2
    have lc : (cutL u os).1.length = os.length := by unfold cutL; rw [List.length_map]
    rw [lc] at lt
    rename_i r _ _
    have hr := List.getElem?_eq_getElem lt
    refine ⟨_, hr, h2.step ?_⟩
    have z := m'.1
    rw [List.getD_eq_getElem?_getD, hr] at z
    exact z
theorem rch_cut' {u : Web} (U : WOk u) {os : List Nat} (s : os.Pairwise (· < ·)) (b : ∀ p ∈ os, p < u.1.length) {i p : Nat} (hi : os[i]? = some p) (all : ∀ q, Rch u.2 p q → q ∈ os) {q : Nat} (h : Rch u.2 p q) : ∃ j, os[j]? = some q ∧ Rch (cutL u os).2 i j := by
  induction h with
  | base => exact ⟨i, hi, .base⟩
  | step h0 m ih =>
    obtain ⟨j, h1, h2⟩ := ih
    rename_i r z
    have hz := all _ (h0.step m)
    have e := nb_cut U s b h1
    have mz : z ∈ (nb u.2 r).filter fun q => decide (q ∈ os) := List.mem_filter.mpr ⟨m, decide_eq_true hz⟩
    rw [← e] at mz
    obtain ⟨k, h3, h4⟩ := List.mem_map.mp mz
    have C := cutL_ok U s b
    have lt := (nb_lt C h3).2
    have lc : (cutL u os).1.length = os.length := by unfold cutL; rw [List.length_map]
    rw [lc] at lt
    have hk := List.getElem?_eq_getElem lt
    refine ⟨k, ?_, h2.step h3⟩
    have h4' : os.getD k 0 = z := h4
    rw [List.getD_eq_getElem?_getD, hk] at h4'
    rw [hk]
    exact congrArg some h4'
/-- a part all of whose places stay is a part of the cut -/
theorem part_cut {u : Web} (U : WOk u) {os : List Nat} (s : os.Pairwise (· < ·)) (b : ∀ p ∈ os, p < u.1.length) {l : Nat} (hl : Lst u l) (ll : l < u.1.length) (all : ∀ q, Rch u.2 l q → q ∈ os) : partL u l ∈ (partsL (cutL u os)).map fun p => p.map fun j => os.getD j 0 := by
  obtain ⟨i, hi⟩ := List.getElem?_of_mem (all l .base)
  have C := cutL_ok U s b
  have lc : (cutL u os).1.length = os.length := by unfold cutL; rw [List.length_map]
  have ii := (List.getElem?_eq_some_iff.mp hi).1
  have li : Lst (cutL u os) i := fun j hj => by
    obtain ⟨q, h1, h2⟩ := rch_cut U s b hi hj
    have := hl q h2
    rcases Nat.lt_or_ge j i with c | c
    · have := (at_rise s h1 hi).mp c
      omega
    · exact c
  have getD : ∀ {j q}, os[j]? = some q → os.getD j 0 = q := fun {j q} h => by rw [List.getD_eq_getElem?_getD, h]; rfl
  refine List.mem_map.mpr ⟨partL (cutL u os) i, ?_, ?_⟩
  · unfold partsL partsN
    refine List.mem_map.mpr ⟨i, ?_, rfl⟩
    unfold leastsL
    exact List.mem_filter.mpr ⟨List.mem_range.mpr (by omega), dec_true li⟩
  · have mem : ∀ j, j ∈ partL (cutL u os) i ↔ Rch (cutL u os).2 i j := fun j => mem_partL C (by omega)
    refine sorted_ext ?_ (partL_rise u l) fun x => ?_
    · rw [List.pairwise_map]
      refine (partL_rise _ _).imp_of_mem fun {x y} hx hy h => ?_
      obtain ⟨q1, h1, _⟩ := rch_cut U s b hi ((mem x).mp hx)
      obtain ⟨q2, h2, _⟩ := rch_cut U s b hi ((mem y).mp hy)
      rw [getD h1, getD h2]
      exact (at_rise s h1 h2).mp h
    · rw [List.mem_map, mem_partL U ll]
      constructor
      · rintro ⟨j, h1, rfl⟩
        obtain ⟨q, h2, h3⟩ := rch_cut U s b hi ((mem j).mp h1)
        rw [getD h2]
        exact h3
      · intro h
        obtain ⟨j, h1, h2⟩ := rch_cut' U s b hi all h
        exact ⟨j, (mem j).mpr h2, getD h1⟩
end Cw

namespace Cw
open PySem PySem.Spec PyProof.Rows L2 LamX
/-- a test by truth -/
def tTru (K : PySem.W.Frag) (ta : TE) : TT := fun σ H Q => ta σ H fun x H' => ∃ k, TruV K x H' k ∧ Q k H'
theorem d_tru {K : PySem.W.Frag} {ta : TE} {σ : L2.St} {H : Hp} {Q : Bool → Hp → Prop} (h : ta σ H fun x H' => ∃ k, TruV K x H' k ∧ Q k H') : tTru K ta σ H Q := h
def rMin2 : List V → Hp → VK → Prop := fun xs H Q => ∃ i j, xs = [.int i, .int j] ∧ Q (.int (if j < i then j else i)) H
def tAndI (a b : TE) : TE := tOp (rI0 fun i j => V.int (Builtin.bitAnd i j)) a b
theorem d_bits {to : TE} {σ : L2.St} {H : Hp} {Q : VK} (h : to σ H fun x H1 => ∃ i, x = .int i ∧ Q (.int (Builtin.Int.intBits i : Nat)) H1) : tBits to σ H Q := h
theorem one_shl (z : Nat) : (1 : Int) * 2 ^ ((z : Nat) : Int).toNat = ((2 ^ z : Nat) : Int) := by rw [Int.one_mul, Int.toNat_natCast]; norm_cast
theorem bits_le {a n : Nat} (h : a < 2 ^ n) : Builtin.Int.intBits (a : Int) ≤ n := by
  unfold Builtin.Int.intBits
  by_cases z : a = 0
  · subst z; simp
  · rw [if_neg (by simpa using z), Int.natAbs_natCast]
    have := (Nat.log2_lt z).mpr h
    omega
theorem mask_take {ms : List Nat} {i z : Nat} (h : ms[i]? = some z) : maskN (ms.take (i + 1)) = maskN (ms.take i) ||| 2 ^ z := by rw [List.take_add_one, h]; exact mask_snoc _ _
theorem int_tru (k : Nat) : ((k : Int) != 0) = !decide (k = 0) := by
  rw [Bool.eq_iff_iff]; simp
theorem pc_pred' {a : Nat} (h0 : a ≠ 0) : pcN (a - 2 ^ lsb a) + 1 = pcN a := pc_clear (lsb_tb h0).1
/-! ### sorted classes -/
theorem perm_by {α β : Type} {f : α → β} {zs ys : List β} (p : zs.Perm ys) : ∀ es : List α, zs = es.map f → ∃ es' : List α, es'.Perm es ∧ ys = es'.map f := by
  induction p with
  | nil =>
    intro es e
    exact ⟨es, List.Perm.refl _, e⟩
  | cons x _ ih =>
    intro es e
    cases es with
    | nil => cases e
    | cons y r =>
      rw [List.map_cons, List.cons.injEq] at e
      obtain ⟨r', p', e'⟩ := ih r e.2
      exact ⟨y :: r', p'.cons y, by rw [List.map_cons, ← e', e.1]⟩
  | swap x y l =>
    intro es e
    match es, e with
    | a :: b :: r, e =>
      rw [List.map_cons, List.map_cons, List.cons.injEq, List.cons.injEq] at e
      obtain ⟨e1, e2, e3⟩ := e
      exact ⟨b :: a :: r, List.Perm.swap a b r, by rw [List.map_cons, List.map_cons, ← e1, ← e2, ← e3]⟩
  | trans _ _ ih1 ih2 =>
    intro es e
    obtain ⟨es1, p1, e1⟩ := ih1 es e
    obtain ⟨es2, p2, e2⟩ := ih2 es1 e1
    exact ⟨es2, p2.trans p1, e2⟩
def clD (c : Cl) : PyData := .tuple [.int (c.1 : Nat), .int (c.2 : Nat)]
theorem cl_zs {H : Hp} {vs : List V} {cs : List Cl} (p : Paired (ClAt H) vs cs) : ∃ zs : List (V × Cl), zs.map (·.1) = vs ∧ zs.map (·.2) = cs ∧ ∀ z ∈ zs, ClAt H z.1 z.2 := by
  induction p with
  | nil => exact ⟨[], rfl, rfl, by simp⟩
  | @cons v c vs cs h t ih =>
    obtain ⟨zs, e1, e2, e3⟩ := ih
    refine ⟨(v, c) :: zs, by rw [List.map_cons, e1], by rw [List.map_cons, e2], fun b hb => ?_⟩
    rcases List.mem_cons.mp hb with rfl | hb
    · exact h
    · exact e3 b hb
theorem zs_cl {H : Hp} : ∀ {zs : List (V × Cl)}, (∀ z ∈ zs, ClAt H z.1 z.2) → Paired (ClAt H) (zs.map (·.1)) (zs.map (·.2))
  | [], _ => .nil
  | z :: zs, h => .cons (h z List.mem_cons_self) (zs_cl fun y hy => h y (List.mem_cons_of_mem _ hy))
theorem cl_alike (zs : List (V × Cl)) : PySem.W.AllAlike (zs.map fun z => clD z.2) := PySem.W.AllAlike.of fun b b' => by
  show PySem.W.alike (.tuple _) (.tuple _) = true
  simp [PySem.W.alike, PySem.W.alikeAll]
theorem cl_sortable (zs : List (V × Cl)) : PySem.W.Sortable (zs.map fun z => clD z.2) := PySem.W.Sortable.tuples fun b => ⟨_, _, rfl⟩
theorem clD_depth (c : Cl) : (clD c).depth ≤ 60 := by simp [clD, PyData.depth, PyData.depthAll]
theorem d_sortCl {K : PySem.W.Frag} {H : Hp} {a : Addr} {vs : List V} {cs : List Cl} {Q : VK} (hS : SqL K H a vs) (p : Paired (ClAt H) vs cs)
    (q : ∀ r vs' cs', H r = none → Paired (ClAt H) vs' cs' → cs'.Perm cs → Q (.ref r) (upd H r (.lst vs'))) : rSortedDat K [.ref a] H Q := by
  obtain ⟨zs, e1, e2, e3⟩ := cl_zs p
  refine ⟨a, zs.map fun z => (z.1, clD z.2), rfl, by rw [List.map_map]; exact (by rw [← e1] at hS; exact hS), fun b hb => ?_, ?_, ?_, fun b hb => ?_, fun r fr => ?_⟩
  · obtain ⟨z, hz, rfl⟩ := List.mem_map.mp hb
    obtain ⟨t, e, ht⟩ := e3 z hz
    show Dp K H z.1 (clD z.2)
    rw [e]
    exact .tup (SqT.of ht) (.cons (.int _) (.cons (.int _) .nil))
  · rw [List.map_map]; exact cl_alike zs
  · rw [List.map_map]; exact cl_sortable zs
  · obtain ⟨z, _, rfl⟩ := List.mem_map.mp hb
    exact clD_depth _
  · obtain ⟨zs', pm, e⟩ := perm_by (sortD_perm (zs.map fun z => (z.1, clD z.2))).symm zs rfl
    rw [e, List.map_map]
    exact q r _ _ fr (zs_cl fun z hz => e3 z (pm.mem_iff.mp hz)) (by rw [← e2]; exact pm.map _)
theorem out_take {p i : Nat} {cs : List Cl} {c : Cl} (h : cs[i]? = some c) : outL p (cs.take (i + 1)) = outL p (cs.take i) ++ (outC p c).toList := by
  unfold outL
  rw [List.take_add_one, h, List.filterMap_append]
  congr 1
theorem bClear' (a p : Nat) : Builtin.bitAnd (a : Int) (Builtin.bitNot (1 * 2 ^ ((p : Nat) : Int).toNat)) = ((clr a p : Nat) : Int) := by rw [one_shl]; exact bClear a p
theorem out_len (p : Nat) (cs : List Cl) : (outL p cs).length ≤ cs.length := List.length_filterMap_le _ _
theorem bd_take {i : Nat} {cs : List Cl} {c : Cl} (h : cs[i]? = some c) : bdN (cs.take (i + 1)) = bdN (cs.take i) + min (pcN c.1) (pcN c.2) := by
  unfold bdN
  rw [List.take_add_one, h, List.map_append, List.sum_append]
  simp
theorem Tups.lst {H : Hp} {D : Addr} {ws : List V} {o : HO} (e : H D = some (.lst ws)) : Tups H (upd H D o) := fun b xs h => by
  rw [upd_ne (fun z : b = D => by rw [z, e] at h; cases h)]; exact h
theorem Tups.trans {A B C : Hp} (x : Tups A B) (y : Tups B C) : Tups A C := fun b xs e => y _ _ (x _ _ e)
theorem cls_tups {A B : Hp} {vs : List V} {cs : List Cl} (p : Paired (ClAt A) vs cs) (t : Tups A B) : Paired (ClAt B) vs cs := Paired.imp p fun _ _ z => z.tups t
theorem clr_take {p i : Nat} {cs : List Cl} {c : Cl} (h : cs[i]? = some c) (z : clr c.1 p = 0) : outL p (cs.take (i + 1)) = outL p (cs.take i) := by
  rw [out_take h, show outC p c = none from if_neg (by simp [z])]
  exact List.append_nil _
theorem clr_take' {p i : Nat} {cs : List Cl} {c : Cl} (h : cs[i]? = some c) (z : clr c.1 p ≠ 0) : outL p (cs.take (i + 1)) = outL p (cs.take i) ++ [(clr c.1 p, c.2)] := by
  rw [out_take h, show outC p c = some (clr c.1 p, c.2) from if_pos z]
  rfl
theorem nat_sum : ∀ ns : List Nat, (ns.map fun k : Nat => (k : Int)).sum = ((ns.sum : Nat) : Int)
  | [] => rfl
  | k :: ns => by rw [List.map_cons, List.sum_cons, List.sum_cons, nat_sum ns]; omega
theorem nat_ints (ns : List Nat) : (ns.map fun k : Nat => (k : Int)).map V.int = ns.map fun k => V.int (k : Nat) := by rw [List.map_map]; rfl
/-! ### dicts by ties -/
theorem walk_nitems {P : Program} {w : World} {d : Addr} {o : Obj} {kvs : List (NK × V)} : Walk (ItN P w d o kvs) kvs.length (fun H => H d = some (.frz o (DN P w d kvs))) (YPair (fun i => kvs[i]?.map fun kv => nV kv.1) (fun i => kvs[i]?.map Prod.snd)) := by
  refine ⟨fun _ _ hi q => ⟨q, hi⟩, fun _ q => ⟨q, Nat.le_refl _⟩, fun i H x H' _ _ y => ?_⟩
  obtain ⟨T, k, v, h1, h2, h3, h4⟩ := y
  exact ⟨T, nV k, v, h2, h3, h4, by simp [h1], by simp [h1]⟩
/-- the key of a tie, none for no tie -/
def kTie (k : Option Nat) : NK := k.map fun c => Sum.inr (sg c)
theorem nV_tie (k : Option Nat) : nV (kTie k) = (k.map fun c => V.str (sg c)).getD .non := by cases k <;> rfl
theorem kTie_inj {a b : Option Nat} (h : kTie a = kTie b) : a = b := by
  cases a <;> cases b <;> simp [kTie] at h ⊢
  exact h
theorem nV_inj {a b : Option Nat} (h : nV (kTie a) = nV (kTie b)) : a = b := by
  cases a <;> cases b <;> simp [kTie, nV, kV] at h ⊢
  exact h
def obD (u : Web) (p : Nat) (ks : List (Option Nat)) : List (NK × V) := ks.map fun k => (kTie k, V.int (obt u p k : Nat))
theorem obD_get (u : Web) (p : Nat) (k : Option Nat) : ∀ ks : List (Option Nat), valV (obD u p ks) (kTie k) = if k ∈ ks then some (V.int (obt u p k : Nat)) else none
  | [] => rfl
  | j :: ks => by
    show valV ((kTie j, V.int (obt u p j : Nat)) :: obD u p ks) (kTie k) = _
    by_cases e : j = k
    · subst e
      rw [valV_pos rfl, if_pos List.mem_cons_self]
    · rw [valV_neg (fun z => e (kTie_inj z)), obD_get u p k ks]
      by_cases h : k ∈ ks
      · rw [if_pos h, if_pos (List.mem_cons_of_mem _ h)]
      · rw [if_neg h, if_neg (fun z => by
          rcases List.mem_cons.mp z with z | z
          · exact e z.symm
          · exact h z)]
structure TieKs (u : Web) (p : Nat) (ks : List (Option Nat)) : Prop where
  nd : ks.Nodup
  all : ∀ k, obt u p k ≠ 0 → k ∈ ks
  few : ks.length ≤ 40
theorem TieKs.get {u : Web} {p : Nat} {ks : List (Option Nat)} (x : TieKs u p ks) (k : Option Nat) : (valV (obD u p ks) (kTie k)).getD (.int 0) = V.int (obt u p k : Nat) := by
  rw [obD_get]
  by_cases h : k ∈ ks
  · rw [if_pos h]; rfl
  · rw [if_neg h]
    have : obt u p k = 0 := Classical.byContradiction fun z => h (x.all k z)
    rw [this]; rfl
/-- the dicts of a web's places, in a list; none of them stands where N says -/
def TieDs (pd : Program) (wd : World) (N : Addr → Prop) (H : Hp) (v : V) (u : Web) : Prop := ∃ (L : Addr) (ds : List Addr), v = .ref L ∧ H L = some (.lst (ds.map V.ref)) ∧ ds.length = u.1.length ∧ ∀ (p : Nat) (d : Addr), ds[p]? = some d → ¬ N d ∧ ∃ ks, TieKs u p ks ∧ H d = some (DN pd wd d (obD u p ks))
theorem TieDs.ks {pd : Program} {wd : World} {S N : Addr → Prop} {H H' : Hp} {v : V} {u : Web} (x : TieDs pd wd N H v u) (k : KS S H H') (nl : ∀ b ys, S b → H b ≠ some (.lst ys)) (n : ∀ b kvs, S b → ¬ N b → H b ≠ some (DN pd wd b kvs)) : TieDs pd wd N H' v u := by
  obtain ⟨L, ds, e, hL, l, h⟩ := x
  refine ⟨L, ds, e, k _ _ (fun s => nl _ _ s hL) hL, l, fun p d hd => ?_⟩
  obtain ⟨nd, ks, t, e2⟩ := h p d hd
  exact ⟨nd, ks, t, k _ _ (fun s => n _ _ s nd e2) e2⟩
theorem TieDs.same {pd : Program} {wd : World} {N : Addr → Prop} {H H' : Hp} {v : V} {u : Web} (x : TieDs pd wd N H v u) (s : Same H H') : TieDs pd wd N H' v u :=
  TieDs.ks (S := fun _ => False) x (KS.of s) (fun _ _ z => z.elim) fun _ _ z => z.elim
theorem TieDs.mono {pd : Program} {wd : World} {N M : Addr → Prop} {H : Hp} {v : V} {u : Web} (x : TieDs pd wd N H v u) (h : ∀ b o, H b = some o → M b → N b) : TieDs pd wd M H v u := by
  obtain ⟨L, ds, e, hL, l, f⟩ := x
  refine ⟨L, ds, e, hL, l, fun p d hd => ?_⟩
  obtain ⟨nd, ks, t, e2⟩ := f p d hd
  exact ⟨fun z => nd (h _ _ e2 z), ks, t, e2⟩
/-- the rules by ties: what the instance holds -/
def Rules (pd : Program) (wd : World) (N : Addr → Prop) (H : Hp) (me : Addr) (C : Addr) (u u' : Web) : Prop := ∃ dx A B, H me = some (.ins C dx [(Str.ofString "here", A), (Str.ofString "there", B)]) ∧ TieDs pd wd N H A u ∧ TieDs pd wd N H B u'
theorem Rules.ks {pd : Program} {wd : World} {S N : Addr → Prop} {H H' : Hp} {me C : Addr} {u u' : Web} (x : Rules pd wd N H me C u u') (k : KS S H H') (nl : ∀ b ys, S b → H b ≠ some (.lst ys)) (ni : ∀ b C dx fs, S b → H b ≠ some (.ins C dx fs)) (n : ∀ b kvs, S b → ¬ N b → H b ≠ some (DN pd wd b kvs)) : Rules pd wd N H' me C u u' := by
  obtain ⟨dx, A, B, e, x1, x2⟩ := x
  exact ⟨dx, A, B, k _ _ (fun s => ni _ _ _ _ s e) e, x1.ks k nl n, x2.ks k nl n⟩
theorem Rules.same {pd : Program} {wd : World} {N : Addr → Prop} {H H' : Hp} {me C : Addr} {u u' : Web} (x : Rules pd wd N H me C u u') (s : Same H H') : Rules pd wd N H' me C u u' :=
  Rules.ks (S := fun _ => False) x (KS.of s) (fun _ _ z => z.elim) (fun _ _ _ _ z => z.elim) fun _ _ z => z.elim
/-- all but d is as it was, d is locked -/
def Lk (d : Addr) (f : HO) (H H' : Hp) : Prop := (∀ b o, b ≠ d → H b = some o → H' b = some o) ∧ H' d = some f
theorem Lk.first {d : Addr} {f : HO} {H : Hp} : Lk d f H (upd H d f) := ⟨fun b o n e => by rw [upd_ne n]; exact e, upd_same⟩
theorem Lk.new {d p : Addr} {f o : HO} {H H' : Hp} (x : Lk d f H H') (fp : H' p = none) : Lk d f H (upd H' p o) :=
  ⟨fun b u n e => by rw [upd_ne (ne_of_none (x.1 b u n e) fp)]; exact x.1 b u n e, by rw [upd_ne (ne_of_none x.2 fp)]; exact x.2⟩
theorem Lk.same {d : Addr} {f : HO} {H H' H'' : Hp} (x : Lk d f H H') (s : Same H' H'') : Lk d f H H'' := ⟨fun b o n e => s _ _ (x.1 b o n e), s _ _ x.2⟩
theorem Lk.put {d p : Addr} {f o : HO} {H H' : Hp} (x : Lk d f H H') (fp : H p = none) (nd : p ≠ d) : Lk d f H (upd H' p o) :=
  ⟨fun b u n e => by rw [upd_ne (ne_of_none e fp)]; exact x.1 b u n e, by rw [upd_ne nd.symm]; exact x.2⟩
theorem Lk.open_ {d : Addr} {f u : HO} {H H' : Hp} (x : Lk d f H H') (e : H d = some u) : Same H (upd H' d u) := fun b o h => by
  by_cases z : b = d
  · rw [z, upd_same]; rw [z, e] at h; exact h
  · rw [upd_ne z]; exact x.1 b o z h
theorem Lk.rd {d a : Addr} {od : Obj} {u o : HO} {H H' : Hp} (x : Lk d (.frz od u) H H') (e : H d = some u) (h : H a = some o) : Rd H' a o := by
  by_cases z : a = d
  · subst z
    rw [h] at e
    cases e
    exact .inr ⟨od, x.2⟩
  · exact .inl (x.1 a o z h)
theorem d_fldm {K : PySem.W.Frag} {ta : TE} {f : Str} {σ : L2.St} {H : Hp} {Q : VK} (h : ta σ H fun x H1 => ∃ a C dx fs v, x = .ref a ∧ H1 a = some (.ins C dx fs) ∧ Cls K C ∧ NoAttr K C f ∧ fs.lookup f = some v ∧ Q v H1) : tFld K ta f σ H Q := h
theorem d_itN {P : Program} {w : World} {td : TE} {σ : L2.St} {H : Hp} {R : It → Hp → Prop} (h : td σ H fun x H1 => ∃ d o kvs, x = .ref d ∧ H1 d = some (.frz o (DN P w d kvs)) ∧ R (ItN P w d o kvs) H1) : iItemsN P w td σ H R := h
theorem d_nget2 {P : Program} {w : World} {td ty tx : TE} {σ : L2.St} {H : Hp} {Q : VK} (h : td σ H fun x H1 => ∃ a kvs, x = .ref a ∧ Rd H1 a (DN P w a kvs) ∧ ty σ H1 fun y H2 => tx σ H2 fun z H3 => ∃ k, Rd H3 a (DN P w a kvs) ∧ y = nV k ∧ Q ((valV kvs k).getD z) H3) : tNGet2 P w td ty tx σ H Q := h
theorem d_lock {t : TS} {D : Ends} {σ : L2.St} {H : Hp} (h : ∃ d u, H d = some u ∧ Mut (some u) ∧ ∀ od, t ⟨fun σ' H' => H' d = some (.frz od u) ∧ D.nx σ' (upd H' d u), fun v H' => H' d = some (.frz od u) ∧ D.rt v (upd H' d u), fun σ' H' => H' d = some (.frz od u) ∧ D.bk σ' (upd H' d u), fun σ' H' => H' d = some (.frz od u) ∧ D.ct σ' (upd H' d u)⟩ σ (upd H d (.frz od u))) : tLock t D σ H := h
theorem nar_take {ks : List (Option Nat)} {u u' : Web} {p e i : Nat} {cs : List Cl} {k : Option Nat} (h : ks[i]? = some k) : narL (ks.take (i + 1)) u u' p e cs = narL (ks.take i) u u' p e cs ++ cs.filterMap (narC u u' p e k) := by
  unfold narL
  rw [List.take_add_one, h, List.flatMap_append]
  simp
theorem fm_take {f : Cl → Option Cl} {j : Nat} {cs : List Cl} {c : Cl} (h : cs[j]? = some c) : (cs.take (j + 1)).filterMap f = (cs.take j).filterMap f ++ (f c).toList := by
  rw [List.take_add_one, h, List.filterMap_append]
  congr 1
theorem nar_len (u u' : Web) (p e : Nat) (cs : List Cl) : ∀ ks : List (Option Nat), (narL ks u u' p e cs).length ≤ ks.length * cs.length
  | [] => Nat.zero_le _
  | k :: ks => by
    show (cs.filterMap (narC u u' p e k) ++ narL ks u u' p e cs).length ≤ (ks.length + 1) * cs.length
    rw [List.length_append, Nat.add_mul, Nat.one_mul]
    have := nar_len u u' p e cs ks
    have := List.length_filterMap_le (narC u u' p e k) cs
    omega
theorem Tups.frz {H : Hp} {d : Addr} {o : Obj} {f u : HO} (e : H d = some (.frz o f)) : Tups H (upd H d u) := fun b xs h => by
  rw [upd_ne (fun z : b = d => by rw [z, e] at h; cases h)]; exact h
/-! ### choices -/
/-- what a next place led makes: the row ((p, e), 1, state) -/
def NxtAt (H : Hp) (u u' : Web) (cs : List Cl) (p : Nat) (v : V) (e : Nat) : Prop := ∃ r pr st ds, v = .ref r ∧ H r = some (.tup [.ref pr, .int 1, st]) ∧ H pr = some (.tup [.int (p : Nat), .int (e : Nat)]) ∧ StAt H st ds ∧ Nar u.1.length u'.1.length (fitM u u') cs p e ds ∧ szN ds < szN cs
def LastAt (H : Hp) (u u' : Web) (cs : List Cl) (p : Nat) (v : V) : Prop := ∃ r st ds, v = .ref r ∧ H r = some (.tup [.non, .int 0, st]) ∧ StAt H st ds ∧ Wout u.1.length u'.1.length cs p ds ∧ szN ds < szN cs
theorem NxtAt.tups {H H' : Hp} {u u' : Web} {cs : List Cl} {p : Nat} {v : V} {e : Nat} (x : NxtAt H u u' cs p v e) (t : Tups H H') : NxtAt H' u u' cs p v e := by
  obtain ⟨r, pr, st, ds, e1, e2, e3, e4, q⟩ := x
  exact ⟨r, pr, st, ds, e1, t _ _ e2, t _ _ e3, e4.tups t, q⟩
theorem LastAt.tups {H H' : Hp} {u u' : Web} {cs : List Cl} {p : Nat} {v : V} (x : LastAt H u u' cs p v) (t : Tups H H') : LastAt H' u u' cs p v := by
  obtain ⟨r, st, ds, e1, e2, e4, q⟩ := x
  exact ⟨r, st, ds, e1, t _ _ e2, e4.tups t, q⟩
/-- the choices, in a list -/
def ChoAt (H : Hp) (u u' : Web) (cs : List Cl) (L : Addr) : Prop := ∃ c rows last, IsMin cs c ∧ H L = some (.lst (rows ++ [last])) ∧ Paired (NxtAt H u u' cs (lsb c.1)) rows (bitsL c.2) ∧ LastAt H u u' cs (lsb c.1) last
/-- the lambda in the first statement's call -/
def lamOf (st : Stmt) : Option (Arguments × Expr × Scope) :=
  match defBody st with
  | .Assign _ (.Call _ _ (k :: _) _) _ :: _ => (match k.value with | .Lambda a b s _ => some (a, b, s) | _ => none)
  | _ => none
theorem d_lamb {N : Addr → Prop} {P : Addr} {q : Str} {params : Arguments} {body : Expr} {scope : Scope} {σ : L2.St} {H : Hp} {Q : VK} (hT : TabN N H P q) (hN : ∀ b, N b → H b ≠ none) (h : ∀ (f c' : Addr) (H1 : Hp), (∀ b o, b ≠ P → H b = some o → H1 b = some o) → TabN N H1 P q → H f = none → H1 f = some (LamO f ⟨q, params, body, scope, c'⟩) → H1 c' = some (CodeO c' q) → Q (.ref f) H1) : tLamb P q params body scope σ H Q := ⟨N, hT, hN, h⟩
theorem d_ckw {r : List V → List V → Hp → VK → Prop} {ta tk : TA} {σ : L2.St} {H : Hp} {Q : VK} (h : ta σ H fun xs H1 => tk σ H1 fun ys H2 => r xs ys H2 Q) : tCKw r ta tk σ H Q := h
theorem low_pow {m a : Nat} (hm : m ≤ 40) (h : ∀ e, a.testBit e = true → e < m) : a < 2 ^ 41 := by
  refine Nat.lt_pow_two_of_testBit a fun i hi => ?_
  cases z : a.testBit i with
  | false => rfl
  | true => have := h i z; omega
theorem take_snoc' {α : Type} {l : List α} {i : Nat} {x : α} (h : l[i]? = some x) : l.take (i + 1) = l.take i ++ [x] := by rw [List.take_add_one, h]; rfl
theorem d_meth {C : Addr} {m : Str} {sp : Sp} {dvs : List V} {E : XK} {ta : TE} {t : TA} {σ : L2.St} {H : Hp} {Q : VK} (h : ta σ H fun x H1 => ∃ a dx fs, x = .ref a ∧ H1 a = some (.ins C dx fs) ∧ fs.lookup m = none ∧ t σ H1 fun vs H2 => sp (x :: vs ++ dvs) H2 Q E) : tMeth C m sp dvs E ta t σ H Q := h
theorem KS.fresh {S : Addr → Prop} {H H' : Hp} {p : Addr} {o : HO} (a : KS S H H') (f : H p = none) : KS S H (upd H' p o) := fun c u nc e => by rw [upd_ne (ne_of_none e f)]; exact a c u nc e
theorem tabS_same {N : Addr → Prop} {H H' : Hp} {P : Addr} {q : Str} (x : TabN N H P q) (s : Same H H') : TabN N H' P q := by
  obtain ⟨ps, z, y1, y2⟩ := x
  refine ⟨ps, s _ _ z, y1, fun pos cv h => ?_⟩
  obtain ⟨cc, e1, e3, e2⟩ := y2 pos cv h
  exact ⟨cc, e1, e3, s _ _ e2⟩
theorem tabS_lst {N : Addr → Prop} {H : Hp} {P D : Addr} {q : Str} {ws : List V} {o : HO} (x : TabN N H P q) (e : H D = some (.lst ws)) : TabN N (upd H D o) P q := by
  obtain ⟨ps, z, y1, y2⟩ := x
  refine ⟨ps, by rw [upd_ne (fun y : P = D => by rw [y, e] at z; cases z)]; exact z, y1, fun pos cv h => ?_⟩
  obtain ⟨cc, e1, e3, e2⟩ := y2 pos cv h
  exact ⟨cc, e1, e3, by rw [upd_ne (fun y : cc = D => by rw [y, e] at e2; cases e2)]; exact e2⟩
theorem tabN_put {N : Addr → Prop} {H : Hp} {P D : Addr} {q : Str} {o : HO} (x : TabN N H P q) (n : N D) (nP : D ≠ P) : TabN N (upd H D o) P q := by
  obtain ⟨ps, z, y1, y2⟩ := x
  refine ⟨ps, by rw [upd_ne nP.symm]; exact z, y1, fun pos cv h => ?_⟩
  obtain ⟨cc, e1, e3, e2⟩ := y2 pos cv h
  exact ⟨cc, e1, e3, by rw [upd_ne (fun y : cc = D => e3 (y ▸ n))]; exact e2⟩
/-! ### the search -/
theorem KS.tups {S : Addr → Prop} {H H' : Hp} (k : KS S H H') (n : ∀ b xs, S b → H b ≠ some (.tup xs)) : Tups H H' := fun b xs e => k b _ (fun z => n b xs z e) e
structure Srch (pd : Program) (wd : World) (CS CR PP : Addr) (q : Str) (H : Hp) (me : Addr) (u u' : Web) (K : Addr) (es : List KEnt) : Prop where
  obj : ∃ dx R, H me = some (.ins CS dx [(Str.ofString "rules", .ref R), (Str.ofString "known", .ref K)]) ∧ Rules pd wd (fun b => b = K) H R CR u u'
  kn : H K = some (DH pd wd K es)
  key : KeyAt H es
  ok : KnOk (Wc u.1.length u'.1.length (fitM u u')) es
  tab : TabN (fun b => b = K) H PP q
abbrev PK (PP K : Addr) : Addr → Prop := fun b => b = PP ∨ b = K
section
variable {pd : Program} {wd : World} {CS CR PP : Addr} {q : Str} {H H' : Hp} {me : Addr} {u u' : Web} {K : Addr} {es es' : List KEnt}
theorem Srch.at (x : Srch pd wd CS CR PP q H me u u' K es) {b : Addr} (h : PK PP K b) : (∃ t, H b = some (.tbl t)) ∨ (b = K ∧ H b = some (DH pd wd K es)) := by
  rcases h with rfl | rfl
  · obtain ⟨ps, z, _⟩ := x.tab
    exact .inl ⟨ps, z⟩
  · exact .inr ⟨rfl, x.kn⟩
theorem Srch.tups (x : Srch pd wd CS CR PP q H me u u' K es) (k : KS (PK PP K) H H') : Tups H H' := k.tups fun b xs s e => by
  rcases x.at s with ⟨t, z⟩ | ⟨_, z⟩
  · rw [z] at e; cases e
  · rw [z] at e; cases e
theorem Srch.lst (x : Srch pd wd CS CR PP q H me u u' K es) {b : Addr} {ys : List V} (e : H b = some (.lst ys)) : ¬ PK PP K b := fun s => by
  rcases x.at s with ⟨t, z⟩ | ⟨_, z⟩
  · rw [z] at e; cases e
  · rw [z] at e; cases e
theorem Srch.ins (x : Srch pd wd CS CR PP q H me u u' K es) {b C : Addr} {dx : Addr} {fs : List (Str × V)} (e : H b = some (.ins C dx fs)) : ¬ PK PP K b := fun s => by
  rcases x.at s with ⟨t, z⟩ | ⟨_, z⟩
  · rw [z] at e; cases e
  · rw [z] at e; cases e
theorem Srch.step (x : Srch pd wd CS CR PP q H me u u' K es) (k : KS (PK PP K) H H') (kn : H' K = some (DH pd wd K es')) (key : KeyAt H' es') (ok : KnOk (Wc u.1.length u'.1.length (fitM u u')) es') (tab : TabN (fun b => b = K) H' PP q) : Srch pd wd CS CR PP q H' me u u' K es' := by
  obtain ⟨dx, R, e, r⟩ := x.obj
  refine ⟨⟨dx, R, k _ _ (x.ins e) e, r.ks k (fun b ys s z => x.lst z s) (fun b C dx fs s z => x.ins z s) fun b kvs s nK e => ?_⟩, kn, key, ok, tab⟩
  rcases x.at s with ⟨t, z⟩ | ⟨z, _⟩
  · rw [z] at e; cases e
  · exact nK z
theorem Srch.same (x : Srch pd wd CS CR PP q H me u u' K es) (s : Same H H') : Srch pd wd CS CR PP q H' me u u' K es :=
  x.step (KS.of s) (s _ _ x.kn) (x.key.same s) x.ok (tabS_same x.tab s)
/-- all but the table -/
theorem Srch.tabs (x : Srch pd wd CS CR PP q H me u u' K es) (k : KS (fun b => b = PP) H H') (tab : TabN (fun b => b = K) H' PP q) : Srch pd wd CS CR PP q H' me u u' K es := by
  have nK : K ≠ PP := fun z => by
    obtain ⟨ps, e, _⟩ := x.tab
    have := x.kn
    rw [z, e] at this; cases this
  have k2 : KS (PK PP K) H H' := k.mono fun b z => .inl z
  exact x.step k2 (k _ _ nK x.kn) (x.key.tups (x.tups k2)) x.ok tab
end
/-- what was not known, and is, is of states no greater -/
def Grow (es es' : List KEnt) (s : Nat) : Prop := ∀ e ∈ es', e ∈ es ∨ ∃ ds nd, e.1 = nkKey ds nd ∧ szN ds ≤ s
theorem Grow.refl (es : List KEnt) (s : Nat) : Grow es es s := fun e he => .inl he
theorem Grow.trans {a b c : List KEnt} {s t : Nat} (x : Grow a b s) (y : Grow b c t) (h : t ≤ s) : Grow a c s := fun e he => by
  rcases y e he with z | ⟨ds, nd, e1, e2⟩
  · exact x e z
  · exact .inr ⟨ds, nd, e1, Nat.le_trans e2 h⟩
theorem val_none {es : List KEnt} {k : NestedKey} : valH es k = none ↔ ∀ e ∈ es, e.1 ≠ k := by
  unfold valH
  rw [Option.map_eq_none_iff, List.find?_eq_none]
  simp
theorem Grow.new {es es' : List KEnt} {s : Nat} {cs : List Cl} {need : Int} (x : Grow es es' s) (h : valH es (nkKey cs need) = none) (l : s < szN cs) : valH es' (nkKey cs need) = none := val_none.mpr fun e he z => by
  rcases x e he with y | ⟨ds, nd, e1, e2⟩
  · exact val_none.mp h e y z
  · rw [z] at e1
    obtain ⟨rfl, _⟩ := nkKey_inj e1
    omega
/-- how many are found at most -/
def Bd (m : Nat) : Nat → Nat
  | 0 => 0
  | s + 1 => 1 + (m + 1) * Bd m s
theorem Bd_pos (m : Nat) {s : Nat} (h : 1 ≤ s) : 1 ≤ Bd m s := by
  cases s with
  | zero => omega
  | succ s => simp only [Bd]; omega
theorem Bd_mono (m : Nat) {s t : Nat} (h : s ≤ t) : Bd m s ≤ Bd m t := by
  induction h with
  | refl => exact Nat.le_refl _
  | @step t _ ih =>
    refine Nat.le_trans ih ?_
    show Bd m t ≤ 1 + (m + 1) * Bd m t
    have : (m + 1) * Bd m t = m * Bd m t + Bd m t := Nat.succ_mul _ _
    omega
/-- a row of the choices: what it adds, and how many ways go on -/
def RowW (H : Hp) (u u' : Web) (s : Nat) (need : Int) (v : V) (w : Nat) : Prop := ∃ r x st ds g, v = .ref r ∧ H r = some (.tup [x, .int g, st]) ∧ StAt H st ds ∧ VC u.1.length u'.1.length ds ∧ szN ds < s ∧ w = Wc u.1.length u'.1.length (fitM u u') ds (need - g)
theorem RowW.tups {H H' : Hp} {u u' : Web} {s : Nat} {need : Int} {v : V} {w : Nat} (x : RowW H u u' s need v w) (t : Tups H H') : RowW H' u u' s need v w := by
  obtain ⟨r, x, st, ds, g, e1, e2, e3, e4⟩ := x
  exact ⟨r, x, st, ds, g, e1, t _ _ e2, e3.tups t, e4⟩
theorem nar_w {u u' : Web} {cs : List Cl} {c : Cl} (v : VC u.1.length u'.1.length cs) (M : IsMin cs c) {e : Nat} {ds es : List Cl} (a : Nar u.1.length u'.1.length (fitM u u') cs (lsb c.1) e ds) (b : Nar u.1.length u'.1.length (fitM u u') cs (lsb c.1) e es) (k : Int) : Wc u.1.length u'.1.length (fitM u u') ds k = Wc u.1.length u'.1.length (fitM u u') es k := by
  unfold Wc
  rw [a.ext v M, b.ext v M]
theorem paired_map {α β γ : Type} {R : α → β → Prop} {S : α → γ → Prop} {g : β → γ} {as : List α} {bs : List β} (p : Paired R as bs) : (∀ a b, b ∈ bs → R a b → S a (g b)) → Paired S as (bs.map g) := by
  induction p with
  | nil => intro _; exact .nil
  | cons h t ih => intro f; exact .cons (f _ _ List.mem_cons_self h) (ih fun a b hb => f a b (List.mem_cons_of_mem _ hb))
theorem paired_ex {α β : Type} {R : α → β → Prop} {as : List α} {bs : List β} (p : Paired R as bs) : ∀ b ∈ bs, ∃ a, R a b := by
  induction p with
  | nil => simp
  | cons h t ih =>
    intro b hb
    rcases List.mem_cons.mp hb with rfl | hb
    · exact ⟨_, h⟩
    · exact ih b hb
theorem ChoAt.rows {H : Hp} {u u' : Web} {cs : List Cl} {L : Addr} (x : ChoAt H u u' cs L) (v : VC u.1.length u'.1.length cs) {need : Int} (h1 : 1 ≤ need) : ∃ items ws, H L = some (.lst items) ∧ Paired (RowW H u u' (szN cs) need) items ws ∧ ws.sum = Wc u.1.length u'.1.length (fitM u u') cs need ∧ items.length ≤ u'.1.length + 1 := by
  obtain ⟨c, rows, last, M, eL, pr, r, st, os, rfl, er, so, O, lo⟩ := x
  have ex : ∀ e, ∃ ds, e ∈ bitsL c.2 → Nar u.1.length u'.1.length (fitM u u') cs (lsb c.1) e ds := fun e => by
    by_cases he : e ∈ bitsL c.2
    · obtain ⟨a, _, _, _, ds, _, _, _, _, N, _⟩ := paired_ex pr e he
      exact ⟨ds, fun _ => N⟩
    · exact ⟨[], fun z => (he z).elim⟩
  obtain ⟨f, hf⟩ := Classical.axiomOfChoice ex
  have sum := Wc_sum v M h1 (ds := f) (os := os) (fun e he => hf e he) O
  refine ⟨_, _, eL, Paired.snoc (paired_map (g := fun e => Wc u.1.length u'.1.length (fitM u u') (f e) (need - 1)) pr fun a e he z => ?_) (b := Wc u.1.length u'.1.length (fitM u u') os need) ⟨r, _, st, os, 0, rfl, er, so, O.vc, lo, by rw [Int.sub_zero]⟩, ?_, ?_⟩
  · obtain ⟨r, pr, st, ds, rfl, e1, e2, e3, N, l⟩ := z
    exact ⟨r, _, st, ds, 1, rfl, e1, e3, N.vc, l, nar_w v M (hf e he) N _⟩
  · rw [List.sum_append, ← sum]
    simp
  · rw [List.length_append, Paired.length pr]
    have := nodup_len u'.1.length (bitsL c.2) (bits_nodup _) fun e he => (v.low c M.mem).2 e (mem_bits.mp he)
    show _ + 1 ≤ _
    omega
theorem d_hnotin {P : Program} {w : World} {ty td : TE} {σ : L2.St} {H : Hp} {Q : VK} (h : ty σ H fun y H1 => td σ H1 fun x H2 => ∃ a r, x = .ref a ∧ HGet P w H2 a y r ∧ Q (.bl (!r.isSome)) H2) : tHNotIn P w ty td σ H Q := h
theorem d_hget {P : Program} {w : World} {ty td : TE} {σ : L2.St} {H : Hp} {Q : VK} (h : td σ H fun x H1 => ty σ H1 fun y H2 => ∃ a v, x = .ref a ∧ HGet P w H2 a y (some v) ∧ Q v H2) : tHGet P w td ty σ H Q := h
theorem d_hput {P : Program} {w : World} {td ty tv : TE} {D : Ends} {σ : L2.St} {H : Hp} (h : tv σ H fun v H1 => td σ H1 fun x H2 => ty σ H2 fun y H3 => ∃ a es k b, x = .ref a ∧ H3 a = some (DH P w a es) ∧ KeyAt H3 es ∧ y = .ref b ∧ NkV H3 k y ∧ k.depth ≤ 8 ∧ valH es k = none ∧ es.length < sizeLine ∧
  D.nx σ (upd H3 a (DH P w a (es ++ [(k, b, v)])))) : sHPut P w td ty tv D σ H := h
theorem d_ifX {tt : TT} {t1 t2 : TE} {σ : L2.St} {H : Hp} {Q : VK} (h : tt σ H fun b H1 => if b = true then t1 σ H1 Q else t2 σ H1 Q) : tIf tt t1 t2 σ H Q := h
theorem Bd_rows {m s i : Nat} (h : 1 ≤ s) (hi : i ≤ m + 1) : i * Bd m (s - 1) + 1 ≤ Bd m s := by
  cases s with
  | zero => omega
  | succ s =>
    show i * Bd m s + 1 ≤ 1 + (m + 1) * Bd m s
    have := Nat.mul_le_mul_right (Bd m s) hi
    omega
theorem pc_pos {a : Nat} (h : a ≠ 0) : 1 ≤ pcN a := List.length_pos_of_mem (mem_bits.mpr (lsb_tb h).1)
theorem sz_pos {n m : Nat} {cs : List Cl} (v : VC n m cs) (h : cs ≠ []) : 1 ≤ szN cs := by
  cases cs with
  | nil => exact (h rfl).elim
  | cons c cs =>
    have := pc_pos (v.some_ c List.mem_cons_self).1
    unfold szN
    rw [List.map_cons, List.sum_cons]
    omega
theorem val_put {es : List KEnt} {k : NestedKey} {a : Addr} {v : V} (h : valH es k = none) : valH (es ++ [(k, a, v)]) k = some v := by
  unfold valH at h ⊢
  rw [Option.map_eq_none_iff] at h
  rw [List.find?_append, h]
  simp
theorem Grow.put {es es' : List KEnt} {s : Nat} {cs : List Cl} {need : Int} {a : Addr} {v : V} (x : Grow es es' s) (h : s ≤ szN cs) : Grow es (es' ++ [(nkKey cs need, a, v)]) (szN cs) := fun e he => by
  rcases List.mem_append.mp he with he | he
  · rcases x e he with y | ⟨ds, nd, e1, e2⟩
    · exact .inl y
    · exact .inr ⟨ds, nd, e1, Nat.le_trans e2 h⟩
  · rw [List.mem_singleton.mp he]; exact .inr ⟨cs, need, rfl, Nat.le_refl _⟩
section
variable {pd : Program} {wd : World} {CS CR PP : Addr} {q : Str} {H : Hp} {me : Addr} {u u' : Web} {K : Addr} {es : List KEnt}
theorem Srch.put (x : Srch pd wd CS CR PP q H me u u' K es) {cs : List Cl} {need : Int} {ky : Addr} (nk : NkV H (nkKey cs need) (.ref ky)) :
    Srch pd wd CS CR PP q (upd H K (DH pd wd K (es ++ [(nkKey cs need, ky, .int (Wc u.1.length u'.1.length (fitM u u') cs need : Nat))]))) me u u' K (es ++ [(nkKey cs need, ky, .int (Wc u.1.length u'.1.length (fitM u u') cs need : Nat))]) := by
  have k := (KS.refl (S := PK PP K) H).put (p := K) (o := DH pd wd K (es ++ [(nkKey cs need, ky, .int (Wc u.1.length u'.1.length (fitM u u') cs need : Nat))])) (.inr rfl)
  have t := x.tups k
  have nK : K ≠ PP := fun z => by
    obtain ⟨ps, e, _⟩ := x.tab
    have := x.kn
    rw [z, e] at this; cases this
  refine x.step k upd_same (fun e he => ?_) x.ok.put (tabN_put x.tab rfl nK)
  rcases List.mem_append.mp he with he | he
  · exact (x.key.tups t) e he
  · rw [List.mem_singleton.mp he]; exact ⟨NkV.tups t _ _ nk, nkKey_depth _ _⟩
end
theorem Rules.mono {pd : Program} {wd : World} {N M : Addr → Prop} {H : Hp} {me C : Addr} {u u' : Web} (x : Rules pd wd N H me C u u') (h : ∀ b o, H b = some o → M b → N b) : Rules pd wd M H me C u u' := by
  obtain ⟨dx, A, B, e, x1, x2⟩ := x
  exact ⟨dx, A, B, e, x1.mono h, x2.mono h⟩
theorem TabN.mono {N M : Addr → Prop} {H : Hp} {P : Addr} {q : Str} (x : TabN N H P q) (h : ∀ b o, H b = some o → M b → N b) : TabN M H P q := by
  obtain ⟨ps, z, y1, y2⟩ := x
  refine ⟨ps, z, y1, fun pos cv hc => ?_⟩
  obtain ⟨cc, e1, e3, e2⟩ := y2 pos cv hc
  exact ⟨cc, e1, fun m => e3 (h _ _ e2 m), e2⟩
theorem sz_le {n m : Nat} {cs : List Cl} (v : VC n m cs) : szN cs ≤ n := by
  have e : szN cs = (cs.flatMap fun c => bitsL c.1).length := by
    unfold szN
    rw [List.length_flatMap]
    rfl
  rw [e]
  refine nodup_len n _ ?_ fun x hx => ?_
  · unfold List.Nodup
    rw [List.pairwise_flatMap]
    refine ⟨fun c _ => bits_nodup _, v.apart.imp fun {c d} h x hx y hy e => ?_⟩
    subst e
    exact h x (mem_bits.mp hx) (mem_bits.mp hy)
  · obtain ⟨c, hc, h⟩ := List.mem_flatMap.mp hx
    exact (v.low c hc).1 x (mem_bits.mp h)
theorem bd_le {n m : Nat} {cs : List Cl} (v : VC n m cs) : bdN cs ≤ n := by
  refine Nat.le_trans ?_ (sz_le v)
  unfold bdN szN
  clear v
  induction cs with
  | nil => exact Nat.le_refl _
  | cons c cs ih =>
    rw [List.map_cons, List.map_cons, List.sum_cons, List.sum_cons]
    omega
/-- the greatest size -/
structure Gr (n m : Nat) (fit : Nat × Nat → Nat × Nat → Bool) (cs : List Cl) (k : Nat) : Prop where
  some_ : Wc n m fit cs k ≠ 0
  most : ∀ j : Nat, k < j → Wc n m fit cs j = 0
end Cw

/-! dicts by ties, while they are filled -/
namespace Cw
open PySem PySem.Spec PyProof.Rows L2
/-- of the first j places -/
def obJ (u : Web) (p : Nat) (k : Option Nat) (j : Nat) : Nat := maskN ((List.range j).filter fun o => decide (o ≠ p) && decide (tieL u.2 p o = k))
theorem obJ_all (u : Web) (p : Nat) (k : Option Nat) : obJ u p k u.1.length = obt u p k := rfl
theorem obJ_skip (u : Web) (p : Nat) (k : Option Nat) (j : Nat) (h : ¬ (j ≠ p ∧ tieL u.2 p j = k)) : obJ u p k (j + 1) = obJ u p k j := by
  unfold obJ
  rw [List.range_succ, List.filter_append, List.filter_cons_of_neg (by simpa using h), List.filter_nil, List.append_nil]
theorem obJ_put (u : Web) (p j : Nat) (h : j ≠ p) : obJ u p (tieL u.2 p j) (j + 1) = obJ u p (tieL u.2 p j) j ||| 2 ^ j := by
  unfold obJ
  rw [List.range_succ, List.filter_append, List.filter_cons_of_pos (by simp [h]), List.filter_nil, mask_snoc]
/-- what is in the dict behind j places -/
structure ObK (u : Web) (p j : Nat) (kvs : List (NK × V)) (ks : List (Option Nat)) : Prop where
  nd : ks.Nodup
  all : ∀ k, obJ u p k j ≠ 0 → k ∈ ks
  few : ks.length ≤ j
  eq : kvs = ks.map fun k => (kTie k, V.int (obJ u p k j : Nat))
theorem ObK.get {u : Web} {p j : Nat} {kvs : List (NK × V)} {ks : List (Option Nat)} (x : ObK u p j kvs ks) (k : Option Nat) : (valV kvs (kTie k)).getD (.int 0) = V.int (obJ u p k j : Nat) := by
  have go : ∀ l : List (Option Nat), valV (l.map fun k => (kTie k, V.int (obJ u p k j : Nat))) (kTie k) = if k ∈ l then some (V.int (obJ u p k j : Nat)) else none := fun l => by
    induction l with
    | nil => rfl
    | cons i l ih =>
      rw [List.map_cons]
      by_cases e : i = k
      · subst e
        rw [valV_pos rfl, if_pos List.mem_cons_self]
      · rw [valV_neg (fun z => e (kTie_inj z)), ih]
        by_cases h : k ∈ l
        · rw [if_pos h, if_pos (List.mem_cons_of_mem _ h)]
        · rw [if_neg h, if_neg (fun z => by
            rcases List.mem_cons.mp z with z | z
            · exact e z.symm
            · exact h z)]
  rw [x.eq, go]
  by_cases h : k ∈ ks
  · rw [if_pos h]; rfl
  · rw [if_neg h]
    have : obJ u p k j = 0 := Classical.byContradiction fun z => h (x.all k z)
    rw [this]; rfl
theorem ObK.start (u : Web) (p : Nat) : ObK u p 0 [] [] := ⟨.nil, fun k h => (h rfl).elim, Nat.le_refl _, rfl⟩
theorem ObK.skip {u : Web} {p : Nat} {kvs : List (NK × V)} {ks : List (Option Nat)} (x : ObK u p p kvs ks) : ObK u p (p + 1) kvs ks :=
  ⟨x.nd, fun k h => x.all k (by rw [obJ_skip u p k p (fun z => z.1 rfl)] at h; exact h), Nat.le_succ_of_le x.few, by
    rw [x.eq]
    exact List.map_congr_left fun k _ => by rw [obJ_skip u p k p (fun z => z.1 rfl)]⟩
theorem ObK.put {u : Web} {p j : Nat} {kvs : List (NK × V)} {ks : List (Option Nat)} (x : ObK u p j kvs ks) (h : j ≠ p) : ∃ ks', ObK u p (j + 1) (putK kvs (kTie (tieL u.2 p j)) (.int ((obJ u p (tieL u.2 p j) j ||| 2 ^ j : Nat) : Int))) ks' := by
  have e0 := obJ_put u p j h
  have ne : obJ u p (tieL u.2 p j) (j + 1) ≠ 0 := by
    unfold obJ
    rw [Ne, mask_zero, List.filter_eq_nil_iff]
    intro z
    have := z j (List.mem_range.mpr (Nat.lt_succ_self j))
    simp [h] at this
  have other : ∀ k, k ≠ tieL u.2 p j → obJ u p k (j + 1) = obJ u p k j := fun k hk => obJ_skip u p k j fun z => hk z.2.symm
  have hany : (kvs.any fun kv => decide (kv.1 = kTie (tieL u.2 p j))) = decide (tieL u.2 p j ∈ ks) := by
    rw [x.eq, List.any_map, Bool.eq_iff_iff, List.any_eq_true, decide_eq_true_eq]
    constructor
    · rintro ⟨k, hk, e⟩
      have e : kTie k = kTie (tieL u.2 p j) := of_decide_eq_true e
      rw [← kTie_inj e]; exact hk
    · intro hk
      exact ⟨_, hk, decide_eq_true rfl⟩
  unfold putK
  rw [hany]
  by_cases hm : tieL u.2 p j ∈ ks
  · rw [if_pos (decide_eq_true hm)]
    refine ⟨ks, x.nd, fun k hk => ?_, Nat.le_succ_of_le x.few, ?_⟩
    · by_cases e : k = tieL u.2 p j
      · rw [e]; exact hm
      · rw [other k e] at hk; exact x.all k hk
    · rw [x.eq, List.map_map]
      refine List.map_congr_left fun k _ => ?_
      show (if kTie k = kTie (tieL u.2 p j) then (kTie k, V.int ((obJ u p (tieL u.2 p j) j ||| 2 ^ j : Nat) : Int)) else (kTie k, V.int (obJ u p k j : Nat))) = _
      by_cases e : k = tieL u.2 p j
      · rw [if_pos (by rw [e]), e, e0]
      · rw [if_neg (fun z => e (kTie_inj z)), other k e]
  · rw [if_neg (by simpa using hm)]
    refine ⟨ks ++ [tieL u.2 p j], List.nodup_append.mpr ⟨x.nd, by simp, fun a ha b hb => by rw [List.mem_singleton.mp hb]; exact fun e => hm (e ▸ ha)⟩, fun k hk => ?_, by rw [List.length_append]; have := x.few; show ks.length + 1 ≤ j + 1; omega, ?_⟩
    · by_cases e : k = tieL u.2 p j
      · rw [e]; exact List.mem_append_right _ (List.mem_singleton.mpr rfl)
      · rw [other k e] at hk; exact List.mem_append_left _ (x.all k hk)
    · rw [List.map_append, x.eq]
      congr 1
      · exact List.map_congr_left fun k hk => by rw [other k (fun e => hm (e ▸ hk))]
      · rw [List.map_cons, List.map_nil, e0]
theorem ObK.done {u : Web} {p : Nat} {kvs : List (NK × V)} {ks : List (Option Nat)} (x : ObK u p u.1.length kvs ks) (h : u.1.length ≤ 40) : TieKs u p ks ∧ kvs = obD u p ks :=
  ⟨⟨x.nd, x.all, Nat.le_trans x.few h⟩, x.eq⟩
/-- some dicts, told so far -/
def ObDs (pd : Program) (wd : World) (H : Hp) (ds : List Addr) (u : Web) : Prop := ∀ (p : Nat) (d : Addr), ds[p]? = some d → ∃ ks, TieKs u p ks ∧ H d = some (DN pd wd d (obD u p ks))
theorem ObDs.keep {pd : Program} {wd : World} {S : Addr → Prop} {H H' : Hp} {ds : List Addr} {u : Web} (x : ObDs pd wd H ds u) (k : KS S H H') (n : ∀ d ∈ ds, ¬ S d) : ObDs pd wd H' ds u := fun p d hd => by
  obtain ⟨ks, t, e⟩ := x p d hd
  exact ⟨ks, t, k _ _ (n _ (List.mem_of_getElem? hd)) e⟩
theorem ObDs.snoc {pd : Program} {wd : World} {H : Hp} {ds : List Addr} {u : Web} {d : Addr} {ks : List (Option Nat)} (x : ObDs pd wd H ds u) (t : TieKs u ds.length ks) (e : H d = some (DN pd wd d (obD u ds.length ks))) : ObDs pd wd H (ds ++ [d]) u := fun p a h => by
  by_cases c : p < ds.length
  · rw [List.getElem?_append_left c] at h
    exact x p a h
  · rw [List.getElem?_append_right (by omega)] at h
    have : p - ds.length = 0 := by
      cases z : p - ds.length with
      | zero => rfl
      | succ n => rw [z] at h; simp at h
    rw [this] at h
    cases h
    have e2 : p = ds.length := by omega
    rw [e2]
    exact ⟨ks, t, e⟩
theorem d_nput {P : Program} {w : World} {td ty tv : TE} {D : Ends} {σ : L2.St} {H : Hp} (h : tv σ H fun v H1 => td σ H1 fun x H2 => ty σ H2 fun y H3 => ∃ a kvs k, x = .ref a ∧ H3 a = some (DN P w a kvs) ∧ y = nV k ∧ kvs.length < sizeLine ∧ D.nx σ (upd H3 a (DN P w a (putK kvs k v)))) : sNPut P w td ty tv D σ H := h
theorem signs_sg (l : List Nat) : signsT ⟨l.toArray⟩ = l.map sg := rfl
theorem keys_of {l : List Nat} {ys : List Str} (pm : ys.Perm (uniqT (signsT ⟨l.toArray⟩))) : ∃ ks : List Nat, ys = ks.map sg ∧ ks.Nodup ∧ ∀ c, c ∈ ks ↔ c ∈ l := by
  rw [signs_sg] at pm
  have mem : ∀ y, y ∈ ys ↔ ∃ c ∈ l, sg c = y := fun y => by rw [pm.mem_iff, uniqT_mem, List.mem_map]
  have eq : ys = (ys.map fun y => y.cps.toList.headD 0).map sg := by
    rw [List.map_map]
    conv => lhs; rw [← List.map_id ys]
    refine List.map_congr_left fun y hy => ?_
    obtain ⟨c, _, rfl⟩ := (mem y).mp hy
    rfl
  refine ⟨_, eq, ?_, fun c => ?_⟩
  · have nd : ys.Nodup := pm.nodup_iff.mpr (uniqT_nodup _)
    rw [eq] at nd
    exact (List.pairwise_map.mp nd).imp fun h e => h (by rw [e])
  · rw [List.mem_map]
    constructor
    · rintro ⟨y, hy, rfl⟩
      obtain ⟨c, hc, rfl⟩ := (mem y).mp hy
      exact hc
    · intro hc
      exact ⟨sg c, (mem _).mpr ⟨c, hc, rfl⟩, rfl⟩
theorem uniqT_few (xs : List Str) : (uniqT xs).length ≤ xs.length := by
  have := uniqT_len xs xs.length
  rwa [List.take_length] at this
theorem clsL_take {ks : List Nat} {u u' : Web} {ps : List Nat} {i k : Nat} (h : ks[i]? = some k) : clsL (ks.take (i + 1)) u u' ps = clsL (ks.take i) u u' ps ++ (clsC u u' ps k).toList := by
  unfold clsL
  rw [List.take_add_one, h, List.filterMap_append]
  congr 1
theorem clsL_len (ks : List Nat) (u u' : Web) (ps : List Nat) : (clsL ks u u' ps).length ≤ ks.length := List.length_filterMap_le _ _
theorem sg_eqv (a b : Nat) : (decide ((sg a : Str) = sg b)) = decide (a = b) := by
  by_cases h : a = b
  · subst h; simp
  · rw [decide_eq_false h, decide_eq_false (fun z => h (sg_inj.mp z))]
/-- a place's kind -/
theorem d_kindAt {H : Hp} {QB : VK} {u : Web} {n : Nat} (W : WOk u) (hn : n < u.1.length) (q : QB (.str (sg u.1[n])) H) : rIxS (.str ⟨u.1.toArray⟩) (.int (n : Nat)) H QB := by
  have g := List.getElem?_eq_getElem hn
  have l := W.few
  exact ⟨_, _, u.1[n], rfl, rfl, sz (by show u.1.toArray.size ≤ 100000; simp; omega), atI_nat (by show u.1.toArray.toList[n]? = _; simp [g]), q⟩
theorem d_eqSg {H : Hp} {Q : VK} {a b : Nat} (q : Q (.bl (decide (a = b))) H) : rEq (.str (sg a)) (.str (sg b)) H Q := by
  refine ⟨rfl, ?_⟩
  rw [show decide (V.str (sg a) = V.str (sg b)) = decide (a = b) by rw [Bool.eq_iff_iff]; simp]
  exact q
theorem filt_take {α : Type} {f : α → Bool} {l : List α} {j : Nat} {x : α} (h : l[j]? = some x) : (l.take (j + 1)).filter f = (l.take j).filter f ++ (if f x = true then [x] else []) := by
  rw [take_snoc' h, List.filter_append, List.filter_cons, List.filter_nil]
theorem at_kind {l : List Nat} {p k : Nat} (h : p < l.length) : decide (l[p]? = some k) = decide (l[p] = k) := by rw [Bool.eq_iff_iff, decide_eq_true_eq, decide_eq_true_eq, List.getElem?_eq_getElem h, Option.some.injEq]
theorem range_take {n i : Nat} (h : i < n) : (List.range n)[i]? = some i := by rw [List.getElem?_eq_getElem (by rw [List.length_range]; exact h), List.getElem_range]
theorem range_filt {f : Nat → Bool} (i : Nat) : (List.range (i + 1)).filter f = (List.range i).filter f ++ (if f i = true then [i] else []) := by
  rw [List.range_succ, List.filter_append, List.filter_cons, List.filter_nil]
theorem clsC_eq (u u' : Web) (ps : List Nat) (k : Nat) : clsC u u' ps k = if maskN (ps.filter fun p => decide (u.1[p]? = some k)) ≠ 0 ∧ maskN ((List.range u'.1.length).filter fun f => decide (u'.1[f]? = some k)) ≠ 0 then some (maskN (ps.filter fun p => decide (u.1[p]? = some k)), maskN ((List.range u'.1.length).filter fun f => decide (u'.1[f]? = some k))) else none := rfl
theorem d_fldS {K : PySem.W.Frag} {ta tv : TE} {f : Str} {D : Ends} {σ : L2.St} {H : Hp} (h : tv σ H fun y H1 => ta σ H1 fun x H2 => ∃ a C dx fs, x = .ref a ∧ H2 a = some (.ins C dx fs) ∧ Cls K C ∧ NoAttr K C f ∧ fs.length < 1000 ∧
  D.nx σ (upd H2 a (.ins C dx (putF f y fs)))) : sFld K ta tv f D σ H := h
theorem rgV_natsV (n : Nat) : rgV 0 (n : Nat) = natsV (List.range n) := by
  unfold rgV natsV
  refine List.ext_getElem (by simp) fun i h1 h2 => ?_
  simp
theorem d_make {C : Addr} {sp : Sp} {dvs : List V} {E : XK} {t : TA} {σ : L2.St} {H : Hp} {Q : VK} (h : t σ H fun vs H1 => ∀ x dx, H1 x = none → H1 dx = none → dx ≠ x →
  sp (.ref x :: (vs ++ dvs)) (upd (upd H1 dx (.own x)) x (.ins C dx [])) (fun v H2 => v = .non ∧ Q (.ref x) H2) E) : tMake C sp dvs E t σ H Q := h
theorem two_new {H : Hp} {x dx : Addr} {o o' : HO} (fx : H x = none) (fd : H dx = none) (n : dx ≠ x) : Same H (upd (upd H dx o) x o') := fun b u e => by
  rw [upd_ne (ne_of_none e fx), upd_ne (ne_of_none e fd)]; exact e
end Cw

/-! min of a list of told data: one of them -/
namespace Cw
open PySem PySem.Spec PyProof.Rows L2
def rMinDat (K : PySem.W.Frag) : List V → Hp → VK → Prop := fun vs H Q => ∃ (a : Addr) (xs : List V) (d : PyData) (ds : List PyData), vs = [V.ref a] ∧ SqL K H a xs ∧ DpAll K H xs (d :: ds) ∧ PySem.W.AlikeAll (d :: ds) ∧ PyData.depthAll (d :: ds) ≤ 60 ∧ ∀ v ∈ xs, Q v H
theorem vals_at {xs : List V} {us : List Value} (r : Vals xs us) {i : Nat} {u : Value} (h : us[i]? = some u) : ∃ x ∈ xs, RelV x u := by
  induction r generalizing i with
  | nil => simp at h
  | cons a b ih =>
    cases i with
    | zero => simp at h; subst h; exact ⟨_, List.mem_cons_self, a⟩
    | succ i =>
      obtain ⟨x, hx, e⟩ := ih (by simpa using h)
      exact ⟨x, List.mem_cons_of_mem _ hx, e⟩
theorem cr_minDat {X : Cx} (hc : X.calm = true) (hu : X.A.units + 65 < cLine) : CallR X (.builtin "min") (rMinDat X.K) := by
  intro pins s σ H vs us Q I r h
  obtain ⟨a, xs, d, ds, rfl, hs, hd, hal, hdep, q⟩ := h
  obtain ⟨its, rv, hl, hz⟩ := I.list hs
  obtain ⟨u, rfl, ru⟩ := vals1 r
  obtain rfl : u = Value.ref a := ru
  obtain ⟨as, hr⟩ := Dp.readsAll I (d :: ds) xs its hd rv
  refine PySem.W.min_list_data (vs := its.toArray) (I.ok.hd hc) hl.isList hr hal (by omega) fun i v h' tk bs hv _ keep => ?_
  obtain ⟨x, hx, rx⟩ := vals_at rv (u := v) (i := i) (by simpa using hv)
  exact ⟨x, H, I.kept keep, rx, q x hx⟩
end Cw

/-! all leads, place by place -/
namespace Cw
open PySem PySem.Spec PyProof.Rows L2
/-- leads of all places by kinds -/
def knR (u u' : Web) (x e : Nat) : Bool := decide (x < u.1.length) && decide (e < u'.1.length) && decide (u.1[x]? = u'.1[e]?)
def allL (u u' : Web) : List Led := ext u'.1.length (fitM u u') (List.range u.1.length) (knR u u')
/-- may the pair (i, e) be put behind -/
def okE (u u' : Web) (l : Led) (i e : Nat) : Bool := decide (u.1[i]? = u'.1[e]?) && decide (l.filter (fun b => !fitB u u' (i, e) b) = [])
def putP (u u' : Web) (l : Led) (i e : Nat) : Option Led := if okE u u' l i e = true then some (l ++ [(i, e)]) else none
def growL (u u' : Web) (i : Nat) (l : Led) : List Led := l :: (List.range u'.1.length).filterMap (putP u u' l i)
def LLn (u u' : Web) : Nat → List Led
  | 0 => [[]]
  | i + 1 => (LLn u u' i).flatMap (growL u u' i)
theorem optV_inj' {a b : Option Nat} : optV a = optV b ↔ a = b := by
  constructor
  · intro h
    cases a <;> cases b <;> simp [optV] at h ⊢
    exact h
  · rintro rfl; rfl
theorem fitB_iff {u u' : Web} {x y : Nat × Nat} : fitB u u' x y = true ↔ x.1 ≠ y.1 ∧ x.2 ≠ y.2 ∧ tieL u.2 x.1 y.1 = tieL u'.2 x.2 y.2 := by
  unfold fitB
  by_cases h : x.1 = y.1 ∨ x.2 = y.2
  · rw [if_pos h]
    constructor
    · intro z; cases z
    · rintro ⟨a, b, _⟩
      rcases h with h | h
      · exact (a h).elim
      · exact (b h).elim
  · rw [if_neg h, decide_eq_true_eq, optV_inj']
    exact ⟨fun e => ⟨fun z => h (.inl z), fun z => h (.inr z), e⟩, fun e => e.2.2⟩
theorem fit_swap {u u' : Web} {x y : Nat × Nat} : fitB u u' x y = true ↔ fitM u u' y x = true := by
  rw [fitB_iff, fitM_iff, tieL_swap u.2 x.1 y.1, tieL_swap u'.2 x.2 y.2]
  exact ⟨fun ⟨a, b, c⟩ => ⟨Ne.symm a, Ne.symm b, c⟩, fun ⟨a, b, c⟩ => ⟨Ne.symm a, Ne.symm b, c⟩⟩
theorem okE_iff {u u' : Web} {l : Led} {i e : Nat} : okE u u' l i e = true ↔ u.1[i]? = u'.1[e]? ∧ ∀ b ∈ l, fitM u u' b (i, e) = true := by
  unfold okE
  rw [Bool.and_eq_true, decide_eq_true_eq, decide_eq_true_eq, List.filter_eq_nil_iff]
  constructor
  · rintro ⟨a, h⟩
    exact ⟨a, fun b hb => fit_swap.mp (by have := h b hb; simpa using this)⟩
  · rintro ⟨a, h⟩
    exact ⟨a, fun b hb => by have := fit_swap.mpr (h b hb); simp [this]⟩
theorem mem_grow {u u' : Web} {i : Nat} {l x : Led} : x ∈ growL u u' i l ↔ x = l ∨ ∃ e, e < u'.1.length ∧ okE u u' l i e = true ∧ x = l ++ [(i, e)] := by
  unfold growL
  rw [List.mem_cons, List.mem_filterMap]
  refine or_congr Iff.rfl ⟨?_, ?_⟩
  · rintro ⟨e, he, h⟩
    unfold putP at h
    by_cases c : okE u u' l i e = true
    · rw [if_pos c] at h
      exact ⟨e, List.mem_range.mp he, c, (Option.some.inj h).symm⟩
    · rw [if_neg c] at h; cases h
  · rintro ⟨e, he, c, rfl⟩
    exact ⟨e, List.mem_range.mpr he, if_pos c⟩
/-- what the leads of the first i places are -/
def LeadOk (u u' : Web) (i : Nat) (l : Led) : Prop := l.Pairwise (fun a b => a.1 < b.1 ∧ fitM u u' a b = true) ∧ ∀ p ∈ l, p.1 < i ∧ p.2 < u'.1.length ∧ knR u u' p.1 p.2 = true
theorem LLn_mem {u u' : Web} : ∀ {i : Nat} {l : Led}, i ≤ u.1.length → (l ∈ LLn u u' i ↔ LeadOk u u' i l)
  | 0, l, _ => by
    show l ∈ [[]] ↔ _
    rw [List.mem_singleton]
    constructor
    · rintro rfl; exact ⟨.nil, by simp⟩
    · rintro ⟨_, h⟩
      cases l with
      | nil => rfl
      | cons p l => exact absurd (h p List.mem_cons_self).1 (Nat.not_lt_zero _)
  | i + 1, l, hi => by
    show l ∈ (LLn u u' i).flatMap (growL u u' i) ↔ _
    rw [List.mem_flatMap]
    constructor
    · rintro ⟨l0, h0, h⟩
      obtain ⟨pw, al⟩ := (LLn_mem (by omega)).mp h0
      rcases mem_grow.mp h with rfl | ⟨e, he, ok, rfl⟩
      · exact ⟨pw, fun p hp => ⟨by have := (al p hp).1; omega, (al p hp).2⟩⟩
      · obtain ⟨k, f⟩ := okE_iff.mp ok
        refine ⟨List.pairwise_append.mpr ⟨pw, List.pairwise_singleton _ _, fun a ha b hb => ?_⟩, fun p hp => ?_⟩
        · rw [List.mem_singleton.mp hb]
          exact ⟨(al a ha).1, f a ha⟩
        · rcases List.mem_append.mp hp with hp | hp
          · exact ⟨by have := (al p hp).1; omega, (al p hp).2⟩
          · rw [List.mem_singleton.mp hp]
            refine ⟨Nat.lt_succ_self _, he, ?_⟩
            unfold knR
            simp only [Bool.and_eq_true, decide_eq_true_eq]
            exact ⟨⟨by show i < _; omega, he⟩, k⟩
    · rintro ⟨pw, al⟩
      by_cases hn : l = []
      · subst hn
        exact ⟨[], (LLn_mem (by omega)).mpr ⟨.nil, by simp⟩, mem_grow.mpr (.inl rfl)⟩
      · obtain ⟨l0, p, rfl⟩ : ∃ l0 p, l = l0 ++ [p] := ⟨l.dropLast, l.getLast hn, (List.dropLast_concat_getLast hn).symm⟩
        obtain ⟨pw0, _, cr⟩ := List.pairwise_append.mp pw
        have hp := al p (List.mem_append_right _ (List.mem_singleton.mpr rfl))
        have lo : ∀ a ∈ l0, a.1 < p.1 ∧ fitM u u' a p = true := fun a ha => cr a ha p (List.mem_singleton.mpr rfl)
        by_cases c : p.1 = i
        · refine ⟨l0, (LLn_mem (by omega)).mpr ⟨pw0, fun a ha => ⟨by have := (lo a ha).1; omega, (al a (List.mem_append_left _ ha)).2⟩⟩, mem_grow.mpr (.inr ⟨p.2, hp.2.1, okE_iff.mpr ⟨?_, fun b hb => ?_⟩, ?_⟩)⟩
          · have := hp.2.2
            unfold knR at this
            simp only [Bool.and_eq_true, decide_eq_true_eq] at this
            rw [← c]; exact this.2
          · rw [show (i, p.2) = p by rw [← c]]
            exact (lo b hb).2
          · rw [show (i, p.2) = p by rw [← c]]
        · refine ⟨l0 ++ [p], (LLn_mem (by omega)).mpr ⟨pw, fun a ha => ⟨?_, (al a ha).2⟩⟩, mem_grow.mpr (.inl rfl)⟩
          rcases List.mem_append.mp ha with h | h
          · have := (lo a h).1; omega
          · rw [List.mem_singleton.mp h]; omega
theorem grow_back {u u' : Web} {i : Nat} {l x : Led} (h : x ∈ growL u u' i l) (al : ∀ p ∈ l, p.1 < i) : x.filter (fun p => decide (p.1 < i)) = l := by
  have e : l.filter (fun p => decide (p.1 < i)) = l := List.filter_eq_self.mpr fun p hp => decide_eq_true (al p hp)
  rcases mem_grow.mp h with rfl | ⟨f, _, _, rfl⟩
  · exact e
  · rw [List.filter_append, e]
    simp
theorem LLn_nodup {u u' : Web} : ∀ {i : Nat}, i ≤ u.1.length → (LLn u u' i).Nodup
  | 0, _ => by simp [LLn]
  | i + 1, hi => by
    have ih := LLn_nodup (u := u) (u' := u') (i := i) (by omega)
    show ((LLn u u' i).flatMap (growL u u' i)).Nodup
    unfold List.Nodup
    rw [List.pairwise_flatMap]
    have al : ∀ l ∈ LLn u u' i, ∀ p ∈ l, p.1 < i := fun l hl p hp => (((LLn_mem (by omega)).mp hl).2 p hp).1
    refine ⟨fun l hl => ?_, List.Pairwise.imp_of_mem (fun {a b} ha hb ne x hx y hy e => ?_) ih⟩
    · unfold growL
      rw [List.pairwise_cons]
      refine ⟨fun x hx e => ?_, ?_⟩
      · subst e
        rw [List.mem_filterMap] at hx
        obtain ⟨f, _, h⟩ := hx
        unfold putP at h
        split at h
        · have := congrArg List.length (Option.some.inj h)
          simp at this
        · cases h
      · rw [List.pairwise_filterMap]
        refine List.Pairwise.imp ?_ (List.nodup_range (n := u'.1.length))
        intro a b ne x hx y hy e
        unfold putP at hx hy
        split at hx
        · split at hy
          · have h1 := Option.some.inj hx
            have h2 := Option.some.inj hy
            rw [← h1, ← h2] at e
            have := List.append_cancel_left e
            simp at this
            exact ne this
          · cases hy
        · cases hx
    · subst e
      exact ne ((grow_back hx (al a ha)).symm.trans (grow_back hy (al b hb)))
theorem ext_nodup {m : Nat} {fit : Nat × Nat → Nat × Nat → Bool} : ∀ {xs : List Nat} {R : Nat → Nat → Bool}, xs.Pairwise (· < ·) → (ext m fit xs R).Nodup
  | [], R, _ => by simp [ext]
  | x :: xs, R, h => by
    have hx := (List.pairwise_cons.mp h).1
    have hs := (List.pairwise_cons.mp h).2
    unfold ext
    refine List.nodup_append.mpr ⟨?_, ext_nodup hs, ?_⟩
    · unfold List.Nodup
      rw [List.pairwise_flatMap]
      refine ⟨fun e _ => ?_, List.Pairwise.imp ?_ (List.Pairwise.filter _ (List.nodup_range (n := m)))⟩
      · exact List.pairwise_map.mpr ((ext_nodup hs).imp fun ne h => ne (List.cons.inj h).2)
      · intro a b ne y hy z hz e
        obtain ⟨y', _, rfl⟩ := List.mem_map.mp hy
        obtain ⟨z', _, rfl⟩ := List.mem_map.mp hz
        exact ne (congrArg Prod.snd (List.cons.inj e).1)
    · intro a ha b hb e
      subst e
      obtain ⟨f, _, h⟩ := List.mem_flatMap.mp ha
      obtain ⟨y, _, rfl⟩ := List.mem_map.mp h
      have := (((ext_mem hs).mp hb).2 (x, f) List.mem_cons_self).1
      exact Nat.lt_irrefl _ (hx x this)
theorem all_perm (u u' : Web) : (LLn u u' u.1.length).Perm (allL u u') := by
  refine (List.perm_ext_iff_of_nodup (LLn_nodup (Nat.le_refl _)) (ext_nodup List.pairwise_lt_range)).mpr fun l => ?_
  rw [LLn_mem (Nat.le_refl _)]
  rw [ext_mem List.pairwise_lt_range]
  unfold LeadOk
  simp only [List.mem_range]
theorem all_cnt (u u' : Web) (k : Nat) : ((LLn u u' u.1.length).filter fun l => decide (l.length = k)).length = cnt (allL u u') k := ((all_perm u u').filter _).length_eq
theorem grow_len (u u' : Web) (i : Nat) (l : Led) : (growL u u' i l).length ≤ u'.1.length + 1 := by
  unfold growL
  rw [List.length_cons]
  have := List.length_filterMap_le (putP u u' l i) (List.range u'.1.length)
  rw [List.length_range] at this
  omega
theorem flat_len {α β : Type} {f : α → List β} {c : Nat} (h : ∀ a, (f a).length ≤ c) : ∀ l : List α, (l.flatMap f).length ≤ l.length * c
  | [] => by simp
  | a :: l => by
    rw [List.flatMap_cons, List.length_append, List.length_cons, Nat.succ_mul]
    have := h a
    have := flat_len h l
    omega
theorem LLn_len (u u' : Web) : ∀ i, (LLn u u' i).length ≤ (u'.1.length + 1) ^ i
  | 0 => by simp [LLn]
  | i + 1 => by
    show ((LLn u u' i).flatMap (growL u u' i)).length ≤ _
    rw [Nat.pow_succ]
    exact Nat.le_trans (flat_len (grow_len u u' i) _) (Nat.mul_le_mul_right _ (LLn_len u u' i))
theorem lead_len {u u' : Web} {i : Nat} {l : Led} (h : LeadOk u u' i l) : l.length ≤ i := by
  have := nodup_len i (l.map Prod.fst) (List.pairwise_map.mpr (h.1.imp fun z => Nat.ne_of_lt z.1)) fun x hx => by
    obtain ⟨p, hp, rfl⟩ := List.mem_map.mp hx
    exact (h.2 p hp).1
  rwa [List.length_map] at this
theorem nil_mem (u u' : Web) : ∀ i, [] ∈ LLn u u' i
  | 0 => by simp [LLn]
  | i + 1 => List.mem_flatMap.mpr ⟨[], nil_mem u u' i, mem_grow.mpr (.inl rfl)⟩
theorem shaped_pairs (l : Led) : SeqAt.shaped (.list (l.map pairD)) = true := shaped_list (k := 1) (by decide) fun d hd => by
  obtain ⟨t, _, rfl⟩ := List.mem_map.mp hd
  exact pairD_lay t
theorem put_take (u u' : Web) (l : Led) (i e : Nat) : (List.range (e + 1)).filterMap (putP u u' l i) = (List.range e).filterMap (putP u u' l i) ++ (putP u u' l i e).toList := by
  rw [List.range_succ, List.filterMap_append]
  congr 1
theorem flat_take {α β : Type} {f : α → List β} {l : List α} {j : Nat} {x : α} (h : l[j]? = some x) : (l.take (j + 1)).flatMap f = (l.take j).flatMap f ++ f x := by
  rw [take_snoc' h, List.flatMap_append]
  simp
theorem eqv_lead (l : Led) : PyData.eqv (.list (l.map pairD)) (.list []) = decide (l = []) := by
  rw [eqv_nil]
  cases l <;> simp
/-- the greatest of all leads that lie -/
def GrL (u u' : Web) (k : Nat) : Prop := cnt (allL u u') k ≠ 0 ∧ ∀ j : Nat, k < j → cnt (allL u u') j = 0
theorem GrL.one {u u' : Web} {j k : Nat} (a : GrL u u' j) (b : GrL u u' k) : j = k := by
  rcases Nat.lt_trichotomy j k with c | c | c
  · exact (b.1 (a.2 k c)).elim
  · exact c
  · exact (a.1 (b.2 j c)).elim
theorem GrL.of {u u' : Web} {l : Led} (h : l ∈ LLn u u' u.1.length) (m : ∀ x ∈ LLn u u' u.1.length, x.length ≤ l.length) : GrL u u' l.length := by
  refine ⟨fun z => ?_, fun j hj => ?_⟩
  · rw [← all_cnt, List.length_eq_zero_iff, List.filter_eq_nil_iff] at z
    exact z l h (decide_eq_true rfl)
  · rw [← all_cnt, List.length_eq_zero_iff, List.filter_eq_nil_iff]
    intro x hx e
    have := of_decide_eq_true e
    have := m x hx
    omega
theorem alike_leads (ls : List Led) : PySem.W.AlikeAll (ls.map fun l => PyData.list (l.map pairD)) := by
  refine ⟨fun x hx y hy => ?_, fun x hx => ?_⟩
  · obtain ⟨a, _, rfl⟩ := List.mem_map.mp hx
    obtain ⟨b, _, rfl⟩ := List.mem_map.mp hy
    have go : ∀ a b : Led, PySem.W.alikeAll (a.map pairD) (b.map pairD) = true := fun a => by
      induction a with
      | nil => intro b; simp [PySem.W.alikeAll]
      | cons x a ih =>
        intro b
        cases b with
        | nil => simp [PySem.W.alikeAll]
        | cons y b => simp [PySem.W.alikeAll, PySem.W.alike, pairD, ih]
    simp only [PySem.W.alike]
    exact go a b
  · obtain ⟨a, _, rfl⟩ := List.mem_map.mp hx
    exact nofun
theorem depth_leads (ls : List Led) : PyData.depthAll (ls.map fun l => PyData.list (l.map pairD)) ≤ 60 := by
  have one : ∀ l : Led, PyData.depthAll (l.map pairD) ≤ 1 := fun l => by
    induction l with
    | nil => exact Nat.zero_le _
    | cons p l ih =>
      rw [List.map_cons, PyData.depthAll]
      have : (pairD p).depth = 1 := by simp [pairD, PyData.depth, PyData.depthAll]
      omega
  have go : PyData.depthAll (ls.map fun l => PyData.list (l.map pairD)) ≤ 2 := by
    induction ls with
    | nil => exact Nat.zero_le _
    | cons l ls ih =>
      rw [List.map_cons, PyData.depthAll]
      have := one l
      have : (PyData.list (l.map pairD)).depth ≤ 2 := by rw [PyData.depth]; omega
      omega
  omega
def rLenSq (K : PySem.W.Frag) : List V → Hp → VK → Prop := fun xs H Q => ∃ p ys, xs = [.ref p] ∧ (SqL K H p ys ∨ SqT K H p ys) ∧ Q (.int ys.length) H
theorem sql_ks {K : PySem.W.Frag} {H H' : Hp} {P a : Addr} {t : Array Value} {xs : List V} (k : KS (fun b => b = P) H H') (e : H P = some (.tbl t)) (h : SqL K H a xs) : SqL K H' a xs := by
  have st : ∀ b o, H b = some o → (∀ t, o ≠ .tbl t) → H' b = some o := fun b o z n => k b o (fun y => by rw [y, e] at z; cases z; exact n _ rfl) z
  rcases h with (h | ⟨o, h⟩) | r
  · exact .inl (.inl (st _ _ h fun _ => nofun))
  · exact .inl (.inr ⟨o, st _ _ h fun _ => nofun⟩)
  · exact .inr r
theorem sqt_ks {K : PySem.W.Frag} {H H' : Hp} {P a : Addr} {t : Array Value} {xs : List V} (k : KS (fun b => b = P) H H') (e : H P = some (.tbl t)) (h : SqT K H a xs) : SqT K H' a xs := by
  have st : ∀ b o, H b = some o → (∀ t, o ≠ .tbl t) → H' b = some o := fun b o z n => k b o (fun y => by rw [y, e] at z; cases z; exact n _ rfl) z
  rcases h with (h | ⟨o, h⟩) | r
  · exact .inl (.inl (st _ _ h fun _ => nofun))
  · exact .inl (.inr ⟨o, st _ _ h fun _ => nofun⟩)
  · exact .inr r
theorem web_ks {K : PySem.W.Frag} {H H' : Hp} {P : Addr} {t : Array Value} {v : V} {w : Web} (k : KS (fun b => b = P) H H') (e : H P = some (.tbl t)) (x : WebAt K H v w) : WebAt K H' v w := by
  obtain ⟨a, b, tvs, rfl, q1, q2, p⟩ := x
  refine ⟨a, b, tvs, rfl, sqt_ks k e q1, sqt_ks k e q2, Paired.imp p fun _ _ z => ?_⟩
  obtain ⟨c, rfl, q⟩ := z
  exact ⟨c, rfl, sqt_ks k e q⟩
theorem TabN.at {N : Addr → Prop} {H : Hp} {P : Addr} {q : Str} (x : TabN N H P q) : ∃ t, H P = some (.tbl t) := ⟨_, x.choose_spec.1⟩
theorem TabN.empty {N : Addr → Prop} {H : Hp} {P : Addr} {q : Str} (e : H P = some (.tbl #[])) : TabN N H P q := ⟨#[], e, by simp [TriplesOk], fun pos cv h => by simp [codeAmong] at h⟩
/-- a table stays where a list changes -/
theorem tabN_keep {N : Addr → Prop} {H H' : Hp} {P h : Addr} {q : Str} {ys : List V} (x : TabN N H P q) (k : Keep h H H') (e : H h = some (.lst ys)) : TabN N H' P q := by
  obtain ⟨ps, z, y1, y2⟩ := x
  refine ⟨ps, k _ _ (fun y => by rw [y, e] at z; cases z) z, y1, fun pos cv hc => ?_⟩
  obtain ⟨cc, e1, e3, e2⟩ := y2 pos cv hc
  exact ⟨cc, e1, e3, k _ _ (fun y => by rw [y, e] at e2; cases e2) e2⟩
theorem sz_of5 : (5 + 2) * Bd 5 5 ≤ sizeLine := by decide +kernel
theorem one_lead {u u' : Web} {k : Nat} (e : allL u u' = [[]]) (g : GrL u u' k) : cnt (allL u u') k = 1 := by
  have h0 : cnt (allL u u') 0 = 1 := by rw [e]; rfl
  have z : GrL u u' 0 := ⟨by rw [h0]; decide, fun j hj => by rw [e]; unfold cnt; simp; omega⟩
  rw [g.one z]; exact h0
end Cw

/-! the first lead of a length -/
namespace Cw
open PySem PySem.Spec PyProof.Rows L2
/-- the first of this length -/
def fstL (L : List Led) (k : Nat) : Option Led := L.find? fun l => decide (l.length = k)
theorem fst_none {L : List Led} {k : Nat} (h : cnt L k = 0) : fstL L k = none := by
  unfold cnt at h
  rw [List.length_eq_zero_iff, List.filter_eq_nil_iff] at h
  exact List.find?_eq_none.mpr h
theorem fst_some {L : List Led} {k : Nat} (h : cnt L k ≠ 0) : ∃ l, fstL L k = some l ∧ l ∈ L ∧ l.length = k := by
  cases e : fstL L k with
  | none =>
    exfalso
    apply h
    unfold cnt
    rw [List.length_eq_zero_iff, List.filter_eq_nil_iff]
    exact List.find?_eq_none.mp e
  | some l => exact ⟨l, rfl, List.mem_of_find?_eq_some e, of_decide_eq_true (List.find?_some (p := fun l : Led => decide (l.length = k)) e)⟩
theorem fst_app (A B : List Led) (k : Nat) : fstL (A ++ B) k = (fstL A k).or (fstL B k) := by unfold fstL; rw [List.find?_append]
theorem fst_pre (pre : Led) (L : List Led) (k : Nat) : fstL (L.map (pre ++ ·)) (pre.length + k) = (fstL L k).map (pre ++ ·) := by
  unfold fstL
  rw [List.find?_map]
  congr 2
  funext l
  simp only [Function.comp]
  rw [List.length_append]
  exact decide_eq_decide.mpr ⟨fun h => by omega, fun h => by omega⟩
theorem cnt_pre (pre : Led) (L : List Led) (k : Nat) : cnt (L.map (pre ++ ·)) (pre.length + k) = cnt L k := by
  unfold cnt
  rw [List.filter_map, List.length_map]
  congr 2
  funext l
  simp only [Function.comp]
  rw [List.length_append]
  exact decide_eq_decide.mpr ⟨fun h => by omega, fun h => by omega⟩
theorem cnt_pre_low (pre : Led) (L : List Led) {k : Nat} (h : k < pre.length) : cnt (L.map (pre ++ ·)) k = 0 := by
  unfold cnt
  rw [List.length_eq_zero_iff, List.filter_eq_nil_iff]
  intro x hx
  obtain ⟨l, _, rfl⟩ := List.mem_map.mp hx
  simp
  omega
/-- a row of the choices, and the leads that it stands for -/
def RowS (H : Hp) (u u' : Web) (s : Nat) (v : V) (seg : List Led) : Prop := ∃ r x st ds pre, v = .ref r ∧ H r = some (.tup [x, .int ((pre : Led).length : Nat), st]) ∧ StAt H st ds ∧ VC u.1.length u'.1.length ds ∧ szN ds < s ∧ seg = (extC u.1.length u'.1.length (fitM u u') ds).map (pre ++ ·) ∧
  ((x = .non ∧ pre = []) ∨ ∃ pr p e, x = .ref pr ∧ H pr = some (.tup [.int (p : Nat), .int (e : Nat)]) ∧ pre = [(p, e)])
theorem RowS.tups {H H' : Hp} {u u' : Web} {s : Nat} {v : V} {seg : List Led} (x : RowS H u u' s v seg) (t : Tups H H') : RowS H' u u' s v seg := by
  obtain ⟨r, y, st, ds, pre, e1, e2, e3, e4, e5, e6, e7⟩ := x
  refine ⟨r, y, st, ds, pre, e1, t _ _ e2, e3.tups t, e4, e5, e6, ?_⟩
  rcases e7 with z | ⟨pr, p, e, z1, z2, z3⟩
  · exact .inl z
  · exact .inr ⟨pr, p, e, z1, t _ _ z2, z3⟩
theorem ChoAt.segs {H : Hp} {u u' : Web} {cs : List Cl} {L : Addr} (x : ChoAt H u u' cs L) (v : VC u.1.length u'.1.length cs) : ∃ items segs, H L = some (.lst items) ∧ Paired (RowS H u u' (szN cs)) items segs ∧ extC u.1.length u'.1.length (fitM u u') cs = segs.flatten ∧ items.length ≤ u'.1.length + 1 := by
  obtain ⟨c, rows, last, M, eL, pr, r, st, os, rfl, er, so, O, lo⟩ := x
  have sp := ext_split (fit := fitM u u') v M (ds := []) (fun _ _ _ _ _ => trivial)
  rw [← O.ext v M] at sp
  refine ⟨_, _, eL, Paired.snoc (paired_map (g := fun e => (ext u'.1.length (fitM u u') ((List.range u.1.length).drop (lsb c.1 + 1)) fun y f => Rof cs y f && fitM u u' (lsb c.1, e) (y, f)).map ((lsb c.1, e) :: ·)) pr fun a e he z => ?_) (b := extC u.1.length u'.1.length (fitM u u') os) ⟨r, .non, st, os, [], rfl, er, so, O.vc, lo, (List.map_id _).symm, .inl ⟨rfl, rfl⟩⟩, ?_, ?_⟩
  · obtain ⟨r, pr, st, ds, rfl, e1, e2, e3, N, l⟩ := z
    exact ⟨r, .ref pr, st, ds, [(lsb c.1, e)], rfl, e1, e3, N.vc, l, by rw [N.ext v M]; rfl, .inr ⟨pr, lsb c.1, e, rfl, e2, rfl⟩⟩
  · rw [sp, List.flatten_append]
    rw [List.flatten_cons, List.flatten_nil, List.append_nil, List.flatMap_def]
  · rw [List.length_append, Paired.length pr]
    have := nodup_len u'.1.length (bitsL c.2) (bits_nodup _) fun e he => (v.low c M.mem).2 e (mem_bits.mp he)
    show _ + 1 ≤ _
    omega
/-- those that tell none are passed over -/
theorem fst_skip {segs : List (List Led)} {i k : Nat} (h : ∀ s ∈ segs.take i, cnt s k = 0) : fstL segs.flatten k = fstL (segs.drop i).flatten k := by
  conv => lhs; rw [← List.take_append_drop i segs, List.flatten_append, fst_app]
  have : fstL (segs.take i).flatten k = none := by
    unfold fstL
    rw [List.find?_eq_none]
    intro l hl
    obtain ⟨s, hs, hls⟩ := List.mem_flatten.mp hl
    have := h s hs
    unfold cnt at this
    rw [List.length_eq_zero_iff, List.filter_eq_nil_iff] at this
    exact this l hls
  rw [this, Option.none_or]
theorem fst_hit {segs : List (List Led)} {i k : Nat} {s : List Led} (h : ∀ s ∈ segs.take i, cnt s k = 0) (hs : segs[i]? = some s) (hk : cnt s k ≠ 0) : fstL segs.flatten k = fstL s k := by
  rw [fst_skip h]
  obtain ⟨hi, rfl⟩ := List.getElem?_eq_some_iff.mp hs
  rw [List.drop_eq_getElem_cons hi, List.flatten_cons, fst_app]
  obtain ⟨l, e, _⟩ := fst_some hk
  rw [e, Option.some_or]
theorem cnt_none {segs : List (List Led)} {k : Nat} (h : ∀ s ∈ segs, cnt s k = 0) : cnt segs.flatten k = 0 := by
  unfold cnt
  rw [List.length_eq_zero_iff, List.filter_eq_nil_iff]
  intro l hl
  obtain ⟨s, hs, hls⟩ := List.mem_flatten.mp hl
  have := h s hs
  unfold cnt at this
  rw [List.length_eq_zero_iff, List.filter_eq_nil_iff] at this
  exact this l hls
end Cw

/-! min of a list of told data: which -/
namespace Cw
open PySem PySem.Spec PyProof.Rows L2
def rMinI (K : PySem.W.Frag) : List V → Hp → VK → Prop := fun vs H Q => ∃ (a : Addr) (xs : List V) (d : PyData) (ds : List PyData), vs = [V.ref a] ∧ SqL K H a xs ∧ DpAll K H xs (d :: ds) ∧ PySem.W.AlikeAll (d :: ds) ∧ PyData.depthAll (d :: ds) ≤ 60 ∧ ∀ (i : Nat) (v : V), xs[i]? = some v → (d :: ds)[i]? = some (PySem.W.minD d ds) → Q v H
theorem vals_at_ix {xs : List V} {us : List Value} (r : Vals xs us) {i : Nat} {u : Value} (h : us[i]? = some u) : ∃ x, xs[i]? = some x ∧ RelV x u := by
  induction r generalizing i with
  | nil => simp at h
  | cons a b ih =>
    cases i with
    | zero => simp at h; subst h; exact ⟨_, rfl, a⟩
    | succ i =>
      obtain ⟨x, hx, e⟩ := ih (by simpa using h)
      exact ⟨x, by simpa using hx, e⟩
theorem cr_minI {X : Cx} (hc : X.calm = true) (hu : X.A.units + 65 < cLine) : CallR X (.builtin "min") (rMinI X.K) := by
  intro pins s σ H vs us Q I r h
  obtain ⟨a, xs, d, ds, rfl, hs, hd, hal, hdep, q⟩ := h
  obtain ⟨its, rv, hl, hz⟩ := I.list hs
  obtain ⟨u, rfl, ru⟩ := vals1 r
  obtain rfl : u = Value.ref a := ru
  obtain ⟨as, hr⟩ := Dp.readsAll I (d :: ds) xs its hd rv
  refine PySem.W.min_list_data (vs := its.toArray) (I.ok.hd hc) hl.isList hr hal (by omega) fun i v h' tk bs hv hm keep => ?_
  obtain ⟨x, hx, rx⟩ := vals_at_ix rv (u := v) (i := i) (by simpa using hv)
  obtain ⟨d', hd', dp⟩ := dpa_at i hd hx
  obtain ⟨as', r1⟩ := Dp.reads I d' x v dp rx
  have e : d' = PySem.W.minD d ds := (reads_det (fun b o e _ => keep b o e) r1 hm).1.symm
  exact ⟨x, H, I.kept keep, rx, q i x hx (by rw [← e]; exact hd')⟩
end Cw

/-! leads of one length, in order: the first is the least -/
namespace Cw
open PySem PySem.Spec PyProof.Rows L2
/-- ahead, as lists are -/
def ltL (a b : Led) : Bool := PySem.W.dataLt (.list (a.map pairD)) (.list (b.map pairD))
theorem pairD_eqv (p q : Nat × Nat) : PyData.eqv (pairD p) (pairD q) = decide (p = q) := by
  unfold pairD
  simp only [PyData.eqv, PyData.eqvAll, Bool.and_true]
  rw [Bool.eq_iff_iff, Bool.and_eq_true, decide_eq_true_eq]
  constructor
  · rintro ⟨h1, h2⟩
    have h1 : (p.1 : Int) = q.1 := by simpa using h1
    have h2 : (p.2 : Int) = q.2 := by simpa using h2
    exact Prod.ext (by omega) (by omega)
  · rintro rfl; simp
theorem pairD_alike (p q : Nat × Nat) : PySem.W.alike (pairD p) (pairD q) = true := by
  unfold pairD
  simp [PySem.W.alike, PySem.W.alikeAll]
theorem pairD_lt (p q : Nat × Nat) : PySem.W.dataLt (pairD p) (pairD q) = decide (p.1 < q.1 ∨ (p.1 = q.1 ∧ p.2 < q.2)) := by
  unfold pairD
  rw [PySem.W.dataLt_ii]
  exact decide_eq_decide.mpr ⟨fun h => by omega, fun h => by omega⟩
theorem ltL_cons (p q : Nat × Nat) (a b : Led) : ltL (p :: a) (q :: b) = if p = q then ltL a b else decide (p.1 < q.1 ∨ (p.1 = q.1 ∧ p.2 < q.2)) := by
  unfold ltL
  rw [PySem.W.dataLt_list, List.map_cons, List.map_cons, PySem.W.dataLt_cons (pairD_alike p q), pairD_eqv, pairD_lt, PySem.W.dataLt_list]
  by_cases e : p = q
  · rw [if_pos e, if_pos (decide_eq_true e)]
  · rw [if_neg e, if_neg (by simpa using e)]
theorem ltL_asym : ∀ (a b : Led), a.length = b.length → ltL a b = true → ltL b a = false
  | [], [], _, _ => by
    unfold ltL
    rw [PySem.W.dataLt_list]
    first | rfl | decide | simp [PySem.W.keyToksAll, PyProof.Rows.lexLt]
  | [], _ :: _, h, _ => by cases h
  | _ :: _, [], h, _ => by cases h
  | p :: a, q :: b, h, lt => by
    rw [ltL_cons] at lt ⊢
    by_cases e : p = q
    · rw [if_pos e] at lt
      rw [if_pos e.symm]
      exact ltL_asym a b (by simpa using h) lt
    · rw [if_neg e] at lt
      rw [if_neg (Ne.symm e)]
      have := of_decide_eq_true lt
      exact decide_eq_false (by omega)
theorem ltL_irr : ∀ a : Led, ltL a a = false
  | [] => by
    have : ltL [] [] = true ∨ ltL [] [] = false := by cases ltL [] [] <;> simp
    rcases this with h | h
    · exact ltL_asym [] [] rfl h
    · exact h
  | p :: a => by rw [ltL_cons, if_pos rfl]; exact ltL_irr a
/-- of one length, one is ahead -/
def Rl (a b : Led) : Prop := a.length = b.length → ltL a b = true
theorem ext_rise {m : Nat} {fit : Nat × Nat → Nat × Nat → Bool} : ∀ {xs : List Nat} {R : Nat → Nat → Bool}, xs.Pairwise (· < ·) → (ext m fit xs R).Pairwise Rl
  | [], R, _ => by simp [ext]
  | x :: xs, R, h => by
    have hx := (List.pairwise_cons.mp h).1
    have hs := (List.pairwise_cons.mp h).2
    unfold ext
    refine List.pairwise_append.mpr ⟨?_, ext_rise hs, ?_⟩
    · rw [List.pairwise_flatMap]
      refine ⟨fun e _ => ?_, List.Pairwise.imp ?_ (List.Pairwise.filter _ (List.pairwise_lt_range (n := m)))⟩
      · refine List.pairwise_map.mpr ((ext_rise hs).imp fun {a b} r l => ?_)
        rw [ltL_cons, if_pos rfl]
        exact r (by simpa using l)
      · intro a b lt y hy z hz l
        obtain ⟨y', _, rfl⟩ := List.mem_map.mp hy
        obtain ⟨z', _, rfl⟩ := List.mem_map.mp hz
        rw [ltL_cons, if_neg (fun e => Nat.ne_of_lt lt (congrArg Prod.snd e))]
        exact decide_eq_true (.inr ⟨rfl, lt⟩)
    · intro a ha b hb l
      obtain ⟨f, _, h⟩ := List.mem_flatMap.mp ha
      obtain ⟨y, _, rfl⟩ := List.mem_map.mp h
      cases b with
      | nil => cases l
      | cons q b =>
        have hq := hx _ (((ext_mem hs).mp hb).2 q List.mem_cons_self).1
        rw [ltL_cons, if_neg (fun e => Nat.ne_of_lt hq (congrArg Prod.fst e))]
        exact decide_eq_true (.inl hq)
def leadD (l : Led) : PyData := .list (l.map pairD)
/-- the least is found -/
theorem min_found {m : Led} : ∀ (ls : List Led) (a : Led), (a = m ∨ m ∈ ls) → (∀ y ∈ a :: ls, y = m ∨ (ltL m y = true ∧ ltL y m = false)) → PySem.W.minD (leadD a) (ls.map leadD) = leadD m
  | [], a, h, _ => by
    rcases h with rfl | h
    · rfl
    · cases h
  | y :: ls, a, h, al => by
    show PySem.W.minD (if PySem.W.dataLt (leadD y) (leadD a) then leadD y else leadD a) (ls.map leadD) = leadD m
    have hy := al y (List.mem_cons_of_mem _ List.mem_cons_self)
    have ha := al a List.mem_cons_self
    have rest : ∀ z ∈ ls, z = m ∨ (ltL m z = true ∧ ltL z m = false) := fun z hz => al z (List.mem_cons_of_mem _ (List.mem_cons_of_mem _ hz))
    by_cases c : PySem.W.dataLt (leadD y) (leadD a) = true
    · rw [if_pos c]
      refine min_found ls y ?_ fun z hz => ?_
      · rcases h with rfl | h
        · rcases hy with e | ⟨_, e⟩
          · exact .inl e
          · exact absurd (show ltL y a = true from c) (by rw [e]; decide)
        · rcases List.mem_cons.mp h with e | h
          · exact .inl e.symm
          · exact .inr h
      · rcases List.mem_cons.mp hz with rfl | hz
        · exact hy
        · exact rest z hz
    · rw [if_neg c]
      refine min_found ls a ?_ fun z hz => ?_
      · rcases h with e | h
        · exact .inl e
        · rcases List.mem_cons.mp h with e | h
          · rcases ha with e2 | ⟨e2, _⟩
            · exact .inl e2
            · rw [e] at e2
              exact absurd (show PySem.W.dataLt (leadD y) (leadD a) = true from e2) c
          · exact .inr h
      · rcases List.mem_cons.mp hz with rfl | hz
        · exact ha
        · exact rest z hz
/-- the first of this length is the least of this length -/
theorem fst_least {u u' : Web} {k : Nat} {m : Led} (h : fstL (allL u u') k = some m) : ∀ y ∈ (LLn u u' u.1.length).filter (fun l => decide (l.length = k)), y = m ∨ (ltL m y = true ∧ ltL y m = false) := fun y hy => by
  have hy2 := (((all_perm u u').filter fun l => decide (l.length = k)).mem_iff).mp hy
  have pw : ((allL u u').filter fun l => decide (l.length = k)).Pairwise Rl := List.Pairwise.filter _ (ext_rise List.pairwise_lt_range)
  have hd : ((allL u u').filter fun l => decide (l.length = k)).head? = some m := by rw [List.head?_filter]; exact h
  cases e : (allL u u').filter fun l => decide (l.length = k) with
  | nil => rw [e] at hd; cases hd
  | cons a as =>
    rw [e] at hd pw hy2
    obtain rfl : a = m := Option.some.inj hd
    rcases List.mem_cons.mp hy2 with rfl | hm
    · exact .inl rfl
    · have la : a.length = k := by
        have : a ∈ (allL u u').filter fun l => decide (l.length = k) := by rw [e]; exact List.mem_cons_self
        exact of_decide_eq_true (List.mem_filter.mp this).2
      have ly : y.length = k := by
        have : y ∈ (allL u u').filter fun l => decide (l.length = k) := by rw [e]; exact List.mem_cons_of_mem _ hm
        exact of_decide_eq_true (List.mem_filter.mp this).2
      have lt := (List.pairwise_cons.mp pw).1 y hm (by rw [la, ly])
      exact .inr ⟨lt, ltL_asym _ _ (by rw [la, ly]) lt⟩
theorem fst_in {u u' : Web} {k : Nat} {m : Led} (h : fstL (allL u u') k = some m) : m ∈ (LLn u u' u.1.length).filter (fun l => decide (l.length = k)) := by
  refine (((all_perm u u').filter fun l => decide (l.length = k)).mem_iff).mpr (List.mem_filter.mpr ⟨List.mem_of_find?_eq_some h, ?_⟩)
  exact List.find?_some (p := fun l : Led => decide (l.length = k)) h
end Cw

/-! leads that lie, the other way about, of webs named anew, of a web into itself; drawn leads -/
namespace Cw
open PySem PySem.Spec PyProof.Rows L2
theorem lead_pairs {u u' : Web} {i : Nat} {l : Led} (h : LeadOk u u' i l) : ∀ p ∈ l, p ∈ pairsL u u' := fun p hp => by
  obtain ⟨a, b, c⟩ := h.2 p hp
  unfold knR at c
  simp only [Bool.and_eq_true, decide_eq_true_eq] at c
  exact mem_pairsL.mpr ⟨c.1.1, b, c.2⟩
theorem lead_ofp {u u' : Web} {l : Led} (pw : l.Pairwise (fun a b => a.1 < b.1 ∧ fitM u u' a b = true)) (h : ∀ p ∈ l, p ∈ pairsL u u') : LeadOk u u' u.1.length l := ⟨pw, fun p hp => by
  obtain ⟨a, b, c⟩ := mem_pairsL.mp (h p hp)
  refine ⟨a, b, ?_⟩
  unfold knR
  simp only [Bool.and_eq_true, decide_eq_true_eq]
  exact ⟨⟨a, b⟩, c⟩⟩
theorem lead_rise {u u' : Web} {i : Nat} {l : Led} (h : LeadOk u u' i l) : l.Pairwise plt := h.1.imp fun z => .inl z.1
theorem fitM_back {u u' : Web} {a b : Nat × Nat} (h : fitM u u' a b = true) : fitM u u' b a = true := by
  obtain ⟨x, y, z⟩ := fitM_iff.mp h
  exact fitM_iff.mpr ⟨Ne.symm x, Ne.symm y, by rw [tieL_swap u.2 b.1 a.1, tieL_swap u'.2 b.2 a.2]; exact z⟩
theorem pw_two {α : Type} {R : α → α → Prop} (S : ∀ a b, R a b → R b a) : ∀ {l : List α}, l.Pairwise R → ∀ p ∈ l, ∀ q ∈ l, p ≠ q → R p q
  | [], _, p, hp, _, _, _ => nomatch hp
  | a :: l, h, p, hp, q, hq, n => by
    have h1 := List.pairwise_cons.mp h
    rcases List.mem_cons.mp hp with e | hp2
    · rcases List.mem_cons.mp hq with e2 | hq2
      · exact (n (e.trans e2.symm)).elim
      · rw [e]; exact h1.1 q hq2
    · rcases List.mem_cons.mp hq with e2 | hq2
      · rw [e2]; exact S _ _ (h1.1 p hp2)
      · exact pw_two S h1.2 p hp2 q hq2 n
theorem lead_fit {u u' : Web} {i : Nat} {l : Led} (h : LeadOk u u' i l) : ∀ p ∈ l, ∀ q ∈ l, p ≠ q → fitM u u' p q = true := pw_two (fun _ _ => fitM_back) (h.1.imp fun z => z.2)
theorem sub_many {α : Type} [DecidableEq α] : ∀ (ks ns : List α), ks.Nodup → (∀ k ∈ ks, k ∈ ns) → ks.length ≤ ns.length
  | [], _, _, _ => Nat.zero_le _
  | k :: r, ns, nd, sub => by
    have hk := sub k List.mem_cons_self
    have h1 := sub_many r (ns.erase k) (List.nodup_cons.mp nd).2 fun x hx => (List.mem_erase_of_ne fun (z : x = k) => (List.nodup_cons.mp nd).1 (z ▸ hx)).mpr (sub x (List.mem_cons_of_mem _ hx))
    rw [List.length_erase_of_mem hk] at h1
    have := List.length_pos_of_mem hk
    rw [List.length_cons]
    omega
/-- pairs moved to pairs, that fit where they fitted -/
structure Mov (u u' t t' : Web) (f : Nat × Nat → Nat × Nat) : Prop where
  to : ∀ p ∈ pairsL u u', f p ∈ pairsL t t'
  inj : ∀ p ∈ pairsL u u', ∀ q ∈ pairsL u u', f p = f q → p = q
  fit : ∀ p ∈ pairsL u u', ∀ q ∈ pairsL u u', fitM u u' p q = true → fitM t t' (f p) (f q) = true
def moveL (t t' : Web) (f : Nat × Nat → Nat × Nat) (l : Led) : Led := (pairsL t t').filter fun q => decide (q ∈ l.map f)
theorem plt_ne {a b : Nat × Nat} (h : plt a b) : a ≠ b := fun e => by
  subst e
  unfold plt at h
  omega
theorem plt_nodup {l : Led} (h : l.Pairwise plt) : l.Nodup := h.imp plt_ne
theorem mem_move {u u' t t' : Web} {f : Nat × Nat → Nat × Nat} (M : Mov u u' t t' f) {i : Nat} {l : Led} (h : LeadOk u u' i l) {q : Nat × Nat} : q ∈ moveL t t' f l ↔ q ∈ l.map f := by
  unfold moveL
  rw [List.mem_filter, decide_eq_true_eq]
  refine ⟨fun h => h.2, fun z => ⟨?_, z⟩⟩
  obtain ⟨p, hp, rfl⟩ := List.mem_map.mp z
  exact M.to p (lead_pairs h p hp)
theorem move_rise (t t' : Web) (f : Nat × Nat → Nat × Nat) (l : Led) : (moveL t t' f l).Pairwise plt := List.Pairwise.filter _ (pairsL_rise t t')
theorem move_ok {u u' t t' : Web} {f : Nat × Nat → Nat × Nat} (M : Mov u u' t t' f) {i : Nat} {l : Led} (h : LeadOk u u' i l) : LeadOk t t' t.1.length (moveL t t' f l) := by
  refine lead_ofp (List.Pairwise.imp_of_mem (fun {a b} ha hb lt => ?_) (move_rise t t' f l)) fun p hp => (List.mem_filter.mp hp).1
  obtain ⟨p, hp, rfl⟩ := List.mem_map.mp ((mem_move M h).mp ha)
  obtain ⟨q, hq, rfl⟩ := List.mem_map.mp ((mem_move M h).mp hb)
  have ne : p ≠ q := fun e => plt_ne lt (by rw [e])
  have fm := M.fit p (lead_pairs h p hp) q (lead_pairs h q hq) (lead_fit h p hp q hq ne)
  have n1 := (fitM_iff.mp fm).1
  refine ⟨?_, fm⟩
  rcases lt with c | c
  · exact c
  · exact (n1 c.1).elim
theorem move_len {u u' t t' : Web} {f : Nat × Nat → Nat × Nat} (M : Mov u u' t t' f) {i : Nat} {l : Led} (h : LeadOk u u' i l) : (moveL t t' f l).length = l.length := by
  have nd : (l.map f).Nodup := map_nodup (lead_rise h) fun x hx y hy e => M.inj x (lead_pairs h x hx) y (lead_pairs h y hy) e
  have := ((List.perm_ext_iff_of_nodup (plt_nodup (move_rise t t' f l)) nd).mpr fun q => mem_move M h).length_eq
  rw [this, List.length_map]
theorem move_inj {u u' t t' : Web} {f : Nat × Nat → Nat × Nat} (M : Mov u u' t t' f) {i : Nat} {l m : Led} (h : LeadOk u u' i l) (g : LeadOk u u' i m) (e : moveL t t' f l = moveL t t' f m) : l = m := by
  have one : ∀ {l m : Led}, LeadOk u u' i l → LeadOk u u' i m → moveL t t' f l = moveL t t' f m → ∀ p ∈ l, p ∈ m := fun {l m} h g e p hp => by
    have h1 := (mem_move M h).mpr (List.mem_map.mpr ⟨p, hp, rfl⟩)
    rw [e] at h1
    obtain ⟨q, hq, z⟩ := List.mem_map.mp ((mem_move M g).mp h1)
    have := M.inj q (lead_pairs g q hq) p (lead_pairs h p hp) z
    rwa [← this]
  exact plt_ext (lead_rise h) (lead_rise g) fun x => ⟨one h g e x, one g h e.symm x⟩
theorem cnt_le {u u' t t' : Web} {f : Nat × Nat → Nat × Nat} (M : Mov u u' t t' f) (k : Nat) : cnt (allL u u') k ≤ cnt (allL t t') k := by
  rw [← all_cnt, ← all_cnt]
  have ok : ∀ l ∈ (LLn u u' u.1.length).filter (fun l => decide (l.length = k)), LeadOk u u' u.1.length l ∧ l.length = k := fun l hl => by
    obtain ⟨a, b⟩ := List.mem_filter.mp hl
    exact ⟨(LLn_mem (Nat.le_refl _)).mp a, of_decide_eq_true b⟩
  have nd : (((LLn u u' u.1.length).filter (fun l => decide (l.length = k))).map (moveL t t' f)).Nodup := by
    unfold List.Nodup
    rw [List.pairwise_map]
    exact List.Pairwise.imp_of_mem (fun {a b} ha hb ne e => ne (move_inj M (ok a ha).1 (ok b hb).1 e)) (List.Pairwise.filter _ (LLn_nodup (Nat.le_refl _)))
  have := sub_many _ ((LLn t t' t.1.length).filter (fun l => decide (l.length = k))) nd fun x hx => by
    obtain ⟨l, hl, rfl⟩ := List.mem_map.mp hx
    obtain ⟨a, b⟩ := ok l hl
    exact List.mem_filter.mpr ⟨(LLn_mem (Nat.le_refl _)).mpr (move_ok M a), decide_eq_true (by rw [move_len M a]; exact b)⟩
  rwa [List.length_map] at this
theorem cnt_eq {u u' t t' : Web} {f : Nat × Nat → Nat × Nat} (M : Mov u u' t t' f) (on : ∀ q ∈ pairsL t t', ∃ p, p ∈ pairsL u u' ∧ f p = q) (bk : ∀ p ∈ pairsL u u', ∀ q ∈ pairsL u u', fitM t t' (f p) (f q) = true → fitM u u' p q = true) (k : Nat) : cnt (allL u u') k = cnt (allL t t') k := by
  refine Nat.le_antisymm (cnt_le M k) ?_
  have ⟨g, hg⟩ : ∃ g : Nat × Nat → Nat × Nat, ∀ q, q ∈ pairsL t t' → g q ∈ pairsL u u' ∧ f (g q) = q := by
    refine Classical.axiomOfChoice (r := fun q p => q ∈ pairsL t t' → p ∈ pairsL u u' ∧ f p = q) fun q => ?_
    by_cases c : q ∈ pairsL t t'
    · obtain ⟨p, hp⟩ := on q c
      exact ⟨p, fun _ => hp⟩
    · exact ⟨q, fun z => (c z).elim⟩
  exact cnt_le (f := g) ⟨fun q h => (hg q h).1, fun p hp q hq e => by rw [← (hg p hp).2, e, (hg q hq).2], fun p hp q hq z => bk _ (hg p hp).1 _ (hg q hq).1 (by rw [(hg p hp).2, (hg q hq).2]; exact z)⟩ k
theorem GrL.eq {u u' t t' : Web} {k : Nat} (e : ∀ k, cnt (allL u u') k = cnt (allL t t') k) (g : GrL u u' k) : GrL t t' k := ⟨by rw [← e]; exact g.1, fun j h => by rw [← e]; exact g.2 j h⟩
/-- the other way about -/
theorem cnt_swap (u u' : Web) (k : Nat) : cnt (allL u u') k = cnt (allL u' u) k := by
  have mem : ∀ {u u' : Web} {p : Nat × Nat}, p ∈ pairsL u u' → (p.2, p.1) ∈ pairsL u' u := fun h => by
    obtain ⟨a, b, c⟩ := mem_pairsL.mp h
    exact mem_pairsL.mpr ⟨b, a, c.symm⟩
  have fit : ∀ {u u' : Web} {p q : Nat × Nat}, fitM u u' p q = true → fitM u' u (p.2, p.1) (q.2, q.1) = true := fun h => by
    obtain ⟨a, b, c⟩ := fitM_iff.mp h
    exact fitM_iff.mpr ⟨b, a, c.symm⟩
  refine cnt_eq (f := fun p => (p.2, p.1)) ⟨fun p hp => mem hp, fun p _ q _ e => Prod.ext (congrArg Prod.snd e) (congrArg Prod.fst e), fun p _ q _ z => fit z⟩ (fun q hq => ⟨(q.2, q.1), mem hq, rfl⟩) (fun p _ q _ z => ?_) k
  have := fit z
  exact this
/-- of a web named anew -/
theorem cnt_named {u u' t : Web} {qs : List Nat} (U : WOk u) (T : WOk t) (o : Ord qs u.1.length) (N : Named u qs t) (k : Nat) : cnt (allL u u') k = cnt (allL t u') k := by
  refine cnt_eq (f := fun p => (qa qs p.1, p.2)) ⟨fun p hp => ?_, fun p hp q hq e => ?_, fun p hp q hq z => ?_⟩ (fun q hq => ?_) (fun p hp q hq z => ?_) k
  · obtain ⟨a, b, c⟩ := mem_pairsL.mp hp
    exact mem_pairsL.mpr ⟨by rw [N.len]; exact o.lt' a, b, by rw [← c]; exact N.kinds _ a⟩
  · have e2 : (qa qs p.1, p.2) = (qa qs q.1, q.2) := e
    injection e2 with e3 e4
    exact Prod.ext (o.inj (mem_pairsL.mp hp).1 (mem_pairsL.mp hq).1 e3) e4
  · obtain ⟨a, b, c⟩ := fitM_iff.mp z
    have hp := (mem_pairsL.mp hp).1
    have hq := (mem_pairsL.mp hq).1
    exact fitM_iff.mpr ⟨fun e => a (o.inj hp hq e), b, by rw [tieL_named U T o N hp hq]; exact c⟩
  · obtain ⟨a, b, c⟩ := mem_pairsL.mp hq
    rw [N.len] at a
    obtain ⟨i, hi, e⟩ := o.onto a
    refine ⟨(i, q.2), mem_pairsL.mpr ⟨hi, b, ?_⟩, Prod.ext e rfl⟩
    rw [← c, ← e]
    exact (N.kinds i hi).symm
  · obtain ⟨a, b, c⟩ := fitM_iff.mp z
    have hp := (mem_pairsL.mp hp).1
    have hq := (mem_pairsL.mp hq).1
    rw [tieL_named U T o N hp hq] at c
    exact fitM_iff.mpr ⟨fun e => a (by show qa qs _ = qa qs _; rw [e]), b, c⟩
/-- each place into itself -/
def ownL (n : Nat) : Led := (List.range n).map fun p => (p, p)
theorem own_lead (u : Web) : LeadOk u u u.1.length (ownL u.1.length) := by
  refine lead_ofp ?_ fun p hp => ?_
  · unfold ownL
    rw [List.pairwise_map]
    exact List.pairwise_lt_range.imp fun {a b} lt => ⟨lt, fitM_iff.mpr ⟨Nat.ne_of_lt lt, Nat.ne_of_lt lt, rfl⟩⟩
  · obtain ⟨i, hi, rfl⟩ := List.mem_map.mp hp
    have hi := List.mem_range.mp hi
    exact mem_pairsL.mpr ⟨hi, hi, rfl⟩
theorem own_len (n : Nat) : (ownL n).length = n := by unfold ownL; rw [List.length_map, List.length_range]
theorem own_great (u : Web) : GrL u u u.1.length := by
  have := GrL.of ((LLn_mem (Nat.le_refl _)).mpr (own_lead u)) fun x hx => by
    rw [own_len]
    exact lead_len ((LLn_mem (Nat.le_refl _)).mp hx)
  rwa [own_len] at this
theorem own_least : ∀ (a : Led) (s : Nat), (∀ p ∈ a, s ≤ p.1) → (a.Pairwise fun x y => x.1 < y.1 ∧ x.2 ≠ y.2) → (∀ p ∈ a, ∀ j, j < s → p.2 ≠ j) → ltL a ((List.range' s a.length).map fun p => (p, p)) = false
  | [], s, _, _, _ => ltL_irr []
  | p :: a, s, lo, pw, no => by
    rw [List.length_cons, List.range'_succ, List.map_cons, ltL_cons]
    have h1 := List.pairwise_cons.mp pw
    have lp := lo p List.mem_cons_self
    by_cases e : p = (s, s)
    · rw [if_pos e]
      refine own_least a (s + 1) (fun q hq => ?_) h1.2 fun q hq j hj => ?_
      · have := (h1.1 q hq).1
        omega
      · by_cases c : j < s
        · exact no q (List.mem_cons_of_mem _ hq) j c
        · have c : j = s := by omega
          subst c
          have := (h1.1 q hq).2
          rw [e] at this
          exact Ne.symm this
    · rw [if_neg e]
      refine decide_eq_false fun z => ?_
      rcases z with z | ⟨z1, z2⟩
      · exact absurd z (by show ¬ p.1 < s; omega)
      · exact no p List.mem_cons_self p.2 z2 rfl
theorem first_ok {u u' : Web} {k : Nat} {m : Led} (h : fstL (allL u u') k = some m) : LeadOk u u' u.1.length m ∧ m.length = k := by
  obtain ⟨a, b⟩ := List.mem_filter.mp (fst_in h)
  exact ⟨(LLn_mem (Nat.le_refl _)).mp a, of_decide_eq_true b⟩
theorem own_first {u : Web} {m : Led} (h : fstL (allL u u) u.1.length = some m) : m = ownL u.1.length := by
  obtain ⟨ok, len⟩ := first_ok h
  rcases fst_least h _ (List.mem_filter.mpr ⟨(LLn_mem (Nat.le_refl _)).mpr (own_lead u), decide_eq_true (own_len _)⟩) with e | ⟨lt, _⟩
  · exact e.symm
  · have := own_least m 0 (fun _ _ => Nat.zero_le _) (ok.1.imp fun z => ⟨z.1, (fitM_iff.mp z.2).2.1⟩) fun _ _ j hj => absurd hj (Nat.not_lt_zero j)
    rw [len, ← List.range_eq_range'] at this
    have : ltL m (ownL u.1.length) = false := this
    rw [lt] at this
    cases this
/-- drawn pairs that fit are a lead -/
theorem drawn_lead {u u' : Web} {l : Led} (rise : l.Pairwise plt) (h : ∀ p ∈ l, p ∈ pairsL u u') (f : ∀ p ∈ l, ∀ q ∈ l, p ≠ q → fitM u u' p q = true) : LeadOk u u' u.1.length l := by
  refine lead_ofp (List.Pairwise.imp_of_mem (fun {a b} ha hb lt => ?_) rise) h
  have fm := f a ha b hb (plt_ne lt)
  refine ⟨?_, fm⟩
  rcases lt with c | c
  · exact c
  · exact ((fitM_iff.mp fm).1 c.1).elim
theorem lead_most {u u' : Web} {k : Nat} {l : Led} (g : GrL u u' k) (h : LeadOk u u' u.1.length l) : l.length ≤ k := by
  by_cases c : k < l.length
  · have z := g.2 _ c
    rw [← all_cnt, List.length_eq_zero_iff, List.filter_eq_nil_iff] at z
    exact (z l ((LLn_mem (Nat.le_refl _)).mpr h) (decide_eq_true rfl)).elim
  · omega
theorem lead_least {u u' : Web} {k : Nat} {l m : Led} (f : fstL (allL u u') k = some m) (h : LeadOk u u' u.1.length l) (e : l.length = k) : ltL l m = false := by
  rcases fst_least f l (List.mem_filter.mpr ⟨(LLn_mem (Nat.le_refl _)).mpr h, decide_eq_true e⟩) with z | z
  · rw [z]; exact ltL_irr m
  · exact z.2
end Cw

/-! leads of the whole: of webs that are the same, and place by place -/
namespace Cw
open PySem PySem.Spec PyProof.Rows L2
def wholeL (u u' : Web) : List Led := (LLn u u' u.1.length).filter fun l => decide (l.length = u.1.length)
theorem whole_mem {u u' : Web} {l : Led} : l ∈ wholeL u u' ↔ LeadOk u u' u.1.length l ∧ l.length = u.1.length := by
  unfold wholeL
  rw [List.mem_filter, decide_eq_true_eq, LLn_mem (Nat.le_refl _)]
theorem whole_nodup (u u' : Web) : (wholeL u u').Nodup := List.Pairwise.filter _ (LLn_nodup (Nat.le_refl _))
theorem whole_cnt (u u' : Web) : (wholeL u u').length = cnt (allL u u') u.1.length := all_cnt u u' _
theorem all_below {n : Nat} {xs : List Nat} (nd : xs.Nodup) (b : ∀ x ∈ xs, x < n) (len : xs.length = n) {i : Nat} (hi : i < n) : i ∈ xs := by
  refine Classical.byContradiction fun c => ?_
  have := nodup_len n (i :: xs) (List.nodup_cons.mpr ⟨c, nd⟩) fun x hx => by
    rcases List.mem_cons.mp hx with rfl | h
    · exact hi
    · exact b x h
  rw [List.length_cons] at this
  omega
theorem lead_fst {u u' : Web} {n : Nat} {l : Led} (h : LeadOk u u' n l) : (l.map Prod.fst).Nodup := List.pairwise_map.mpr (h.1.imp fun z => Nat.ne_of_lt z.1)
theorem lead_snd {u u' : Web} {n : Nat} {l : Led} (h : LeadOk u u' n l) : (l.map Prod.snd).Nodup := List.pairwise_map.mpr (h.1.imp fun z => (fitM_iff.mp z.2).2.1)
theorem whole_at {u u' : Web} {l : Led} (h : LeadOk u u' u.1.length l) (e : l.length = u.1.length) {i : Nat} (hi : i < u.1.length) : ∃ k, (i, k) ∈ l := by
  have := all_below (lead_fst h) (fun x hx => by
    obtain ⟨p, hp, rfl⟩ := List.mem_map.mp hx
    exact (h.2 p hp).1) (by rw [List.length_map]; exact e) hi
  obtain ⟨p, hp, rfl⟩ := List.mem_map.mp this
  exact ⟨p.2, hp⟩
theorem whole_on {u u' : Web} {l : Led} (h : LeadOk u u' u.1.length l) (e : l.length = u'.1.length) {k : Nat} (hk : k < u'.1.length) : ∃ i, (i, k) ∈ l := by
  have := all_below (lead_snd h) (fun x hx => by
    obtain ⟨p, hp, rfl⟩ := List.mem_map.mp hx
    exact (h.2 p hp).2.1) (by rw [List.length_map]; exact e) hk
  obtain ⟨p, hp, rfl⟩ := List.mem_map.mp this
  exact ⟨p.1, hp⟩
theorem lead_fun {u u' : Web} {n : Nat} {l : Led} (h : LeadOk u u' n l) {i a b : Nat} (ha : (i, a) ∈ l) (hb : (i, b) ∈ l) : a = b := by
  refine Classical.byContradiction fun c => ?_
  have := (fitM_iff.mp (lead_fit h _ ha _ hb fun z => c (congrArg Prod.snd z))).1
  exact this rfl
theorem lead_inj {u u' : Web} {n : Nat} {l : Led} (h : LeadOk u u' n l) {i j a : Nat} (ha : (i, a) ∈ l) (hb : (j, a) ∈ l) : i = j := by
  refine Classical.byContradiction fun c => ?_
  have := (fitM_iff.mp (lead_fit h _ ha _ hb fun z => c (congrArg Prod.fst z))).2.1
  exact this rfl
theorem whole_some {u u' : Web} (ne : cnt (allL u u') u.1.length ≠ 0) : ∃ l, LeadOk u u' u.1.length l ∧ l.length = u.1.length := by
  rw [← whole_cnt] at ne
  obtain ⟨l, hl⟩ := List.exists_mem_of_length_pos (Nat.pos_of_ne_zero ne)
  exact ⟨l, whole_mem.mp hl⟩
theorem whole_ne {u u' : Web} {l : Led} (h : LeadOk u u' u.1.length l) (e : l.length = u.1.length) : cnt (allL u u') u.1.length ≠ 0 := by
  rw [← whole_cnt]
  exact Nat.ne_of_gt (List.length_pos_of_mem (whole_mem.mpr ⟨h, e⟩))
/-- of webs that are the same -/
theorem whole_like {u u' : Web} (len : u'.1.length = u.1.length) (ne : cnt (allL u u') u.1.length ≠ 0) (k : Nat) : cnt (allL u u) k = cnt (allL u u') k := by
  obtain ⟨l, h, e⟩ := whole_some ne
  have ⟨F, hF⟩ : ∃ F : Nat → Nat, ∀ i, i < u.1.length → (i, F i) ∈ l := by
    refine Classical.axiomOfChoice (r := fun i k => i < u.1.length → (i, k) ∈ l) fun i => ?_
    by_cases c : i < u.1.length
    · obtain ⟨k, hk⟩ := whole_at h e c
      exact ⟨k, fun _ => hk⟩
    · exact ⟨0, fun z => (c z).elim⟩
  have lt : ∀ i, i < u.1.length → F i < u'.1.length ∧ u.1[i]? = u'.1[F i]? := fun i hi => by
    obtain ⟨_, b, c⟩ := mem_pairsL.mp (lead_pairs h _ (hF i hi))
    exact ⟨b, c⟩
  have ff : ∀ i j, i < u.1.length → j < u.1.length → i ≠ j → F i ≠ F j ∧ tieL u.2 i j = tieL u'.2 (F i) (F j) := fun i j hi hj ne => by
    have := fitM_iff.mp (lead_fit h _ (hF i hi) _ (hF j hj) fun z => ne (congrArg Prod.fst z))
    exact this.2
  refine cnt_eq (f := fun p => (p.1, F p.2)) ⟨fun p hp => ?_, fun p hp q hq e => ?_, fun p hp q hq z => ?_⟩ (fun q hq => ?_) (fun p hp q hq z => ?_) k
  · obtain ⟨a, b, c⟩ := mem_pairsL.mp hp
    exact mem_pairsL.mpr ⟨a, (lt _ b).1, by show u.1[p.1]? = u'.1[F p.2]?; rw [c]; exact (lt _ b).2⟩
  · obtain ⟨a, b, c⟩ := mem_pairsL.mp hp
    obtain ⟨a', b', c'⟩ := mem_pairsL.mp hq
    have e : (p.1, F p.2) = (q.1, F q.2) := e
    injection e with e1 e2
    refine Prod.ext e1 (Classical.byContradiction fun c => ?_)
    exact (ff _ _ b b' c).1 e2
  · obtain ⟨a, b, c⟩ := fitM_iff.mp z
    have hb := (mem_pairsL.mp hp).2.1
    have hb' := (mem_pairsL.mp hq).2.1
    obtain ⟨x, y⟩ := ff _ _ hb hb' b
    exact fitM_iff.mpr ⟨a, x, by show tieL u.2 p.1 q.1 = tieL u'.2 (F p.2) (F q.2); rw [c]; exact y⟩
  · obtain ⟨a, b, c⟩ := mem_pairsL.mp hq
    obtain ⟨i, hi⟩ := whole_on h (by rw [e, len]) b
    obtain ⟨x, y, z⟩ := mem_pairsL.mp (lead_pairs h _ hi)
    have x : i < u.1.length := x
    have z : u.1[i]? = u'.1[q.2]? := z
    exact ⟨(q.1, i), mem_pairsL.mpr ⟨a, x, by show u.1[q.1]? = u.1[i]?; rw [c, z]⟩, Prod.ext rfl (lead_fun h (hF i x) hi)⟩
  · obtain ⟨a, b, c⟩ := fitM_iff.mp z
    have hb := (mem_pairsL.mp hp).2.1
    have hb' := (mem_pairsL.mp hq).2.1
    have b : F p.2 ≠ F q.2 := b
    have n2 : p.2 ≠ q.2 := fun e => b (by rw [e])
    have c : tieL u.2 p.1 q.1 = tieL u'.2 (F p.2) (F q.2) := c
    exact fitM_iff.mpr ⟨a, n2, by rw [c]; exact (ff _ _ hb hb' n2).2.symm⟩
/-! ### place by place -/
/-- a place of a kind of its own -/
def markL (u : Web) (p c : Nat) : Web := (u.1.set p c, u.2)
theorem mark_len (u : Web) (p c : Nat) : (markL u p c).1.length = u.1.length := List.length_set
theorem mark_ok {u : Web} (U : WOk u) (p : Nat) {c : Nat} (lc : Ltr c) : WOk (markL u p c) := ⟨by rw [mark_len]; exact U.few, U.most, fun x hx => by
  rcases List.mem_or_eq_of_mem_set hx with h | h
  · exact U.kinds x h
  · rw [h]; exact lc, U.rise, fun t ht => by rw [mark_len]; exact U.ends t ht⟩
theorem mark_at {u : Web} {p c : Nat} (hp : p < u.1.length) (i : Nat) : (markL u p c).1[i]? = if i = p then some c else u.1[i]? := by
  show (u.1.set p c)[i]? = _
  rw [List.getElem?_set]
  by_cases e : p = i
  · rw [if_pos e, if_pos hp, if_pos e.symm]
  · rw [if_neg e, if_neg (Ne.symm e)]
theorem sum_add2 (f g : Nat → Nat) : ∀ K : List Nat, (K.map fun k => f k + g k).sum = (K.map f).sum + (K.map g).sum
  | [] => rfl
  | k :: K => by
    have := sum_add2 f g K
    simp only [List.map_cons, List.sum_cons]
    omega
theorem sum_ind (P : Nat → Bool) : ∀ K : List Nat, (K.map fun k => if P k = true then 1 else 0).sum = (K.filter P).length
  | [] => rfl
  | k :: K => by
    have := sum_ind P K
    simp only [List.map_cons, List.sum_cons, List.filter_cons]
    by_cases c : P k = true
    · rw [if_pos c, if_pos c, List.length_cons]; omega
    · rw [if_neg c, if_neg c]; omega
theorem part_sum {α : Type} (K : List Nat) (P : Nat → α → Bool) : ∀ S : List α, (∀ l ∈ S, (K.filter fun k => P k l).length = 1) → (K.map fun k => (S.filter (P k)).length).sum = S.length
  | [], _ => by
    have : ∀ K : List Nat, (K.map fun k => (([] : List α).filter (P k)).length).sum = 0 := fun K => by
      induction K with
      | nil => rfl
      | cons k K ih => rw [List.map_cons, List.sum_cons, ih]; rfl
    exact this K
  | l :: S, h => by
    have ih := part_sum K P S fun x hx => h x (List.mem_cons_of_mem _ hx)
    have e : (fun k => ((l :: S).filter (P k)).length) = fun k => (if P k l = true then 1 else 0) + (S.filter (P k)).length := funext fun k => by
      rw [List.filter_cons]
      by_cases c : P k l = true
      · rw [if_pos c, if_pos c, List.length_cons]; omega
      · rw [if_neg c, if_neg c]; omega
    rw [e, sum_add2, ih, sum_ind (fun k => P k l), h l List.mem_cons_self, List.length_cons]
    omega
theorem one_len {xs : List Nat} {x : Nat} (nd : xs.Nodup) (h : x ∈ xs) (a : ∀ y ∈ xs, y = x) : xs.length = 1 := by
  match xs, nd, h, a with
  | [y], _, _, _ => rfl
  | y :: z :: r, nd, _, a =>
    have h1 := a y List.mem_cons_self
    have h2 := a z (List.mem_cons_of_mem _ List.mem_cons_self)
    exact ((List.nodup_cons.mp nd).1 (by rw [h1, ← h2]; exact List.mem_cons_self)).elim
theorem sum_same {g : Nat → Nat} {C : Nat} : ∀ K : List Nat, (∀ k ∈ K, g k ≠ 0 → g k = C) → (K.map g).sum = (K.filter fun k => decide (g k ≠ 0)).length * C
  | [], _ => by simp
  | k :: K, h => by
    have ih := sum_same K fun x hx => h x (List.mem_cons_of_mem _ hx)
    rw [List.map_cons, List.sum_cons, List.filter_cons, ih]
    by_cases c : g k = 0
    · rw [if_neg (by simp [c]), c, Nat.zero_add]
    · rw [if_pos (by simp [c]), List.length_cons, Nat.succ_mul, h k List.mem_cons_self c, Nat.add_comm]
def likeK (u : Web) (p : Nat) : List Nat := (List.range u.1.length).filter fun k => decide (u.1[k]? = u.1[p]?)
theorem like_mem {u : Web} {p k : Nat} : k ∈ likeK u p ↔ k < u.1.length ∧ u.1[k]? = u.1[p]? := by
  unfold likeK
  rw [List.mem_filter, List.mem_range, decide_eq_true_eq]
theorem mark_mem {u : Web} {p k c : Nat} (hp : p < u.1.length) (hk : k < u.1.length) (lk : u.1[k]? = u.1[p]?) (hc : c ∉ u.1) {l : Led} : l ∈ wholeL (markL u p c) (markL u k c) ↔ l ∈ wholeL u u ∧ (p, k) ∈ l := by
  have nc : ∀ i : Nat, u.1[i]? ≠ some c := fun i e => hc (List.mem_of_getElem? e)
  rw [whole_mem, whole_mem, mark_len]
  constructor
  · rintro ⟨h, e⟩
    have h' : LeadOk (markL u p c) (markL u k c) (markL u p c).1.length l := by rw [mark_len]; exact h
    obtain ⟨k', hk'⟩ := whole_at h' (by rw [mark_len]; exact e) (i := p) (by rw [mark_len]; exact hp)
    obtain ⟨_, _, z⟩ := mem_pairsL.mp (lead_pairs h' _ hk')
    have z : (markL u p c).1[p]? = (markL u k c).1[k']? := z
    rw [mark_at hp, mark_at hk, if_pos rfl] at z
    have ek : k' = k := Classical.byContradiction fun d => by
      rw [if_neg d] at z
      exact nc _ z.symm
    subst ek
    refine ⟨⟨⟨h.1.imp fun z => ⟨z.1, z.2⟩, fun x hx => ?_⟩, e⟩, hk'⟩
    obtain ⟨a, b, d⟩ := mem_pairsL.mp (lead_pairs h' _ hx)
    rw [mark_len] at a b
    rw [mark_at hp, mark_at hk] at d
    refine ⟨a, b, ?_⟩
    unfold knR
    simp only [Bool.and_eq_true, decide_eq_true_eq]
    refine ⟨⟨a, b⟩, ?_⟩
    by_cases c1 : x.1 = p
    · have : x.2 = k' := lead_fun h (i := p) (by rw [← c1]; exact hx) hk'
      rw [c1, this]; exact lk.symm
    · rw [if_neg c1] at d
      by_cases c2 : x.2 = k'
      · rw [if_pos c2] at d
        exact (nc _ d).elim
      · rwa [if_neg c2] at d
  · rintro ⟨⟨h, e⟩, hm⟩
    refine ⟨⟨h.1.imp fun z => ⟨z.1, z.2⟩, fun x hx => ?_⟩, e⟩
    obtain ⟨a, b, d⟩ := mem_pairsL.mp (lead_pairs h _ hx)
    refine ⟨a, by rw [mark_len]; exact b, ?_⟩
    unfold knR
    simp only [Bool.and_eq_true, decide_eq_true_eq]
    refine ⟨⟨by rw [mark_len]; exact a, by rw [mark_len]; exact b⟩, ?_⟩
    rw [mark_at hp, mark_at hk]
    by_cases c1 : x.1 = p
    · have : x.2 = k := lead_fun h (i := p) (by rw [← c1]; exact hx) hm
      rw [if_pos c1, if_pos this]
    · have : x.2 ≠ k := fun z => c1 (lead_inj h (a := k) (by rw [← z]; exact hx) hm)
      rw [if_neg c1, if_neg this]; exact d
theorem mark_sum {u : Web} {p c : Nat} (hp : p < u.1.length) (hc : c ∉ u.1) : cnt (allL u u) u.1.length = ((likeK u p).map fun k => cnt (allL (markL u p c) (markL u k c)) u.1.length).sum := by
  rw [← whole_cnt, ← part_sum (likeK u p) (fun k l => decide ((p, k) ∈ l)) (wholeL u u) fun l hl => ?_]
  · congr 1
    refine List.map_congr_left fun k hk => ?_
    obtain ⟨a, b⟩ := like_mem.mp hk
    have e := whole_cnt (markL u p c) (markL u k c)
    rw [mark_len] at e
    rw [← e]
    refine ((List.perm_ext_iff_of_nodup (List.Pairwise.filter _ (whole_nodup _ _)) (whole_nodup _ _)).mpr fun l => ?_).length_eq
    rw [mark_mem hp a b hc, List.mem_filter, decide_eq_true_eq]
  · obtain ⟨h, e⟩ := whole_mem.mp hl
    obtain ⟨k, hk⟩ := whole_at h e hp
    obtain ⟨_, b, d⟩ := mem_pairsL.mp (lead_pairs h _ hk)
    refine one_len (x := k) (List.Pairwise.filter _ (List.Pairwise.filter _ List.nodup_range)) (List.mem_filter.mpr ⟨like_mem.mpr ⟨b, d.symm⟩, decide_eq_true hk⟩) fun y hy => ?_
    exact lead_fun h (of_decide_eq_true (List.mem_filter.mp hy).2) hk
theorem mark_many {u : Web} {p c : Nat} (hp : p < u.1.length) (hc : c ∉ u.1) : cnt (allL u u) u.1.length = ((likeK u p).filter fun k => decide (cnt (allL (markL u p c) (markL u k c)) u.1.length ≠ 0)).length * cnt (allL (markL u p c) (markL u p c)) u.1.length := by
  rw [mark_sum hp hc]
  refine sum_same _ fun k hk ne => ?_
  have := whole_like (u := markL u p c) (u' := markL u k c) (by rw [mark_len, mark_len]) (by rw [mark_len]; exact ne) u.1.length
  exact this.symm
theorem own_one {u : Web} (d : ∀ i j, i < u.1.length → j < u.1.length → u.1[i]? = u.1[j]? → i = j) : cnt (allL u u) u.1.length = 1 := by
  rw [← whole_cnt]
  have own : ∀ l ∈ wholeL u u, l = ownL u.1.length := fun l hl => by
    obtain ⟨h, e⟩ := whole_mem.mp hl
    refine plt_ext (lead_rise h) (lead_rise (own_lead u)) fun x => ?_
    constructor
    · intro hx
      obtain ⟨a, b, c⟩ := mem_pairsL.mp (lead_pairs h _ hx)
      exact List.mem_map.mpr ⟨x.1, List.mem_range.mpr a, Prod.ext rfl (d _ _ a b c)⟩
    · intro hx
      obtain ⟨i, hi, rfl⟩ := List.mem_map.mp hx
      obtain ⟨k, hk⟩ := whole_at h e (List.mem_range.mp hi)
      obtain ⟨a, b, c⟩ := mem_pairsL.mp (lead_pairs h _ hk)
      have : i = k := d _ _ a b c
      rwa [← this] at hk
  have hm : ownL u.1.length ∈ wholeL u u := whole_mem.mpr ⟨own_lead u, own_len _⟩
  have nd := whole_nodup u u
  match hW : wholeL u u, hm, own, nd with
  | [y], _, _, _ => rfl
  | y :: z :: r, _, own, nd =>
    have h1 := own y List.mem_cons_self
    have h2 := own z (List.mem_cons_of_mem _ List.mem_cons_self)
    exact ((List.nodup_cons.mp nd).1 (by rw [h1, ← h2]; exact List.mem_cons_self)).elim
end Cw

/-! sorted() of a tuple of triples -/
namespace Cw
open PySem PySem.Spec PyProof.Rows L2 Srt SrtO
section
variable {prog : Program} {w : World} {A : Around} {E : Value → Shared → Prop} {s : Shared}
theorem sorted_ordT {l : Addr} {o : Obj} {n : Nat} {vs : List Value} {ltv : Value → Value → Bool} {Q : Value → Shared → Prop} (O : SrtO.Swo ltv) (ho : s.heap.get? l = some o) (hc : o.cls = .type "tuple") (hd : o.data = .seq vs.toArray n) (hz : vs.length ≤ sizeLine)
    (hS : 2 ≤ vs.length → ∀ (h₁ : Heap) (a : Addr), h₁.get? a = some (seqObj "list" vs.toArray 0) → (∀ b o, s.heap.get? b = some o → b ≠ a ∧ h₁.get? b = some o) → SrtO.SortableO prog w A.in1.in1 { s with heap := h₁ } a vs ltv)
    (h : ∀ (h1 h' : Heap) (out : List Value), SrtO.Srtd ltv out → SrtO.Stb ltv out vs → (∀ b o, s.heap.get? b = some o → h1.get? b = some o) → (∀ b o, h1.get? b = some o → h'.get? b = some o) → (∃ n, h'.get? h1.objs.size = some (seqObj "list" out.toArray n)) → Q (.ref h1.objs.size) { s with heap := h' }) :
    wpAny (model prog w) A (call (.builtin "sorted") [.ref l]) Q E s := by
  refine Calls.call_function_entry kind_sorted plain_sorted entry_sorted (args_sorted1 _) ?_
  unfold Builtin.«sorted»
  refine wpAny_bind (m := checkCount "sorted" 1 1 _) (wpAny_pure ?_)
  refine wpAny_bind (PySem.wpAny_collect_seq l (.inr rfl) ho hc hd (fun h1 k1 => ?_) (by simpa using hz))
  rw [show vs.toArray.toList = vs by simp]
  refine wpAny_bind (wpAny_newList ?_ hz)
  have hoL : (h1.push (seqObj "list" vs.toArray 0)).get? h1.objs.size = some (seqObj "list" vs.toArray 0) := Heap.get?_push_size _ rfl
  have keep : ∀ b o, s.heap.get? b = some o → b ≠ h1.objs.size ∧ (h1.push (seqObj "list" vs.toArray 0)).get? b = some o := fun b o q =>
    ⟨Nat.ne_of_lt (Heap.lt_size (k1 _ _ q)), Heap.get?_push_of_some _ (k1 _ _ q)⟩
  show wpAny _ _ _ _ _ { s with heap := h1.push (seqObj "list" vs.toArray 0) }
  refine wpAny_bind (wpAny_holding (wpAny_call_entry slot_list_sort ⟨_, hoL, rfl⟩ entry_list_sort (SrtO.list_sort_ord O hoL hz (fun h2 => hS h2 _ _ hoL keep) fun out hs hb => ⟨_, rfl, ?_⟩) (args_list_sort _)))
  refine wpAny_pure ⟨_, rfl, h h1 _ out hs hb k1 (fun b o q => ?_) (sortedHeap_at hoL)⟩
  rw [sortedHeap_old (Nat.ne_of_lt (Heap.lt_size q)) (by rw [size_push']; exact Nat.lt_succ_of_lt (Heap.lt_size q))]
  exact Heap.get?_push_of_some _ q
theorem sorted_trisT {l : Addr} {o : Obj} {n : Nat} {vs : List Value} {k : Value → Tri} {Q : Value → Shared → Prop} (ho : s.heap.get? l = some o) (hc : o.cls = .type "tuple") (hd : o.data = .seq vs.toArray n) (hz : vs.length ≤ sizeLine) (hp : ∀ v ∈ vs, IsTri s.heap v (k v))
    (h : ∀ (h1 h' : Heap) (out : List Value), SrtO.Srtd (fun v u => lexT (k v) (k u)) out → out.Perm vs → (∀ b o, s.heap.get? b = some o → h1.get? b = some o) → (∀ b o, h1.get? b = some o → h'.get? b = some o) → (∃ n, h'.get? h1.objs.size = some (seqObj "list" out.toArray n)) → Q (.ref h1.objs.size) { s with heap := h' }) :
    wpAny (model prog w) A (call (.builtin "sorted") [.ref l]) Q E s := by
  refine sorted_ordT (swo_T k) ho hc hd hz (fun h2 h₁ a ha kk => tri_sortable (s := { s with heap := h₁ }) (by omega) (fun v hm => (hp v hm).keeps fun b o e _ => (kk b o e).2) fun o e c => ?_) fun h1 h' out hs hb k1 kp at_ => h h1 h' out hs hb.perm k1 kp at_
  have e' : some o = some (seqObj "list" vs.toArray 0) := e.symm.trans ha
  cases e'
  exact absurd (Value.type.inj c) (by decide)
end
theorem triV_inj {p q : Tri} (h : triV p = triV q) : p = q := by
  unfold triV at h
  simp only [List.cons.injEq, V.int.injEq, V.str.injEq] at h
  obtain ⟨h1, h2, h3, _⟩ := h
  exact Prod.ext h1 (Prod.ext h2 (sg_inj.mp h3))
/-- sorted(ties) of a tuple -/
def rSorted3T (K : PySem.W.Frag) : List V → Hp → VK → Prop := fun vs H Q => ∃ (a : Addr) (es : List (Addr × Tri)), vs = [V.ref a] ∧ SqT K H a (es.map fun e => V.ref e.1) ∧ (∀ e ∈ es, SqT K H e.1 (triV e.2)) ∧
  ∀ (es' : List (Addr × Tri)) p, es'.Perm es → (es'.map (·.2)).Pairwise (fun x y => lexT y x = false) → H p = none → Q (.ref p) (upd H p (.lst (es'.map fun e => V.ref e.1)))
section
variable {X : Cx}
theorem cr_sorted3T : CallR X (.builtin "sorted") (rSorted3T X.K) := by
  intro pins s σ H vs us Q I r h
  obtain ⟨a, es, rfl, hs, hx, q⟩ := h
  obtain ⟨its, rv, ⟨o0, g0, c0, n0, d0⟩, hz⟩ := I.tuple hs
  obtain ⟨u, rfl, ru⟩ := vals1 r
  obtain rfl : u = Value.ref a := ru
  -- the items, by their addresses
  have eits : its = es.map fun e => Value.ref e.1 := by
    have : ∀ {xs : List (Addr × Tri)} {us : List Value}, Vals (xs.map fun e => V.ref e.1) us → us = xs.map fun e => Value.ref e.1 := by
      intro xs
      induction xs with
      | nil => intro us r; cases r; rfl
      | cons x xs ih =>
        intro us r
        cases r with
        | cons r1 r2 => rw [ih r2, (show _ = Value.ref x.1 from r1)]; rfl
    exact this rv
  -- the key, read off the heap
  let kA : Addr → Tri := fun b => ((es.find? fun e => e.1 == b).map (·.2)).getD (0, 0, 0)
  have kA_eq : ∀ e ∈ es, kA e.1 = e.2 := fun e he => by
    show ((es.find? fun e' => e'.1 == e.1).map (·.2)).getD (0, 0, 0) = e.2
    cases hf : es.find? fun e' => e'.1 == e.1 with
    | none => exact absurd (beq_self_eq_true e.1) (by simpa using List.find?_eq_none.mp hf e he)
    | some e' =>
      have h1 : e'.1 = e.1 := by simpa using List.find?_some hf
      have h2 := hx e' (List.mem_of_find?_eq_some hf)
      rw [h1] at h2
      exact triV_inj (I.tuple_inj h2 (hx e he))
  let kV' : Value → Tri := fun v => match v with
    | .ref b => kA b
    | _ => (0, 0, 0)
  refine sorted_trisT (k := kV') g0 c0 d0 (by rw [← rv.length]; exact hz) (fun v hv => ?_) fun h0 h' out h1 h2 kp1 kp hn => ?_
  · rw [eits] at hv
    obtain ⟨e, he, rfl⟩ := List.mem_map.mp hv
    obtain ⟨its2, r2, ⟨o, ho, hc, n, hd⟩, _⟩ := I.tuple (hx e he)
    have ek : kV' (Value.ref e.1) = e.2 := kA_eq e he
    rw [ek]
    cases r2 with
    | cons ra rr =>
      cases rr with
      | cons rb rr =>
        cases rr with
        | cons rc rr =>
          cases rr
          obtain ⟨t1, rfl⟩ := ra
          obtain ⟨t2, rfl⟩ := rb
          obtain ⟨t3, rfl⟩ := rc
          exact ⟨e.1, o, t1, t2, t3, n, rfl, ho, hc, hd⟩
  · obtain ⟨n, hn⟩ := hn
    rw [eits] at h2
    have hmem : ∀ v ∈ out, ∃ e ∈ es, v = Value.ref e.1 := fun v hv => by
      obtain ⟨e, he, e'⟩ := List.mem_map.mp (h2.mem_iff.mp hv)
      exact ⟨e, he, e'.symm⟩
    -- back to pairs
    let back : Value → Addr × Tri := fun v => match v with
      | .ref b => (b, kA b)
      | _ => (0, (0, 0, 0))
    have p1 : (out.map back).Perm es := by
      have z := h2.map back
      rw [List.map_map] at z
      have e2 : es.map (back ∘ fun e => Value.ref e.1) = es := by
        conv => rhs; rw [← List.map_id es]
        refine List.map_congr_left fun e he => ?_
        show (e.1, kA e.1) = e
        rw [kA_eq e he]
      rw [e2] at z
      exact z
    have e3 : (out.map back).map (fun e => V.ref e.1) = out.map backV := by
      rw [List.map_map]
      refine List.map_congr_left fun v hv => ?_
      obtain ⟨e, he, rfl⟩ := hmem v hv
      rfl
    have srt : ((out.map back).map (·.2)).Pairwise (fun x y => lexT y x = false) := by
      rw [List.map_map, List.pairwise_map]
      refine h1.imp_of_mem fun {x y} hx' hy' hxy => ?_
      obtain ⟨e, he, rfl⟩ := hmem x hx'
      obtain ⟨e', he', rfl⟩ := hmem y hy'
      exact hxy
    have I1 : Inv X pins σ H { s with heap := h0 } := I.kept (t' := s.toks) kp1
    have g := q (out.map back) h0.objs.size p1 srt (I1.hok.fresh (Nat.le_refl _))
    rw [e3] at g
    have hzo : (out.map backV).length ≤ sizeLine := by
      rw [List.length_map, h2.length_eq, List.length_map]
      rw [List.length_map] at hz
      exact hz
    have hvb : Vals (out.map backV) out := vals_back fun u hu => by
      obtain ⟨e, he, rfl⟩ := hmem u hu
      exact ⟨_, rfl⟩
    exact ⟨.ref h0.objs.size, upd H h0.objs.size (.lst (out.map backV)), I1.laid (t' := s.toks) kp (Nat.le_refl _) (show ObjOk X.prog X.w _ _ _ (.lst (out.map backV)) from ⟨hzo, out, n, hvb, hn⟩), rfl, g⟩

end
end Cw

/-! sorted() of a list of ties as they lie -/
namespace Cw
open PySem PySem.Spec PyProof.Rows L2 Srt SrtO
/-- sorted(ties) of a list, the ties as they lie -/
def rSorted3S (K : PySem.W.Frag) : List V → Hp → VK → Prop := fun vs H Q => ∃ (a : Addr) (es : List (Addr × Tri)), vs = [V.ref a] ∧ SqL K H a (es.map fun e => V.ref e.1) ∧ (∀ e ∈ es, SqT K H e.1 (triV e.2)) ∧
  ∀ (es' : List (Addr × Tri)) p, es'.Perm es → (es'.map (·.2)).Pairwise (fun x y => lexT y x = false) → H p = none → Q (.ref p) (upd H p (.lst (es'.map fun e => V.ref e.1)))
section
variable {X : Cx}
theorem cr_sorted3S : CallR X (.builtin "sorted") (rSorted3S X.K) := by
  intro pins s σ H vs us Q I r h
  obtain ⟨a, es, rfl, hs, hx, q⟩ := h
  obtain ⟨its, rv, hl, hz⟩ := I.list hs
  obtain ⟨u, rfl, ru⟩ := vals1 r
  obtain rfl : u = Value.ref a := ru
  -- the items, by their addresses
  have eits : its = es.map fun e => Value.ref e.1 := by
    have : ∀ {xs : List (Addr × Tri)} {us : List Value}, Vals (xs.map fun e => V.ref e.1) us → us = xs.map fun e => Value.ref e.1 := by
      intro xs
      induction xs with
      | nil => intro us r; cases r; rfl
      | cons x xs ih =>
        intro us r
        cases r with
        | cons r1 r2 => rw [ih r2, (show _ = Value.ref x.1 from r1)]; rfl
    exact this rv
  -- the key, read off the heap
  let kA : Addr → Tri := fun b => ((es.find? fun e => e.1 == b).map (·.2)).getD (0, 0, 0)
  have kA_eq : ∀ e ∈ es, kA e.1 = e.2 := fun e he => by
    show ((es.find? fun e' => e'.1 == e.1).map (·.2)).getD (0, 0, 0) = e.2
    cases hf : es.find? fun e' => e'.1 == e.1 with
    | none => exact absurd (beq_self_eq_true e.1) (by simpa using List.find?_eq_none.mp hf e he)
    | some e' =>
      have h1 : e'.1 = e.1 := by simpa using List.find?_some hf
      have h2 := hx e' (List.mem_of_find?_eq_some hf)
      rw [h1] at h2
      exact triV_inj (I.tuple_inj h2 (hx e he))
  let kV' : Value → Tri := fun v => match v with
    | .ref b => kA b
    | _ => (0, 0, 0)
  refine sorted_tris (k := kV') hl.isList (by rw [← rv.length]; exact hz) (fun v hv => ?_) fun h' d out h1 h2 kp hd hn => ?_
  · rw [eits] at hv
    obtain ⟨e, he, rfl⟩ := List.mem_map.mp hv
    obtain ⟨its2, r2, ⟨o, ho, hc, n, hd⟩, _⟩ := I.tuple (hx e he)
    have ek : kV' (Value.ref e.1) = e.2 := kA_eq e he
    rw [ek]
    cases r2 with
    | cons ra rr =>
      cases rr with
      | cons rb rr =>
        cases rr with
        | cons rc rr =>
          cases rr
          obtain ⟨t1, rfl⟩ := ra
          obtain ⟨t2, rfl⟩ := rb
          obtain ⟨t3, rfl⟩ := rc
          exact ⟨e.1, o, t1, t2, t3, n, rfl, ho, hc, hd⟩
  · obtain ⟨n, hn⟩ := hn
    rw [eits] at h2
    have hmem : ∀ v ∈ out, ∃ e ∈ es, v = Value.ref e.1 := fun v hv => by
      obtain ⟨e, he, e'⟩ := List.mem_map.mp (h2.mem_iff.mp hv)
      exact ⟨e, he, e'.symm⟩
    -- back to pairs
    let back : Value → Addr × Tri := fun v => match v with
      | .ref b => (b, kA b)
      | _ => (0, (0, 0, 0))
    have p1 : (out.map back).Perm es := by
      have z := h2.map back
      rw [List.map_map] at z
      have e2 : es.map (back ∘ fun e => Value.ref e.1) = es := by
        conv => rhs; rw [← List.map_id es]
        refine List.map_congr_left fun e he => ?_
        show (e.1, kA e.1) = e
        rw [kA_eq e he]
      rw [e2] at z
      exact z
    have e3 : (out.map back).map (fun e => V.ref e.1) = out.map backV := by
      rw [List.map_map]
      refine List.map_congr_left fun v hv => ?_
      obtain ⟨e, he, rfl⟩ := hmem v hv
      rfl
    have srt : ((out.map back).map (·.2)).Pairwise (fun x y => lexT y x = false) := by
      rw [List.map_map, List.pairwise_map]
      refine h1.imp_of_mem fun {x y} hx' hy' hxy => ?_
      obtain ⟨e, he, rfl⟩ := hmem x hx'
      obtain ⟨e', he', rfl⟩ := hmem y hy'
      exact hxy
    have g := q (out.map back) d p1 srt (I.hok.fresh hd)
    rw [e3] at g
    have hzo : (out.map backV).length ≤ sizeLine := by
      rw [List.length_map, h2.length_eq, List.length_map]
      rw [List.length_map] at hz
      exact hz
    have hvb : Vals (out.map backV) out := vals_back fun u hu => by
      obtain ⟨e, he, rfl⟩ := hmem u hu
      exact ⟨_, rfl⟩
    exact ⟨.ref d, upd H d (.lst (out.map backV)), I.laid (t' := s.toks) kp hd (show ObjOk X.prog X.w _ _ _ (.lst (out.map backV)) from ⟨hzo, out, n, hvb, hn⟩), rfl, g⟩
end
end Cw

/-! the laws' row of two numbers; a web with its places in a drawn order -/
namespace Cw
open PySem PySem.Spec PyProof.Rows L2
def Row (H : Hp) (h : Addr) : Prop := ∃ a b : Int, H h = some (.lst [.int a, .int b]) ∧ 0 ≤ b ∧ b < 2147483587
theorem Row.same {H H' : Hp} {h : Addr} (x : Row H h) (s : Same H H') : Row H' h := by
  obtain ⟨d, c, e, r⟩ := x
  exact ⟨d, c, s _ _ e, r⟩
theorem Row.ne {H : Hp} {h p : Addr} (x : Row H h) (n : H p = none) : p ≠ h := by
  obtain ⟨d, c, e, r⟩ := x
  exact fun z => by subst z; rw [n] at e; cases e
theorem Row.put {H : Hp} {h p : Addr} {o : HO} (x : Row H h) (n : p ≠ h) : Row (upd H p o) h := by
  obtain ⟨d, c, e, r⟩ := x
  exact ⟨d, c, by rw [upd_ne (Ne.symm n)]; exact e, r⟩
theorem Row.lst {H : Hp} {h : Addr} (x : Row H h) : ∃ ys, H h = some (.lst ys) := by
  obtain ⟨d, c, e, r⟩ := x
  exact ⟨_, e⟩
theorem rw_at {os : List Nat} {i : Nat} (h : i < os.length) : os[i]? = some (os.getD i 0) := by
  rw [List.getD_eq_getElem?_getD, List.getElem?_eq_getElem h]; rfl
/-- the places with their numbers -/
def numR (os : List Nat) (i : Nat) : Lead := (List.range i).map fun k => (os.getD k 0, k)
theorem numR_snoc (os : List Nat) (i : Nat) : numR os (i + 1) = numR os i ++ [(os.getD i 0, i)] := by unfold numR; rw [List.range_succ, List.map_append]; rfl
theorem numR_val {os : List Nat} (nd : os.Nodup) (p : Nat) : ∀ i, i ≤ os.length → valV (mergeK [] ((numR os i).map fun p => ((.inl (p.1 : Int) : Key), V.int (p.2 : Nat)))) (.inl (p : Int)) = (posOf (os.take i) p).map fun k => V.int (k : Nat)
  | 0, _ => rfl
  | i + 1, hi => by
    have hi' : i < os.length := by omega
    have ei := rw_at hi'
    have ih := numR_val nd p i (by omega)
    unfold mergeK at ih ⊢
    rw [numR_snoc, List.map_append, List.foldl_append]
    show valV (putK _ (.inl ((os.getD i 0 : Nat) : Int) : Key) (V.int (i : Nat))) _ = _
    have ni : os.getD i 0 ∉ os.take i := fun hm => by
      obtain ⟨j, hj, e⟩ := List.getElem_of_mem hm
      rw [List.length_take] at hj
      rw [List.getElem_take] at e
      have := nodup_at nd (i := j) (j := i) (x := os.getD i 0) (by rw [List.getElem?_eq_getElem (by omega), e]) ei
      omega
    rw [valV_put, take_snoc ei, posOf_snoc _ _ _ ni, List.length_take, Nat.min_eq_left (by omega), ih]
    by_cases e : p = os.getD i 0
    · rw [if_pos e, if_pos (by rw [e])]; rfl
    · rw [if_neg e, if_neg (by intro z; injection z with z; omega)]
/-- how the places are called that stand in this order -/
def invL (os : List Nat) (n : Nat) : List Nat := (List.range n).map fun p => (posOf os p).getD 0
theorem inv_pos {os : List Nat} {n p : Nat} (o : Ord os n) (hp : p < n) : posOf os p = some (qa (invL os n) p) := by
  have h1 : qa (invL os n) p = (posOf os p).getD 0 := by
    unfold qa invL
    rw [List.getD_eq_getElem?_getD, List.getElem?_map, List.getElem?_range hp]; rfl
  rw [h1]
  cases e : posOf os p with
  | none => exact absurd (o.all p hp) (posOf_none.mp e)
  | some k => rfl
theorem inv_at {os : List Nat} {n p : Nat} (o : Ord os n) (hp : p < n) : os[qa (invL os n) p]? = some p := (posOf_iff o.nd).mp (inv_pos o hp)
theorem inv_lt {os : List Nat} {n p : Nat} (o : Ord os n) (hp : p < n) : qa (invL os n) p < n := by
  have := (List.getElem?_eq_some_iff.mp (inv_at o hp)).1
  rw [o.len] at this
  exact this
theorem inv_of {os : List Nat} {n i p : Nat} (o : Ord os n) (h : os[i]? = some p) : qa (invL os n) p = i := by
  have hp := o.lt p (List.mem_of_getElem? h)
  exact nodup_at o.nd (inv_at o hp) h
theorem inv_ord {os : List Nat} {n : Nat} (o : Ord os n) : Ord (invL os n) n := by
  have len : (invL os n).length = n := by unfold invL; rw [List.length_map, List.length_range]
  have mem : ∀ q, q ∈ invL os n ↔ ∃ p, p < n ∧ qa (invL os n) p = q := fun q => by
    constructor
    · intro h
      obtain ⟨p, hp⟩ := List.mem_iff_getElem?.mp h
      have h1 := (List.getElem?_eq_some_iff.mp hp).1
      rw [qa_at h1] at hp
      exact ⟨p, by rw [← len]; exact h1, Option.some.inj hp⟩
    · rintro ⟨p, hp, rfl⟩
      exact List.mem_of_getElem? (qa_at (by rw [len]; exact hp))
  refine ⟨len, ?_, fun q hq => ?_, fun j hj => ?_⟩
  · rw [List.nodup_iff_pairwise_ne, List.pairwise_iff_getElem]
    intro i j hi hj lt e
    rw [len] at hi hj
    have e1 := qa_at (qs := invL os n) (p := i) (by rw [len]; exact hi)
    have e2 := qa_at (qs := invL os n) (p := j) (by rw [len]; exact hj)
    rw [List.getElem?_eq_getElem (by rw [len]; exact hi)] at e1
    rw [List.getElem?_eq_getElem (by rw [len]; exact hj)] at e2
    have e3 : qa (invL os n) i = qa (invL os n) j := by rw [← Option.some.inj e1, ← Option.some.inj e2]; exact e
    have h1 := inv_at o hi
    have h2 := inv_at o hj
    rw [e3, h2] at h1
    have := Option.some.inj h1
    omega
  · obtain ⟨p, hp, rfl⟩ := (mem q).mp hq
    exact inv_lt o hp
  · have h := rw_at (os := os) (i := j) (by rw [o.len]; exact hj)
    exact (mem j).mpr ⟨os.getD j 0, o.lt _ (List.mem_of_getElem? h), inv_of o h⟩
theorem sorted_two {ns : List Int} {a b : Nat} (pm : ns.Perm [(a : Int), (b : Int)]) (rs : ns.Pairwise (· ≤ ·)) : ns = [((min a b : Nat) : Int), ((max a b : Nat) : Int)] := by
  have l := pm.length_eq
  match ns, l, pm, rs with
  | [x, y], _, pm, rs =>
    have xy : x ≤ y := (List.pairwise_cons.mp rs).1 y (List.mem_singleton.mpr rfl)
    have hx : x ∈ [(a : Int), (b : Int)] := pm.mem_iff.mp List.mem_cons_self
    simp only [List.mem_cons, List.not_mem_nil, or_false] at hx
    have e : (x = a ∧ y = b) ∨ (x = b ∧ y = a) := by
      rcases hx with rfl | rfl
      · have := List.perm_singleton.mp ((List.perm_cons _).mp pm)
        exact .inl ⟨rfl, by simpa using this⟩
      · have := List.perm_singleton.mp ((List.perm_cons _).mp (pm.trans (List.Perm.swap _ _ _)))
        exact .inr ⟨rfl, by simpa using this⟩
    have e1 : x = ((min a b : Nat) : Int) := by omega
    have e2 : y = ((max a b : Nat) : Int) := by omega
    rw [e1, e2]
theorem rmod_lo (x : Int) {n : Int} (h : 0 < n) : 0 ≤ x % n := Int.emod_nonneg _ (by omega)
theorem rmod_hi (x : Int) {n : Int} (h : 0 < n) : x % n < n := Int.emod_lt_of_pos _ h
theorem str_takeR (xs : List Nat) (n : Nat) (h : n ≤ xs.length) : cutS ⟨xs.toArray⟩ none (some (n : Nat)) = ⟨(xs.take n).toArray⟩ := by
  have hl : (⟨xs.toArray⟩ : Str).length = xs.length := by show xs.toArray.size = _; simp
  unfold cutS
  have e : HT.sIx xs.length xs.length (some ((n : Nat) : Int)) = min n xs.length := HT.sIx_nat xs.length xs.length n
  rw [hl, HT.sIx_none, e, List.drop_zero, Nat.sub_zero, Nat.min_eq_left h]
theorem str_dropR (xs : List Nat) (n : Nat) (h : n ≤ xs.length) : cutS ⟨xs.toArray⟩ (some (n : Nat)) none = ⟨(xs.drop n).toArray⟩ := by
  have hl : (⟨xs.toArray⟩ : Str).length = xs.length := by show xs.toArray.size = _; simp
  unfold cutS
  have e : HT.sIx xs.length 0 (some ((n : Nat) : Int)) = min n xs.length := HT.sIx_nat xs.length 0 n
  rw [hl, HT.sIx_none, e, Nat.min_eq_left h]
  congr 2
  exact List.take_of_length_le (by rw [List.length_drop]; exact Nat.le_refl _)
theorem str_appR (xs ys : List Nat) : (⟨xs.toArray⟩ ++ ⟨ys.toArray⟩ : Str) = ⟨(xs ++ ys).toArray⟩ := str_ext (by show (xs.toArray ++ ys.toArray).toList = _; simp)
theorem str_lenR (xs : List Nat) : (⟨xs.toArray⟩ : Str).length = xs.length := by show xs.toArray.size = _; simp
theorem op_notInT {X : Cx} (hu : X.A.units + 65 < cLine) : OpR X (compareOp .NotIn) (rInT X.K true) := by
  intro pins s σ H x y v u Q I rx ry h
  obtain ⟨d, ds, hd, he, sd, se, q⟩ := h
  obtain ⟨as, r1⟩ := Dp.reads I d x v hd rx
  obtain ⟨bs, r2⟩ := Dp.reads I (.tuple ds) y u he ry
  exact SeqAt.notIn_tuple_reads r2 r1 (SeqAt.canLay_of_shaped se) (SeqAt.canLay_of_shaped sd) (room_in_shaped sd hu) ⟨.bl _, H, I, rfl, q⟩
def LtsR (z : Str) : Prop := (z.cps.toList.all fun c => decide (97 ≤ c) && decide (c ≤ 122)) = true ∧ 0 < z.length ∧ z.length ≤ 26
theorem LtsR.pick {z : Str} (l : LtsR z) {g : Int} (h0 : 0 ≤ g) (h1 : g < z.length) : ∃ c, atI z.cps.toList g = some c ∧ c ∈ z.cps.toList ∧ Ltr c := by
  obtain ⟨n, rfl⟩ := Int.eq_ofNat_of_zero_le h0
  have hn : n < z.cps.toList.length := by
    have e : z.cps.toList.length = z.length := rfl
    omega
  refine ⟨z.cps.toList[n], atI_nat (List.getElem?_eq_getElem hn), List.getElem_mem hn, ?_⟩
  have a := List.all_eq_true.mp l.1 _ (List.getElem_mem hn)
  simp only [Bool.and_eq_true, decide_eq_true_eq] at a
  exact a
theorem strs_of {zs : List Str} (hb : ∀ z ∈ zs, LtsR z) {n : Int} (hn : n = zs.length) {g : Int} (g0 : 0 ≤ g) (g1 : g < n) : ∃ z : Str, atI (zs.map V.str) g = some (.str z) ∧ z ∈ zs ∧ LtsR z := by
  obtain ⟨j, rfl⟩ := Int.eq_ofNat_of_zero_le g0
  have hj : j < zs.length := by omega
  exact ⟨zs[j], atI_nat (by rw [List.getElem?_map, List.getElem?_eq_getElem hj]; rfl), List.getElem_mem hj, hb _ (List.getElem_mem hj)⟩
theorem ints_of {ns : List Int} {A B : Int} (hb : ∀ x ∈ ns, A ≤ x ∧ x ≤ B) {n : Int} (hn : n = ns.length) {g : Int} (g0 : 0 ≤ g) (g1 : g < n) : ∃ x : Int, atI (ns.map V.int) g = some (.int x) ∧ A ≤ x ∧ x ≤ B := by
  obtain ⟨j, rfl⟩ := Int.eq_ofNat_of_zero_le g0
  have hj : j < ns.length := by omega
  exact ⟨ns[j], atI_nat (by rw [List.getElem?_map, List.getElem?_eq_getElem hj]; rfl), hb _ (List.getElem_mem hj)⟩
theorem cut_intsR (ns : List Int) (lo hi : Option Int) : ∀ x ∈ cutV (ns.map V.int) lo hi, ∃ c : Int, x = V.int c := fun x hx => by
  unfold cutV at hx
  have m := List.mem_of_mem_drop (List.mem_of_mem_take hx)
  obtain ⟨c, _, rfl⟩ := List.mem_map.mp m
  exact ⟨c, rfl⟩
structure RX (q : Str) (PP h : Addr) (H0 H : Hp) : Prop where
  ks : KS (fun b => b = PP) H0 H
  tab : TabN (fun _ => False) H PP q
  row : Row H h
  fresh : H0 h = none
section
variable {q : Str} {PP h : Addr} {H0 H H' : Hp} {K : PySem.W.Frag}
theorem RX.same (x : RX q PP h H0 H) (s : Same H H') : RX q PP h H0 H' := ⟨KS.trans x.ks (KS.of s), tabS_same x.tab s, x.row.same s, x.fresh⟩
theorem RX.keep (x : RX q PP h H0 H) (k : Keep h H H') (p : Row H' h) : RX q PP h H0 H' := by
  obtain ⟨ys, e⟩ := x.row.lst
  exact ⟨fun b o n eb => k b o (fun z => by rw [z, x.fresh] at eb; cases eb) (x.ks b o n eb), tabN_keep x.tab k e, p, x.fresh⟩
theorem row_ks (x : Row H h) (t : TabN (fun _ => False) H PP q) (k : KS (fun b => b = PP) H H') : Row H' h := by
  obtain ⟨d, c, e, r⟩ := x
  obtain ⟨t0, et⟩ := t.at
  exact ⟨d, c, k _ _ (fun z => by rw [z, et] at e; cases e) e, r⟩
theorem RX.kst (x : RX q PP h H0 H) (k : KS (fun b => b = PP) H H') (t : TabN (fun _ => False) H' PP q) : RX q PP h H0 H' := ⟨KS.trans x.ks k, t, row_ks x.row x.tab k, x.fresh⟩
/-- a list grown, that is new -/
theorem RX.put (x : RX q PP h H0 H) {D : Addr} {xs : List V} {o : HO} (f : H0 D = none) (e : H D = some (.lst xs)) (n : D ≠ h) : RX q PP h H0 (upd H D o) := by
  obtain ⟨t0, et⟩ := x.tab.at
  exact ⟨fun b o' nb eb => by rw [upd_ne (fun z => by rw [z, f] at eb; cases eb)]; exact x.ks b o' nb eb, tabN_keep (h := D) x.tab Keep.put e, x.row.put n, x.fresh⟩
theorem webR_keep {v : V} {w : Web} (x : Row H h) (hw : WebAt K H v w) (k : Keep h H H') : WebAt K H' v w := by
  obtain ⟨ys, e⟩ := x.lst
  exact hw.keep k e
theorem webR_kst {v : V} {w : Web} (t : TabN (fun _ => False) H PP q) (hw : WebAt K H v w) (k : KS (fun b => b = PP) H H') : WebAt K H' v w := by
  obtain ⟨t0, et⟩ := t.at
  exact web_ks k et hw
theorem lstR_kst {a : Addr} {xs : List V} (t : TabN (fun _ => False) H PP q) (e : H a = some (.lst xs)) (k : KS (fun b => b = PP) H H') : H' a = some (.lst xs) := by
  obtain ⟨t0, et⟩ := t.at
  exact k _ _ (fun z => by rw [z, et] at e; cases e) e
end
end Cw

/-! a place's ties as another one's -/
namespace Cw
open PySem PySem.Spec PyProof.Rows L2
def toTri (t : Tie) : Tri := ((t.1 : Int), (t.2.1 : Int), t.2.2)
def frTri (x : Tri) : Tie := (x.1.toNat, x.2.1.toNat, x.2.2)
theorem fr_to (t : Tie) : frTri (toTri t) = t := rfl
theorem Ties.tris {K : PySem.W.Frag} {H : Hp} : ∀ {vs : List V} {ts : List Tie}, Ties K H vs ts → ∃ es : List (Addr × Tri), vs = es.map (fun e => V.ref e.1) ∧ es.map (·.2) = ts.map toTri ∧ ∀ e ∈ es, SqT K H e.1 (triV e.2)
  | _, _, .nil => ⟨[], rfl, rfl, fun e he => nomatch he⟩
  | _, _, .cons (b := t) h r => by
    obtain ⟨a, rfl, q⟩ := h
    obtain ⟨es, rfl, e2, e3⟩ := Ties.tris r
    refine ⟨(a, toTri t) :: es, rfl, by rw [List.map_cons, List.map_cons, e2], fun e he => ?_⟩
    rcases List.mem_cons.mp he with rfl | he
    · exact q
    · exact e3 e he
theorem pairedM {α β γ : Type} {F : β → γ → Prop} {f : α → β} {g : α → γ} : ∀ {l : List α}, (∀ e ∈ l, F (f e) (g e)) → Paired F (l.map f) (l.map g)
  | [], _ => .nil
  | e :: r, h => .cons (h e List.mem_cons_self) (pairedM fun x hx => h x (List.mem_cons_of_mem _ hx))
theorem tris_back {K : PySem.W.Frag} {H : Hp} {es es' : List (Addr × Tri)} {ts : List Tie} (pm : es'.Perm es) (he : es.map (·.2) = ts.map toTri) (h : ∀ e ∈ es, SqT K H e.1 (triV e.2)) (srt : (es'.map (·.2)).Pairwise (fun x y => lexT y x = false)) :
    ∃ ts', Ties K H (es'.map fun e => V.ref e.1) ts' ∧ ts'.Perm ts ∧ ts'.Pairwise (fun x y => lexT ((y.1 : Int), (y.2.1 : Int), y.2.2) ((x.1 : Int), (x.2.1 : Int), x.2.2) = false) := by
  have own : ∀ e ∈ es', e.2 = toTri (frTri e.2) := fun e hm => by
    have m : e.2 ∈ es.map (·.2) := List.mem_map.mpr ⟨e, pm.mem_iff.mp hm, rfl⟩
    rw [he] at m
    obtain ⟨t, _, e2⟩ := List.mem_map.mp m
    rw [← e2, fr_to]
  refine ⟨es'.map fun e => frTri e.2, pairedM fun e hm => ⟨e.1, rfl, ?_⟩, ?_, ?_⟩
  · have q := h e (pm.mem_iff.mp hm)
    rw [own e hm] at q
    exact q
  · have z := pm.map fun e => frTri e.2
    have e2 : (es.map fun e => frTri e.2) = ts := by
      have : (es.map (·.2)).map frTri = (ts.map toTri).map frTri := by rw [he]
      rw [List.map_map, List.map_map] at this
      have id' : ts.map (frTri ∘ toTri) = ts := by
        conv => rhs; rw [← List.map_id ts]
        exact List.map_congr_left fun t _ => fr_to t
      rw [id'] at this
      exact this
    rw [e2] at z
    exact z
  · rw [List.pairwise_map] at srt
    rw [List.pairwise_map]
    refine srt.imp_of_mem fun {x y} hx hy hxy => ?_
    rw [own x hx, own y hy] at hxy
    exact hxy
theorem ties_sq {u : Web} (U : WOk u) : u.2.length ≤ u.1.length * u.1.length := by
  have nd : (u.2.map fun t => t.1 * u.1.length + t.2.1).Nodup := by
    unfold List.Nodup
    rw [List.pairwise_map]
    refine List.Pairwise.imp_of_mem (fun {x y} hx hy lt e => ?_) U.rise
    have r1 := U.ends x hx
    have r2 := U.ends y hy
    have e1 : x.1 = y.1 := by
      have a := congrArg (· / u.1.length) e
      rw [Nat.mul_comm, Nat.mul_add_div (by omega), Nat.div_eq_of_lt r1.2.1, Nat.mul_comm, Nat.mul_add_div (by omega), Nat.div_eq_of_lt r2.2.1] at a
      omega
    rw [e1] at e
    rcases lt with z | ⟨_, z⟩ <;> omega
  have := nodup_len (u.1.length * u.1.length) _ nd fun x hx => by
    obtain ⟨t, ht, rfl⟩ := List.mem_map.mp hx
    have r := U.ends t ht
    have : t.1 * u.1.length + u.1.length ≤ u.1.length * u.1.length := by
      rw [← Nat.succ_mul]
      exact Nat.mul_le_mul_right _ (by omega)
    omega
  rwa [List.length_map] at this
theorem min_intR (a b : Nat) : (if (b : Int) < (a : Int) then (b : Int) else (a : Int)) = ((min a b : Nat) : Int) := by split <;> omega
theorem max_intR (a b : Nat) : (if (b : Int) > (a : Int) then (b : Int) else (a : Int)) = ((max a b : Nat) : Int) := by split <;> omega
theorem eqv_nat (x y : Nat) : PyData.eqv (.int (x : Int)) (.int (y : Int)) = decide (x = y) := by
  rw [Bool.eq_iff_iff]
  simp [PyData.eqv]
  omega
theorem any_two (a b o : Nat) : ([PyData.int (a : Int), .int (b : Int)].any fun z => PyData.eqv z (.int (o : Int))) = (decide (a = o) || decide (b = o)) := by
  simp only [List.any_cons, List.any_nil, eqv_nat, Bool.or_false]
def dubF (u : Web) (o : Nat) : List Tie := u.2.filter fun t => !(decide (t.1 = o) || decide (t.2.1 = o))
def dubM (one other : Nat) (t : Tie) : Tie := (min (t.1 + t.2.1 - one) other, max (t.1 + t.2.1 - one) other, t.2.2)
def dubN (one other : Nat) (ts : List Tie) : List Tie := (ts.filter fun t => decide (t.1 = one) || decide (t.2.1 = one)).map (dubM one other)
def dubC (u : Web) (one other : Nat) : List Nat := u.1.set other (u.1.getD one 0)
theorem dubN_snoc {one other : Nat} {ts : List Tie} {i : Nat} {t : Tie} (h : ts[i]? = some t) : dubN one other (ts.take (i + 1)) = dubN one other (ts.take i) ++ if (decide (t.1 = one) || decide (t.2.1 = one)) = true then [dubM one other t] else [] := by
  unfold dubN
  rw [take_snoc h, List.filter_append, List.map_append]
  congr 1
  by_cases c : (decide (t.1 = one) || decide (t.2.1 = one)) = true
  · rw [if_pos c, List.filter_cons_of_pos (p := fun t : Tie => decide (t.1 = one) || decide (t.2.1 = one)) c]; rfl
  · rw [if_neg c, List.filter_cons_of_neg (p := fun t : Tie => decide (t.1 = one) || decide (t.2.1 = one)) c]; rfl
theorem dubF_mem {u : Web} {o : Nat} {t : Tie} : t ∈ dubF u o ↔ t ∈ u.2 ∧ t.1 ≠ o ∧ t.2.1 ≠ o := by
  unfold dubF
  rw [List.mem_filter]
  simp [not_or]
theorem dub_ok {u : Web} (U : WOk u) {one other : Nat} (h1 : one < u.1.length) (h2 : other < u.1.length) (ne : one ≠ other) (u7 : u.1.length ≤ 7) {ts : List Tie} (pm : ts.Perm (dubF u other ++ dubN one other (dubF u other)))
    (s : ts.Pairwise (fun x y => lexT ((y.1 : Int), (y.2.1 : Int), y.2.2) ((x.1 : Int), (x.2.1 : Int), x.2.2) = false)) : WOk (dubC u one other, ts) := by
  have lc : (dubC u one other).length = u.1.length := List.length_set
  have F : (dubF u other).Pairwise tlt := U.rise.sublist List.filter_sublist
  have mN : ∀ t ∈ dubN one other (dubF u other), ∃ x ∈ dubF u other, (x.1 = one ∨ x.2.1 = one) ∧ t = dubM one other x := fun t ht => by
    obtain ⟨x, hx, rfl⟩ := List.mem_map.mp ht
    obtain ⟨a, b⟩ := List.mem_filter.mp hx
    exact ⟨x, a, by simpa using b, rfl⟩
  have fr : ∀ x ∈ dubF u other, (x.1 = one ∨ x.2.1 = one) → x.1 < x.2.1 ∧ x.2.1 < u.1.length ∧ x.1 + x.2.1 - one ≠ other ∧ x.1 + x.2.1 - one < u.1.length ∧ x.1 + x.2.1 - one ≠ one := fun x hx hb => by
    obtain ⟨a, b, c⟩ := dubF_mem.mp hx
    have r := U.ends x a
    rcases hb with z | z <;> refine ⟨r.1, r.2.1, ?_, ?_, ?_⟩ <;> omega
  have ed : (dubF u other ++ dubN one other (dubF u other)).Pairwise (fun x y => ends x ≠ ends y) := by
    refine List.pairwise_append.mpr ⟨F.imp fun {x y} lt e => ?_, ?_, fun x hx y hy e => ?_⟩
    · unfold ends at e
      simp only [Prod.mk.injEq] at e
      rcases lt with z | ⟨_, z⟩ <;> omega
    · show ((_ : List Tie).map _).Pairwise _
      rw [List.pairwise_map]
      refine List.Pairwise.imp_of_mem (fun {x y} hx hy lt e => ?_) (F.sublist List.filter_sublist)
      obtain ⟨a, b⟩ := List.mem_filter.mp hx
      obtain ⟨a', b'⟩ := List.mem_filter.mp hy
      have b : x.1 = one ∨ x.2.1 = one := by simpa using b
      have b' : y.1 = one ∨ y.2.1 = one := by simpa using b'
      obtain ⟨r1, r2, r3, r4, r5⟩ := fr x a b
      obtain ⟨p1, p2, p3, p4, p5⟩ := fr y a' b'
      unfold ends dubM at e
      simp only [Prod.mk.injEq] at e
      rcases lt with z | ⟨z1, z2⟩ <;> omega
    · obtain ⟨z, hz, hb, rfl⟩ := mN y hy
      obtain ⟨_, a, b⟩ := dubF_mem.mp hx
      unfold ends dubM at e
      simp only [Prod.mk.injEq] at e
      omega
  refine ⟨by rw [lc]; exact U.few, ?_, fun c hc => ?_, rise_of s ((List.Perm.pairwise_iff (fun {x y} h => h.symm) pm).mpr ed), fun t ht => ?_⟩
  · rw [pm.length_eq, List.length_append]
    have l1 : (dubF u other).length ≤ u.2.length := List.length_filter_le _ _
    have l2 : (dubN one other (dubF u other)).length ≤ (dubF u other).length := by
      unfold dubN
      rw [List.length_map]
      exact List.length_filter_le _ _
    have l3 : u.2.length ≤ 49 := Nat.le_trans (ties_sq U) (Nat.mul_le_mul u7 u7)
    omega
  · rcases List.mem_or_eq_of_mem_set hc with h | h
    · exact U.kinds c h
    · rw [h, List.getD_eq_getElem?_getD, List.getElem?_eq_getElem h1]
      exact U.kinds _ (List.getElem_mem h1)
  · show t.1 < t.2.1 ∧ t.2.1 < (dubC u one other).length ∧ _
    rw [lc]
    rcases List.mem_append.mp (pm.mem_iff.mp ht) with h | h
    · exact U.ends t (dubF_mem.mp h).1
    · obtain ⟨x, hx, hb, rfl⟩ := mN t h
      obtain ⟨r1, r2, r3, r4, r5⟩ := fr x hx hb
      have r := U.ends x (dubF_mem.mp hx).1
      refine ⟨?_, ?_, r.2.2⟩
      · show min _ _ < max _ _; omega
      · show max _ _ < u.1.length; omega
end Cw

namespace Cw
open PySem PySem.Spec PySem.Calls PyProof.Rows L2
/-! ### the kind of a thing told -/
inductive TyS (K : PySem.W.Frag) (H : Hp) : V → String → Prop
  | int (i : Int) : TyS K H (.int i) "int"
  | str (x : Str) : TyS K H (.str x) "str"
  | lst {a : Addr} {xs : List V} (e : SqL K H a xs) : TyS K H (.ref a) "list"
  | tup {a : Addr} {xs : List V} (e : SqT K H a xs) : TyS K H (.ref a) "tuple"
def rTyS (K : PySem.W.Frag) : List V → Hp → VK → Prop := fun xs H Q => ∃ x T, xs = [x] ∧ TyS K H x T ∧ Q (.ty T) H
theorem cr_type {X : Cx} : CallR X (.type "type") (rTyS X.K) := by
  intro pins s σ H xs us Q I r h
  obtain ⟨x, T, rfl, t, q⟩ := h
  obtain ⟨u, rfl, rx⟩ := vals1 r
  have fin : EP X pins σ Q (.type T) s := ⟨.ty T, H, I, rfl, q⟩
  cases t with
  | int i =>
    obtain ⟨k, rfl⟩ := rx
    exact call_type_of (typeIs_int s i k) (by decide +kernel) fin
  | str z =>
    obtain ⟨k, rfl⟩ := rx
    exact call_type_of (typeIs_str s z k) (by decide +kernel) fin
  | lst e =>
    cases rx
    obtain ⟨_, _, p, _⟩ := I.list e
    exact call_type_of p.isList.typeIs (by decide +kernel) fin
  | tup e =>
    cases rx
    obtain ⟨_, _, p, _⟩ := I.tuple e
    exact call_type_of p.typeIs (by decide +kernel) fin
theorem d_type {K : PySem.W.Frag} {H : Hp} {Q : VK} {x : V} {T : String} (t : TyS K H x T) (q : Q (.ty T) H) : rTyS K [x] H Q := ⟨x, T, rfl, t, q⟩
/-! ### how many members a set has -/
def rLenSO (w : World) : List V → Hp → VK → Prop := fun xs H Q => ∃ a S n, xs = [.ref a] ∧ H a = some (SetO w a S n) ∧ ∀ ks : List Int, ks.Nodup → (∀ k, S k = true ↔ k ∈ ks) → ks.length = n → Q (.int (n : Nat)) H
theorem cr_lenSO {X : Cx} {wd : World} (hw : X.w = wd) : CallR X (.builtin "len") (rLenSO wd) := by
  subst hw
  intro pins s σ H xs us Q I r h
  obtain ⟨a, S, n, rfl, e, q⟩ := h
  obtain ⟨u, rfl, ru⟩ := vals1 r
  obtain rfl : u = Value.ref a := ru
  obtain ⟨o, es, ep, t, ho, ex, d, _, nd, mem, _, fits, hn, _⟩ := setO_get I e
  refine call_len_set ho ex d fits ?_ ⟨.int (n : Nat), H, I.tok _, ⟨_, by rw [hn]⟩, q _ nd mem (by rw [List.length_map, Array.length_toList, hn])⟩
  have := ‹es.size < scanBound›
  unfold scanBound at this
  omega
theorem sub_len {α : Type} [DecidableEq α] : ∀ (ks ns : List α), ks.Nodup → (∀ k ∈ ks, k ∈ ns) → ks.length ≤ ns.length
  | [], _, _, _ => Nat.zero_le _
  | k :: r, ns, nd, sub => by
    have hk := sub k List.mem_cons_self
    have h1 := sub_len r (ns.erase k) (List.nodup_cons.mp nd).2 fun x hx => (List.mem_erase_of_ne fun (z : x = k) => (List.nodup_cons.mp nd).1 (z ▸ hx)).mpr (sub x (List.mem_cons_of_mem _ hx))
    rw [List.length_erase_of_mem hk] at h1
    have := List.length_pos_of_mem hk
    rw [List.length_cons]
    omega
theorem len_nodup {α : Type} [DecidableEq α] {ks ns : List α} (nd : ks.Nodup) (m : ∀ k, k ∈ ks ↔ k ∈ ns) : ks.length = ns.length ↔ ns.Nodup := by
  constructor
  · intro e
    refine Decidable.byContradiction fun c => ?_
    have : ∃ x : α, ∃ l : List α, l.length + 1 = ns.length ∧ (∀ y, y ∈ ns → y ∈ l) := by
      clear e nd m
      induction ns with
      | nil => exact absurd .nil c
      | cons x r ih =>
        by_cases h : x ∈ r
        · exact ⟨x, r, rfl, fun y hy => (List.mem_cons.mp hy).elim (fun z => z ▸ h) id⟩
        · obtain ⟨y, l, hl, hm⟩ := ih fun z => c (List.nodup_cons.mpr ⟨h, z⟩)
          exact ⟨y, x :: l, by rw [List.length_cons, List.length_cons, hl], fun z hz => (List.mem_cons.mp hz).elim (fun q => q ▸ List.mem_cons_self) fun q => List.mem_cons_of_mem _ (hm z q)⟩
    obtain ⟨_, l, hl, hm⟩ := this
    have := sub_len ks l nd fun k hk => hm k ((m k).mp hk)
    omega
  · intro nn
    exact Nat.le_antisymm (sub_len _ _ nd fun k hk => (m k).mp hk) (sub_len _ _ nn fun k hk => (m k).mpr hk)
/-! ### numbers that rise -/
theorem rise_ext {ns ks : List Int} (a : ns.Pairwise (· < ·)) (b : ks.Pairwise (· < ·)) (m : ∀ k, k ∈ ns ↔ k ∈ ks) : ns = ks := by
  have nd : ∀ {l : List Int}, l.Pairwise (· < ·) → l.Nodup := fun h => h.imp fun {x y} h => by omega
  have p : ns.Perm ks := (List.perm_ext_iff_of_nodup (nd a) (nd b)).mpr m
  exact p.eq_of_pairwise (le := (· < ·)) (fun x y _ _ h1 h2 => by omega) a b
theorem dp_ints {K : PySem.W.Frag} {H : Hp} {L : Addr} {ns : List Int} (e : SqL K H L (ns.map V.int)) : Dp K H (.ref L) (.list (ns.map PyData.int)) := .lst e (dpa_ints ns)
theorem eqv_ints2 : ∀ ns ks : List Int, PyData.eqvAll (ns.map PyData.int) (ks.map PyData.int) = decide (ns = ks)
  | [], [] => by simp [PyData.eqvAll]
  | [], _ :: _ => by simp [PyData.eqvAll]
  | _ :: _, [] => by simp [PyData.eqvAll]
  | a :: r, b :: t => by
    have := eqv_ints2 r t
    simp only [List.map_cons, PyData.eqvAll, this, PyData.eqv]
    rw [Bool.eq_iff_iff]
    simp
theorem eqv_intsB (ns ks : List Int) : PyData.eqv (.list (ns.map PyData.int)) (.list (ks.map PyData.int)) = decide (ns = ks) := by
  simp only [PyData.eqv]
  exact eqv_ints2 ns ks
/-- firsts rise, ends are no two alike -/
def leadB (ld : Lead) : Bool := decide ((ld.map (·.1)).Pairwise (· < ·) ∧ (ld.map (·.2)).Nodup)
end Cw

/-! greater tables: each slot is met in a round -/
namespace Cw
open PySem L2
/-- the slots of a round, as the figures of a number -/
def orb (m : Nat) : Nat → Nat → Nat → Nat
  | 0, _, acc => acc
  | f + 1, x, acc => orb m f ((x * 5 + 1) % (m + 1)) (acc ||| 2 ^ x)
theorem lcgI_succ (m x : Nat) : ∀ k, lcgI m ((x * 5 + 1) % (m + 1)) k = lcgI m x (k + 1)
  | 0 => rfl
  | k + 1 => by
    show (lcgI m ((x * 5 + 1) % (m + 1)) k * 5 + 1) % (m + 1) = (lcgI m x (k + 1) * 5 + 1) % (m + 1)
    rw [lcgI_succ m x k]
theorem orb_has (m j : Nat) : ∀ (f x acc : Nat), (orb m f x acc).testBit j = true → acc.testBit j = true ∨ ∃ k, k < f ∧ lcgI m x k = j
  | 0, _, _, h => .inl h
  | f + 1, x, acc, h => by
    rcases orb_has m j f _ _ h with e | ⟨k, hk, e⟩
    · rw [Nat.testBit_or, Bool.or_eq_true] at e
      rcases e with e | e
      · exact .inl e
      · refine .inr ⟨0, by omega, ?_⟩
        rw [Nat.testBit_two_pow] at e
        exact of_decide_eq_true e
    · exact .inr ⟨k + 1, by omega, by rw [← lcgI_succ]; exact e⟩
theorem lcgI_zero (m : Nat) : ∀ k, lcgI m 0 k = lcgN m k
  | 0 => rfl
  | k + 1 => by
    show (lcgI m 0 k * 5 + 1) % (m + 1) = (lcgN m k * 5 + 1) % (m + 1)
    rw [lcgI_zero m k]
/-- where the round ends -/
def lastOf (m : Nat) : Nat → Nat → Nat
  | 0, x => x
  | f + 1, x => lastOf m f ((x * 5 + 1) % (m + 1))
theorem lastOf_eq (m : Nat) : ∀ f x, lastOf m f x = lcgI m x f
  | 0, _ => rfl
  | f + 1, x => by rw [← lcgI_succ]; exact lastOf_eq m f _
/-- each slot is met in a round, and the round closes -/
structure FullW (m : Nat) : Prop where
  odd : m % 2 = 1
  round : lcgN m (m + 1) = 0
  all : ∀ j, j ≤ m → ∃ b, b ≤ m ∧ lcgN m b = j
theorem full_of {m : Nat} (o : m % 2 = 1) (h : orb m (m + 1) 0 0 = 2 ^ (m + 1) - 1) (r : lastOf m (m + 1) 0 = 0) : FullW m := by
  refine ⟨o, by rw [← lcgI_zero, ← lastOf_eq]; exact r, fun j hj => ?_⟩
  have b : (orb m (m + 1) 0 0).testBit j = true := by
    rw [h, Nat.testBit_two_pow_sub_one]
    exact decide_eq_true (by omega)
  rcases orb_has m j _ _ _ b with e | ⟨k, hk, e⟩
  · rw [Nat.zero_testBit] at e; cases e
  · exact ⟨k, by omega, by rw [← lcgI_zero]; exact e⟩
theorem full7 : FullW 7 := full_of (by decide) (by decide +kernel) (by decide +kernel)
theorem full31 : FullW 31 := full_of (by decide) (by decide +kernel) (by decide +kernel)
theorem full127 : FullW 127 := full_of (by decide) (by decide +kernel) (by decide +kernel)
theorem full511 : FullW 511 := full_of (by decide) (by decide +kernel) (by decide +kernel)
theorem full2047 : FullW 2047 := full_of (by decide) (by decide +kernel) (by decide +kernel)
end Cw

/-! tables of sets, greater ones: where a search comes, what stands where -/
namespace Cw
open PySem L2
section
variable {m : Nat}
theorem FullW.again (F : FullW m) : ∀ k, lcgN m (k + (m + 1)) = lcgN m k
  | 0 => by rw [Nat.zero_add]; exact F.round
  | k + 1 => by
    rw [show k + 1 + (m + 1) = k + (m + 1) + 1 by omega]
    show (lcgN m (k + (m + 1)) * 5 + 1) % (m + 1) = (lcgN m k * 5 + 1) % (m + 1)
    rw [F.again k]
theorem FullW.from_ (F : FullW m) {p q : Nat} (hp : p ≤ m) (hq : q ≤ m) : ∃ k, k ≤ m ∧ lcgI m p k = q := by
  obtain ⟨b, hb, e1⟩ := F.all p hp
  obtain ⟨c, hc, e2⟩ := F.all q hq
  by_cases le : b ≤ c
  · exact ⟨c - b, by omega, by rw [← e1, lcgN_add, show b + (c - b) = c by omega, e2]⟩
  · exact ⟨c + (m + 1) - b, by omega, by rw [← e1, lcgN_add, show b + (c + (m + 1) - b) = c + (m + 1) by omega, F.again, e2]⟩
/-- a search meets each slot within its bound -/
theorem FullW.meets (F : FullW m) (h : Int) {q : Nat} (hq : q ≤ m) : ∃ k, k < 10 * SetTable.turns m ∧ way m h k = q := by
  obtain ⟨k, hk, e⟩ := F.from_ (runI_le m (SetTable.bits h) 12) hq
  rw [← runI_tail (L2.bits_lt h) k] at e
  obtain ⟨c, hc, e2⟩ := run_nth m (SetTable.bits h) (12 + k)
  refine ⟨c, by unfold SetTable.turns; omega, ?_⟩
  show (nth m (runAt m (SetTable.bits h % (m + 1)) (SetTable.bits h)) c).j = q
  rw [e2, e]
  rfl
theorem way_top (h : Int) (k : Nat) : way m h k ≤ m := by
  have lo : SetTable.bits h % (m + 1) ≤ m := Nat.le_of_lt_succ (Nat.mod_lt (SetTable.bits h) (Nat.zero_lt_succ m))
  have ends := runEnd_bd lo
  show (nth m (runAt m (SetTable.bits h % (m + 1)) (SetTable.bits h)) k).j ≤ m
  generalize SetTable.bits h % (m + 1) = lo' at lo ends ⊢
  have z := nth_in (m := m) k (runAt m lo' (SetTable.bits h)) (show lo' + (SetTable.runEnd m lo' - lo') ≤ m by omega)
  exact Nat.le_trans (Nat.le_add_right _ _) z
end
/-- each slot of the table is found again by its hash -/
structure TabW (tb : SetTable) (hs : List Int) : Prop where
  rise : Ris tb.place.toList
  bare : tb.dummies = #[]
  size : tb.place.size = hs.length
  full : FullW tb.mask
  top : ∀ q ∈ tb.place.toList, q ≤ tb.mask
  comes : ∀ (i : Nat) (h : Int) (q : Nat), hs[i]? = some h → tb.place.toList[i]? = some q → ∃ k, way tb.mask h k = q ∧ ∀ c, c < k → way tb.mask h c ∈ tb.place.toList
section
variable {tb : SetTable} {hs : List Int}
/-- the first empty slot that a search comes to -/
theorem TabW.gap (T : TabW tb hs) (le : hs.length ≤ tb.mask) (h : Int) : ∃ K, K < 10 * SetTable.turns tb.mask ∧ way tb.mask h K ∉ tb.place.toList ∧ ∀ c, c < K → way tb.mask h c ∈ tb.place.toList := by
  obtain ⟨q, hq, out⟩ := st_missing tb.place.toList (tb.mask + 1) (by rw [Array.length_toList, T.size]; omega)
  obtain ⟨k, hk, e⟩ := T.full.meets h (q := q) (by omega)
  obtain ⟨K, le2, z1, z2⟩ := st_least (p := fun c => way tb.mask h c ∉ tb.place.toList) k (by rw [e]; exact out)
  exact ⟨K, by omega, z1, fun c hc => Classical.byContradiction fun y => z2 c hc y⟩
theorem TabW.ahead (T : TabW tb hs) {h : Int} {K i q : Nat} (out : way tb.mask h K ∉ tb.place.toList) (e1 : hs[i]? = some h) (e2 : tb.place.toList[i]? = some q) : ∃ c, c < K ∧ way tb.mask h c = q := by
  obtain ⟨c, ec, all⟩ := T.comes i h q e1 e2
  refine ⟨c, Classical.byContradiction fun ge => out ?_, ec⟩
  rcases Nat.lt_or_ge K c with lt | ge2
  · exact all K lt
  · rw [show K = c by omega, ec]
    exact List.mem_of_getElem? e2
/-- one more put in where a search found room -/
theorem TabW.more (T : TabW tb hs) {h : Int} {K : Nat} (out : way tb.mask h K ∉ tb.place.toList) (all : ∀ c, c < K → way tb.mask h c ∈ tb.place.toList) {q at_ : Nat} (eq_ : q = way tb.mask h K) (ea : at_ = SetTable.below tb.place q) :
    at_ ≤ hs.length ∧ TabW (tb.put q).1 (hs.take at_ ++ h :: hs.drop at_) := by
  have qm : q ≤ tb.mask := by rw [eq_]; exact way_top h K
  rw [← eq_] at out
  have le : at_ ≤ tb.place.size := by rw [ea]; exact (below_cut T.rise q).1
  have le1 : at_ ≤ tb.place.toList.length := by rw [Array.length_toList]; exact le
  have le2 : at_ ≤ hs.length := by rw [← T.size]; exact le
  have pl : (tb.put q).1.place.toList = tb.place.toList.take at_ ++ q :: tb.place.toList.drop at_ := by rw [ea]; exact put_place tb q
  have no : tb.place[SetTable.below tb.place q]? ≠ some q := fun e => out (by rw [← Array.getElem?_toList] at e; exact List.mem_of_getElem? e)
  have mem : ∀ x, x ∈ (tb.put q).1.place.toList ↔ x = q ∨ x ∈ tb.place.toList := fun x => by rw [pl]; exact mem_ins
  refine ⟨le2, ⟨ris_insert T.rise no, put_dm T.bare q, ?_, T.full, fun x hx => ?_, fun i g x e1 e2 => ?_⟩⟩
  · rw [← Array.length_toList, pl, len_ins _ le1, len_ins _ le2, Array.length_toList, T.size]
  · rcases (mem x).mp hx with rfl | y
    · exact qm
    · exact T.top x y
  · have old : ∀ i', hs[i']? = some g → tb.place.toList[i']? = some x → ∃ k, way (tb.put q).1.mask g k = x ∧ ∀ c, c < k → way (tb.put q).1.mask g c ∈ (tb.put q).1.place.toList := fun i' y1 y2 => by
      obtain ⟨k, y3, y4⟩ := T.comes i' g x y1 y2
      exact ⟨k, y3, fun c hc => (mem _).mpr (.inr (y4 c hc))⟩
    rw [tins_get hs le2] at e1
    rw [pl, tins_get _ le1] at e2
    rcases Nat.lt_trichotomy i at_ with lt | rfl | gt
    · rw [if_pos lt] at e1 e2
      exact old i e1 e2
    · rw [if_neg (Nat.lt_irrefl _), if_pos rfl] at e1 e2
      cases e1
      cases e2
      exact ⟨K, eq_.symm, fun c hc => (mem _).mpr (.inr (all c hc))⟩
    · rw [if_neg (by omega), if_neg (by omega)] at e1 e2
      exact old (i - 1) e1 e2
theorem TabW.fill (T : TabW tb hs) : tb.fill = hs.length := by
  unfold SetTable.fill
  rw [T.size, T.bare]
  rfl
end
end Cw

/-! greater tables laid anew -/
namespace Cw
open PySem L2
section
variable {m : Nat}
/-- a slot that nobody has is found, the first such on the way -/
theorem FullW.free (F : FullW m) {ow : Array (Option Nat)} (h : Int) {q : Nat} (hq : q ≤ m) (e : oAt ow q = none) :
    ∃ K, SetTable.layClean.free m ow (SetTable.turns m) (SetTable.bits h % (m + 1)) (SetTable.bits h) = some (way m h K) ∧ oAt ow (way m h K) = none ∧ ∀ c, c < K → oAt ow (way m h c) ≠ none := by
  obtain ⟨k, hk, e1⟩ := F.from_ (runI_le m (SetTable.bits h) 12) hq
  rw [← runI_tail (L2.bits_lt h) k] at e1
  generalize hn : 12 + k = n at e1
  have there : (nth m (runAt m (SetTable.bits h % (m + 1)) (SetTable.bits h)) (off m (SetTable.bits h % (m + 1)) (SetTable.bits h) n)).j = q := by
    rw [nth_off, itL_run]
    exact e1
  have here : oAt ow (way m h (off m (SetTable.bits h % (m + 1)) (SetTable.bits h) n)) = none := by
    show oAt ow (nth m (runAt m (SetTable.bits h % (m + 1)) (SetTable.bits h)) (off m (SetTable.bits h % (m + 1)) (SetTable.bits h) n)).j = none
    rw [there]; exact e
  obtain ⟨K, le, y1, y2⟩ := st_least (p := fun c => oAt ow (way m h c) = none) _ here
  refine ⟨K, free_spec m ow (SetTable.turns m) n _ _ K (by unfold SetTable.turns; omega) le (fun c hc => ?_) ?_, y1, y2⟩
  · have y : ¬ oAt ow (way m h c) = none := y2 c hc
    cases z : oAt ow (way m h c) with
    | none => exact absurd z y
    | some v => rfl
  · show (oAt ow (way m h K)).isNone = true
    rw [y1]; rfl
/-- one more has its slot -/
theorem own_more (F : FullW m) {ds : List Int} {ow : Array (Option Nat)} (O : Own m ds ow) (le : ds.length ≤ m) (h : Int) :
    ∃ q, SetTable.layClean.free m ow (SetTable.turns m) (SetTable.bits h % (m + 1)) (SetTable.bits h) = some q ∧ Own m (ds ++ [h]) (ow.setIfInBounds q (some ds.length)) := by
  obtain ⟨ps, lp, own⟩ := O.ps
  obtain ⟨q0, b0, n0⟩ := st_missing ps (m + 1) (by omega)
  have z0 : oAt ow q0 = none := Classical.byContradiction fun y => n0 (own q0 (by omega) y)
  obtain ⟨K, e1, e2, e3⟩ := F.free h (q := q0) (by omega) z0
  generalize eq_ : way m h K = q at e1 e2
  have qm : q ≤ m := eq_ ▸ way_top h K
  have me : oAt (ow.setIfInBounds q (some ds.length)) q = some ds.length := oAt_set_self _ (by rw [O.sz]; omega)
  have ot : ∀ {i}, i ≠ q → oAt (ow.setIfInBounds q (some ds.length)) i = oAt ow i := fun ne => oAt_set_ne _ ne
  have still : ∀ {i}, oAt ow i ≠ none → oAt (ow.setIfInBounds q (some ds.length)) i ≠ none := fun {i} y => by
    by_cases c : i = q
    · subst c; rw [me]; simp
    · rw [ot c]; exact y
  refine ⟨q, e1, ⟨by rw [Array.size_setIfInBounds, O.sz], fun j k hj y => ?_, fun k hk => ?_, ⟨q :: ps, by simp [lp], fun j hj y => ?_⟩⟩⟩
  · by_cases c : j = q
    · subst c
      rw [me] at y
      cases y
      exact ⟨h, K, by rw [List.getElem?_append_right (Nat.le_refl _), Nat.sub_self]; rfl, eq_, fun c hc => still (e3 c hc)⟩
    · rw [ot c] at y
      obtain ⟨g, L, y1, y2, y3⟩ := O.at_ j k hj y
      exact ⟨g, L, by rw [List.getElem?_append_left (List.getElem?_eq_some_iff.mp y1).1]; exact y1, y2, fun c hc => still (y3 c hc)⟩
  · rcases Nat.lt_or_ge k ds.length with lt | ge
    · obtain ⟨j, hj, y⟩ := O.all k lt
      exact ⟨j, hj, by rw [ot fun z => by rw [z, e2] at y; cases y]; exact y⟩
    · rw [List.length_append, List.length_singleton] at hk
      exact ⟨q, qm, by rw [me, show k = ds.length by omega]⟩
  · by_cases c : j = q
    · rw [c]; exact List.mem_cons_self
    · rw [ot c] at y
      exact List.mem_cons_of_mem _ (own j hj y)
theorem own_all (F : FullW m) : ∀ (rs ds : List Int) (ow : Array (Option Nat)), Own m ds ow → ds.length + rs.length ≤ m → ∃ ow', rs.foldl (stepF m) (some (ow, ds.length)) = some (ow', ds.length + rs.length) ∧ Own m (ds ++ rs) ow'
  | [], ds, ow, O, _ => ⟨ow, rfl, by rw [List.append_nil]; exact O⟩
  | h :: rs, ds, ow, O, le => by
    rw [List.length_cons] at le
    obtain ⟨q, e, O2⟩ := own_more F O (by omega) h
    have l1 : (ds ++ [h]).length = ds.length + 1 := by simp
    obtain ⟨ow', f, O3⟩ := own_all F rs (ds ++ [h]) _ O2 (by rw [l1]; omega)
    rw [l1] at f
    refine ⟨ow', ?_, by simpa using O3⟩
    rw [List.foldl_cons, stepF_some e, f, List.length_cons]
    congr 2
    omega
theorem laid_clean (F : FullW m) {hs : Array Int} (le : hs.size ≤ m) : ∃ ow, SetTable.layClean m hs = some ow ∧ Own m hs.toList ow := by
  obtain ⟨ow, f, O⟩ := own_all F hs.toList [] _ (Own.init m) (by simpa using le)
  refine ⟨ow, ?_, by simpa using O⟩
  rw [layClean_eq]
  have f' : hs.toList.foldl (stepF m) (some (Array.replicate (m + 1) none, 0)) = some (ow, 0 + hs.toList.length) := f
  rw [f']
  rfl
/-- the table laid anew: the same hashes in another order -/
theorem relaidW (tb : SetTable) {hs : Array Int} {wanted : Nat} (ew : SetTable.sizeAbove wanted - 1 = m) (F : FullW m) (le : hs.size ≤ m) :
    ∃ tb' order, tb.relaid hs wanted = some (tb', order) ∧ order.toList.Perm (List.range hs.size) ∧ TabW tb' (order.toList.map fun i => hs.getD i 0) ∧ tb'.mask = m ∧ tb'.led = tb.led ∧ tb'.plain = tb.plain := by
  obtain ⟨ow, e, O⟩ := laid_clean F le
  have er : tb.relaid hs wanted = some (tabOf tb m ow, ((liveOf m ow).map (·.2)).toArray) := by
    rw [relaid_eq, ew, e]; rfl
  have live := fun (j k : Nat) => mem_live (j := j) (k := k) O.sz
  obtain ⟨ri, inr⟩ := ris_live (fun j => ow.getD j none) (List.range (m + 1)) List.pairwise_lt_range
  have ri : Ris ((liveOf m ow).map (·.1)) := ri
  have inr : ∀ x ∈ (liveOf m ow).map (·.1), x ∈ List.range (m + 1) := inr
  have nd : ((liveOf m ow).map (·.1)).Nodup := ri.imp fun h => Nat.ne_of_lt h
  have lz : hs.toList.length = hs.size := Array.length_toList
  have has : ∀ k, k < hs.size → k ∈ (liveOf m ow).map (·.2) := fun k hk => by
    obtain ⟨j, hj, y⟩ := O.all k (by rw [lz]; exact hk)
    exact List.mem_map.mpr ⟨(j, k), (live j k).mpr ⟨hj, y⟩, rfl⟩
  have len : (liveOf m ow).length = hs.size := by
    obtain ⟨ps, lp, own⟩ := O.ps
    have up := nat_nodup_len _ ps nd fun x hx => by
      obtain ⟨⟨j, k⟩, hq, rfl⟩ := List.mem_map.mp hx
      obtain ⟨hj, y⟩ := (live j k).mp hq
      exact own j hj (by rw [y]; simp)
    have dn := nat_nodup_len (List.range hs.size) _ List.nodup_range fun k hk => has k (List.mem_range.mp hk)
    rw [List.length_map, lp] at up
    rw [List.length_map, List.length_range] at dn
    omega
  refine ⟨_, _, er, perm_range _ _ (by show ((liveOf m ow).map (·.2)).length = _; rw [List.length_map, len]) has, ⟨ri, rfl, ?_, F, fun x hx => ?_, fun i g q y1 y2 => ?_⟩, rfl, rfl, rfl⟩
  · show (((liveOf m ow).map (·.1)).toArray).size = (((liveOf m ow).map (·.2)).map fun i => hs.getD i 0).length
    simp
  · have := List.mem_range.mp (inr x hx)
    show x ≤ m
    omega
  · have y1 : (((liveOf m ow).map (·.2)).map fun i => hs.getD i 0)[i]? = some g := y1
    have y2 : ((liveOf m ow).map (·.1))[i]? = some q := y2
    rw [List.getElem?_map] at y2
    obtain ⟨⟨q', k⟩, hq, z⟩ := Option.map_eq_some_iff.mp y2
    subst z
    rw [List.getElem?_map, List.getElem?_map, hq] at y1
    have eg : hs.getD k 0 = g := Option.some.inj y1
    obtain ⟨hj, y⟩ := (live q' k).mp (List.mem_of_getElem? hq)
    obtain ⟨g', K, z1, z2, z3⟩ := O.at_ q' k hj y
    have eg' : hs.getD k 0 = g' := by rw [Array.getD_eq_getD_getElem?, ← Array.getElem?_toList, z1]; rfl
    rw [← eg, eg']
    refine ⟨K, z2, fun c hc => ?_⟩
    show way m g' c ∈ (liveOf m ow).map (·.1)
    cases z : oAt ow (way m g' c) with
    | none => exact absurd z (z3 c hc)
    | some v => exact List.mem_map.mpr ⟨(way m g' c, v), (live _ _).mpr ⟨way_top g' c, z⟩, rfl⟩
end
end Cw

/-! sets of many tuples: the search -/
namespace Cw
open PySem PySem.Spec PyProof.Rows L2
section
variable {P : Program} {w : World} {A : Around} {E : Value → Shared → Prop} {s : Shared}
/-- a set of tuples of whole numbers, to a thousand -/
structure SetW (P : Program) (w : World) (h : Heap) (a : Addr) (L : List (Addr × List Int)) (es : Array (Int × Value)) (ep : Nat) (tb : SetTable) : Prop where
  here : ∃ ob, h.get? a = some ob ∧ ob.ExactSet ∧ ob.data = .set es ep tb
  rows : es.toList = rowsOf P w L
  tab : TabW tb (L.map fun e => thash P w e.2)
  once : (L.map (·.2)).Nodup
  tups : ∀ e ∈ L, IsT P w h e.2 e.1
  plain : tb.plain = true
  led : w.params.followText "set-order" = true ∨ tb.led = true
  room : L.length * 5 < tb.mask * 3
  mask : tb.mask = 7 ∨ tb.mask = 31 ∨ tb.mask = 127 ∨ tb.mask = 511 ∨ tb.mask = 2047
  few : L.length ≤ 1000
variable {a : Addr} {L : List (Addr × List Int)} {es : Array (Int × Value)} {ep : Nat} {tb : SetTable}
theorem SetW.len (R : SetW P w s.heap a L es ep tb) : es.size = L.length := by
  rw [← Array.length_toList, R.rows]
  unfold rowsOf
  rw [List.length_map]
theorem SetW.fits (R : SetW P w s.heap a L es ep tb) : tb.fits es.size = true := by
  have z1 := R.tab.size
  have z2 := R.tab.fill
  rw [List.length_map] at z1 z2
  have z3 := R.room
  unfold SetTable.fits
  rw [z2, z1, R.len, Bool.and_eq_true, beq_iff_eq, decide_eq_true_eq]
  omega
theorem SetW.entry (R : SetW P w s.heap a L es ep tb) {i : Nat} {e : Addr × List Int} (h : L[i]? = some e) : es[i]? = some (thash P w e.2, Value.ref e.1) := by
  rw [← Array.getElem?_toList, R.rows]
  unfold rowsOf
  rw [List.getElem?_map, h]
  rfl
theorem SetW.stays (R : SetW P w s.heap a L es ep tb) : ¬ tb.gaveWay = true := by
  unfold SetTable.gaveWay
  rw [R.tab.full.odd]
  decide
theorem no_dummy (m : Nat) : ∀ (n : Nat) (p : SetTable.Probe), p.dummy = none → (nth m p n).dummy = none
  | 0, _, h => h
  | n + 1, p, h => no_dummy m n (adv m p) (by unfold adv; split <;> exact h)
/-- the search, from the c-th step of its way on -/
theorem seekW (R : SetW P w s.heap a L es ep tb) {x : Addr} {k : List Int} (hx : IsT P w s.heap k x) (hu : A.units < cLine) {hv : Int} (ehv : hv = thash P w k) {K : Nat} (rm : K < 10 * SetTable.turns tb.mask)
    (out : way tb.mask hv K ∉ tb.place.toList) (all : ∀ c, c < K → way tb.mask hv c ∈ tb.place.toList) {Q : SetFound → Shared → Prop}
    (q1 : k ∈ L.map (·.2) → Q (.there none) s) (q2 : k ∉ L.map (·.2) → Q (.free (way tb.mask hv K) false) s) :
    ∀ (f c : Nat) (at_ : Option SetTable.Probe), at_.getD (tb.probeStart hv) = nth tb.mask (runAt tb.mask (SetTable.bits hv % (tb.mask + 1)) (SetTable.bits hv)) c → c ≤ K → K - c < f →
      (∀ (i : Nat) e, L[i]? = some e → e.2 = k → ∃ c', c ≤ c' ∧ c' < K ∧ tb.place.toList[i]? = some (way tb.mask hv c')) →
      wpAny (model P w) A (setSearchFrom a (.ref x) hv true f at_) Q E s
  | 0, _, _, _, _, z, _ => absurd z (Nat.not_lt_zero _)
  | f + 1, c, at_, ea, le, lf, left => by
    obtain ⟨ob, eo, ex, ed⟩ := R.here
    generalize est : runAt tb.mask (SetTable.bits hv % (tb.mask + 1)) (SetTable.bits hv) = st at ea
    have wj : ∀ n, (nth tb.mask st n).j = way tb.mask hv n := fun n => by rw [← est]
    have go : ∀ n, nth tb.mask (nth tb.mask st c) n = nth tb.mask st (c + n) := fun n => (nth_add tb.mask c st n).symm
    rw [setSearchFrom_succ]
    refine wpAny_bind (wpAny_setState_of eo ed R.fits ?_)
    dsimp only
    refine wp_if_neg R.stays ?_
    try refine wpAny_bind (wpAny_pure ?_)
    have hA : ∀ (i : Nat) e, L[i]? = some e → (fun i => (es[i]?.map (·.1)).getD 0) i = thash P w e.2 := fun i e he => by
      dsimp only
      rw [R.entry he]; rfl
    have spec := go_spec tb R.tab.rise R.tab.bare (fun i => (es[i]?.map (·.1)).getD 0) hv (10 * SetTable.turns tb.mask) (K - c) (nth tb.mask st c) (no_dummy _ _ _ (by rw [← est]; rfl)) (by omega)
      (fun n hn => by rw [go, wj]; exact all (c + n) (by omega)) (by rw [go, wj, show c + (K - c) = K by omega]; exact out)
    rcases spec with ⟨n, i, hn, hi, hh, hno, hp⟩ | ⟨hno, hp⟩
    · rw [go, wj] at hi
      rw [go, wj, go] at hp
      have hp2 : tb.probe (fun i => (es[i]?.map (·.1)).getD 0) hv (nth tb.mask st c) = _ := hp
      rw [ea, hp2]
      dsimp only
      have il : i < L.length := by
        have y := (List.getElem?_eq_some_iff.mp hi).1
        have z := R.tab.size
        rw [List.length_map] at z
        rw [Array.length_toList, z] at y
        exact y
      obtain ⟨e, he⟩ : ∃ e, L[i]? = some e := ⟨_, List.getElem?_eq_getElem il⟩
      have hm := List.mem_of_getElem? he
      have rest : wpAny (model P w) A (searchRest a (.ref x) hv true f es tb (way tb.mask hv (c + n)) i (nth tb.mask st (c + (n + 1)))) Q E s := by
        unfold searchRest
        rw [R.entry he]
        dsimp only
        refine wpAny_bind (wpAny_holding (wpAny_eqBool_tuple hu (R.tups e hm) hx ?_))
        refine wpAny_bind (wpAny_setState_of eo ed R.fits ?_)
        dsimp only
        by_cases same : e.2 = k
        · refine wp_if_pos (by simp [same]) ?_
          exact wpAny_pure (q1 (List.mem_map.mpr ⟨e, hm, same⟩))
        · refine wp_if_neg (by simp [same]) ?_
          try refine wpAny_bind (wpAny_pure ?_)
          rw [sameMem]
          dsimp only
          have lv : tb.slot (way tb.mask hv (c + n)) = .live i := slot_live R.tab.rise hi
          simp only [if_true, lv, R.entry he]
          refine wpAny_bind (wpAny_isSame_ref_self (wpAny_bind (wpAny_pure ?_)))
          simp only [if_true]
          refine wp_if_neg (by simp [same]) ?_
          refine seekW R hx hu ehv rm out all q1 q2 f (c + (n + 1)) _ (by rw [est]; rfl) (by omega) (by omega) fun i' e' he' hk' => ?_
          obtain ⟨c', y1, y2, y3⟩ := left i' e' he' hk'
          refine ⟨c', Classical.byContradiction fun lt => ?_, y2, y3⟩
          rcases Nat.lt_or_ge c' (c + n) with z | z
          · refine hno (c' - c) i' (by omega) (by rw [go, wj, show c + (c' - c) = c' by omega]; exact y3) ?_
            exact (hA i' e' he').trans (by rw [hk', ehv])
          · rw [show c' = c + n by omega] at y3
            have lv' := slot_live R.tab.rise y3
            rw [lv] at lv'
            injection lv' with ei
            rw [← ei, he] at he'
            cases he'
            exact same hk'
      by_cases ld : tb.led = true
      · refine wp_if_neg (by simp [ld]) ?_
        try refine wpAny_bind (wpAny_pure ?_)
        exact rest
      · refine wp_if_pos (by simp [ld]) ?_
        refine wpAny_bind (seen_tup hx (fun y hy => ?_) ?_)
        · obtain ⟨g, hg, eg⟩ := List.mem_map.mp hy
          have hg1 : g ∈ es ∧ g.1 = hv := by simpa using hg
          have hg2 : g ∈ es.toList := by simpa using hg1.1
          rw [R.rows] at hg2
          obtain ⟨e2, he2, z⟩ := List.mem_map.mp hg2
          exact ⟨e2.2, e2.1, by rw [← eg, ← z], R.tups e2 he2⟩
        · refine wp_if_neg (by decide) ?_
          try refine wpAny_bind (wpAny_pure ?_)
          exact rest
    · rw [go, wj, show c + (K - c) = K by omega] at hp
      have hp2 : tb.probe (fun i => (es[i]?.map (·.1)).getD 0) hv (nth tb.mask st c) = _ := hp
      rw [ea, hp2]
      dsimp only
      refine wpAny_pure (q2 fun hm => ?_)
      obtain ⟨e, he, hk⟩ := List.mem_map.mp hm
      obtain ⟨i, hi, ei⟩ := List.getElem_of_mem he
      have hi' : L[i]? = some e := by rw [List.getElem?_eq_getElem hi, ei]
      obtain ⟨c', y1, y2, y3⟩ := left i e hi' hk
      refine hno (c' - c) i (by omega) (by rw [go, wj, show c + (c' - c) = c' by omega]; exact y3) ?_
      exact (hA i e hi').trans (by rw [hk, ehv])
theorem seek0W (R : SetW P w s.heap a L es ep tb) {x : Addr} {k : List Int} (hx : IsT P w s.heap k x) (hu : A.units < cLine) {Q : SetFound → Shared → Prop} (q1 : k ∈ L.map (·.2) → Q (.there none) s)
    (q2 : ∀ K, k ∉ L.map (·.2) → way tb.mask (thash P w k) K ∉ tb.place.toList → (∀ c, c < K → way tb.mask (thash P w k) c ∈ tb.place.toList) → Q (.free (way tb.mask (thash P w k) K) false) s) :
    wpAny (model P w) A (setSearch a (.ref x) (thash P w k) true) Q E s := by
  have rm := R.room
  obtain ⟨K, lt, out, all⟩ := R.tab.gap (by rw [List.length_map]; omega) (thash P w k)
  have big : K < 100000 := by
    unfold SetTable.turns at lt
    rcases R.mask with e | e | e | e | e <;> rw [e] at lt <;> omega
  unfold setSearch
  refine seekW R hx hu rfl lt out all q1 (fun no => q2 K no out all) 100000 0 none rfl (Nat.zero_le _) (by omega) fun i e he hk => ?_
  have il : i < tb.place.toList.length := by
    have y := (List.getElem?_eq_some_iff.mp he).1
    have z := R.tab.size
    rw [List.length_map] at z
    rw [Array.length_toList, z]
    exact y
  obtain ⟨c, hc, ec⟩ := R.tab.ahead (h := thash P w k) (i := i) out (by rw [List.getElem?_map, he, ← hk]; rfl) (List.getElem?_eq_getElem il)
  exact ⟨c, Nat.zero_le _, hc, by rw [List.getElem?_eq_getElem il, ec]⟩
end
end Cw

/-! sets of many tuples: one more -/
namespace Cw
open PySem PySem.Spec PyProof.Rows L2
theorem above5 : SetTable.sizeAbove (SetTable.grown 5) = 32 := by decide +kernel
theorem above19 : SetTable.sizeAbove (SetTable.grown 19) = 128 := by decide +kernel
theorem above77 : SetTable.sizeAbove (SetTable.grown 77) = 512 := by decide +kernel
theorem above307 : SetTable.sizeAbove (SetTable.grown 307) = 2048 := by decide +kernel
section
variable {P : Program} {w : World} {A : Around} {E : Value → Shared → Prop} {s : Shared}
variable {a : Addr} {L : List (Addr × List Int)} {es : Array (Int × Value)} {ep : Nat} {tb : SetTable}
theorem relayW {ob : Obj} (eo : s.heap.get? a = some ob) (ex : ob.ExactSet) (ed : ob.data = .set es ep tb) (rows : es.toList = rowsOf P w L) (tab : TabW tb (L.map fun e => thash P w e.2)) (le : L.length ≤ tb.mask)
    (once : (L.map (·.2)).Nodup) (tups : ∀ e ∈ L, IsT P w s.heap e.2 e.1) (pl : tb.plain = true) (ld : w.params.followText "set-order" = true ∨ tb.led = true) (few : L.length ≤ 1000) {wanted m : Nat}
    (ew : SetTable.sizeAbove wanted = m + 1) (F : FullW m) (em : m = 7 ∨ m = 31 ∨ m = 127 ∨ m = 511 ∨ m = 2047) (rm : L.length * 5 < m * 3) {Q : Unit → Shared → Prop}
    (q : ∀ h' L' es' ep' tb', Heap.SameBut a s.heap h' → SetW P w h' a L' es' ep' tb' → L'.Perm L → Q () { s with heap := h' }) : wpAny (model P w) A (setRelay a wanted) Q E s := by
  have sz : es.size = L.length := by
    rw [← Array.length_toList, rows]
    unfold rowsOf
    rw [List.length_map]
  have fits : tb.fits es.size = true := by
    have z1 := tab.size
    have z2 := tab.fill
    rw [List.length_map] at z1 z2
    unfold SetTable.fits
    rw [z2, z1, sz, Bool.and_eq_true, beq_iff_eq, decide_eq_true_eq]
    exact ⟨rfl, le⟩
  have big : (100000 : Nat) ≤ sizeLine := by decide
  have lm : m ≤ 2047 := by omega
  obtain ⟨tb', order, er, pm, T', y1, y2, y3⟩ := relaidW tb (hs := es.map (·.1)) (wanted := wanted) (m := m) (by omega) F (by rw [Array.size_map, sz]; omega)
  rw [Array.size_map, sz] at pm
  obtain ⟨L', z1, z2, z3⟩ := order_rows L es order rows pm
  rw [← z3] at T'
  have sz' : (order.filterMap (es[·]?)).size = es.size := by
    rw [← Array.length_toList, z1]
    unfold rowsOf
    rw [List.length_map, z2.length_eq, sz]
  rw [setRelay_eq]
  refine wpAny_bind (wpAny_setState_of eo ed fits ?_)
  dsimp only
  refine wp_if_neg (by rw [ew]; omega) ?_
  try refine wpAny_bind (wpAny_pure ?_)
  rw [er]
  dsimp only
  refine wpAny_bind ?_
  refine wp_if_neg (by rw [sz']; simp) ?_
  try refine wpAny_bind (wpAny_pure ?_)
  refine wpAny_pure ?_
  dsimp only
  refine wpAny_storeSet_of eo ed ?_ (by rw [sz', sz]; omega)
  have sb : Heap.SameBut a s.heap (s.heap.update a (Obj.putSet (order.filterMap (es[·]?)) tb')) := Heap.SameBut.update ..
  exact q _ L' _ (ep + 1) tb' sb ⟨⟨_, store_at eo ed, ⟨ex.1, ex.2.1, ex.2.2⟩, rfl⟩, z1, T', (z2.map (·.2)).nodup_iff.mpr once, fun e he => isT_same (tups e (z2.mem_iff.mp he)) eo ed sb, by rw [y3]; exact pl, by rw [y2]; exact ld, by rw [z2.length_eq, y1]; exact rm, by rw [y1]; exact em, by rw [z2.length_eq]; exact few⟩ z2
theorem addW (R : SetW P w s.heap a L es ep tb) {x : Addr} {k : List Int} (hx : IsT P w s.heap k x) (hu : A.units < cLine) (few : L.length + 1 ≤ 1000) {Q : Bool → Shared → Prop}
    (q : ∀ b h' L' es' ep' tb', Heap.SameBut a s.heap h' → SetW P w h' a L' es' ep' tb' → (k ∈ L.map (·.2) → L' = L) → (k ∉ L.map (·.2) → L'.Perm ((x, k) :: L)) → Q b { s with heap := h' }) :
    wpAny (model P w) A (setAddHashed a (.ref x) (thash P w k)) Q E s := by
  obtain ⟨ob, eo, ex, ed⟩ := R.here
  have sz := R.len
  have rm := R.room
  have big : (100000 : Nat) ≤ sizeLine := by decide
  unfold setAddHashed
  refine wpAny_holding ?_
  rw [show (100000 : Nat) = 99999 + 1 from rfl, setAddHashedIn_succ]
  refine wpAny_bind (wpAny_setState_of eo ed R.fits ?_)
  dsimp only
  refine wp_if_neg (by simp [byScan, Value.scannable]) ?_
  try refine wpAny_bind (wpAny_pure ?_)
  refine wpAny_bind (seek0W R hx hu (fun yes => ?_) fun K no out all => ?_)
  · dsimp only
    exact wpAny_pure (q false s.heap L es ep tb (Heap.SameBut.refl a s.heap) R (fun _ => rfl) fun z => absurd yes z)
  · dsimp only
    refine wpAny_bind (wpAny_setState_of eo ed R.fits ?_)
    dsimp only
    generalize esl : way tb.mask (thash P w k) K = sl at out ⊢
    obtain ⟨le, T1⟩ := R.tab.more (h := thash P w k) (K := K) (q := sl) (at_ := SetTable.below tb.place sl) (by rw [esl]; exact out) all esl.symm rfl
    have pl1 : (tb.put sl).1.plain = true := R.plain
    have mk1 : (tb.put sl).1.mask = tb.mask := rfl
    have ld1 : w.params.followText "set-order" = true ∨ (tb.put sl).1.led = true := R.led
    have at1 : (tb.put sl).2 = SetTable.below tb.place sl := rfl
    generalize ept : tb.put sl = pt at T1 pl1 mk1 ld1 at1 ⊢
    obtain ⟨tb1, p⟩ := pt
    dsimp only at T1 pl1 mk1 ld1 at1 ⊢
    rw [← at1] at le T1
    first
      | (refine wpAny_bind ?_; refine wp_if_pos pl1 ?_; refine hashBy_tup hx ?_)
      | refine wp_if_pos pl1 (wpAny_bind (hashBy_tup hx ?_))
    simp only [if_true]
    have rows1 : (SetTable.insertAt es p (thash P w k, Value.ref x)).toList = rowsOf P w (L.take p ++ (x, k) :: L.drop p) := by
      rw [SetTable.toList_insertAt, rows_put, R.rows]
    have pm : (L.take p ++ (x, k) :: L.drop p).Perm ((x, k) :: L) := put_perm L p (x, k)
    have T2 : TabW tb1 ((L.take p ++ (x, k) :: L.drop p).map fun e => thash P w e.2) := by
      rw [List.map_append, List.map_cons, List.map_take, List.map_drop]
      exact T1
    have len1 : (L.take p ++ (x, k) :: L.drop p).length = L.length + 1 := pm.length_eq
    have once1 : ((L.take p ++ (x, k) :: L.drop p).map (·.2)).Nodup := (pm.map (·.2)).nodup_iff.mpr (List.nodup_cons.mpr ⟨no, R.once⟩)
    generalize SetTable.insertAt es p (thash P w k, Value.ref x) = es1 at rows1 ⊢
    generalize L.take p ++ (x, k) :: L.drop p = L1 at pm len1 once1 rows1 T2
    have sz1 : es1.size = L.length + 1 := by
      rw [← Array.length_toList, rows1]
      unfold rowsOf
      rw [List.length_map, len1]
    refine wpAny_bind (wpAny_storeSet_of eo ed ?_ (by rw [sz1]; omega))
    have sb : Heap.SameBut a s.heap (s.heap.update a (Obj.putSet es1 tb1)) := Heap.SameBut.update ..
    have eo1 := store_at (es' := es1) (t' := tb1) eo ed
    generalize s.heap.update a (Obj.putSet es1 tb1) = h1 at sb eo1 ⊢
    have tups1 : ∀ e ∈ L1, IsT P w h1 e.2 e.1 := fun e he => by
      rcases List.mem_cons.mp (pm.mem_iff.mp he) with rfl | he
      · exact isT_same hx eo ed sb
      · exact isT_same (R.tups e he) eo ed sb
    have full : tb1.tooFull = decide ((L.length + 1) * 5 ≥ tb.mask * 3) := by
      unfold SetTable.tooFull
      rw [T2.fill, List.length_map, len1, mk1]
    by_cases tf : tb1.tooFull = true
    · first
        | (refine wpAny_bind ?_; refine wp_if_pos (by simp [tf]) ?_)
        | (refine wp_if_pos (by simp [tf]) ?_; refine wpAny_bind ?_)
      rw [full] at tf
      have tf := of_decide_eq_true tf
      rw [sz]
      have go : ∀ m, SetTable.sizeAbove (SetTable.grown (L.length + 1)) = m + 1 → FullW m → (m = 7 ∨ m = 31 ∨ m = 127 ∨ m = 511 ∨ m = 2047) → (L.length + 1) * 5 < m * 3 →
          wpAny (model P w) A (setRelay a (SetTable.grown (L.length + 1))) (fun _ s' => wpAny (model P w) A (pure true) Q E s') E { s with heap := h1 } := fun m y1 y2 y3 y4 => by
        refine relayW (s := { s with heap := h1 }) eo1 ⟨ex.1, ex.2.1, ex.2.2⟩ rfl rows1 T2 (by rw [len1, mk1]; rcases R.mask with e | e | e | e | e <;> omega) once1 tups1 pl1 ld1 (by rw [len1]; exact few) y1 y2 y3 (by rw [len1]; exact y4) fun h2 L2 es2 ep2 tb2 sb2 R2 pm2 => ?_
        exact wpAny_pure (q true h2 L2 es2 ep2 tb2 (sb.trans sb2) R2 (fun z => absurd z no) fun _ => pm2.trans pm)
      rcases R.mask with e | e | e | e | e <;> rw [e] at tf rm
      · have l4 : L.length = 4 := by omega
        exact go 31 (by rw [l4]; exact above5) full31 (by omega) (by omega)
      · have l4 : L.length = 18 := by omega
        exact go 127 (by rw [l4]; exact above19) full127 (by omega) (by omega)
      · have l4 : L.length = 76 := by omega
        exact go 511 (by rw [l4]; exact above77) full511 (by omega) (by omega)
      · have l4 : L.length = 306 := by omega
        exact go 2047 (by rw [l4]; exact above307) full2047 (by omega) (by omega)
      · exfalso; omega
    · first
        | refine wp_if_neg (by simp [tf]) ?_
        | (refine wpAny_bind ?_; refine wp_if_neg (by simp [tf]) ?_; refine wpAny_pure ?_)
      refine wpAny_pure (q true h1 L1 es1 (ep + 1) tb1 sb ⟨⟨_, eo1, ⟨ex.1, ex.2.1, ex.2.2⟩, rfl⟩, rows1, T2, once1, tups1, pl1, ld1, ?_, by rw [mk1]; exact R.mask, by rw [len1]; exact few⟩ (fun z => absurd z no) fun _ => pm)
      rw [full] at tf
      have tf : ¬ ((L.length + 1) * 5 ≥ tb.mask * 3) := fun z => tf (decide_eq_true z)
      rw [len1, mk1]
      omega
end
end Cw

/-! set(a list of many tuples) -/
namespace Cw
open PySem PySem.Spec PySem.Calls PyProof.Rows L2
section
variable {P : Program} {w : World} {A : Around} {E : Value → Shared → Prop} {s : Shared}
theorem SetW.keep {h h' : Heap} {a : Addr} {L : List (Addr × List Int)} {es : Array (Int × Value)} {ep : Nat} {tb : SetTable} (R : SetW P w h a L es ep tb) (k : ∀ u, h.get? a = some u → h'.get? a = some u) (t : ∀ e ∈ L, IsT P w h' e.2 e.1) : SetW P w h' a L es ep tb := by
  obtain ⟨ob, eo, r⟩ := R.here
  exact ⟨⟨ob, k ob eo, r⟩, R.rows, R.tab, R.once, t, R.plain, R.led, R.room, R.mask, R.few⟩
theorem setW_new {h : Heap} {a : Addr} (eo : h.get? a = some (noSet w)) : SetW P w h a [] #[] 0 (.fresh 0 0 (!w.params.followText "set-order")) where
  here := ⟨_, eo, ⟨rfl, rfl, rfl⟩, rfl⟩
  rows := rfl
  tab := ⟨List.Pairwise.nil, rfl, rfl, full7, (fun q hq => nomatch hq), fun i g q z => nomatch (show (none : Option Int) = some g from z)⟩
  once := List.nodup_nil
  tups := (fun e he => nomatch he)
  plain := rfl
  led := by
    show _ ∨ (!w.params.followText "set-order") = true
    cases w.params.followText "set-order"
    · exact .inr rfl
    · exact .inl rfl
  room := by show 0 * 5 < 7 * 3; decide
  mask := .inl rfl
  few := Nat.zero_le _
/-- tuple by tuple goes in -/
theorem wide_update {I : Addr} {fp wr : List Addr} {G : Array GenState → Array GenState → Prop} {n : Nat} {Pv : Nat → Value → Prop} {St : Nat → Shared → Prop} {R : Result → Shared → Prop}
    (W : WalksS P w A.in1 I fp wr G n Pv St) (D : Addr) (outp : D ∉ fp) (ks : List (Addr × List Int)) (hn : n = ks.length) (few : ks.length ≤ 1000) (vals : ∀ i v, Pv i v → ∃ e, ks[i]? = some e ∧ v = .ref e.1)
    (h0 : Heap) (tups : ∀ e ∈ ks, IsT P w h0 e.2 e.1) (newD : h0.get? D = none) (neww : ∀ b ∈ wr, h0.get? b = none) (hu : A.in1.units < cLine) :
    ∀ (k i : Nat) (s : Shared), n - i = k → i ≤ n → St i s → (∀ b u, h0.get? b = some u → s.heap.get? b = some u) → (∃ L es ep tb, SetW P w s.heap D L es ep tb ∧ Got ks i L) →
      (∀ s' L es ep tb, Moved (D :: wr) G s s' → SetW P w s'.heap D L es ep tb → Got ks n L → R (.ok (.ret .none)) s') → codeAny (model P w) A (.builtin "set.update.loop" ⟨[.ref D, .ref I], []⟩) R s := by
  have offw : D ∉ wr := fun h => outp (W.sub _ h)
  have wide : ∀ b ∈ wr, b ∈ D :: wr := fun b hb => List.mem_cons_of_mem _ hb
  have on : ∀ {s s' : Shared}, Moved wr G s s' → (∀ b u, h0.get? b = some u → s.heap.get? b = some u) → ∀ b u, h0.get? b = some u → s'.heap.get? b = some u := fun mv z b u e =>
    mv.heap b u (fun hb => by rw [neww b hb] at e; cases e) (z b u e)
  intro k
  induction k with
  | zero =>
    intro i s e1 e2 st kp ⟨L, es, ep, tb, z, g⟩ q
    obtain rfl : i = n := by omega
    refine codeAny_builtin F.entry_set_update_loop ?_
    rw [Around.under_plainId F.plain_set_update_loop _]
    show wpAny _ A.in1 (pyNext (.ref I) >>= _) _ _ s
    refine wpAny_bind (W.done s _ _ st fun s2 mv => ?_)
    show wpAny _ A.in1 (ret Value.none) _ _ s2
    have kp2 := on mv kp
    exact wpAny_pure (q s2 L es ep tb (mv.mono wide) (z.keep (fun u e => mv.heap D u offw e) fun e he => isT_keep (tups e (List.mem_of_mem_take (g.sub e he))) kp2) g)
  | succ k ih =>
    intro i s e1 e2 st kp ⟨L, es, ep, tb, z, g⟩ q
    have lt : i < n := by omega
    refine codeAny_builtin F.entry_set_update_loop ?_
    rw [Around.under_plainId F.plain_set_update_loop _]
    show wpAny _ A.in1 (pyNext (.ref I) >>= _) _ _ s
    refine wpAny_bind (W.item i s _ _ lt st fun v s2 pv st2 mv => ?_)
    obtain ⟨e, he, rfl⟩ := vals i v pv
    have kp2 := on mv kp
    have z2 : SetW P w s2.heap D L es ep tb := z.keep (fun u y => mv.heap D u offw y) fun y hy => isT_keep (tups y (List.mem_of_mem_take (g.sub y hy))) kp2
    have hx : IsT P w s2.heap e.2 e.1 := isT_keep (tups e (List.mem_of_getElem? he)) kp2
    have lg := g.len
    show wpAny _ A.in1 (holding [Value.ref e.1] (setAdd D (.ref e.1)) >>= _) _ _ s2
    refine wpAny_bind (wpAny_holding ?_)
    unfold setAdd
    refine wpAny_holding ?_
    refine wpAny_bind (wpAny_pyHash_tuple hu hx ?_)
    refine addW (s := { s2 with toks := s2.toks + (e.2.length + 1) }) z2 hx hu (by omega) fun b h' L' es' ep' tb' sb z3 c1 c2 => ?_
    have g2 : Got ks (i + 1) L' := by
      by_cases c : e.2 ∈ L.map (·.2)
      · rw [c1 c]; exact g.same he c
      · exact g.more he (c2 c)
    have kp3 : ∀ b u, h0.get? b = some u → h'.get? b = some u := fun b u y => (sb.2 b (fun x => by rw [x, newD] at y; cases y)).trans (kp2 b u y)
    refine wpAny_pure ⟨plainId_quiet F.plain_set_update_loop _, ih (i + 1) _ (by omega) lt (W.frame _ s2 _ _ st2 (Nat.le_add_right _ _) fun b hb u y => ?_) kp3 ⟨L', es', ep', tb', z3, g2⟩ fun s3 L2 es2 ep2 tb2 mv3 z4 g4 => ?_⟩
    · rw [sb.2 b (fun x : b = D => outp (by rw [← x]; exact hb))]; exact y
    · refine q s3 L2 es2 ep2 tb2 (Moved.trans W.gtrans ((mv.mono wide).then_heap (Nat.le_add_right _ _) fun b u hb y => ?_) mv3) z4 g4
      rw [sb.2 b (fun x : b = D => hb (by rw [x]; exact List.mem_cons_self))]; exact y
set_option maxHeartbeats 3200000 in
theorem call_set_wide {l : Addr} {items : Array Value} (ks : List (Addr × List Int)) {Q : Value → Shared → Prop} (hh : A.handled = none) (lst : s.heap.IsList l items) (its : items.toList = ks.map fun e => Value.ref e.1)
    (tups : ∀ e ∈ ks, IsT P w s.heap e.2 e.1) (few : ks.length ≤ 1000) (hu : A.units + 3 < cLine)
    (h : ∀ (h' : Heap) (tk : Nat) L es ep tb, SetW P w h' s.heap.objs.size L es ep tb → Got ks ks.length L → (∀ b o, s.heap.get? b = some o → h'.get? b = some o) → Q (.ref s.heap.objs.size) { s with heap := h', toks := tk }) :
    wpAny (model P w) A (call (.type "set") [.ref l]) Q E s := by
  have many : items.size = ks.length := by rw [← Array.length_toList, its, List.length_map]
  obtain ⟨c, tl, hmro⟩ := F.called_set.mro
  have hmade := F.called_set.made
  have hsub := F.called_set.sub
  (refine wpAny_call (codeAny_of_tree ?_))
  show wpAny _ _ (callAny (.type "set") _) _ _ _
  (refine wpAny_pure ⟨Code.quiet_builtin _ (by decide +kernel), codeAny_builtin F.entry_type_call ?_⟩)
  (rw [Around.under_plain (weight_type_call_type "set" [.ref l] []) rfl])
  have h1 := F.called_set.notType
  have h2 := F.called_set.canCreate
  have hct := F.typeCall_set_1 (.ref l)
  (repeat (any_goals (first | assumption | wp_step)))
  refine codeAny_mono (code_set_led1 (.ref l) (E := E) (Q₁ := fun obj s₁ => obj = .ref s.heap.objs.size ∧ s₁ = { s with heap := s.heap.push (noSet w) }) ⟨rfl, rfl⟩) fun r s₁ hr => ?_
  match r, hr with
  | .error e, hr => exact hr
  | .ok (.next), hr => exact hr.elim
  | .ok (.brk), hr => exact hr.elim
  | .ok (.cont), hr => exact hr.elim
  | .ok (.ret obj), hr =>
    obtain ⟨rfl, rfl⟩ := hr
    have eS : (s.heap.push (noSet w)).get? s.heap.objs.size = some (noSet w) := Heap.get?_push_size _ rfl
    have tyS : Shared.TypeIs { s with heap := s.heap.push (noSet w) } (.ref s.heap.objs.size) "set" := ⟨_, eS, rfl⟩
    have hli := F.called_set.init.lookup
    have hbi := F.called_set.init.bind (.ref s.heap.objs.size)
    (repeat (any_goals (first | assumption | wp_step)))
    refine codeAny_mono (codeAny_call_builtin (R := wants (fun r s₂ => r = .none ∧ ∃ h' tk L es ep tb, s₂ = { s with heap := h', toks := tk } ∧ SetW P w h' s.heap.objs.size L es ep tb ∧ Got ks ks.length L ∧
        (∀ b o, s.heap.get? b = some o → h'.get? b = some o)) E) F.called_set.init.plain F.entry_set_init (check_set_init_1 tyS ?_)) fun r₂ s₂ hr₂ => ?_
    · obtain ⟨ol, eol, cl, nl, dl⟩ := lst
      obtain ⟨lcls, ldict, ldata, lslots⟩ := ol
      simp only at cl dl
      subst cl
      subst dl
      have eol' : (s.heap.push (noSet w)).get? l = some { cls := .type "list", dict := ldict, data := .seq items nl, slots := lslots } := Heap.get?_push_of_some _ eol
      have hsls := F.sub_list_set
      have hslf := F.sub_list_frozenset
      have hne : (Value.type "list" == Value.type "dict") = false := by decide
      have lst1 : (s.heap.push (noSet w)).IsList l items := ⟨_, eol', rfl, nl, rfl⟩
      (unfold Builtin.«set.__init__» noKeywords; unfold Builtin.Frozenset.updateFrom)
      generalize hPI : pyIter = PI
      wp_walk
      subst hPI
      refine wpAny_pyIter_list lst1 ?_
      refine wpAny_bind (wpAny_runValue ?_)
      have below : l < s.heap.objs.size := Heap.lt_size eol
      have hh3 : A.in1.in1.in1.handled = none := by simp [hh]
      have sz1 : (s.heap.push (noSet w)).objs.size = s.heap.objs.size + 1 := Heap.size_push ..
      have neI : l ≠ (s.heap.push (noSet w)).objs.size := by
        rw [sz1]
        exact Nat.ne_of_lt (Nat.lt_succ_of_lt below)
      have apart : s.heap.objs.size ∉ [(s.heap.push (noSet w)).objs.size, l] := by
        rw [sz1]
        intro z
        rcases List.mem_cons.mp z with z | z
        · exact absurd z (Nat.ne_of_lt (Nat.lt_succ_self _))
        · exact absurd (List.mem_singleton.mp z) (Nat.ne_of_gt below)
      have vals : ∀ (i : Nat) (v : Value), items[i]? = some v → ∃ e, ks[i]? = some e ∧ v = .ref e.1 := fun i v hv => by
        rw [← Array.getElem?_toList, its, List.getElem?_map] at hv
        obtain ⟨e, he, z⟩ := Option.map_eq_some_iff.mp hv
        exact ⟨e, he, z.symm⟩
      have unborn : ∀ b, s.heap.objs.size ≤ b → s.heap.get? b = none := fun b hb => by
        cases z : s.heap.get? b with
        | none => rfl
        | some o => exact absurd (Nat.lt_of_lt_of_le (Heap.lt_size z) hb) (Nat.lt_irrefl _)
      refine wide_update ((Walks.list hh3 _ l neI items).toS) s.heap.objs.size apart ks many few vals s.heap tups (unborn _ (Nat.le_refl _)) (fun b hb => unborn b (by rw [List.mem_singleton.mp hb, sz1]; exact Nat.le_succ _)) hu (items.size - 0) 0 _ (by omega) (Nat.zero_le _)
        ⟨⟨_, Heap.get?_push_size _ rfl, rfl, rfl⟩, (lst1.push _)⟩ (fun b o e => Heap.get?_push_of_some _ (Heap.get?_push_of_some _ e)) ⟨[], #[], 0, _, setW_new (Heap.get?_push_of_some _ eS), Got.zero ks⟩ ?_
      intro s' L es ep tb mv new got
      obtain ⟨h', g2, d', tk', os'⟩ := s'
      have eg : g2 = s.gens := mv.gens
      have ed : d' = s.drawn := mv.drawn
      have eo : os' = s.os := mv.os
      subst eg
      subst ed
      subst eo
      show wpAny _ _ _ _ _ _
      refine wpAny_pure ?_
      show wpAny _ _ (ret Value.none) _ _ _
      rw [many] at got
      refine wpAny_pure ⟨rfl, h', tk', L, es, ep, tb, rfl, new, got, fun b o e => ?_⟩
      have b0 : b < s.heap.objs.size := Heap.lt_size e
      refine mv.heap b o (fun z => ?_) (Heap.get?_push_of_some _ (Heap.get?_push_of_some _ e))
      rcases List.mem_cons.mp z with z | z
      · exact absurd z (Nat.ne_of_lt b0)
      · have z := List.mem_singleton.mp z
        rw [sz1] at z
        exact absurd z (Nat.ne_of_lt (Nat.lt_succ_of_lt b0))
    · match r₂, hr₂ with
      | .error e, hr₂ => exact hr₂
      | .ok (.next), hr₂ => exact hr₂.elim
      | .ok (.brk), hr₂ => exact hr₂.elim
      | .ok (.cont), hr₂ => exact hr₂.elim
      | .ok (.ret r), hr₂ =>
        obtain ⟨rfl, h', tk, L, es, ep, tb, rfl, new, got, kept⟩ := hr₂
        (repeat (any_goals (first | assumption | wp_step)))
        exact h _ _ _ _ _ _ new got kept
end
end Cw

/-! sorted(a set of many pairs) -/
namespace Cw
open PySem PySem.Spec PySem.Calls PyProof.Rows L2
def pk2 (e : Addr × List Int) : Int × Int := (e.2.getD 0 0, e.2.getD 1 0)
/-- the pair that stands at an address -/
def keyAt (L : List (Addr × List Int)) (v : Value) : Int × Int := match v with
  | .ref b => match L.find? (fun e => decide (e.1 = b)) with
    | some e => pk2 e
    | none => (0, 0)
  | _ => (0, 0)
section
variable {P : Program} {w : World} {A : Around} {E : Value → Shared → Prop} {s : Shared} {a : Addr} {L : List (Addr × List Int)} {es : Array (Int × Value)} {ep : Nat} {tb : SetTable}
theorem keyAt_of (own : ∀ e ∈ L, ∀ g ∈ L, e.1 = g.1 → e = g) {e : Addr × List Int} (he : e ∈ L) : keyAt L (.ref e.1) = pk2 e := by
  unfold keyAt
  dsimp only
  cases z : L.find? (fun g => decide (g.1 = e.1)) with
  | none =>
    have y := List.find?_eq_none.mp z e he
    simp at y
  | some g =>
    have y : decide (g.1 = e.1) = true := List.find?_some (p := fun g : Addr × List Int => decide (g.1 = e.1)) z
    have y := of_decide_eq_true y
    rw [own g (List.mem_of_find?_eq_some z) e he y]
theorem pair_at {h : Heap} {e : Addr × List Int} (t : IsT P w h e.2 e.1) (two : e.2.length = 2) : Srt.IsPair h (.ref e.1) (pk2 e).1 (pk2 e).2 := by
  obtain ⟨o, items, n, ho, hc, hd, hi⟩ := t
  obtain ⟨b, l⟩ := e
  match l, two with
  | [x, y], _ =>
    have hi : IntsAre items.toList [x, y] := ints_of_items hi
    generalize hl : items.toList = l at hi
    cases hi with
    | cons _ t1 r =>
      cases r with
      | cons _ t2 r2 =>
        cases r2
        refine ⟨b, o, t1, t2, n, rfl, ho, hc, ?_⟩
        have ei : items = #[.int x t1, .int y t2] := by
          apply Array.ext'
          rw [hl]
        rw [hd, ei]
        rfl
/-- the addresses tell the rows -/
theorem rows_back (own : ∀ e ∈ L, ∀ g ∈ L, e.1 = g.1 → e = g) (nd : L.Nodup) {vs : List Value} (pm : vs.Perm (L.map fun e => Value.ref e.1)) : ∃ L' : List (Addr × List Int), vs = L'.map (fun e => Value.ref e.1) ∧ L'.Perm L := by
  have ex : ∀ us : List Value, (∀ v ∈ us, v ∈ L.map fun e => Value.ref e.1) → ∃ L' : List (Addr × List Int), us = L'.map (fun e => Value.ref e.1) ∧ ∀ e ∈ L', e ∈ L := by
    intro us
    induction us with
    | nil => exact fun _ => ⟨[], rfl, (fun e he => nomatch he)⟩
    | cons v us ih =>
      intro hv
      obtain ⟨e, he, z⟩ := List.mem_map.mp (hv v List.mem_cons_self)
      obtain ⟨L', z1, z2⟩ := ih fun u hu => hv u (List.mem_cons_of_mem _ hu)
      refine ⟨e :: L', by rw [List.map_cons, z, z1], fun g hg => ?_⟩
      rcases List.mem_cons.mp hg with rfl | hg
      · exact he
      · exact z2 g hg
  obtain ⟨L', e1, sub⟩ := ex vs fun v hv => pm.mem_iff.mp hv
  refine ⟨L', e1, ?_⟩
  have ndr : (L.map fun e => Value.ref e.1).Nodup := by
    unfold List.Nodup
    rw [List.pairwise_map]
    refine List.Pairwise.imp_of_mem (fun {e g} he hg ne z => ?_) nd
    injection z with z
    exact ne (own e he g hg z)
  have nd' : L'.Nodup := by
    have y := pm.nodup_iff.mpr ndr
    rw [e1] at y
    exact nodup_of_map y
  refine (List.perm_ext_iff_of_nodup nd' nd).mpr fun e => ⟨sub e, fun he => ?_⟩
  have y : Value.ref e.1 ∈ L'.map (fun e => Value.ref e.1) := by rw [← e1]; exact pm.mem_iff.mpr (List.mem_map.mpr ⟨e, he, rfl⟩)
  obtain ⟨g, hg, z⟩ := List.mem_map.mp y
  injection z with z
  rw [← own g (sub g hg) e he z]
  exact hg
theorem sorted_wide {Q : Value → Shared → Prop} (R : SetW P w s.heap a L es ep tb) (hh : A.handled = none) (two : ∀ e ∈ L, e.2.length = 2)
    (q : ∀ s' p (out : Array Value) (c : Nat) (L' : List (Addr × List Int)), (∀ b o, s.heap.get? b = some o → s'.heap.get? b = some o) → s'.gens = s.gens → s'.os = s.os → s.heap.objs.size ≤ p →
      s'.heap.get? p = some (seqObj "list" out c) → out.toList = L'.map (fun e => Value.ref e.1) → L'.Perm L → L'.Pairwise (fun e g => SrtO.lexB (pk2 g) (pk2 e) = false) → Q (.ref p) s') :
    wpAny (model P w) A (call (.builtin "sorted") [.ref a]) Q E s := by
  obtain ⟨ob, eo, ex, ed⟩ := R.here
  have big : (100000 : Nat) ≤ sizeLine := by decide
  have few := R.few
  have sz := R.len
  have own : ∀ e ∈ L, ∀ g ∈ L, e.1 = g.1 → e = g := fun e he g hg z => by
    have y1 := R.tups e he
    have y2 := R.tups g hg
    rw [z] at y1
    exact Prod.ext z (y1.inj y2)
  have ndL : L.Nodup := nodup_of_map R.once
  refine call_function_entry kind_sorted plain_sorted entry_sorted (args_sorted1 _) ?_
  unfold Builtin.«sorted»
  refine wpAny_bind (m := checkCount "sorted" 1 1 _) (wpAny_pure ?_)
  refine wpAny_bind (collect_set (A := A.in1) hh ⟨ob, eo, ex.1, ed⟩ R.fits (by unfold scanBound; omega) R.tab.rise R.led fun s1 vs k1 gr g1 o1 pm => ?_)
  have er : es.toList.map (·.2) = L.map fun e => Value.ref e.1 := by
    rw [R.rows]
    unfold rowsOf
    rw [List.map_map]
    rfl
  rw [er] at pm
  have lv : vs.length = L.length := by rw [pm.length_eq, List.length_map]
  have hL : vs.length ≤ sizeLine := by omega
  refine wpAny_bind (wpAny_newList ?_ hL)
  have oL : (s1.heap.push (seqObj "list" vs.toArray 0)).get? s1.heap.objs.size = some (seqObj "list" vs.toArray 0) := Heap.get?_push_size _ rfl
  have hp : ∀ v ∈ vs, Srt.IsPair (s1.heap.push (seqObj "list" vs.toArray 0)) v (keyAt L v).1 (keyAt L v).2 := fun v hv => by
    obtain ⟨e, he, rfl⟩ := List.mem_map.mp (pm.mem_iff.mp hv)
    rw [keyAt_of own he]
    exact pair_at (P := P) (w := w) (isT_keep (R.tups e he) fun b u y => Heap.get?_push_of_some _ (k1 b u y)) (two e he)
  refine wpAny_bind (wpAny_holding (wpAny_call_entry slot_list_sort ⟨_, oL, rfl⟩ entry_list_sort (SrtO.list_sort_ord (SrtO.swo_lex (keyAt L)) oL hL (fun h2 => SrtO.pairs_sortableO (by omega) hp fun o y => by
      rw [oL] at y
      cases y
      exact fun z => by
        injection z with z3
        exact absurd z3 (by decide)) fun out h1 h2 => ⟨_, rfl, ?_⟩) (args_list_sort _)))
  obtain ⟨c, hc⟩ := sortedHeap_at (vs := vs) (out := out.toArray) oL
  obtain ⟨L', e1, pL⟩ := rows_back own ndL (h2.perm.trans pm)
  refine wpAny_pure ⟨_, rfl, q _ s1.heap.objs.size out.toArray c L' (fun b u y => ?_) g1 o1 gr hc e1 pL ?_⟩
  · have y := k1 b u y
    have lt := Heap.lt_size y
    show (sortedHeap (s1.heap.push (seqObj "list" vs.toArray 0)) s1.heap.objs.size vs _).get? b = some u
    rw [sortedHeap_old (Nat.ne_of_lt lt) (by rw [size_push']; exact Nat.lt_succ_of_lt lt)]
    exact Heap.get?_push_of_some _ y
  · have y : out.Pairwise fun v u => SrtO.lexB (keyAt L u) (keyAt L v) = false := h1
    rw [e1, List.pairwise_map] at y
    refine List.Pairwise.imp_of_mem (fun {e g} he hg z => ?_) y
    rw [keyAt_of own (pL.mem_iff.mp he), keyAt_of own (pL.mem_iff.mp hg)] at z
    exact z
end
/-- the set of tuples at a, without the tuples themselves -/
def SetW0 (P : Program) (w : World) (h : Heap) (a : Addr) (L : List (Addr × List Int)) : Prop :=
  ∃ (es : Array (Int × Value)) (ep : Nat) (tb : SetTable), (∃ ob, h.get? a = some ob ∧ ob.ExactSet ∧ ob.data = .set es ep tb) ∧ es.toList = rowsOf P w L ∧ TabW tb (L.map fun e => thash P w e.2) ∧ (L.map (·.2)).Nodup ∧ tb.plain = true ∧
    (w.params.followText "set-order" = true ∨ tb.led = true) ∧ L.length * 5 < tb.mask * 3 ∧ (tb.mask = 7 ∨ tb.mask = 31 ∨ tb.mask = 127 ∨ tb.mask = 511 ∨ tb.mask = 2047) ∧ L.length ≤ 1000
def SetWO (P : Program) (w : World) (a : Addr) (L : List (Addr × List Int)) : HO := .ext fun h => SetW0 P w h a L
theorem SetW.bare {P : Program} {w : World} {h : Heap} {a : Addr} {L : List (Addr × List Int)} {es : Array (Int × Value)} {ep : Nat} {tb : SetTable} (R : SetW P w h a L es ep tb) : SetW0 P w h a L :=
  ⟨es, ep, tb, R.here, R.rows, R.tab, R.once, R.plain, R.led, R.room, R.mask, R.few⟩
theorem SetW0.full {P : Program} {w : World} {h : Heap} {a : Addr} {L : List (Addr × List Int)} (R : SetW0 P w h a L) (t : ∀ e ∈ L, IsT P w h e.2 e.1) : ∃ es ep tb, SetW P w h a L es ep tb := by
  obtain ⟨es, ep, tb, y1, y2, y3, y4, y5, y6, y7, y8, y9⟩ := R
  exact ⟨es, ep, tb, y1, y2, y3, y4, t, y5, y6, y7, y8, y9⟩
theorem setWO_new {P : Program} {w : World} {H : Hp} {h : Heap} {a : Addr} {L : List (Addr × List Int)} (R : SetW0 P w h a L) : ObjOk P w H h a (SetWO P w a L) := by
  have ⟨es, ep, tb, ⟨ob, eo, r⟩, y⟩ := R
  refine ⟨R, ⟨ob, eo⟩, fun h1 h2 p k => ?_⟩
  have ⟨es', ep', tb', ⟨ob', eo', r'⟩, y'⟩ := p
  exact ⟨es', ep', tb', ⟨ob', k ob' eo', r'⟩, y'⟩
section
variable {X : Cx}
/-- set(xs), xs a list of tuples of whole numbers, to a thousand -/
def rSetWide (K : PySem.W.Frag) (P : Program) (w : World) : List V → Hp → VK → Prop := fun xs H Q => ∃ (l : Addr) (ks : List (Addr × List Int)), xs = [V.ref l] ∧ SqL K H l (ks.map fun e => V.ref e.1) ∧ (∀ e ∈ ks, SqT K H e.1 (e.2.map V.int)) ∧ ks.length ≤ 1000 ∧
  ∀ a L, H a = none → (∀ e ∈ L, e ∈ ks) → (∀ e ∈ ks, e.2 ∈ L.map (·.2)) → (L.map (·.2)).Nodup → L.length ≤ ks.length → Q (.ref a) (upd H a (SetWO P w a L))
theorem cr_setWide (hc : X.calm = true) (hu : X.A.units + 64 < cLine) : CallR X (.type "set") (rSetWide X.K X.prog X.w) := by
  intro pins s σ H xs us Q I r h
  obtain ⟨l, ks, rfl, hl, hk, few, q⟩ := h
  rw [Vals.ref1 r]
  obtain ⟨its, rv, pl, _⟩ := I.list hl
  refine call_set_wide (P := X.prog) (w := X.w) ks (I.ok.hd hc) pl.isList (by simpa using refs_of_vals rv) (fun e he => Inv.isT I (hk e he)) few (by omega) fun h' tk L es ep tb R g kept => ?_
  exact ⟨.ref s.heap.objs.size, _, I.laid (t' := tk) kept (Nat.le_refl _) (setWO_new R.bare), rfl, q _ L (I.hok.fresh (Nat.le_refl _)) (fun e he => List.mem_of_mem_take (g.sub e he)) (fun e he => g.all e (by rw [List.take_length]; exact he)) R.once g.len⟩
/-- sorted(a set of pairs) -/
def rSortedWide (K : PySem.W.Frag) (P : Program) (w : World) : List V → Hp → VK → Prop := fun vs H Q => ∃ (a : Addr) (L : List (Addr × List Int)), vs = [V.ref a] ∧ H a = some (SetWO P w a L) ∧ (∀ e ∈ L, SqT K H e.1 (e.2.map V.int)) ∧ (∀ e ∈ L, e.2.length = 2) ∧
  ∀ (L' : List (Addr × List Int)) (p : Addr), L'.Perm L → L'.Pairwise (fun e g => SrtO.lexB (pk2 g) (pk2 e) = false) → H p = none → Q (.ref p) (upd H p (.lst (L'.map fun e => V.ref e.1)))
theorem cr_sortedWide (hc : X.calm = true) : CallR X (.builtin "sorted") (rSortedWide X.K X.prog X.w) := by
  intro pins s σ H vs us Q I r h
  obtain ⟨a, L, rfl, ea, hk, two, q⟩ := h
  have R0 : SetW0 X.prog X.w s.heap a L := (I.hok a _ ea).1
  obtain ⟨es, ep, tb, R⟩ := R0.full fun e he => Inv.isT I (hk e he)
  have big : (100000 : Nat) ≤ sizeLine := by decide
  have few := R.few
  rw [Vals.ref1 r]
  refine sorted_wide R (I.ok.hd hc) two fun s' p out c L' kept eg eo gr hp ho pm so => ?_
  have fp : H p = none := I.hok.fresh gr
  have hlen : (L'.map fun e => V.ref e.1).length ≤ sizeLine := by rw [List.length_map, pm.length_eq]; omega
  have hv : Vals (L'.map fun e => V.ref e.1) out.toList := by rw [ho]; exact vals_of_refs L'
  have J : Inv X pins σ (upd H p (.lst (L'.map fun e => V.ref e.1))) { s with heap := s'.heap, gens := s'.gens, drawn := s'.drawn, toks := s'.toks } :=
    I.call (ch := []) (Un.laid kept gr fp) (I.hok.laid kept gr ⟨hlen, out.toList, c, hv, hp⟩) (by rw [eg]; exact I.bare) (fun _ y => nomatch y)
  have es' : s' = { s with heap := s'.heap, gens := s'.gens, drawn := s'.drawn, toks := s'.toks } := by
    cases s'
    cases s
    cases eo
    rfl
  rw [es']
  exact ⟨.ref p, _, J, rfl, q L' p pm so fp⟩
end
theorem cr_setWidew {X : Cx} {pd : Program} {wd : World} (hp : X.prog = pd) (hw : X.w = wd) (hc : X.calm = true) (hu : X.A.units + 64 < cLine) : CallR X (.type "set") (rSetWide X.K pd wd) := by
  subst hp hw
  exact cr_setWide hc hu
theorem cr_sortedWidew {X : Cx} {pd : Program} {wd : World} (hp : X.prog = pd) (hw : X.w = wd) (hc : X.calm = true) : CallR X (.builtin "sorted") (rSortedWide X.K pd wd) := by
  subst hp hw
  exact cr_sortedWide hc
end Cw

/-! webs as data; membership of whole numbers -/
namespace Cw
open PySem PySem.Spec PyProof.Rows L2
def webD (u : Web) : PyData := .tuple [.str ⟨u.1.toArray⟩, .tuple (u.2.map tieD)]
theorem strOk_of {cs : List Nat} (h : ∀ c ∈ cs, Ltr c) : PyData.strOk ⟨cs.toArray⟩ = true := by
  show cs.toArray.all (fun c => decide (c < 0x110000)) = true
  rw [List.all_toArray', List.all_eq_true] <;> first | rfl | skip
  intro c hc
  have := h c hc
  unfold Ltr at this
  exact decide_eq_true (by omega)
theorem dpa_tiesT {K : PySem.W.Frag} {H : Hp} : ∀ {xs : List V} {ts : List Tie}, Paired (TieAt K H) xs ts → DpAll K H xs (ts.map tieD)
  | _, _, .nil => .nil
  | _, _, .cons h t => by
    obtain ⟨a, rfl, q⟩ := h
    exact .cons (.tup q (.cons (.int _) (.cons (.int _) (.cons (.str _) .nil)))) (dpa_tiesT t)
theorem WebAt.dp {K : PySem.W.Frag} {H : Hp} {v : V} {u : Web} (x : WebAt K H v u) : Dp K H v (webD u) := by
  obtain ⟨a, b, tvs, rfl, q1, q2, p⟩ := x
  exact .tup q1 (.cons (.str _) (.cons (.tup q2 (dpa_tiesT p)) .nil))
theorem webD_good {u : Web} (U : WOk u) : SeqAt.shaped (webD u) = true := by
  obtain ⟨h1, h2⟩ := lay_all (ds := u.2.map tieD) (k := 1) fun d hd => by
    obtain ⟨t, ht, rfl⟩ := List.mem_map.mp hd
    exact tieD_lay (U.ends t ht).2.2
  have h3 := strOk_of U.kinds
  unfold webD
  simp [SeqAt.shaped, PyData.canLay0, PyData.canLayAll0, PyData.depth, PyData.depthAll, h1, h3]
  omega
theorem any_int (l : List Nat) (q : Nat) : (((zs l).map PyData.int).any fun z => PyData.eqv z (.int (q : Nat))) = decide (q ∈ l) := by
  rw [Bool.eq_iff_iff, List.any_eq_true, decide_eq_true_eq]
  constructor
  · rintro ⟨z, hz, e⟩
    obtain ⟨k, hk, rfl⟩ := List.mem_map.mp hz
    obtain ⟨p, hp, rfl⟩ := List.mem_map.mp hk
    have : (p : Int) = (q : Int) := by simpa [PyData.eqv] using e
    have : p = q := by omega
    exact this ▸ hp
  · intro h
    exact ⟨_, List.mem_map.mpr ⟨_, List.mem_map.mpr ⟨q, h, rfl⟩, rfl⟩, by simp [PyData.eqv]⟩
theorem sh_int (x : Int) : SeqAt.shaped (.int x) = true := by simp [SeqAt.shaped, PyData.canLay0, PyData.depth]
theorem perm_rise {os qs : List Nat} (p : os.Perm qs) (s : os.Pairwise (· < ·)) (t : qs.Pairwise (· < ·)) : os = qs := sorted_ext s t fun _ => p.mem_iff
end Cw

/-! a statement that is never reached -/
namespace Cw
open PySem PySem.Spec PyProof.Rows L2
theorem ps_dead {X : Cx} {st : Stmt} : PS X st (fun _ _ _ => False) := ⟨fun _ _ _ _ _ _ h => h.elim⟩
end Cw

namespace Cw
theorem k93_on : True := trivial
end Cw

namespace Cw
open PySem PySem.Spec PyProof.Rows L2
local macro_rules | `(tactic| walk_at "rd1") => `(tactic| first
  | (with_reducible refine d_seq ?_) | (with_reducible refine d_asg ?_) | (with_reducible refine d_cons ?_) | (with_reducible refine d_nil ?_)
  | ((with_reducible refine' d_var ?e ?_); (case e => exact rfl))
  | (with_reducible refine d_c ?_) | (with_reducible refine d_op ?_) | (with_reducible refine d_un ?_) | (with_reducible refine d_cb ?_)
  | (with_reducible refine d_rI0 ?_) | (with_reducible refine d_rU ?_) | (with_reducible refine d_eqI ?_) | (with_reducible refine d_neI ?_)
  | ((with_reducible refine d_rI ?hc ?_); (case hc => first | assumption | decide | exact ⟨by decide, by decide⟩ | exact ⟨by omega, by omega⟩ | exact .inl ⟨by omega, by omega⟩ | exact .inr ⟨by omega, by omega⟩ | exact ⟨by omega, by omega, by decide⟩))
  | ((with_reducible refine' d_ixLm ?h ?e ?_); (case h => first | assumption | exact upd_same); (case e => rfl)) | ((with_reducible refine' d_ixTm ?h ?e ?_); (case h => first | assumption | exact upd_same); (case e => rfl))
  | (with_reducible refine d_test ?_) | (with_reducible refine d_tB ?_) | (with_reducible refine d_bl ?_) | (with_reducible refine d_not ?_) | (with_reducible refine d_notV ?_) | (with_reducible refine d_and ?_) | (with_reducible refine d_or ?_)
  | (with_reducible refine d_if ?_) | (with_reducible refine d_andV ?_) | (with_reducible refine d_ifS ?_) | (with_reducible refine iteT ?_) | (with_reducible refine iteF ?_) | (with_reducible refine iteNT ?_) | (with_reducible refine iteNF ?_)
  | (with_reducible refine d_ret ?_) | (with_reducible refine d_retN ?_) | (with_reducible refine d_drop ?_) | (with_reducible refine d_next ?_) | (with_reducible refine d_brk ?_) | (with_reducible refine d_ct ?_)
  | (with_reducible refine d_gname ?_) | (with_reducible refine d_gcons ?_) | (with_reducible refine d_gnil ?_) | (with_reducible refine d_gsub ?_)
  | (with_reducible refine d_call ?_) | (with_reducible refine d_tup ?_) | (with_reducible refine d_lst ?_)
  | (with_reducible refine d_sl ?_) | (with_reducible refine d_nop ?_) | (with_reducible refine d_part ?_) | (with_reducible refine d_in ?_)
  | (with_reducible refine d_bm ?_) | (with_reducible refine d_bm0 ?_) | (with_reducible refine d_m1 ?_) | (with_reducible refine d_exs ?_)
  | ((with_reducible refine' d_setL ?h ?e ?_); (case h => first | assumption | exact upd_same); (case e => rfl))
  | ((with_reducible refine' d_gtupm ?h ?e ?_); (case h => first | assumption | exact upd_same); (case e => rfl))
  | ((with_reducible refine' d_aug ?e ?_); (case e => exact rfl))
  | (with_reducible refine d_for ?_) | (with_reducible refine d_lc ?_) | (with_reducible refine d_dc ?_) | (with_reducible refine d_iR1 ?_) | (with_reducible refine d_iR2 ?_) | (with_reducible refine d_iL ?_) | (with_reducible refine d_iT ?_) | (with_reducible refine d_iS ?_) | (with_reducible refine d_iSe ?_) | (with_reducible refine d_yes ?_) | (with_reducible refine d_lsten ?_) | (with_reducible refine d_iEnS ?_) | (with_reducible refine d_iEnSe ?_) | (with_reducible refine d_iEn ?_) | (with_reducible refine d_dget1 ?_) | (with_reducible refine d_dget2 ?_) | (with_reducible refine d_iCmb ?_) | (with_reducible refine d_dget ?_) | (with_reducible refine d_dput ?_) | (with_reducible refine d_daug ?_) | (with_reducible refine d_par ?_) | (with_reducible refine d_par2 ?_) | (with_reducible refine d_din ?_) | (with_reducible refine d_dnewT ?_) | (with_reducible refine d_dnewK ?_) | ((with_reducible refine d_wipe ?e ?_); (case e => rfl)) | (with_reducible refine d_lrg ?_) | (with_reducible refine d_rg1 ?_)
  | ((with_reducible refine d_iR1e ?a ?b ?_); (case a => omega); (case b => omega)) | ((with_reducible refine d_iR2e ?a ?_); (case a => omega))
  | (with_reducible refine d_isN ?_))
local macro_rules | `(tactic| walk_at "rd") => `(tactic| (repeat walk_at "rd1"))

def topS (i : Nat) : Stmt := PySem.Challenge.pw_commonweb_k93_webs_written.main.body.getD i (.Pass ⟨0, 0, 0, 0⟩)
abbrev s_is_letter : Stmt := topS 4
abbrev s_is_place : Stmt := topS 5
abbrev s_rises : Stmt := topS 6
abbrev s_is_tie : Stmt := topS 7
abbrev s_is_web : Stmt := topS 8
abbrev s_show_web : Stmt := topS 10
abbrev s_read_web : Stmt := topS 11
abbrev s_web_of : Stmt := topS 12
abbrev s_row : Stmt := topS 15
abbrev s_take : Stmt := topS 16
abbrev s_kinds : Stmt := topS 17
abbrev s_web : Stmt := topS 18
abbrev s_order : Stmt := topS 19
abbrev s_turned : Stmt := topS 20
abbrev s_line : Stmt := topS 21
abbrev s_shaped : Stmt := topS 22
abbrev s_text : Stmt := topS 23
abbrev s_tree : Stmt := topS 24
abbrev s_law : Stmt := topS 25
theorem sc_is_letter : FnScope ["thing"] ["thing"] (defScope s_is_letter) := ⟨rfl, rfl, rfl, by decide +kernel, rfl, by decide +kernel, by decide +kernel⟩
theorem sc_is_place : FnScope ["kinds", "thing"] ["kinds", "thing"] (defScope s_is_place) := ⟨rfl, rfl, rfl, by decide +kernel, rfl, by decide +kernel, by decide +kernel⟩
theorem sc_rises : FnScope ["numbers"] ["numbers"] (defScope s_rises) := ⟨rfl, rfl, rfl, by decide +kernel, rfl, by decide +kernel, by decide +kernel⟩
theorem sc_is_tie : FnScope ["kinds", "thing", "place", "other", "kind"] ["kinds", "thing"] (defScope s_is_tie) := ⟨rfl, rfl, rfl, by decide +kernel, rfl, by decide +kernel, by decide +kernel⟩
theorem sc_is_web : FnScope ["thing", "kinds", "ties", "sign", "tie"] ["thing"] (defScope s_is_web) := ⟨rfl, rfl, rfl, by decide +kernel, rfl, by decide +kernel, by decide +kernel⟩
theorem sc_show_web : FnScope ["web", "kinds", "ties", "lines", "kind", "place", "other"] ["web"] (defScope s_show_web) := ⟨rfl, rfl, rfl, by decide +kernel, rfl, by decide +kernel, by decide +kernel⟩
theorem sc_read_web : FnScope ["text", "web", "line"] ["text"] (defScope s_read_web) := ⟨rfl, rfl, rfl, by decide +kernel, rfl, by decide +kernel, by decide +kernel⟩
theorem sc_web_of : FnScope ["lines", "kinds", "numbers", "ties", "words", "place"] ["lines"] (defScope s_web_of) := ⟨rfl, rfl, rfl, by decide +kernel, rfl, by decide +kernel, by decide +kernel⟩
theorem sc_row : FnScope ["cell"] ["cell"] (defScope s_row) := ⟨rfl, rfl, rfl, by decide +kernel, rfl, by decide +kernel, by decide +kernel⟩
theorem sc_take : FnScope ["row", "many", "told"] ["row", "many"] (defScope s_take) := ⟨rfl, rfl, rfl, by decide +kernel, rfl, by decide +kernel, by decide +kernel⟩
theorem sc_kinds : FnScope ["row", "many", "some", "k"] ["row", "many"] (defScope s_kinds) := ⟨rfl, rfl, rfl, by decide +kernel, rfl, by decide +kernel, by decide +kernel⟩
theorem sc_web : FnScope ["row", "most", "many", "kinds", "letters", "dense", "ties", "place", "other"] ["row", "most"] (defScope s_web) := ⟨rfl, rfl, rfl, by decide +kernel, rfl, by decide +kernel, by decide +kernel⟩
theorem sc_order : FnScope ["row", "many", "order", "place"] ["row", "many"] (defScope s_order) := ⟨rfl, rfl, rfl, by decide +kernel, rfl, by decide +kernel, by decide +kernel⟩
theorem sc_turned : FnScope ["web", "order", "called", "ties", "place", "other", "kind", "ends", "k"] ["web", "order"] (defScope s_turned) := ⟨rfl, rfl, rfl, by decide +kernel, rfl, by decide +kernel, by decide +kernel⟩
theorem sc_line : FnScope ["row", "many", "ring", "kinds", "letters", "ties", "place", "web"] ["row", "many", "ring"] (defScope s_line) := ⟨rfl, rfl, rfl, by decide +kernel, rfl, by decide +kernel, by decide +kernel⟩
theorem sc_shaped : FnScope ["row", "most", "many"] ["row", "most"] (defScope s_shaped) := ⟨rfl, rfl, rfl, by decide +kernel, rfl, by decide +kernel, by decide +kernel⟩
theorem sc_text : FnScope ["web", "lines", "place", "other", "kind"] ["web"] (defScope s_text) := ⟨rfl, rfl, rfl, by decide +kernel, rfl, by decide +kernel, by decide +kernel⟩
theorem sc_tree : FnScope ["row", "many", "kinds", "letters", "ties", "place"] ["row"] (defScope s_tree) := ⟨rfl, rfl, rfl, by decide +kernel, rfl, by decide +kernel, by decide +kernel⟩
theorem sc_law : FnScope ["script", "cell", "row", "web", "way", "text", "told"] ["script"] (defScope s_law) := ⟨rfl, rfl, rfl, by decide +kernel, rfl, by decide +kernel, by decide +kernel⟩
/-- what the top leaves -/
structure Tx (K : PySem.W.Frag) (mg : Str → Option Value) (base : Heap) where
  is_letter : Df K mg "is_letter" s_is_letter ["thing"]
  is_place : Df K mg "is_place" s_is_place ["kinds", "thing"]
  rises : Df K mg "rises" s_rises ["numbers"]
  is_tie : Df K mg "is_tie" s_is_tie ["kinds", "thing"]
  is_web : Df K mg "is_web" s_is_web ["thing"]
  show_web : Df K mg "show_web" s_show_web ["web"]
  read_web : Df K mg "read_web" s_read_web ["text"]
  web_of : Df K mg "web_of" s_web_of ["lines"]
  row : Df K mg "_law_row" s_row ["cell"]
  take : Df K mg "_law_take" s_take ["row", "many"]
  kinds : Df K mg "_law_kinds" s_kinds ["row", "many"]
  web : Df K mg "_law_web" s_web ["row", "most"]
  order : Df K mg "_law_order" s_order ["row", "many"]
  turned : Df K mg "_law_turned" s_turned ["web", "order"]
  line : Df K mg "_law_line" s_line ["row", "many", "ring"]
  shaped : Df K mg "_law_shaped" s_shaped ["row", "most"]
  text : Df K mg "_law_text" s_text ["web"]
  tree : Df K mg "_law_tree" s_tree ["row"]
  law : Df K mg "law" s_law ["script"]
  m_all : mg "all" = none
  m_dict : mg "dict" = none
  m_int : mg "int" = none
  m_isinstance : mg "isinstance" = none
  m_len : mg "len" = none
  m_range : mg "range" = none
  m_set : mg "set" = none
  m_sorted : mg "sorted" = none
  m_str : mg "str" = none
  m_tuple : mg "tuple" = none
  m_type : mg "type" = none
  c_is_web : Addr
  P_is_web : Addr
  hc_is_web : is_web.fd.code = .ref c_is_web
  tb_is_web : GxR.TabB base mg c_is_web P_is_web
def Tx.cs {K : PySem.W.Frag} {mg : Str → Option Value} {base : Heap} (T : Tx K mg base) : List (Addr × Addr) := [(T.c_is_web, T.P_is_web)]
section
variable {P : Program} {w : World} {K : PySem.W.Frag} {mg : Str → Option Value} {base : Heap}
theorem len93 (l : List Nat) : ({ cps := l.toArray } : Str).length = l.length := by show l.toArray.size = _; simp
theorem log_small {n : Nat} (h : n < 100) : ((n : Nat) : Int).natAbs.log2 < 1920 := by
  rw [Int.natAbs_natCast]
  refine Nat.lt_of_le_of_lt (Nat.log2_le_self n) (by omega)
theorem emp_app (x : Str) : Str.empty ++ x = x := TL.ext_tl (by rw [TL.tl_append]; rfl)
theorem app_len (x y : Str) : (x ++ y).length = x.length + y.length := by rw [TL.len_tl, TL.tl_append, List.length_append, ← TL.len_tl, ← TL.len_tl]
theorem ln_place : (Str.ofString "place ").length = 6 := by decide +kernel
theorem ln_tie : (Str.ofString "tie ").length = 4 := by decide +kernel
theorem ln_sp : (Str.ofString " ").length = 1 := by decide +kernel
theorem ln_nl : (Str.ofString "\n").length = 1 := by decide +kernel
theorem ln_one (c : Nat) : ({ cps := #[c] } : Str).length = 1 := rfl
theorem ln_num {a : Nat} (h : a < 100) : (Str.ofString (toString ((a : Nat) : Int))).length ≤ 2 := len_num h
/-- a web as a text -/
def spShow (K : PySem.W.Frag) : Sp := fun vs H Q _ => ∃ (v : V) (w : Web), vs = [v] ∧ WebAt K H v w ∧ WOk w ∧ ∀ H', Same H H' → Q (.str (webS w)) H'
theorem ok_show_web (T : Tx K mg base) : FnOk P w K mg base CX0 1 T.show_web.f T.show_web.fd ["web"] (spShow K) := by
  refine T.show_web.F.ok sc_show_web (fun vs H Q E h => ?_) (fun cdv A outer s H vs Q E hr h => ?_)
  · obtain ⟨_, _, rfl, _⟩ := h; rfl
  · obtain ⟨v, u, rfl, ⟨a, b, tvs, rfl, q1, q2, pT⟩, W, q⟩ := h
    have lt : tvs.length = u.2.length := Paired.length pT
    have l16 := W.most
    have l40 := W.few
    refine ⟨_, (pss_cons (ps_asg (pv 0) (pg_tup rfl (pgs_cons (pg_name (i := 1) sc_show_web.nd rfl (.inl rfl)) (pgs_cons (pg_name (i := 2) sc_show_web.nd rfl (.inl rfl)) pgs_nil))))
      (pss_cons (ps_setLc (i := 3) (own := [("kind", 4)]) (g := gName 4) (tt := tYes) (te := tFs [tC (.str (Str.ofString "place ")), tFmt (tVar 4), tC (.str (Str.ofString "\n"))]) rfl sc_show_web.nd rfl rfl (sw_true rfl rfl rfl (by decide +kernel)) (pi_str (pv 1)) (blkOk_by (N := ["web", "kinds", "ties", "lines", "kind", "place", "other"]) (sc := defScope s_show_web) (by decide +kernel)) (fun _ _ _ _ _ => (pg_name (i := 4) sc_show_web.nd rfl (.inl rfl))) (fun _ _ _ _ _ => pts_nil) (fun _ _ _ _ _ => (pe_joinedF (PJ.cons pe_str (PJ.cons (pe_fmt (pv 4)) (PJ.cons pe_str PJ.nil))))))
      (pss_cons (ps_expr (pe_bm PySem.F.plainAttrs_list PySem.F.slot_list_extend PySem.F.type_list_extend mt_extend (pv 3) (pa_cons (pe_lc (own := [("place", 5), ("other", 6), ("kind", 4)]) (g := gTup K 3 (gCons (gName 5) (gCons (gName 6) (gCons (gName 4) gNil)))) (tt := tYes) (te := tFs [tC (.str (Str.ofString "tie ")), tFmt (tVar 5), tC (.str (Str.ofString " ")), tFmt (tVar 6), tC (.str (Str.ofString " ")), tFmt (tVar 4), tC (.str (Str.ofString "\n"))]) rfl sc_show_web.nd (pi_tup (pv 2)) (blkOk_by (N := ["web", "kinds", "ties", "lines", "kind", "place", "other"]) (sc := defScope s_show_web) (by decide +kernel)) (fun _ _ _ _ _ => (pg_tup rfl (pgs_cons (pg_name (i := 5) sc_show_web.nd rfl (.inl rfl)) (pgs_cons (pg_name (i := 6) sc_show_web.nd rfl (.inl rfl)) (pgs_cons (pg_name (i := 4) sc_show_web.nd rfl (.inl rfl)) pgs_nil))))) (fun _ _ _ _ _ => pts_nil) (fun _ _ _ _ _ => (pe_joinedF (PJ.cons pe_str (PJ.cons (pe_fmt (pv 5)) (PJ.cons pe_str (PJ.cons (pe_fmt (pv 6)) (PJ.cons pe_str (PJ.cons (pe_fmt (pv 4)) (PJ.cons pe_str PJ.nil)))))))))) pa_nil)))
      (pss_one (ps_ret (pe_join pe_str (pv 3))))))), ?_⟩
    walk_at "rd"
    refine d_gtup q1 rfl ?_
    walk_at "rd"
    intro D fD
    refine lc_it (walk_str (z := ⟨u.1.toArray⟩)) (fun i H1 => H1 D = some (.lst (((u.1.take i).map fun c => placeS c ++ nlS).map V.str)) ∧ Same H H1) ⟨upd_same, same_new fD⟩ (fun i H1 _ _ => trivial) (fun i x H2 H1 hi hP hy => ?_) (fun H1 hP => ?_)
    · obtain ⟨eD, s1⟩ := hP
      obtain ⟨rfl, c, hc, rfl⟩ := hy
      have hc' : u.1[i]? = some c := by simpa using hc
      walk_at "rd"
      refine d_fs0 (d_fsC (sz ?_) (d_fsS (y := sg c) rfl (sz ?_) (sz ?_) (d_fsC (sz ?_) (d_fsE ?_))))
      · rw [TL.len_tl, TL.tl_append, tl_place]; decide
      · show 1 ≤ 100000; decide
      · rw [TL.len_tl, TL.tl_append, TL.tl_append, tl_place, tl_sg]; simp [TL.tl, Str.empty]
      · rw [emp_app]
        show (placeS c ++ nlS).length ≤ 100000
        rw [len_place]; decide
      · refine ⟨_, eD, szl (by rw [List.length_map, List.length_map]; rw [List.length_take]; omega), ?_, same_upd s1 fD⟩
        rw [upd_same, take_snoc hc', List.map_append, List.map_append, emp_app]
        rfl
    · obtain ⟨eD, s1⟩ := hP
      rw [show ({ cps := u.1.toArray } : Str).cps.size = u.1.length by show u.1.toArray.size = _; simp, List.take_length] at eD
      walk_at "rd"
      refine ⟨.inl ⟨rfl, _, SqL.of eD⟩, ?_⟩
      walk_at "rd"
      refine d_iTe (Same.sqt s1 q2) ?_
      intro D2 fD2
      refine lc_it (walk_tup (K := K) (a := b) (xs := tvs)) (fun i H2 => H2 D2 = some (.lst (((u.2.take i).map fun t => tieS t ++ nlS).map V.str)) ∧ Same H1 H2) ⟨upd_same, same_new fD2⟩ (fun i H2 _ hP => Same.sqt (Same.trans s1 hP.2) q2) (fun i x H3 H2 hi hP hy => ?_) (fun H2 hP => ?_)
      · obtain ⟨eD2, s2⟩ := hP
        obtain ⟨rfl, hx⟩ := hy
        obtain ⟨t, ht, pa, rfl, qt⟩ := Paired.at pT hx
        have en := W.ends t (List.mem_of_getElem? ht)
        have h1 : t.1 < 100 := by omega
        have h2 : t.2.1 < 100 := by omega
        have n1 := TL.numL_len (k := 2) (by decide) h1
        have n2 := TL.numL_len (k := 2) (by decide) h2
        have g1 : ((t.1 : Nat) : Int).natAbs.log2 < 1920 := log_small (by assumption)
        have g2 : ((t.2.1 : Nat) : Int).natAbs.log2 < 1920 := log_small (by assumption)
        refine d_gtup (Same.sqt (Same.trans s1 s2) qt) rfl ?_
        walk_at "rd"
        refine d_fs0 (d_fsC (sz ?_) (d_fsI (k := (t.1 : Nat)) rfl g1 (sz ?_) (d_fsC (sz ?_) (d_fsI (k := (t.2.1 : Nat)) rfl g2 (sz ?_) (d_fsC (sz ?_) (d_fsS (y := sg t.2.2) rfl (sz ?_) (sz ?_) (d_fsC (sz ?_) (d_fsE ?_))))))))
        · rw [TL.len_tl, TL.tl_append, tl_tie]; decide
        · rw [emp_app]
          show (Str.ofString "tie " ++ numS t.1).length ≤ 100000
          rw [TL.len_tl, TL.tl_append, tl_tie, tl_numS]; simp; omega
        · rw [emp_app]
          show (Str.ofString "tie " ++ numS t.1 ++ spS).length ≤ 100000
          rw [TL.len_tl, TL.tl_append, TL.tl_append, tl_tie, tl_numS, tl_sp]; simp; omega
        · rw [emp_app]
          show (Str.ofString "tie " ++ numS t.1 ++ spS ++ numS t.2.1).length ≤ 100000
          rw [TL.len_tl, TL.tl_append, TL.tl_append, TL.tl_append, tl_tie, tl_numS, tl_sp, tl_numS]; simp; omega
        · rw [emp_app]
          show (Str.ofString "tie " ++ numS t.1 ++ spS ++ numS t.2.1 ++ spS).length ≤ 100000
          rw [TL.len_tl, TL.tl_append, TL.tl_append, TL.tl_append, TL.tl_append, tl_tie, tl_numS, tl_sp, tl_numS]; simp; omega
        · show 1 ≤ 100000; decide
        · rw [emp_app]
          show (tieS t).length ≤ 100000
          have := len_tie h1 h2
          rw [TL.len_tl, TL.tl_append, List.length_append] at this
          rw [TL.len_tl]; omega
        · rw [emp_app]
          show (tieS t ++ nlS).length ≤ 100000
          have := len_tie h1 h2
          omega
        · refine ⟨_, eD2, szl (by rw [List.length_map, List.length_map]; rw [List.length_take]; omega), ?_, same_upd s2 fD2⟩
          rw [upd_same, take_snoc ht, List.map_append, List.map_append, emp_app]
          rfl
      · obtain ⟨eD2, s2⟩ := hP
        rw [lt, List.take_length] at eD2
        walk_at "rd"
        have eD3 := s2 _ _ eD
        have fD0 : H1 D2 = none := fD2
        refine ⟨D, D2, _, _, rfl, rfl, eD3, eD2, sz (by rw [List.length_map, List.length_map, List.length_map, List.length_map]; omega), ?_⟩
        rw [← List.map_append, ← nlL_eq]
        have nDD : D ≠ D2 := fun z => by rw [z, fD2] at eD; cases eD
        have s3 : Same H (upd H2 D (.lst ((nlL u).map V.str))) := fun x o e => by
          rw [upd_ne (fun z => by rw [z, fD] at e; cases e)]
          exact s2 _ _ (s1 _ _ e)
        have eD4 := upd_same (H := H2) (a := D) (o := .lst ((nlL u).map V.str))
        generalize upd H2 D _ = H4 at s3 eD4 ⊢
        walk_at "rd"
        refine ⟨_, D, nlL u, rfl, rfl, .inl (SqL.of eD4), Nat.le_trans (nlL_size W) (by decide), ?_⟩
        exact q _ s3
/-- a web as a text, as it is written here -/
theorem ok_text (T : Tx K mg base) : FnOk P w K mg base CX0 1 T.text.f T.text.fd ["web"] (spShow K) := by
  refine T.text.F.ok sc_text (fun vs H Q E h => ?_) (fun cdv A outer s H vs Q E hr h => ?_)
  · obtain ⟨_, _, rfl, _⟩ := h; rfl
  · obtain ⟨v, u, rfl, ⟨a, b, tvs, rfl, q1, q2, pT⟩, W, q⟩ := h
    have lt : tvs.length = u.2.length := Paired.length pT
    have l16 := W.most
    have l40 := W.few
    refine ⟨_, (pss_cons (ps_setLc (i := 1) (own := [("kind", 4)]) (g := gName 4) (tt := tYes) rfl sc_text.nd rfl rfl (sw_true rfl rfl rfl (by decide +kernel)) (pi_str (pe_ix ix_tup (pv 0) pe_int (fun _ _ => rfl))) (blkOk_by (N := ["web", "lines", "place", "other", "kind"]) (sc := defScope s_text) (by decide +kernel)) (fun _ _ _ _ _ => (pg_name (i := 4) sc_text.nd rfl (.inl rfl))) (fun _ _ _ _ _ => pts_nil) (fun _ _ _ _ _ => (pe_op op_add_str (pe_op op_add_str pe_str (pv 4)) pe_str)))
      (pss_cons (ps_for PassesOwn.never rfl (pi_tup (pe_ix ix_tup (pv 0) pe_int (fun _ _ => rfl))) (pg_tup rfl (pgs_cons (pg_name (i := 2) sc_text.nd rfl (.inl rfl)) (pgs_cons (pg_name (i := 3) sc_text.nd rfl (.inl rfl)) (pgs_cons (pg_name (i := 4) sc_text.nd rfl (.inl rfl)) pgs_nil))))
        (pss_one (ps_expr (pe_bm PySem.F.plainAttrs_list PySem.F.slot_list_append PySem.F.type_list_append mt_append (pv 1) (pa_cons (pe_op op_add_str (pe_op op_add_str (pe_op op_add_str (pe_op op_add_str (pe_op op_add_str (pe_op op_add_str pe_str (pe_callTy call_str_int (by rfl) T.m_str (by decide +kernel) (pa_cons (pv 2) pa_nil))) pe_str) (pe_callTy call_str_int (by rfl) T.m_str (by decide +kernel) (pa_cons (pv 3) pa_nil))) pe_str) (pv 4)) pe_str) pa_nil)))))
      (pss_one (ps_ret (pe_join pe_str (pv 1)))))), ?_⟩
    walk_at "rd"
    refine d_ixT q1 rfl ?_
    walk_at "rd"
    intro D fD
    refine lc_it (walk_str (z := ⟨u.1.toArray⟩)) (fun i H1 => H1 D = some (.lst (((u.1.take i).map fun c => placeS c ++ nlS).map V.str)) ∧ Same H H1) ⟨upd_same, same_new fD⟩ (fun i H1 _ _ => trivial) (fun i x H2 H1 hi hP hy => ?_) (fun H1 hP => ?_)
    · obtain ⟨eD, s1⟩ := hP
      obtain ⟨rfl, c, hc, rfl⟩ := hy
      have hc' : u.1[i]? = some c := by simpa using hc
      walk_at "rd"
      refine ⟨_, _, rfl, rfl, sz (by rw [ln_place, ln_one]; decide), ?_⟩
      walk_at "rd"
      refine ⟨_, _, rfl, rfl, sz (by rw [app_len, ln_place, ln_one, ln_nl]; decide), ?_⟩
      refine ⟨_, eD, szl (by rw [List.length_map, List.length_map]; rw [List.length_take]; omega), ?_, same_upd s1 fD⟩
      rw [upd_same, take_snoc hc', List.map_append, List.map_append]
      rfl
    · obtain ⟨eD, s1⟩ := hP
      rw [show ({ cps := u.1.toArray } : Str).cps.size = u.1.length by show u.1.toArray.size = _; simp, List.take_length] at eD
      walk_at "rd"
      refine d_ixT (Same.sqt s1 q1) rfl ?_
      refine d_iTe (Same.sqt s1 q2) ?_
      refine for_it (walk_tup (K := K) (a := b) (xs := tvs)) (fun i σ H2 => ∃ y2 y3 y4, σ = [some (.ref a), some (.ref D), y2, y3, y4] ∧ H2 D = some (.lst ((u.1.map (fun c => placeS c ++ nlS) ++ (u.2.take i).map fun t => tieS t ++ nlS).map V.str)) ∧ Same H H2) ⟨_, _, _, rfl, by rw [List.take_zero, List.map_nil, List.append_nil]; exact eD, s1⟩ (fun i σ H2 _ hP => ?_) (fun i x σ H3 H2 hi hP hy => ?_) (fun σ H2 hP => ?_)
      · obtain ⟨_, _, _, _, _, s2⟩ := hP
        exact Same.sqt s2 q2
      · obtain ⟨y2, y3, y4, rfl, eD2, s2⟩ := hP
        obtain ⟨rfl, hx⟩ := hy
        obtain ⟨t, ht, pa, rfl, qt⟩ := Paired.at pT hx
        have en := W.ends t (List.mem_of_getElem? ht)
        have h1 : t.1 < 100 := by omega
        have h2 : t.2.1 < 100 := by omega
        have n1 := TL.numL_len (k := 2) (by decide) h1
        have n2 := TL.numL_len (k := 2) (by decide) h2
        have g1 : ((t.1 : Nat) : Int).natAbs.log2 < 1920 := log_small h1
        have g2 : ((t.2.1 : Nat) : Int).natAbs.log2 < 1920 := log_small h2
        refine d_gtup (Same.sqt s2 qt) rfl ?_
        walk_at "rd"
        have m1 := ln_num h1
        have m2 := ln_num h2
        refine d_app eD2 ?_
        walk_at "rd"
        refine ⟨_, rfl, g1, ?_⟩
        refine ⟨_, _, rfl, rfl, sz (by rw [ln_tie]; omega), ?_⟩
        walk_at "rd"
        refine ⟨_, _, rfl, rfl, sz (by rw [app_len, ln_tie, ln_sp]; omega), ?_⟩
        walk_at "rd"
        refine ⟨_, rfl, g2, ?_⟩
        refine ⟨_, _, rfl, rfl, sz (by rw [app_len, app_len, ln_tie, ln_sp]; omega), ?_⟩
        walk_at "rd"
        refine ⟨_, _, rfl, rfl, sz (by rw [app_len, app_len, app_len, ln_tie, ln_sp]; omega), ?_⟩
        walk_at "rd"
        refine ⟨_, _, rfl, rfl, sz (by rw [app_len, app_len, app_len, app_len, ln_tie, ln_sp]; show _ + 1 ≤ 100000; omega), ?_⟩
        walk_at "rd"
        refine ⟨_, _, rfl, rfl, sz (by rw [app_len, app_len, app_len, app_len, app_len, ln_tie, ln_sp, ln_nl]; show _ + 1 + 1 ≤ 100000; omega), ?_⟩
        walk_at "rd"
        refine d_append eD2 (szl (by rw [List.length_map, List.length_append, List.length_map, List.length_map, List.length_take]; omega)) ?_
        refine ⟨_, _, _, rfl, ?_, fun x o e => ?_⟩
        · rw [upd_same, take_snoc ht, List.map_append, List.map_append, List.map_append, List.map_append, List.append_assoc]
          rfl
        · rw [upd_ne (fun z => by rw [z, fD] at e; cases e)]
          exact s2 _ _ e
      · obtain ⟨y2, y3, y4, rfl, eD2, s2⟩ := hP
        rw [lt, List.take_length, ← nlL_eq] at eD2
        walk_at "rd"
        refine ⟨_, D, nlL u, rfl, rfl, .inl (SqL.of eD2), Nat.le_trans (nlL_size W) (by decide), ?_⟩
        exact q _ s2
/-- the words of a web's lines -/
def wordsL (u : Web) : List (List Str) := u.1.map (fun c => [Str.ofString "place", sg c]) ++ u.2.map (fun t => [Str.ofString "tie", numS t.1, numS t.2.1, sg t.2.2]) ++ [[Str.ofString ""]]
theorem words_len (u : Web) : (wordsL u).length = u.1.length + u.2.length + 1 := by
  unfold wordsL
  rw [List.length_append, List.length_append, List.length_map, List.length_map, List.length_singleton]
theorem words_at {u : Web} {i : Nat} {ws : List Str} (h : (wordsL u)[i]? = some ws) :
    (∃ c, u.1[i]? = some c ∧ ws = [Str.ofString "place", sg c]) ∨ (u.1.length ≤ i ∧ ∃ t, u.2[i - u.1.length]? = some t ∧ ws = [Str.ofString "tie", numS t.1, numS t.2.1, sg t.2.2]) ∨ (i = u.1.length + u.2.length ∧ ws = [Str.ofString ""]) := by
  unfold wordsL at h
  by_cases c1 : i < u.1.length
  · rw [List.append_assoc, List.getElem?_append_left (by rw [List.length_map]; exact c1), List.getElem?_map, List.getElem?_eq_getElem c1] at h
    exact .inl ⟨_, List.getElem?_eq_getElem c1, (Option.some.inj h).symm⟩
  · by_cases c2 : i < u.1.length + u.2.length
    · rw [List.append_assoc, List.getElem?_append_right (by rw [List.length_map]; omega), List.length_map, List.getElem?_append_left (by rw [List.length_map]; omega), List.getElem?_map, List.getElem?_eq_getElem (by omega)] at h
      exact .inr (.inl ⟨by omega, _, List.getElem?_eq_getElem (by omega), (Option.some.inj h).symm⟩)
    · rw [List.getElem?_append_right (by rw [List.length_append, List.length_map, List.length_map]; omega), List.length_append, List.length_map, List.length_map] at h
      have l := (List.getElem?_eq_some_iff.mp h).1
      rw [List.length_singleton] at l
      have e : i - (u.1.length + u.2.length) = 0 := by omega
      rw [e, List.getElem?_cons_zero] at h
      exact .inr (.inr ⟨by omega, (Option.some.inj h).symm⟩)
theorem take_over {α : Type} {l : List α} {i : Nat} (h : l.length ≤ i) : l.take (i + 1) = l.take i := by rw [List.take_of_length_le (by omega), List.take_of_length_le h]
def WordsAt (H : Hp) (v : V) (ws : List Str) : Prop := ∃ p, v = .ref p ∧ H p = some (.lst (ws.map V.str))
theorem WordsAt.same {H H' : Hp} {v : V} {ws : List Str} (x : WordsAt H v ws) (s : Same H H') : WordsAt H' v ws := by
  obtain ⟨p, e, h⟩ := x
  exact ⟨p, e, s _ _ h⟩
theorem pl_ne_tie : (Str.ofString "tie" = Str.ofString "place") ↔ False := by decide +kernel
theorem pl_ne_none : (Str.ofString "" = Str.ofString "place") ↔ False := by decide +kernel
theorem tie_ne_pl : (Str.ofString "place" = Str.ofString "tie") ↔ False := by decide +kernel
theorem tie_ne_none : (Str.ofString "" = Str.ofString "tie") ↔ False := by decide +kernel
theorem d_eqY {a : Str} {H : Hp} {Q : VK} (q : Q (.bl true) H) : rEq (V.str a) (V.str a) H Q := by
  refine ⟨rfl, ?_⟩
  rw [decide_eq_true rfl]
  exact q
theorem d_eqZ {a b : Int} {H : Hp} {Q : VK} (e : a = b) (q : Q (.bl true) H) : rEq (V.int a) (V.int b) H Q := by
  subst e
  refine ⟨rfl, ?_⟩
  rw [decide_eq_true rfl]
  exact q
theorem d_eqN {a b : Str} {H : Hp} {Q : VK} (n : (a = b) ↔ False) (q : Q (.bl false) H) : rEq (V.str a) (V.str b) H Q := by
  refine ⟨rfl, ?_⟩
  rw [decide_eq_false fun z => n.mp (V.str.inj z)]
  exact q
/-- a web from the words of its lines -/
def spWebOf (K : PySem.W.Frag) : Sp := fun vs H Q _ => ∃ (L : Addr) (rs : List V) (u : Web), vs = [.ref L] ∧ H L = some (.lst rs) ∧ Paired (WordsAt H) rs (wordsL u) ∧ WOk u ∧ ∀ H' v, Same H H' → WebAt K H' v u → Q v H'
theorem ok_web_of (T : Tx K mg base) : FnOk P w K mg base CX0 1 T.web_of.f T.web_of.fd ["lines"] (spWebOf K) := by
  refine T.web_of.F.ok sc_web_of (fun vs H Q E h => ?_) (fun cdv A outer s H vs Q E hr h => ?_)
  · obtain ⟨_, _, _, rfl, _⟩ := h; rfl
  · obtain ⟨L, rs, u, rfl, eL, pW, W, q⟩ := h
    have lr : rs.length = u.1.length + u.2.length + 1 := by rw [Paired.length pW, words_len]
    have l16 := W.most
    have l40 := W.few
    refine ⟨_, (pss_cons (ps_setLc (i := 1) (own := [("words", 4)]) (g := gName 4) (tt := tAnd (tTest (tOp rEq (tOp (rIxL K) (tVar 4) (tC (.int 0))) (tC (.str (Str.ofString "place"))))) (tTest (tOp rEq (tCB (Evl.rLenS K) (tCons (tVar 4) tNil)) (tC (.int 2))))) (te := tOp (rIxL K) (tVar 4) (tC (.int 1))) rfl sc_web_of.nd rfl rfl (sw_true rfl rfl rfl (by decide +kernel)) (pi_list (pv 0)) (blkOk_by (N := ["lines", "kinds", "numbers", "ties", "words", "place"]) (sc := defScope s_web_of) (by decide +kernel)) (fun _ _ _ _ _ => (pg_name (i := 4) sc_web_of.nd rfl (.inl rfl))) (fun _ _ _ _ _ => pts_one (PW.pt (pw_and (pt_cmpR op_eq (pe_ix ix_list (pv 4) pe_int (fun _ _ => rfl)) pe_str (nomark _)) (pw_and1 (pt_cmpR op_eq (pe_callB call_len_seq (by rfl) T.m_len (by decide +kernel) (pa_cons (pv 4) pa_nil)) pe_int (nomark _)))))) (fun _ _ _ _ _ => (pe_ix ix_list (pv 4) pe_int (fun _ _ => rfl))))
      (pss_cons (ps_setDc (i := 2) (own := [("place", 5)]) (tt := tYes) rfl sc_web_of.nd rfl rfl (sw_dict rfl rfl rfl (by decide +kernel)) (pi_range1 (by rfl) T.m_range (pa_cons (pe_callB call_len_seq (by rfl) T.m_len (by decide +kernel) (pa_cons (pv 1) pa_nil)) pa_nil)) (blkOk_by (N := ["lines", "kinds", "numbers", "ties", "words", "place"]) (sc := defScope s_web_of) (by decide +kernel)) (fun _ _ _ _ _ => (pg_name (i := 5) sc_web_of.nd rfl (.inl rfl))) (fun _ _ _ _ _ => pts_nil) (fun _ _ _ _ _ => (pe_callTy call_str_int (by rfl) T.m_str (by decide +kernel) (pa_cons (pv 5) pa_nil))) (fun _ _ _ _ _ => (pv 5)))
      (pss_cons (ps_set (i := 3) sc_web_of.nd rfl (.inl rfl) (pe_lst pa_nil))
      (pss_cons (ps_for PassesOwn.never rfl (pi_list (pv 0)) (pg_name (i := 4) sc_web_of.nd rfl (.inl rfl))
        (pss_one (ps_if (PW.pt (pw_and (pt_cmpR op_eq (pe_ix ix_list (pv 4) pe_int (fun _ _ => rfl)) pe_str (nomark _)) (pw_and1 (pt_cmpR op_eq (pe_callB call_len_seq (by rfl) T.m_len (by decide +kernel) (pa_cons (pv 4) pa_nil)) pe_int (nomark _)))))
          (pss_one (ps_expr (pe_bm PySem.F.plainAttrs_list PySem.F.slot_list_append PySem.F.type_list_append mt_append (pv 3) (pa_cons (pe_tup (pa_cons (pe_dget1 (hu_of hr) (pv 2) (pe_ix ix_list (pv 4) pe_int (fun _ _ => rfl)) ⟨rfl, rfl, rfl, rfl⟩) (pa_cons (pe_dget1 (hu_of hr) (pv 2) (pe_ix ix_list (pv 4) pe_int (fun _ _ => rfl)) ⟨rfl, rfl, rfl, rfl⟩) (pa_cons (pe_ix ix_list (pv 4) pe_int (fun _ _ => rfl)) pa_nil)))) pa_nil))))
          pss_nil)))
      (pss_one (ps_ret (pe_tup (pa_cons (pe_join pe_str (pv 1)) (pa_cons (pe_callTy call_tuple_of (by rfl) T.m_tuple (by decide +kernel) (pa_cons (pv 3) pa_nil)) pa_nil))))))))), ?_⟩
    walk_at "rd"
    refine d_iLe (SqL.of eL) ?_
    intro D fD
    refine lc_it (walk_list (K := K) (a := L) (xs := rs)) (fun i H1 => H1 D = some (.lst ((u.1.take i).map fun c => V.str (sg c))) ∧ Same H H1) ⟨upd_same, same_new fD⟩ (fun i H1 _ hP => SqL.of (hP.2 _ _ eL)) (fun i x H2 H1 hi hP hy => ?_) (fun H1 hP => ?_)
    · obtain ⟨eD, s1⟩ := hP
      obtain ⟨rfl, hx⟩ := hy
      obtain ⟨ws, hws, pw, rfl, ep⟩ := Paired.at pW hx
      have ep1 := s1 _ _ ep
      walk_at "rd"
      have lt2 : ∀ j : Nat, (u.1.take j).length ≤ 40 := fun j => by rw [List.length_take]; omega
      rcases words_at hws with ⟨c, hc, rfl⟩ | ⟨ge, t, ht, rfl⟩ | ⟨ei, rfl⟩
      · refine d_ixLm ep1 rfl ?_
        walk_at "rd"
        refine d_eqY ?_
        refine ⟨_, rfl, ?_⟩
        refine iteT ?_
        walk_at "rd"
        refine d_lenL (SqL.of ep1) ?_
        refine ⟨rfl, ?_⟩
        refine ⟨_, rfl, ?_⟩
        refine ite2 (fun _ => ?_) (fun c => absurd (decide_eq_true rfl) c)
        walk_at "rd"
        refine ⟨_, eD, szl (by rw [List.length_map]; have := lt2 i; omega), ?_, same_upd s1 fD⟩
        rw [upd_same, take_snoc hc, List.map_append]
        rfl
      · refine d_ixLm ep1 rfl ?_
        walk_at "rd"
        refine d_eqN pl_ne_tie ?_
        refine ⟨_, rfl, ?_⟩
        refine iteF ?_
        walk_at "rd"
        exact ⟨by rw [take_over ge]; exact eD, s1⟩
      · refine d_ixLm ep1 rfl ?_
        walk_at "rd"
        refine d_eqN pl_ne_none ?_
        refine ⟨_, rfl, ?_⟩
        refine iteF ?_
        walk_at "rd"
        exact ⟨by rw [take_over (by omega)]; exact eD, s1⟩
    · obtain ⟨eD, s1⟩ := hP
      rw [List.take_of_length_le (by omega)] at eD
      walk_at "rd"
      refine d_lenL (SqL.of eD) ?_
      rw [List.length_map]
      walk_at "rd"
      intro D2 fD2
      refine dc_it walk_range (fun i H2 => ∃ kvs, H2 D2 = some (.dK kvs) ∧ Same H1 H2 ∧ kvs.length ≤ i ∧ ∀ p : Nat, p < i → valV kvs (.inr (numS p)) = some (V.int (p : Nat))) ⟨[], upd_same, same_new fD2, Nat.le_refl _, fun p hp => absurd hp (Nat.not_lt_zero _)⟩ (fun i H2 _ _ => trivial) (fun i x H3 H2 hi hP hy => ?_) (fun H2 hP => ?_)
      · obtain ⟨kvs, eK, s2, lk, hk⟩ := hP
        obtain ⟨rfl, rfl⟩ := hy
        have hi' : i < 100 := by
          have : i < u.1.length := by
            have := hi
            first | exact this | (rw [Int.toNat_natCast] at this; exact this)
          omega
        have ex : (fun i : Nat => V.int ((0 : Int) + (i : Nat))) i = V.int ((i : Nat) : Int) := by
          show V.int _ = V.int _
          congr 1
          omega
        rw [ex]
        walk_at "rd"
        refine ⟨_, rfl, log_small hi', ?_⟩
        walk_at "rd"
        refine ⟨kvs, .inr (numS i), rfl, eK, szl (by omega), _, upd_same, same_upd s2 fD2, ?_, fun p hp => ?_⟩
        · have := length_putK kvs (.inr (numS i) : Key) (V.int (i : Nat))
          omega
        · rw [valV_put]
          by_cases e : p = i
          · subst e; rw [if_pos rfl]
          · rw [if_neg fun z => e (numS_inj (Sum.inr.inj z))]
            exact hk p (by omega)
      · obtain ⟨kvs, eK, s2, _, hk⟩ := hP
        first | rw [Int.toNat_natCast] at hk | skip
        have s12 := Same.trans s1 s2
        have eD2 := s2 _ _ eD
        walk_at "rd"
        refine ⟨sz (by decide), fun F fF => ?_⟩
        have sF := same_new (o := .lst []) fF
        have eF := upd_same (H := H2) (a := F) (o := .lst [])
        have s3 := Same.trans s12 sF
        have eK3 := sF _ _ eK
        have eD3 := sF _ _ eD2
        have fF0 := Same.free s12 fF
        have nDF : D ≠ F := ne_of_none eD2 fF
        generalize upd H2 F (.lst []) = H3 at sF eF s3 eK3 eD3 ⊢
        walk_at "rd"
        refine d_iLe (SqL.of (s3 _ _ eL)) ?_
        refine for_it (walk_list (K := K) (a := L) (xs := rs)) (fun i σ H4 => ∃ y4 y5 tvs, σ = [some (.ref L), some (.ref D), some (.ref D2), some (.ref F), y4, y5] ∧ H4 F = some (.lst tvs) ∧ Paired (TieAt K H4) tvs (u.2.take (i - u.1.length)) ∧ Same H H4 ∧ H4 D2 = some (.dK kvs) ∧ H4 D = some (.lst (u.1.map fun c => V.str (sg c))))
          ⟨_, _, [], rfl, eF, by rw [Nat.zero_sub, List.take_zero]; exact .nil, s3, eK3, eD3⟩ (fun i σ H4 _ hP => ?_) (fun i x σ H5 H4 hi hP hy => ?_) (fun σ H4 hP => ?_)
        · obtain ⟨_, _, _, _, _, _, s4, _⟩ := hP
          exact SqL.of (s4 _ _ eL)
        · obtain ⟨y4, y5, tvs, rfl, eF4, pT, s4, eK4, eD4⟩ := hP
          obtain ⟨rfl, hx⟩ := hy
          obtain ⟨ws, hws, pw, rfl, ep⟩ := Paired.at pW hx
          have ep4 := s4 _ _ ep
          walk_at "rd"
          rcases words_at hws with ⟨c, hc, rfl⟩ | ⟨ge, t, ht, rfl⟩ | ⟨ei, rfl⟩
          · have il := (List.getElem?_eq_some_iff.mp hc).1
            refine d_ixLm ep4 rfl ?_
            walk_at "rd"
            refine d_eqN tie_ne_pl ?_
            refine ⟨_, rfl, ?_⟩
            refine iteF ?_
            walk_at "rd"
            exact ⟨_, _, tvs, rfl, eF4, by rw [show i + 1 - u.1.length = i - u.1.length by omega]; exact pT, s4, eK4, eD4⟩
          · have en := W.ends t (List.mem_of_getElem? ht)
            refine d_ixLm ep4 rfl ?_
            walk_at "rd"
            refine d_eqY ?_
            refine ⟨_, rfl, ?_⟩
            refine iteT ?_
            walk_at "rd"
            refine d_lenL (SqL.of ep4) ?_
            refine ⟨rfl, ?_⟩
            refine ⟨_, rfl, ?_⟩
            refine ite2 (fun _ => ?_) (fun c => absurd (decide_eq_true rfl) c)
            walk_at "rd"
            refine d_app eF4 ?_
            have g1 := DGet.k (k := .inr (numS t.1)) eK4
            have g2 := DGet.k (k := .inr (numS t.2.1)) eK4
            rw [hk t.1 (by omega)] at g1
            rw [hk t.2.1 (by omega)] at g2
            walk_at "rd"
            refine ⟨D2, rfl, .inl ⟨kvs, .inl eK4⟩, ?_⟩
            walk_at "rd"
            refine ⟨_, g1, ?_⟩
            walk_at "rd"
            refine ⟨D2, rfl, .inl ⟨kvs, .inl eK4⟩, ?_⟩
            walk_at "rd"
            refine ⟨_, g2, ?_⟩
            walk_at "rd"
            refine ⟨sz (by show 3 ≤ 100000; decide), fun p fp => ?_⟩
            have nFp : F ≠ p := ne_of_none eF4 fp
            have nKp : D2 ≠ p := ne_of_none eK4 fp
            have nDp : D ≠ p := ne_of_none eD4 fp
            have ltv : tvs.length ≤ 1600 := by
              have := Paired.length pT
              rw [List.length_take] at this
              omega
            have eF5 : (upd H4 p (.tup [V.int (t.1 : Nat), V.int (t.2.1 : Nat), V.str (sg t.2.2)])) F = some (.lst tvs) := by rw [upd_ne nFp]; exact eF4
            walk_at "rd"
            refine d_append eF5 (szl (by omega)) ?_
            have s5 : Same H (upd (upd H4 p (.tup [V.int (t.1 : Nat), V.int (t.2.1 : Nat), V.str (sg t.2.2)])) F (.lst (tvs ++ [V.ref p]))) := same_upd (same_upd s4 (Same.free s4 fp)) fF0
            refine ⟨_, _, _, rfl, upd_same, ?_, s5, ?_, ?_⟩
            · rw [show i + 1 - u.1.length = (i - u.1.length) + 1 by omega, take_snoc ht]
              refine Paired.snoc (Paired.imp pT fun _ _ z => (z.put (.inl fp)).put (.inr ⟨_, eF5⟩)) ⟨p, rfl, SqT.of ?_⟩
              rw [upd_ne (Ne.symm nFp), upd_same]
              rfl
            · rw [upd_ne (fun z => by rw [z, eF4] at eK4; cases eK4), upd_ne nKp]; exact eK4
            · rw [upd_ne nDF, upd_ne nDp]; exact eD4
          · refine d_ixLm ep4 rfl ?_
            walk_at "rd"
            refine d_eqN tie_ne_none ?_
            refine ⟨_, rfl, ?_⟩
            refine iteF ?_
            walk_at "rd"
            exact ⟨_, _, tvs, rfl, eF4, by rw [show i + 1 - u.1.length = (i - u.1.length) + 1 by omega, take_over (by omega)]; exact pT, s4, eK4, eD4⟩
        · obtain ⟨y4, y5, tvs, rfl, eF4, pT, s4, eK4, eD4⟩ := hP
          rw [show rs.length - u.1.length = u.2.length + 1 by omega, List.take_of_length_le (by omega)] at pT
          walk_at "rd"
          refine ⟨_, D, u.1.map sg, rfl, rfl, .inl (SqL.of (by rw [List.map_map]; exact eD4)), ?_, ?_⟩
          · rw [sum_const _ 1 _ (by intro x hx; obtain ⟨c, _, rfl⟩ := List.mem_map.mp hx; rfl), List.length_map]
            have e0 : (Str.ofString "").length = 0 := by decide +kernel
            rw [e0]; omega
          rw [join_signs]
          walk_at "rd"
          refine ⟨F, tvs, rfl, .inl ⟨SqL.of eF4, fun ta fta => ?_⟩⟩
          walk_at "rd"
          refine ⟨sz (by show 2 ≤ 100000; decide), fun a fa => ?_⟩
          refine q _ (.ref a) (Same.trans s4 (Same.trans (same_new fta) (same_new fa))) ⟨a, ta, tvs, rfl, SqT.of upd_same, sqt_upd (.inl fa) (SqT.of upd_same), Paired.imp pT fun _ _ z => (z.put (.inl fta)).put (.inl fa)⟩
def ltP2 (p q : Int × Int) : Prop := p.1 < q.1 ∨ (p.1 = q.1 ∧ p.2 < q.2)
instance ltP2_dec : DecidableRel ltP2 := fun p q => by unfold ltP2; exact inferInstance
theorem ltP2_ext : ∀ {l m : List (Int × Int)}, l.Pairwise ltP2 → m.Pairwise ltP2 → (∀ x, x ∈ l ↔ x ∈ m) → l = m
  | [], [], _, _, _ => rfl
  | [], y :: m, _, _, h => nomatch (h y).mpr List.mem_cons_self
  | x :: l, [], _, _, h => nomatch (h x).mp List.mem_cons_self
  | x :: l, y :: m, hl, hm, h => by
    obtain ⟨l1, l2⟩ := List.pairwise_cons.mp hl
    obtain ⟨m1, m2⟩ := List.pairwise_cons.mp hm
    have irr : ∀ p : Int × Int, ¬ ltP2 p p := fun p z => by unfold ltP2 at z; omega
    have asy : ∀ p q : Int × Int, ltP2 p q → ltP2 q p → False := fun p q a b => by unfold ltP2 at a b; omega
    have e : x = y := by
      rcases List.mem_cons.mp ((h x).mp List.mem_cons_self) with e | hx
      · exact e
      · rcases List.mem_cons.mp ((h y).mpr List.mem_cons_self) with e | hy
        · exact e.symm
        · exact (asy _ _ (m1 x hx) (l1 y hy)).elim
    subst e
    rw [ltP2_ext l2 m2 fun z => ?_]
    constructor
    · intro hz
      rcases List.mem_cons.mp ((h z).mp (List.mem_cons_of_mem _ hz)) with e | y
      · subst e; exact (irr _ (l1 z hz)).elim
      · exact y
    · intro hz
      rcases List.mem_cons.mp ((h z).mpr (List.mem_cons_of_mem _ hz)) with e | y
      · subst e; exact (irr _ (m1 z hz)).elim
      · exact y
def pD2 (p : Int × Int) : PyData := .tuple [.int p.1, .int p.2]
theorem pD2_eqv : ∀ l m : List (Int × Int), PyData.eqvAll (l.map pD2) (m.map pD2) = decide (l = m)
  | [], [] => by simp [PyData.eqvAll]
  | [], _ :: _ => by simp [PyData.eqvAll]
  | _ :: _, [] => by simp [PyData.eqvAll]
  | a :: l, b :: m => by
    have r := pD2_eqv l m
    simp only [List.map_cons, PyData.eqvAll, r]
    rw [Bool.eq_iff_iff]
    obtain ⟨a1, a2⟩ := a
    obtain ⟨b1, b2⟩ := b
    simp [pD2, PyData.eqv, PyData.eqvAll]
theorem pD2_good (l : List (Int × Int)) : SeqAt.shaped (.list (l.map pD2)) = true := shaped_list (k := 1) (by decide) fun d hd => by
  obtain ⟨p, _, rfl⟩ := List.mem_map.mp hd
  simp [pD2, PyData.canLay0, PyData.canLayAll0, PyData.depth, PyData.depthAll]
/-- a list of pairs: it rises just when sorted and without repeats it is the same -/
def spRisesP (K : PySem.W.Frag) : Sp := fun vs H Q _ => ∃ (L : Addr) (es : List (Addr × (Int × Int))), vs = [.ref L] ∧ SqL K H L (es.map fun e => V.ref e.1) ∧ (∀ e ∈ es, SqT K H e.1 [.int e.2.1, .int e.2.2]) ∧ es.length ≤ 1000 ∧ ∀ H', Same H H' → Q (.bl (decide ((es.map (·.2)).Pairwise ltP2))) H'
theorem pairs_dpa {H : Hp} : ∀ {es : List (Addr × (Int × Int))}, (∀ e ∈ es, SqT K H e.1 [.int e.2.1, .int e.2.2]) → DpAll K H (es.map fun e => V.ref e.1) ((es.map (·.2)).map pD2)
  | [], _ => .nil
  | e :: es, h => .cons (.tup (h e List.mem_cons_self) (.cons (.int _) (.cons (.int _) .nil))) (pairs_dpa fun g hg => h g (List.mem_cons_of_mem _ hg))
theorem ok_rises (T : Tx K mg base) : FnOk P w K mg base CX0 1 T.rises.f T.rises.fd ["numbers"] (spRisesP K) := by
  refine T.rises.F.ok sc_rises (fun vs H Q E h => ?_) (fun cdv A outer s H vs Q E hr h => ?_)
  · obtain ⟨_, _, rfl, _⟩ := h; rfl
  · obtain ⟨L, es, rfl, hL, ht, few, q⟩ := h
    refine ⟨_, (pss_one (ps_ret (pe_cmpR (op_eqD (hr.units)) (pv 0) (pe_callB (cr_sortedWidew (pd := P) (wd := w) rfl rfl rfl) (by rfl) T.m_sorted (by decide +kernel) (pa_cons (pe_callTy (cr_setWidew (pd := P) (wd := w) rfl rfl rfl hr.units) (by rfl) T.m_set (by decide +kernel) (pa_cons (pv 0) pa_nil)) pa_nil)) (nomark _)))), ?_⟩
    walk_at "rd"
    refine ⟨L, es.map fun e => (e.1, [e.2.1, e.2.2]), rfl, by rw [List.map_map]; exact hL, fun e he => ?_, by rw [List.length_map]; exact few, fun S Ls fS sub all once le => ?_⟩
    · obtain ⟨g, hg, rfl⟩ := List.mem_map.mp he
      exact ht g hg
    have s1 := same_new (o := SetWO P w S Ls) fS
    walk_at "rd"
    have from_ : ∀ e ∈ Ls, ∃ g ∈ es, e = (g.1, [g.2.1, g.2.2]) := fun e he => by
      obtain ⟨g, hg, z⟩ := List.mem_map.mp (sub e he)
      exact ⟨g, hg, z.symm⟩
    refine ⟨S, Ls, rfl, upd_same, fun e he => ?_, fun e he => ?_, fun L' R pm so fR => ?_⟩
    · obtain ⟨g, hg, rfl⟩ := from_ e he
      exact Same.sqt s1 (ht g hg)
    · obtain ⟨g, hg, rfl⟩ := from_ e he
      rfl
    have s2 := Same.trans s1 (same_new (o := .lst (L'.map fun e => V.ref e.1)) fR)
    have eR := upd_same (H := upd H S (SetWO P w S Ls)) (a := R) (o := .lst (L'.map fun e => V.ref e.1))
    generalize upd (upd H S (SetWO P w S Ls)) R _ = H2 at s2 eR ⊢
    have frm : ∀ e ∈ L', ∃ g ∈ es, e = (g.1, [g.2.1, g.2.2]) := fun e he => from_ e (pm.mem_iff.mp he)
    have eL' : L' = (L'.map fun e => (e.1, pk2 e)).map fun e : Addr × (Int × Int) => (e.1, [e.2.1, e.2.2]) := by
      rw [List.map_map]
      conv => lhs; rw [← List.map_id L']
      refine List.map_congr_left fun e he => ?_
      obtain ⟨g, _, rfl⟩ := frm e he
      rfl
    have d1 : Dp K H2 (.ref L) (.list ((es.map (·.2)).map pD2)) := .lst (Same.seq s2 hL) (pairs_dpa fun e he => Same.sqt s2 (ht e he))
    have d2 : Dp K H2 (.ref R) (.list (((L'.map fun e => (e.1, pk2 e)).map (·.2)).map pD2)) := by
      refine .lst (SqL.of (by rw [eR]; rw [List.map_map] <;> rfl)) (pairs_dpa fun e he => ?_)
      obtain ⟨e', he', rfl⟩ := List.mem_map.mp he
      obtain ⟨g, hg, rfl⟩ := frm e' he'
      exact Same.sqt s2 (ht g hg)
    refine ⟨_, _, d1, d2, pD2_good _, pD2_good _, ?_⟩
    have nd' : (L'.map (·.2)).Nodup := (pm.map (·.2)).nodup_iff.mpr once
    have rise : ((L'.map fun e => (e.1, pk2 e)).map (·.2)).Pairwise ltP2 := by
      rw [List.pairwise_map, List.pairwise_map]
      have both := List.Pairwise.and so (List.pairwise_map.mp nd')
      refine List.Pairwise.imp_of_mem (fun {e g} he hg z => ?_) both
      obtain ⟨e', _, rfl⟩ := frm e he
      obtain ⟨g', _, rfl⟩ := frm g hg
      obtain ⟨z1, z2⟩ := z
      have z1 := SrtO.lexB_no.mp z1
      have z2 : ¬ ([e'.2.1, e'.2.2] = [g'.2.1, g'.2.2]) := z2
      simp only [List.cons.injEq, and_true, not_and] at z2
      show ltP2 (e'.2.1, e'.2.2) (g'.2.1, g'.2.2)
      have z1 : ¬ (g'.2.1 < e'.2.1 ∨ (g'.2.1 = e'.2.1 ∧ g'.2.2 < e'.2.2)) := z1
      unfold ltP2
      dsimp only
      by_cases c : e'.2.1 = g'.2.1
      · have := z2 c
        omega
      · omega
    have mem : ∀ x, x ∈ es.map (·.2) ↔ x ∈ (L'.map fun e => (e.1, pk2 e)).map (·.2) := fun x => by
      rw [List.map_map, List.mem_map, List.mem_map]
      constructor
      · rintro ⟨e, he, rfl⟩
        have y := all (e.1, [e.2.1, e.2.2]) (List.mem_map.mpr ⟨e, he, rfl⟩)
        obtain ⟨g, hg, z⟩ := List.mem_map.mp y
        refine ⟨g, pm.mem_iff.mpr hg, ?_⟩
        show pk2 g = e.2
        unfold pk2
        rw [z]
        rfl
      · rintro ⟨e, he, rfl⟩
        obtain ⟨g, hg, rfl⟩ := frm e he
        exact ⟨g, hg, rfl⟩
    have e : PyData.eqv (.list ((es.map (·.2)).map pD2)) (.list (((L'.map fun e => (e.1, pk2 e)).map (·.2)).map pD2)) = decide ((es.map (·.2)).Pairwise ltP2) := by
      simp only [PyData.eqv]
      rw [pD2_eqv]
      exact decide_eq_decide.mpr ⟨fun z => z ▸ rise, fun z => ltP2_ext z rise mem⟩
    rw [e]
    walk_at "rd"
    exact q _ s2
theorem d_chain2 {r r' : R2} {ta tb tc : TE} {σ : L2.St} {H : Hp} {Q : VK} (h : ta σ H fun x H1 => tb σ H1 fun y H2 => r x y H2 fun z H3 => ∃ k, z = .bl k ∧ (if k = true then tc σ H3 fun w' H4 => r' y w' H4 Q else Q (.bl false) H3)) : tChain r r' ta tb tc σ H Q := h
/-- one small letter -/
def spIsLetter : Sp := fun vs H Q _ => ∃ c : Nat, vs = [.str (sg c)] ∧ ∀ H', Same H H' → Q (.bl (decide (97 ≤ c ∧ c ≤ 122))) H'
theorem ok_is_letter (T : Tx K mg base) : FnOk P w K mg base CX0 1 T.is_letter.f T.is_letter.fd ["thing"] spIsLetter := by
  refine T.is_letter.F.ok sc_is_letter (fun vs H Q E h => ?_) (fun cdv A outer s H vs Q E hr h => ?_)
  · obtain ⟨_, rfl, _⟩ := h; rfl
  · obtain ⟨c, rfl, q⟩ := h
    have ea : Str.ofString "a" = sg 97 := by decide +kernel
    have ez : Str.ofString "z" = sg 122 := by decide +kernel
    have le : ∀ a b : Nat, (!decide ((sg b).cps.toList < (sg a).cps.toList)) = decide (a ≤ b) := fun a b => by
      rw [sg_lt, Bool.eq_iff_iff]
      simp
    refine ⟨_, (pss_one (ps_ret (pe_and (pe_cmpR op_isTy (pe_callTy cr_type (by rfl) T.m_type (by decide +kernel) (pa_cons (pv 0) pa_nil)) (pe_bltn (by rfl) T.m_str (by decide +kernel) (v := .ty "str") rfl) (nomark _)) (pe_and (pe_cmpR op_eq (pe_callB call_len_str (by rfl) T.m_len (by decide +kernel) (pa_cons (pv 0) pa_nil)) pe_int (nomark _)) (pe_one (pe_chain op_le_str op_le_str pe_str (pv 0) pe_str)))))), ?_⟩
    walk_at "rd"
    refine d_type (.str _) ?_
    walk_at "rd"
    refine ⟨"str", "str", rfl, rfl, ?_⟩
    walk_at "rd"
    rw [if_pos (by decide)]
    walk_at "rd"
    refine ⟨sz (by show 1 ≤ 100000; decide), ?_⟩
    walk_at "rd"
    rw [if_pos (by exact decide_eq_true rfl)]
    refine d_chain2 ?_
    walk_at "rd"
    refine ⟨_, _, rfl, rfl, ?_⟩
    rw [ea, le]
    refine ⟨_, rfl, ?_⟩
    refine ite2 (fun e => ?_) (fun e => ?_)
    · have e := of_decide_eq_true e
      walk_at "rd"
      refine ⟨_, _, rfl, rfl, ?_⟩
      rw [ez, le]
      have z : decide (c ≤ 122) = decide (97 ≤ c ∧ c ≤ 122) := decide_eq_decide.mpr ⟨fun y => ⟨e, y⟩, fun y => y.2⟩
      rw [z]
      exact q _ (Same.refl _)
    · have z : false = decide (97 ≤ c ∧ c ≤ 122) := (decide_eq_false fun y => e (decide_eq_true y.1)).symm
      rw [z]
      exact q _ (Same.refl _)
def spIsPlace : Sp := fun vs H Q _ => ∃ z n, vs = [.str z, .int n] ∧ z.cps.size ≤ 40 ∧ ∀ H', Same H H' → Q (.bl (decide (0 ≤ n ∧ n < (z.cps.size : Int)))) H'
theorem ok_is_place (T : Tx K mg base) : FnOk P w K mg base CX0 1 T.is_place.f T.is_place.fd ["kinds", "thing"] spIsPlace := by
  refine T.is_place.F.ok sc_is_place (fun vs H Q E h => ?_) (fun cdv A outer s H vs Q E hr h => ?_)
  · obtain ⟨_, _, rfl, _⟩ := h; rfl
  · obtain ⟨z, n, rfl, lz, q⟩ := h
    refine ⟨_, (pss_one (ps_ret (pe_and (pe_cmpR op_isTy (pe_callTy cr_type (by rfl) T.m_type (by decide +kernel) (pa_cons (pv 1) pa_nil)) (pe_bltn (by rfl) T.m_int (by decide +kernel) (v := .ty "int") rfl) (nomark _)) (pe_one (pe_chain op_le op_lt pe_int (pv 1) (pe_callB call_len_str (by rfl) T.m_len (by decide +kernel) (pa_cons (pv 0) pa_nil))))))), ?_⟩
    walk_at "rd"
    refine d_type (.int n) ?_
    walk_at "rd"
    refine ⟨"int", "int", rfl, rfl, ?_⟩
    walk_at "rd"
    rw [if_pos (by decide)]
    refine d_chain2 ?_
    walk_at "rd"
    refine ite2 (fun c => ?_) (fun c => ?_)
    · have c := of_decide_eq_true c
      walk_at "rd"
      refine ⟨sz (by show z.cps.size ≤ 100000; omega), ?_⟩
      walk_at "rd"
      have e : decide (n < (z.length : Int)) = decide (0 ≤ n ∧ n < (z.cps.size : Int)) := decide_eq_decide.mpr ⟨fun x => ⟨c, x⟩, fun x => x.2⟩
      rw [e]
      exact q _ (Same.refl _)
    · have e : false = decide (0 ≤ n ∧ n < (z.cps.size : Int)) := (decide_eq_false fun x => c (decide_eq_true x.1)).symm
      walk_at "rd"
      rw [e]
      exact q _ (Same.refl _)
/-- a tie of a web is one -/
def spIsTie (K : PySem.W.Frag) : Sp := fun vs H Q _ => ∃ (u : Web) (v : V) (t : Tie), vs = [.str ⟨u.1.toArray⟩, v] ∧ u.1.length ≤ 40 ∧ TieAt K H v t ∧ t.1 < t.2.1 ∧ t.2.1 < u.1.length ∧ Ltr t.2.2 ∧ ∀ H', Same H H' → Q (.bl true) H'
theorem ok_is_tie (T : Tx K mg base) : FnOk P w K mg base CX0 2 T.is_tie.f T.is_tie.fd ["kinds", "thing"] (spIsTie K) := by
  refine T.is_tie.F.ok sc_is_tie (fun vs H Q E h => ?_) (fun cdv A outer s H vs Q E hr h => ?_)
  · obtain ⟨_, _, _, rfl, _⟩ := h; rfl
  · obtain ⟨u, v, t, rfl, l40, ⟨a, rfl, qt⟩, h1, h2, h3, q⟩ := h
    have sz1 : (⟨u.1.toArray⟩ : Str).cps.size = u.1.length := by show u.1.toArray.size = _; simp
    refine ⟨_, (pss_cons (ps_if (PW.pt (pw_or (pt_cmpR op_isNotTy (pe_callTy cr_type (by rfl) T.m_type (by decide +kernel) (pa_cons (pv 1) pa_nil)) (pe_bltn (by rfl) T.m_tuple (by decide +kernel) (v := .ty "tuple") rfl) (nomark _)) (pw_or1 (pt_cmpR op_ne (pe_callB call_len_seq (by rfl) T.m_len (by decide +kernel) (pa_cons (pv 1) pa_nil)) pe_int (nomark _)))))
        (pss_one (ps_ret pe_bl))
        pss_nil)
      (pss_cons (ps_asg (pv 1) (pg_tup rfl (pgs_cons (pg_name (i := 2) sc_is_tie.nd rfl (.inl rfl)) (pgs_cons (pg_name (i := 3) sc_is_tie.nd rfl (.inl rfl)) (pgs_cons (pg_name (i := 4) sc_is_tie.nd rfl (.inl rfl)) pgs_nil)))))
      (pss_cons (ps_if (PW.pt (pw_or (pt_not (pt_val (pe_call (ok_is_place T) (hr.mono (by decide)) (by rfl) T.is_place.g T.is_place.F.kp T.is_place.b .nil pass0 (pa_cons (pv 0) (pa_cons (pv 2) pa_nil))))) (pw_or1 (pt_not (pt_val (pe_call (ok_is_place T) (hr.mono (by decide)) (by rfl) T.is_place.g T.is_place.F.kp T.is_place.b .nil pass0 (pa_cons (pv 0) (pa_cons (pv 3) pa_nil))))))))
        (pss_one (ps_ret pe_bl))
        pss_nil)
      (pss_one (ps_ret (pe_and (pe_cmpR op_lt (pv 2) (pv 3) (nomark _)) (pe_one (pe_call (ok_is_letter T) (hr.mono (by decide)) (by rfl) T.is_letter.g T.is_letter.F.kp T.is_letter.b .nil pass0 (pa_cons (pv 4) pa_nil))))))))), ?_⟩
    walk_at "rd"
    refine d_type (.tup qt) ?_
    walk_at "rd"
    refine ⟨"tuple", "tuple", rfl, rfl, ?_⟩
    walk_at "rd"
    refine iteNS rfl ?_
    walk_at "rd"
    refine d_lenT qt ?_
    walk_at "rd"
    refine iteNS rfl ?_
    walk_at "rd"
    refine d_gtup qt rfl ?_
    walk_at "rd"
    refine ⟨_, _, rfl, by rw [sz1]; exact l40, fun H1 s1 => ?_⟩
    rw [sz1, decide_eq_true (show (0 : Int) ≤ (t.1 : Nat) ∧ ((t.1 : Nat) : Int) < (u.1.length : Nat) from ⟨by omega, by omega⟩)]
    walk_at "rd"
    refine ⟨_, _, rfl, by rw [sz1]; exact l40, fun H2 s2 => ?_⟩
    rw [sz1, decide_eq_true (show (0 : Int) ≤ (t.2.1 : Nat) ∧ ((t.2.1 : Nat) : Int) < (u.1.length : Nat) from ⟨by omega, by omega⟩)]
    walk_at "rd"
    rw [decide_eq_true (show ((t.1 : Nat) : Int) < ((t.2.1 : Nat) : Int) by omega)]
    walk_at "rd"
    refine ⟨_, rfl, fun H3 s3 => ?_⟩
    rw [decide_eq_true (show 97 ≤ t.2.2 ∧ t.2.2 ≤ 122 from h3)]
    exact q _ (Same.trans s1 (Same.trans s2 s3))
def trg : Nat → Nat
  | 0 => 0
  | b + 1 => trg b + b
theorem trg_le {b c : Nat} (h : b ≤ c) : trg b ≤ trg c := by
  induction c with
  | zero => rw [show b = 0 by omega]; exact Nat.le_refl _
  | succ c ih =>
    rcases Nat.lt_or_ge b (c + 1) with lt | ge
    · exact Nat.le_trans (ih (by omega)) (by show trg c ≤ trg c + c; omega)
    · rw [show b = c + 1 by omega]; exact Nat.le_refl _
/-- a web has at most so many ties -/
theorem ties_780 {u : Web} (W : WOk u) : u.2.length ≤ 780 := by
  have l40 := W.few
  have h := nodup_len 780 (u.2.map fun t => trg t.2.1 + t.1) ?_ ?_
  · rwa [List.length_map] at h
  · unfold List.Nodup
    rw [List.pairwise_map]
    refine W.rise.imp_of_mem fun {x y} hx hy lt z => ?_
    obtain ⟨a1, _, _⟩ := W.ends x hx
    obtain ⟨b1, _, _⟩ := W.ends y hy
    have step : ∀ c, trg (c + 1) = trg c + c := fun c => rfl
    rcases Nat.lt_trichotomy x.2.1 y.2.1 with c | c | c
    · have := trg_le (show x.2.1 + 1 ≤ y.2.1 by omega)
      rw [step] at this
      omega
    · rw [c] at z
      unfold tlt at lt
      omega
    · have := trg_le (show y.2.1 + 1 ≤ x.2.1 by omega)
      rw [step] at this
      omega
  · intro x hx
    obtain ⟨t, ht, rfl⟩ := List.mem_map.mp hx
    obtain ⟨h1, h2, _⟩ := W.ends t ht
    have := trg_le (show t.2.1 + 1 ≤ 40 by omega)
    have e : trg (t.2.1 + 1) = trg t.2.1 + t.2.1 := rfl
    have e40 : trg 40 = 780 := by decide
    omega
/-- a web is one -/
def spIsWeb (K : PySem.W.Frag) (P : Addr) : Sp := fun vs H Q _ => ∃ (v : V) (u : Web), vs = [v] ∧ H P = some (TbX P) ∧ WebAt K H v u ∧ WOk u ∧ ∀ H', Same H H' → Q (.bl true) H'
theorem ok_is_web (T : Tx K mg base) : FnOk P w K mg base CX0 4 T.is_web.f T.is_web.fd ["thing"] (spIsWeb K T.P_is_web) := by
  refine funOkT T.hc_is_web T.is_web.F sc_is_web (fun vs H Q E h => ?_) (fun A outer s H vs Q E hr h => ?_)
  · obtain ⟨_, _, rfl, _⟩ := h; rfl
  · obtain ⟨v, u, rfl, tab, ⟨a, b, tvs, rfl, qa, qb, pt⟩, W, q⟩ := h
    have l40 := W.few
    have l16 := W.most
    have lt : tvs.length = u.2.length := Paired.length pt
    refine ⟨_, (pss_cons (ps_if (PW.pt (pw_or (pt_cmpR op_isNotTy (pe_callTy cr_type (by rfl) T.m_type (by decide +kernel) (pa_cons (pv 0) pa_nil)) (pe_bltn (by rfl) T.m_tuple (by decide +kernel) (v := .ty "tuple") rfl) (nomark _)) (pw_or1 (pt_cmpR op_ne (pe_callB call_len_seq (by rfl) T.m_len (by decide +kernel) (pa_cons (pv 0) pa_nil)) pe_int (nomark _)))))
        (pss_one (ps_ret pe_bl))
        pss_nil)
      (pss_cons (ps_asg (pv 0) (pg_tup rfl (pgs_cons (pg_name (i := 1) sc_is_web.nd rfl (.inr rfl)) (pgs_cons (pg_name (i := 2) sc_is_web.nd rfl (.inl rfl)) pgs_nil))))
      (pss_cons (ps_if (PW.pt (pw_or (pt_cmpR op_isNotTy (pe_callTy cr_type (by rfl) T.m_type (by decide +kernel) (pa_cons (pv 1) pa_nil)) (pe_bltn (by rfl) T.m_str (by decide +kernel) (v := .ty "str") rfl) (nomark _)) (pw_or1 (pt_cmpR op_isNotTy (pe_callTy cr_type (by rfl) T.m_type (by decide +kernel) (pa_cons (pv 2) pa_nil)) (pe_bltn (by rfl) T.m_tuple (by decide +kernel) (v := .ty "tuple") rfl) (nomark _)))))
        (pss_one (ps_ret pe_bl))
        pss_nil)
      (pss_cons (ps_if (pt_not (pt_val (pe_all (g := gName 3) (te := _) (own := [("sign", 3)]) hr rfl sc_is_web.nd (by rfl) T.m_all (by decide +kernel) T.tb_is_web rfl (blkOk_by (N := ["thing", "kinds", "ties", "sign", "tie"]) (sc := defScope s_is_web) (by decide +kernel)) (by decide +kernel) rfl rfl (pi_str (pv 1)) (fun _ _ _ _ _ _ => (pg_name (i := 3) sc_is_web.nd rfl (.inl rfl))) (fun _ _ _ _ _ _ hr => (pe_call (ok_is_letter T) (hr.mono (by decide)) (by rfl) T.is_letter.g T.is_letter.F.kp T.is_letter.b .nil pass0 (pa_cons (pv 3) pa_nil))))))
        (pss_one (ps_ret pe_bl))
        pss_nil)
      (pss_cons (ps_if (pt_not (pt_val (pe_all (g := gName 4) (te := _) (own := [("tie", 4)]) hr rfl sc_is_web.nd (by rfl) T.m_all (by decide +kernel) T.tb_is_web rfl (blkOk_by (N := ["thing", "kinds", "ties", "sign", "tie"]) (sc := defScope s_is_web) (by decide +kernel)) (by decide +kernel) rfl rfl (pi_tup (pv 2)) (fun _ _ _ _ _ _ => (pg_name (i := 4) sc_is_web.nd rfl (.inl rfl))) (fun _ _ _ _ _ _ hr => (pe_call (ok_is_tie T) (hr.mono (by decide)) (by rfl) T.is_tie.g T.is_tie.F.kp T.is_tie.b .nil pass0 (pa_cons (pv 1) (pa_cons (pv 4) pa_nil)))))))
        (pss_one (ps_ret pe_bl))
        pss_nil)
      (pss_one (ps_ret (pe_call (ok_rises T) (hr.mono (by decide)) (by rfl) T.rises.g T.rises.F.kp T.rises.b .nil pass0 (pa_cons (pe_lc (own := [("tie", 4)]) (g := gName 4) (tt := tYes) (te := tTup (tCons (tOp (rIxT K) (tVar 4) (tC (.int 0))) (tCons (tOp (rIxT K) (tVar 4) (tC (.int 1))) tNil))) rfl sc_is_web.nd (pi_tup (pv 2)) (blkOk_by (N := ["thing", "kinds", "ties", "sign", "tie"]) (sc := defScope s_is_web) (by decide +kernel)) (fun _ _ _ _ _ => (pg_name (i := 4) sc_is_web.nd rfl (.inl rfl))) (fun _ _ _ _ _ => pts_nil) (fun _ _ _ _ _ => (pe_tup (pa_cons (pe_ix ix_tup (pv 4) pe_int (fun _ _ => rfl)) (pa_cons (pe_ix ix_tup (pv 4) pe_int (fun _ _ => rfl)) pa_nil))))) pa_nil))))))))), ?_⟩
    walk_at "rd"
    refine d_type (.tup qa) ?_
    walk_at "rd"
    refine ⟨"tuple", "tuple", rfl, rfl, ?_⟩
    walk_at "rd"
    refine iteNS rfl ?_
    walk_at "rd"
    refine d_lenT qa ?_
    walk_at "rd"
    refine iteNS rfl ?_
    walk_at "rd"
    refine d_gtup qa rfl ?_
    walk_at "rd"
    refine d_type (.str _) ?_
    walk_at "rd"
    refine ⟨"str", "str", rfl, rfl, ?_⟩
    walk_at "rd"
    refine iteNS rfl ?_
    walk_at "rd"
    refine d_type (.tup qb) ?_
    walk_at "rd"
    refine ⟨"tuple", "tuple", rfl, rfl, ?_⟩
    walk_at "rd"
    refine iteNS rfl ?_
    walk_at "rd"
    refine d_aa ?_
    walk_at "rd"
    refine ⟨tab, aa_it (walk_str (z := ⟨u.1.toArray⟩)) (fun i H' => Same H H') (Same.refl _) (fun i H' _ s => trivial) (fun i x H1 H2 hi s1 y => ?_) (fun H1 s1 => ?_)⟩
    · obtain ⟨rfl, c, hc, rfl⟩ := y
      have hc' : u.1[i]? = some c := by simpa using hc
      have kc := W.kinds c (List.mem_of_getElem? hc')
      walk_at "rd"
      refine ⟨c, rfl, fun H3 s3 => ?_⟩
      rw [decide_eq_true (show 97 ≤ c ∧ c ≤ 122 from kc)]
      exact ⟨true, rfl, (fun z => nomatch z), fun _ => Same.trans s1 s3⟩
    · walk_at "rd"
      refine iteF ?_
      walk_at "rd"
      refine d_aa ?_
      walk_at "rd"
      refine d_iTe (Same.sqt s1 qb) ?_
      refine ⟨s1 _ _ tab, aa_it (walk_tup (K := K) (a := b) (xs := tvs)) (fun i H' => Same H1 H') (Same.refl _) (fun i H' _ s => Same.sqt (Same.trans s1 s) qb) (fun i x H2 H3 hi s2 y => ?_) (fun H2 s2 => ?_)⟩
      · obtain ⟨rfl, hx⟩ := y
        obtain ⟨t, ht, zt⟩ := Paired.at pt hx
        obtain ⟨h1, h2, h3⟩ := W.ends t (List.mem_of_getElem? ht)
        walk_at "rd"
        refine ⟨u, x, t, rfl, l40, zt.same (Same.trans s1 s2), h1, h2, h3, fun H4 s4 => ?_⟩
        exact ⟨true, rfl, (fun z => nomatch z), fun _ => Same.trans s2 s4⟩
      · have s12 := Same.trans s1 s2
        walk_at "rd"
        refine iteF ?_
        walk_at "rd"
        refine d_iTe (Same.sqt s12 qb) ?_
        intro D fD
        refine lc_it (walk_tup (K := K) (a := b) (xs := tvs)) (fun i H3 => ∃ es : List (Addr × (Int × Int)), H3 D = some (.lst (es.map fun e => V.ref e.1)) ∧ Same H2 H3 ∧ es.map (·.2) = (u.2.take i).map (fun t => ((t.1 : Int), (t.2.1 : Int))) ∧ ∀ e ∈ es, SqT K H3 e.1 [.int e.2.1, .int e.2.2])
          ⟨[], upd_same, same_new fD, rfl, by simp⟩ (fun i H3 hi hP => ?_) (fun i x H3' H3 hi hP hy => ?_) (fun H3 hP => ?_)
        · obtain ⟨_, _, s3, _⟩ := hP
          exact Same.sqt (Same.trans s12 s3) qb
        · obtain ⟨es, eD, s3, ee, ht⟩ := hP
          obtain ⟨rfl, hx⟩ := hy
          obtain ⟨t, htt, c, rfl, qt⟩ := Paired.at pt hx
          have qt3 := Same.sqt (Same.trans s12 s3) qt
          have le : es.length ≤ 1600 := by
            have z := congrArg List.length ee
            rw [List.length_map, List.length_map] at z
            have := List.length_take_le i u.2
            omega
          walk_at "rd"
          refine d_ixT qt3 rfl ?_
          walk_at "rd"
          refine d_ixT qt3 rfl ?_
          walk_at "rd"
          refine ⟨sz (by show 2 ≤ 100000; decide), fun p fp => ?_⟩
          have npD : p ≠ D := (ne_of_none eD fp).symm
          refine ⟨_, at_upd eD fp, szl (by rw [List.length_map]; omega), es ++ [(p, ((t.1 : Int), (t.2.1 : Int)))], by rw [upd_same, List.map_append]; rfl, same_upd (same_upd s3 (Same.free s3 fp)) fD, by rw [List.map_append, ee, take_snoc htt, List.map_append]; rfl, fun e he => ?_⟩
          have s4 := same_new (o := .tup [V.int (t.1 : Nat), V.int (t.2.1 : Nat)]) fp
          rcases List.mem_append.mp he with he | he
          · have y := Same.sqt s4 (ht e he)
            have eD4 := at_upd (u := .tup [V.int (t.1 : Nat), V.int (t.2.1 : Nat)]) eD fp
            exact sqt_upd (.inr ⟨_, eD4⟩) y
          · rw [List.mem_singleton.mp he]
            exact SqT.of (by rw [upd_ne npD, upd_same])
        · obtain ⟨es, eD, s3, ee, ht⟩ := hP
          rw [lt, List.take_length] at ee
          walk_at "rd"
          refine ⟨D, es, rfl, SqL.of eD, ht, ?_, fun H4 s4 => ?_⟩
          · have z := congrArg List.length ee
            rw [List.length_map, List.length_map] at z
            have := ties_780 W
            omega
          · have ri : (es.map (·.2)).Pairwise ltP2 := by
              rw [ee, List.pairwise_map]
              refine W.rise.imp fun {x y} h => ?_
              unfold tlt at h
              unfold ltP2
              dsimp only
              omega
            rw [decide_eq_true ri]
            exact q _ (Same.trans s12 (Same.trans s3 s4))
theorem ln_none : (Str.ofString "").length = 0 := by decide +kernel
/-- the lines as they are parted -/
theorem parted (u : Web) (W : WOk u) : ∀ (i : Nat) (x : Str), (linesS u ++ [Str.ofString ""])[i]? = some x → ∃ ws, (wordsL u)[i]? = some ws ∧ Txt.split x spS = ws ∧ x.length + 2 ≤ sizeLine := by
  have e : wordsL u = (linesS u ++ [Str.ofString ""]).map fun x => Txt.split x spS := by
    unfold wordsL linesS
    rw [List.map_append, List.map_append, List.map_map, List.map_map, List.map_cons, List.map_nil, split_none]
    congr 1
    congr 1
    · exact List.map_congr_left fun c hc => (split_place (W.kinds c hc)).symm
    · exact List.map_congr_left fun t ht => (split_tie (W.ends t ht).2.2).symm
  intro i x hx
  refine ⟨_, by rw [e, List.getElem?_map, hx]; rfl, rfl, ?_⟩
  have small : x.length ≤ 100 := by
    rcases List.mem_append.mp (List.mem_of_getElem? hx) with hx | hx
    · unfold linesS at hx
      rcases List.mem_append.mp hx with hx | hx
      · obtain ⟨c, _, rfl⟩ := List.mem_map.mp hx
        have := len_place c
        rw [app_len] at this
        omega
      · obtain ⟨t, ht, rfl⟩ := List.mem_map.mp hx
        have en := W.ends t ht
        have := W.few
        have := len_tie (t := t) (by omega) (by omega)
        rw [app_len] at this
        omega
    · rw [List.mem_singleton.mp hx, ln_none]; omega
  exact sz (by omega)
theorem paired_mem {α β : Type} {F G : α → β → Prop} : ∀ {xs : List α} {ys : List β}, Paired F xs ys → (∀ a ∈ xs, ∀ b, F a b → G a b) → Paired G xs ys
  | _, _, .nil, _ => .nil
  | _, _, .cons a t, h => .cons (h _ List.mem_cons_self _ a) (paired_mem t fun x hx => h x (List.mem_cons_of_mem _ hx))
/-- a web read -/
def spRead (K : PySem.W.Frag) (P1 : Addr) : Sp := fun vs H Q _ => ∃ u, vs = [.str (webS u)] ∧ H P1 = some (TbX P1) ∧ WOk u ∧ ∀ H' v, Same H H' → WebAt K H' v u → Q v H'
theorem ok_read_web (T : Tx K mg base) : FnOk P w K mg base CX0 5 T.read_web.f T.read_web.fd ["text"] (spRead K T.P_is_web) := by
  refine T.read_web.F.ok sc_read_web (fun vs H Q E h => ?_) (fun cdv A outer s H vs Q E hr h => ?_)
  · obtain ⟨_, rfl, _⟩ := h; rfl
  · obtain ⟨u, rfl, tb, W, q⟩ := h
    have l16 := W.most
    have l40 := W.few
    refine ⟨_, (pss_cons (ps_if (pt_cmpR op_isNotTy (pe_callTy cr_type (by rfl) T.m_type (by decide +kernel) (pa_cons (pv 0) pa_nil)) (pe_bltn (by rfl) T.m_str (by decide +kernel) (v := .ty "str") rfl) (nomark _))
        (pss_one ps_dead)
        pss_nil)
      (pss_cons (ps_set (i := 1) sc_read_web.nd rfl (.inl rfl) (pe_call (ok_web_of T) (hr.mono (by decide)) (by rfl) T.web_of.g T.web_of.F.kp T.web_of.b .nil pass0 (pa_cons (pe_lc (own := [("line", 2)]) (g := gName 2) (tt := tYes) (te := tM1 (fun x xs H Q => ∃ a b, x = .str a ∧ xs = [.str b] ∧ (b.length == 0) = false ∧ a.length + 2 ≤ sizeLine ∧ rNewStrs (Txt.split a b) H Q) (tVar 2) (tC (.str (Str.ofString " ")))) rfl sc_read_web.nd (pi_list (pe_split (pv 0) pe_str)) (blkOk_by (N := ["text", "web", "line"]) (sc := defScope s_read_web) (by decide +kernel)) (fun _ _ _ _ _ => (pg_name (i := 2) sc_read_web.nd rfl (.inl rfl))) (fun _ _ _ _ _ => pts_nil) (fun _ _ _ _ _ => (pe_split (pv 2) pe_str))) pa_nil)))
      (pss_cons (ps_if (PW.pt (pw_or (pt_not (pt_val (pe_call (ok_is_web T) (hr.mono (by decide)) (by rfl) T.is_web.g T.is_web.F.kp T.is_web.b .nil pass0 (pa_cons (pv 1) pa_nil)))) (pw_or1 (pt_cmpR op_ne (pe_call (ok_show_web T) (hr.mono (by decide)) (by rfl) T.show_web.g T.show_web.F.kp T.show_web.b .nil pass0 (pa_cons (pv 1) pa_nil)) (pv 0) (nomark _)))))
        (pss_one ps_dead)
        pss_nil)
      (pss_one (ps_ret (pv 1)))))), ?_⟩
    walk_at "rd"
    refine d_type (.str _) ?_
    walk_at "rd"
    refine ⟨"str", "str", rfl, rfl, ?_⟩
    walk_at "rd"
    refine iteNS rfl ?_
    walk_at "rd"
    refine ⟨webS u, nlS, rfl, rfl, by decide +kernel, sz (by have := webS_len W; omega), fun S fS => ?_⟩
    rw [split_web W]
    have sS := same_new (o := .lst ((linesS u ++ [Str.ofString ""]).map V.str)) fS
    have eS := upd_same (H := H) (a := S) (o := .lst ((linesS u ++ [Str.ofString ""]).map V.str))
    have ll : (linesS u ++ [Str.ofString ""]).length = u.1.length + u.2.length + 1 := by
      unfold linesS
      rw [List.length_append, List.length_append, List.length_map, List.length_map, List.length_singleton]
    generalize upd H S _ = H1 at sS eS ⊢
    refine d_iLe (SqL.of eS) ?_
    intro D fD
    refine lc_it (walk_list (K := K) (a := S) (xs := (linesS u ++ [Str.ofString ""]).map V.str)) (fun i H2 => ∃ acc, H2 D = some (.lst acc) ∧ Paired (fun v ws => WordsAt H2 v ws ∧ v ≠ .ref D) acc ((wordsL u).take i) ∧ Same H1 H2) ⟨[], upd_same, .nil, same_new fD⟩ (fun i H2 _ hP => SqL.of (hP.choose_spec.2.2 _ _ eS)) (fun i x H3 H2 hi hP hy => ?_) (fun H2 hP => ?_)
    · obtain ⟨acc, eD, pW, s2⟩ := hP
      obtain ⟨rfl, hx⟩ := hy
      rw [List.getElem?_map] at hx
      obtain ⟨z, hz, rfl⟩ := Option.map_eq_some_iff.mp hx
      obtain ⟨ws, hws, spl, lz⟩ := parted u W i z hz
      have la : acc.length ≤ 1641 := by
        have := Paired.length pW
        rw [List.length_take, words_len] at this
        omega
      walk_at "rd"
      refine ⟨z, spS, rfl, rfl, by decide +kernel, lz, fun p fp => ?_⟩
      rw [spl]
      have eD2 := at_upd (u := .lst (ws.map V.str)) eD fp
      have nDp : D ≠ p := ne_of_none eD fp
      refine ⟨acc, eD2, szl (by omega), acc ++ [.ref p], upd_same, ?_, same_upd (same_upd s2 (Same.free s2 fp)) fD⟩
      rw [take_snoc hws]
      refine Paired.snoc (paired_mem pW fun v hv ws' x => ?_) ⟨⟨p, rfl, by rw [upd_ne (Ne.symm nDp), upd_same]⟩, fun z => nDp (V.ref.inj z).symm⟩
      obtain ⟨⟨p', rfl, e'⟩, n'⟩ := x
      refine ⟨⟨p', rfl, ?_⟩, n'⟩
      rw [upd_ne (fun z => n' (by rw [z])), upd_ne (ne_of_none e' fp)]
      exact e'
    · obtain ⟨acc, eD, pW, s2⟩ := hP
      rw [List.length_map, ll, ← words_len, List.take_length] at pW
      have s12 := Same.trans sS s2
      walk_at "rd"
      refine ⟨D, acc, u, rfl, eD, Paired.imp pW fun _ _ z => z.1, W, fun H3 v s3 hw => ?_⟩
      have s13 := Same.trans s12 s3
      walk_at "rd"
      refine ⟨v, u, rfl, s13 _ _ tb, hw, W, fun H4 s4 => ?_⟩
      walk_at "rd"
      refine ⟨v, u, rfl, hw.same s4, W, fun H5 s5 => ?_⟩
      walk_at "rd"
      refine ⟨rfl, ?_⟩
      refine ⟨_, rfl, ?_⟩
      rw [show (!decide (V.str (webS u) = V.str (webS u))) = false by simp]
      refine iteF ?_
      walk_at "rd"
      exact q _ v (Same.trans s13 (Same.trans s4 s5)) (hw.same (Same.trans s4 s5))
open LamX NdefX
def spRow : Sp := fun vs H Q _ => ∃ c : Int, vs = [.int c] ∧ ∀ H' h, Same H H' → H h = none → Row H' h → Q (.ref h) H'
theorem ok_row (T : Tx K mg base) : FnOk P w K mg base CX0 1 T.row.f T.row.fd ["cell"] spRow := by
  refine T.row.F.ok sc_row (fun vs H Q E h => ?_) (fun cdv A outer s H vs Q E hr h => ?_)
  · obtain ⟨c, rfl, _⟩ := h; rfl
  · obtain ⟨c, rfl, q⟩ := h
    refine ⟨_, (pss_one (ps_ret (pe_lst (pa_cons (pv 0) (pa_cons (pe_op op_mod (pv 0) pe_int) pa_nil))))), ?_⟩
    walk_at "rd"
    refine ⟨sz (by show 2 ≤ 100000; decide), fun p fp => ?_⟩
    exact q _ p (same_new fp) fp ⟨_, _, upd_same, rmod_lo _ (by decide), rmod_hi _ (by decide)⟩
def spTake : Sp := fun vs H Q _ => ∃ (h : Addr) (n : Int), vs = [.ref h, .int n] ∧ 0 < n ∧ n ≤ 1000 ∧ Row H h ∧ ∀ H' (g : Int), Keep h H H' → Row H' h → 0 ≤ g → g < n → Q (.int g) H'
theorem ok_take (T : Tx K mg base) : FnOk P w K mg base CX0 1 T.take.f T.take.fd ["row", "many"] spTake := by
  refine T.take.F.ok sc_take (fun vs H Q E h => ?_) (fun cdv A outer s H vs Q E hr h => ?_)
  · obtain ⟨c, k, rfl, _⟩ := h; rfl
  · obtain ⟨h, n, rfl, n0, n1, ⟨a, b, hH, b0, b1⟩, q⟩ := h
    refine ⟨_, (pss_cons (ps_if (pt_cmpR op_gt (pe_ix ix_list (pv 0) pe_int (fun _ _ => rfl)) (pe_op op_pow pe_int pe_int) (nomark _))
        (pss_cons (ps_set (i := 2) sc_take.nd rfl (.inl rfl) (pe_op op_mod (pe_ix ix_list (pv 0) pe_int (fun _ _ => rfl)) (pv 1)))
        (pss_cons (ps_asg (pe_op op_fdiv (pe_ix ix_list (pv 0) pe_int (fun _ _ => rfl)) (pv 1)) (pg_sub (pv 0) pe_int set_list))
        (pss_one (ps_ret (pv 2)))))
        pss_nil)
      (pss_cons (ps_asg (pe_op op_mod (pe_op op_add (pe_op op_add (pe_op op_mul (pe_ix ix_list (pv 0) pe_int (fun _ _ => rfl)) (pe_ix ix_list (pv 0) pe_int (fun _ _ => rfl))) (pe_op op_mul pe_int (pe_ix ix_list (pv 0) pe_int (fun _ _ => rfl)))) pe_int) pe_int) (pg_sub (pv 0) pe_int set_list))
      (pss_one (ps_ret (pe_op op_mod (pe_op op_fdiv (pe_ix ix_list (pv 0) pe_int (fun _ _ => rfl)) pe_int) (pv 1)))))), ?_⟩
    walk_at "rd"
    refine ite2 (fun e => ?_) (fun e => ?_)
    · walk_at "rd"
      exact q _ _ Keep.put ⟨_, _, upd_same, b0, b1⟩ (rmod_lo _ n0) (rmod_hi _ n0)
    · walk_at "rd"
      exact q _ _ Keep.put ⟨_, _, upd_same, rmod_lo _ (by decide), rmod_hi _ (by decide)⟩ (rmod_lo _ n0) (rmod_hi _ n0)
/-- the places in a drawn order -/
def spOrder : Sp := fun vs H Q _ => ∃ (h : Addr) (n : Nat), vs = [.ref h, .int (n : Nat)] ∧ n ≤ 900 ∧ Row H h ∧ ∀ H' (p : Addr) (qs : List Nat), Keep h H H' → Row H' h → H p = none → H' p = some (.lst (qs.map fun q => V.int (q : Nat))) → qs.Perm (List.range n) → Q (.ref p) H'
theorem ok_order (T : Tx K mg base) : FnOk P w K mg base CX0 2 T.order.f T.order.fd ["row", "many"] spOrder := by
  refine T.order.F.ok sc_order (fun vs H Q E h => ?_) (fun cdv A outer s H vs Q E hr h => ?_)
  · obtain ⟨h, n, rfl, _⟩ := h; rfl
  · obtain ⟨h, n, rfl, n1, hh, q⟩ := h
    refine ⟨_, (pss_cons (ps_set (i := 2) sc_order.nd rfl (.inl rfl) (pe_lst pa_nil))
      (pss_cons (ps_for PassesOwn.never rfl (pi_range1 (by rfl) T.m_range (pa_cons (pv 1) pa_nil)) (pg_name (i := 3) sc_order.nd rfl (.inl rfl))
        (pss_one (ps_expr (pe_bm PySem.F.plainAttrs_list PySem.F.slot_list_insert PySem.F.type_list_insert mt_insert (pv 2) (pa_cons (pe_call (ok_take T) (hr.mono (by decide)) (by rfl) T.take.g T.take.F.kp T.take.b .nil pass0 (pa_cons (pv 0) (pa_cons (pe_op op_add (pe_callB call_len_seq (by rfl) T.m_len (by decide +kernel) (pa_cons (pv 2) pa_nil)) pe_int) pa_nil))) (pa_cons (pv 3) pa_nil))))))
      (pss_one (ps_ret (pv 2))))), ?_⟩
    walk_at "rd"
    refine ⟨sz (by decide), fun D fD => ?_⟩
    have nD := hh.ne fD
    walk_at "rd"
    refine for_range (fun i σ H' => ∃ y3, ∃ gs : List Nat, σ = [some (.ref h), some (.int (n : Nat)), some (.ref D), y3] ∧ gs.Perm (List.range i) ∧ H' D = some (.lst (gs.map fun q => V.int (q : Nat))) ∧ Keep h H H' ∧ Row H' h)
      ⟨_, [], rfl, List.Perm.refl _, upd_same, Same.keep (same_new fD), hh.put nD⟩ (fun i σ H' hi hP => ?_) (fun σ H' hP => ?_)
    · obtain ⟨y3, gs, rfl, pm, eD, kk, hh'⟩ := hP
      have lg := pm.length_eq
      rw [List.length_range] at lg
      have hi : i < n := by simpa using hi
      rw [Int.zero_add (i : Int)]
      walk_at "rd"
      refine ⟨.inl ⟨rfl, _, SqL.of eD⟩, ?_⟩
      walk_at "rd"
      refine d_lenL (SqL.of eD) ?_
      rw [List.length_map]
      walk_at "rd"
      refine ⟨h, ((gs.length : Nat) : Int) + 1, rfl, by omega, by omega, hh', fun H2 g k2 hh2 g0 g1 => ?_⟩
      walk_at "rd"
      obtain ⟨m, rfl⟩ := Int.eq_ofNat_of_zero_le g0
      have eD2 := k2 D _ nD eD
      refine ⟨D, _, (m : Nat), .int (i : Nat), rfl, rfl, eD2, szl (by rw [List.length_map]; omega), by omega, by omega, ?_⟩
      rw [Int.toNat_natCast]
      refine ⟨_, gs.take m ++ [i] ++ gs.drop m, rfl, ?_, ?_, Keep.new (Keep.trans kk k2) fD, hh2.put nD⟩
      · have h1 : (gs.take m ++ [i] ++ gs.drop m).Perm (gs ++ [i]) := by
          have : (gs.take m ++ ([i] ++ gs.drop m)).Perm (gs.take m ++ (gs.drop m ++ [i])) := List.Perm.append_left _ List.perm_append_comm
          rw [← List.append_assoc, ← List.append_assoc, List.take_append_drop] at this
          exact this
        rw [List.range_succ]
        exact h1.trans (pm.append_right [i])
      · rw [upd_same, List.map_append, List.map_append, List.map_take, List.map_drop]; rfl
    · obtain ⟨y3, gs, rfl, pm, eD, kk, hh'⟩ := hP
      walk_at "rd"
      rw [show ((n : Nat) : Int).toNat = n by omega] at pm
      exact q H' D gs kk hh' fD eD pm
/-- a web with its places in another order -/
def spTurned (K : PySem.W.Frag) : Sp := fun vs H Q _ => ∃ v w, ∃ (o : Addr) (os : List Nat), vs = [v, .ref o] ∧ WebAt K H v w ∧ WOk w ∧ H o = some (.lst (os.map fun q => V.int (q : Nat))) ∧ Ord os w.1.length ∧
  ∀ H' v' w', Same H H' → WebAt K H' v' w' → WOk w' → Named w (invL os w.1.length) w' → Q v' H'
theorem ok_turned (T : Tx K mg base) : FnOk P w K mg base CX0 1 T.turned.f T.turned.fd ["web", "order"] (spTurned K) := by
  refine T.turned.F.ok sc_turned (fun vs H Q E h => ?_) (fun cdv A outer s H vs Q E hr h => ?_)
  · obtain ⟨_, _, _, _, rfl, _⟩ := h; rfl
  · obtain ⟨v, w, o, os, rfl, ⟨a, b, tvs, rfl, q1, q2, pT⟩, W, eO, oo, q⟩ := h
    have lt : tvs.length = w.2.length := Paired.length pT
    have l16 := W.most
    have l40 := W.few
    have ndo := oo.nd
    have lo := oo.len
    have io := inv_ord oo
    refine ⟨_, (pss_cons (ps_set (i := 2) sc_turned.nd rfl (.inl rfl) (pe_callTy (call_dictP rfl) (by rfl) T.m_dict (by decide +kernel) (pa_cons (pe_lc (own := [("k", 8)]) (g := gName 8) (tt := tYes) (te := tTup (tCons (tOp (rIxL K) (tVar 1) (tVar 8)) (tCons (tVar 8) tNil))) rfl sc_turned.nd (pi_range1 (by rfl) T.m_range (pa_cons (pe_callB call_len_seq (by rfl) T.m_len (by decide +kernel) (pa_cons (pv 1) pa_nil)) pa_nil)) (blkOk_by (N := ["web", "order", "called", "ties", "place", "other", "kind", "ends", "k"]) (sc := defScope s_turned) (by decide +kernel)) (fun _ _ _ _ _ => (pg_name (i := 8) sc_turned.nd rfl (.inl rfl))) (fun _ _ _ _ _ => pts_nil) (fun _ _ _ _ _ => (pe_tup (pa_cons (pe_ix ix_list (pv 1) (pv 8) (fun _ _ => rfl)) (pa_cons (pv 8) pa_nil))))) pa_nil)))
      (pss_cons (ps_set (i := 3) sc_turned.nd rfl (.inl rfl) (pe_lst pa_nil))
      (pss_cons (ps_for PassesOwn.never rfl (pi_tup (pe_ix ix_tup (pv 0) pe_int (fun _ _ => rfl))) (pg_tup rfl (pgs_cons (pg_name (i := 4) sc_turned.nd rfl (.inl rfl)) (pgs_cons (pg_name (i := 5) sc_turned.nd rfl (.inl rfl)) (pgs_cons (pg_name (i := 6) sc_turned.nd rfl (.inl rfl)) pgs_nil))))
        (pss_cons (ps_set (i := 7) sc_turned.nd rfl (.inl rfl) (pe_callB cr_sortedI (by rfl) T.m_sorted (by decide +kernel) (pa_cons (pe_lst (pa_cons (pe_dget (hu_of hr) (pv 2) (pv 4) (fun _ _ => rfl)) (pa_cons (pe_dget (hu_of hr) (pv 2) (pv 5) (fun _ _ => rfl)) pa_nil))) pa_nil)))
        (pss_one (ps_expr (pe_bm PySem.F.plainAttrs_list PySem.F.slot_list_append PySem.F.type_list_append mt_append (pv 3) (pa_cons (pe_tup (pa_cons (pe_ix ix_list (pv 7) pe_int (fun _ _ => rfl)) (pa_cons (pe_ix ix_list (pv 7) pe_int (fun _ _ => rfl)) (pa_cons (pv 6) pa_nil)))) pa_nil))))))
      (pss_one (ps_ret (pe_tup (pa_cons (pe_join pe_str (pe_lc (own := [("place", 4)]) (g := gName 4) (tt := tYes) (te := tOp rIxS (tOp (rIxT K) (tVar 0) (tC (.int 0))) (tVar 4)) rfl sc_turned.nd (pi_list (pv 1)) (blkOk_by (N := ["web", "order", "called", "ties", "place", "other", "kind", "ends", "k"]) (sc := defScope s_turned) (by decide +kernel)) (fun _ _ _ _ _ => (pg_name (i := 4) sc_turned.nd rfl (.inl rfl))) (fun _ _ _ _ _ => pts_nil) (fun _ _ _ _ _ => (pe_ix ix_str (pe_ix ix_tup (pv 0) pe_int (fun _ _ => rfl)) (pv 4) (fun _ _ => rfl))))) (pa_cons (pe_callTy call_tuple_of (by rfl) T.m_tuple (by decide +kernel) (pa_cons (pe_callB cr_sorted3 (by rfl) T.m_sorted (by decide +kernel) (pa_cons (pv 3) pa_nil)) pa_nil)) pa_nil)))))))), ?_⟩
    walk_at "rd"
    refine d_lenL (SqL.of eO) ?_
    rw [List.length_map]
    walk_at "rd"
    intro C fC
    refine lc_range (fun i H' => ∃ xs, H' C = some (.lst xs) ∧ Pairs K H' xs (numR os i) ∧ Same H H') ⟨[], upd_same, .nil, same_new fC⟩ (fun i H' hi hP => ?_) (fun H' hP => ?_)
    · obtain ⟨xs, eC, px, s2⟩ := hP
      have hi' : i < os.length := by simpa using hi
      rw [Int.zero_add (i : Int)]
      have lx := px.len
      unfold numR at lx
      rw [List.length_map, List.length_range] at lx
      walk_at "rd"
      refine d_ixLm (s2 _ _ eO) (atI_nat (by rw [List.getElem?_map, rw_at hi']; rfl)) ?_
      walk_at "rd"
      refine ⟨sz (by show 2 ≤ 100000; decide), fun r fr => ?_⟩
      have sr := same_new (o := .tup [V.int (os.getD i 0 : Nat), V.int (i : Nat)]) fr
      have er := upd_same (H := H') (a := r) (o := .tup [V.int (os.getD i 0 : Nat), V.int (i : Nat)])
      have eC2 := sr _ _ eC
      have px2 := px.same sr
      have s4 := Same.trans s2 sr
      generalize upd H' r _ = H4 at sr er eC2 px2 s4 ⊢
      refine ⟨_, eC2, szl (by omega), xs ++ [V.ref r], upd_same, ?_, same_upd s4 fC⟩
      rw [numR_snoc]
      exact Pairs.keep (Paired.snoc px2 ⟨r, rfl, SqT.of er⟩) Keep.put eC2
    obtain ⟨xs, eC, px, s2⟩ := hP
    rw [show ((os.length : Nat) : Int).toNat = os.length by omega] at px
    obtain ⟨ps, rfl, pr⟩ := Pairs.refs px
    refine ⟨C, ps, _, rfl, SqL.of eC, pr, fun D fD => ?_⟩
    have sD := same_new (o := .dK (mergeK [] ((numR os os.length).map fun p => ((.inl (p.1 : Int) : Key), V.int (p.2 : Nat))))) fD
    have eD := upd_same (H := H') (a := D) (o := .dK (mergeK [] ((numR os os.length).map fun p => ((.inl (p.1 : Int) : Key), V.int (p.2 : Nat)))))
    have hk : ∀ p : Nat, p < w.1.length → valV (mergeK [] ((numR os os.length).map fun p => ((.inl (p.1 : Int) : Key), V.int (p.2 : Nat)))) (.inl (p : Int)) = some (V.int (qa (invL os w.1.length) p : Nat)) := fun p hp => by
      have := numR_val ndo p os.length (Nat.le_refl _)
      rw [List.take_length, inv_pos oo hp] at this
      exact this
    generalize mergeK [] ((numR os os.length).map fun p => ((.inl (p.1 : Int) : Key), V.int (p.2 : Nat))) = kvs at sD eD hk ⊢
    have s12 := Same.trans s2 sD
    generalize upd H' D _ = H2 at sD eD s12 ⊢
    have eK2 := s12 _ _ eO
    walk_at "rd"
    refine ⟨sz (by decide), fun L fL => ?_⟩
    have fL0 := Same.free s12 fL
    have s3 := same_upd (o := .lst []) s12 fL0
    have s23 := same_new (o := .lst []) fL
    have eD3 := s23 _ _ eD
    have eL3 := upd_same (H := H2) (a := L) (o := .lst [])
    generalize upd H2 L _ = H3 at s3 s23 eD3 eL3 ⊢
    walk_at "rd"
    refine d_ixT (Same.sqt s3 q1) rfl ?_
    refine d_iTe (Same.sqt s3 q2) ?_
    refine for_it (walk_tup (xs := tvs)) (fun i σ H5 => ∃ y4 y5 y6 y7 y8, ∃ es : List (Addr × Tie), σ = [some (.ref a), some (.ref o), some (.ref D), some (.ref L), y4, y5, y6, y7, y8] ∧ Same H H5 ∧ H5 D = some (.dK kvs) ∧ H5 L = some (.lst (es.map fun e => V.ref e.1)) ∧ es.map (·.2) = (w.2.take i).map (mapTie (invL os w.1.length)) ∧ ∀ e ∈ es, H5 e.1 = some (.tup (triV ((e.2.1 : Int), (e.2.2.1 : Int), e.2.2.2))))
      ⟨_, _, _, _, _, [], rfl, s3, eD3, eL3, rfl, by simp⟩ (fun i σ H5 hi hP => ?_) (fun i x σ H5' H5 hi hP hy => ?_) (fun σ H5 hP => ?_)
    · obtain ⟨_, _, _, _, _, _, _, s5, _⟩ := hP
      exact Same.sqt s5 q2
    · obtain ⟨z4, z5, z6, z7, z8, es, rfl, s5, eD5, eL5, ees, hes⟩ := hP
      obtain ⟨rfl, hx⟩ := hy
      obtain ⟨t, ht, a', rfl, qt⟩ := Paired.at pT hx
      have rt := W.ends t (List.mem_of_getElem? ht)
      refine d_gtup (Same.sqt s5 qt) rfl ?_
      have g1 := DGet.k (k := .inl (t.1 : Int)) eD5
      have g2 := DGet.k (k := .inl (t.2.1 : Int)) eD5
      rw [hk _ (by omega)] at g1
      rw [hk _ (by omega)] at g2
      walk_at "rd"
      refine ⟨D, _, rfl, g1, ?_⟩
      walk_at "rd"
      refine ⟨D, _, rfl, g2, ?_⟩
      walk_at "rd"
      refine ⟨sz (by show 2 ≤ 100000; decide), fun p fp => ?_⟩
      have sp := same_new (o := .lst [V.int (qa (invL os w.1.length) t.1 : Nat), V.int (qa (invL os w.1.length) t.2.1 : Nat)]) fp
      have ep := upd_same (H := H5) (a := p) (o := .lst [V.int (qa (invL os w.1.length) t.1 : Nat), V.int (qa (invL os w.1.length) t.2.1 : Nat)])
      generalize upd H5 p _ = H6 at sp ep ⊢
      walk_at "rd"
      refine ⟨p, [((qa (invL os w.1.length) t.1 : Nat) : Int), ((qa (invL os w.1.length) t.2.1 : Nat) : Int)], rfl, SqL.of ep, fun ns' r pm rs fr => ?_⟩
      rw [sorted_two pm rs]
      have s6 := Same.trans s5 (Same.trans sp (same_new (o := .lst ([((min (qa (invL os w.1.length) t.1) (qa (invL os w.1.length) t.2.1) : Nat) : Int), ((max (qa (invL os w.1.length) t.1) (qa (invL os w.1.length) t.2.1) : Nat) : Int)].map V.int)) fr))
      have s56 := Same.trans sp (same_new (o := .lst ([((min (qa (invL os w.1.length) t.1) (qa (invL os w.1.length) t.2.1) : Nat) : Int), ((max (qa (invL os w.1.length) t.1) (qa (invL os w.1.length) t.2.1) : Nat) : Int)].map V.int)) fr)
      have er := upd_same (H := H6) (a := r) (o := .lst ([((min (qa (invL os w.1.length) t.1) (qa (invL os w.1.length) t.2.1) : Nat) : Int), ((max (qa (invL os w.1.length) t.1) (qa (invL os w.1.length) t.2.1) : Nat) : Int)].map V.int))
      generalize upd H6 r _ = H7 at s6 s56 er ⊢
      have eD7 := s56 _ _ eD5
      have eL7 := s56 _ _ eL5
      walk_at "rd"
      refine d_app eL7 ?_
      walk_at "rd"
      refine ⟨sz (by show 3 ≤ 100000; decide), fun p2 fp2 => ?_⟩
      have les : es.length ≤ 1600 := by
        have z := congrArg List.length ees
        rw [List.length_map, List.length_map] at z
        have := List.length_take_le i w.2
        omega
      walk_at "rd"
      refine d_append (at_upd eL7 fp2) (szl (by rw [List.length_map]; omega)) ?_
      have npL : p2 ≠ L := fun z => by rw [z, eL7] at fp2; cases fp2
      have nDL : D ≠ L := fun z => by rw [z, eL5] at eD5; cases eD5
      refine ⟨_, _, _, _, _, es ++ [(p2, mapTie (invL os w.1.length) t)], rfl, ?_, ?_, ?_, ?_, ?_⟩
      · exact same_upd (same_upd s6 (Same.free s6 fp2)) fL0
      · rw [upd_ne nDL]; exact at_upd eD7 fp2
      · rw [upd_same, List.map_append]; rfl
      · rw [take_snoc ht, List.map_append, List.map_append, ees]; rfl
      · intro e he
        rcases List.mem_append.mp he with he | he
        · have h1 := s56 _ _ (hes e he)
          have h2 : e.1 ≠ L := fun z => by rw [z, eL7] at h1; cases h1
          rw [upd_ne h2]
          exact at_upd h1 fp2
        · rw [List.mem_singleton.mp he]
          show (upd _ L _) p2 = _
          rw [upd_ne npL, upd_same]; rfl
    · obtain ⟨z4, z5, z6, z7, z8, es, rfl, s5, eD5, eL5, ees, hes⟩ := hP
      rw [lt, List.take_length] at ees
      have eK5 := s5 _ _ eO
      walk_at "rd"
      refine d_iLe (SqL.of eK5) ?_
      intro C fC
      refine lc_list (K := K) (a := o) (xs := os.map fun o => V.int (o : Nat)) (fun k H6 => H6 C = some (.lst (((os.take k).map fun p => w.1.getD p 0).map fun c => V.str (sg c))) ∧ Same H5 H6) ⟨upd_same, same_new fC⟩ (fun k H6 _ hP => SqL.of (hP.2 _ _ eK5)) (fun k x H6 hx hP => ?_) (fun H6 hP => ?_)
      · obtain ⟨eC, s6⟩ := hP
        rw [List.getElem?_map] at hx
        obtain ⟨p, hp, rfl⟩ := Option.map_eq_some_iff.mp hx
        have lp := oo.lt p (List.mem_of_getElem? hp)
        have lk := (List.getElem?_eq_some_iff.mp hp).1
        walk_at "rd"
        refine d_ixT (Same.sqt (Same.trans s5 s6) q1) rfl ?_
        walk_at "rd"
        refine ⟨⟨w.1.toArray⟩, (p : Nat), w.1.getD p 0, rfl, rfl, sz (by show w.1.toArray.size ≤ 100000; simp; omega), atI_nat (by show w.1.toArray.toList[p]? = _; simp [lp]), ?_⟩
        refine ⟨_, eC, szl (by rw [List.length_map, List.length_map, List.length_take]; omega), ?_, same_upd s6 fC⟩
        rw [upd_same, take_snoc hp, List.map_append, List.map_append]; rfl
      obtain ⟨eC, s6⟩ := hP
      rw [List.length_map, List.take_length] at eC
      refine ⟨_, C, (os.map fun p => w.1.getD p 0).map sg, rfl, rfl, .inl (SqL.of (by rw [List.map_map]; exact eC)), ?_, ?_⟩
      · rw [sum_const _ 1 _ (by intro x hx; obtain ⟨c, _, rfl⟩ := List.mem_map.mp hx; rfl), List.length_map, List.length_map]
        have e0 : (Str.ofString "").length = 0 := by decide +kernel
        rw [e0]; omega
      rw [join_signs]
      walk_at "rd"
      let es3 : List (Addr × Tri) := es.map fun e => (e.1, ((e.2.1 : Int), (e.2.2.1 : Int), e.2.2.2))
      refine ⟨L, es3, rfl, SqL.of (by rw [s6 _ _ eL5]; show _ = some (HO.lst ((es.map _).map _)); rw [List.map_map]; rfl), fun e he => ?_, fun es' S pm srt fS => ?_⟩
      · obtain ⟨e0, he0, rfl⟩ := List.mem_map.mp he
        exact s6 _ _ (hes e0 he0)
      walk_at "rd"
      refine ⟨S, _, rfl, .inl ⟨SqL.of upd_same, fun R fR => ?_⟩⟩
      walk_at "rd"
      refine ⟨sz (by show 2 ≤ 100000; decide), fun W' fW => ?_⟩
      let ts' : List Tie := es'.map fun e => (e.2.1.toNat, e.2.2.1.toNat, e.2.2.2)
      have back : ∀ e ∈ es', ∃ e0 ∈ es, e = (e0.1, ((e0.2.1 : Int), (e0.2.2.1 : Int), e0.2.2.2)) := fun e he => by
        obtain ⟨e0, he0, e1⟩ := List.mem_map.mp (pm.mem_iff.mp he)
        exact ⟨e0, he0, e1.symm⟩
      have pts : ts'.Perm (w.2.map (mapTie (invL os w.1.length))) := by
        have z := pm.map fun e => ((e.2.1.toNat, e.2.2.1.toNat, e.2.2.2) : Tie)
        rw [← ees]
        have e2 : (es.map (fun e => (e.1, ((e.2.1 : Int), (e.2.2.1 : Int), e.2.2.2)))).map (fun e => ((e.2.1.toNat, e.2.2.1.toNat, e.2.2.2) : Tie)) = es.map (·.2) := by
          rw [List.map_map]; rfl
        rw [← e2]
        exact z
      have N : Named w (invL os w.1.length) (os.map fun p => w.1.getD p 0, ts') := ⟨by rw [List.length_map, lo], fun p hp => by
        show (os.map _)[_]? = _
        rw [List.getElem?_map, inv_at oo hp]
        show some (w.1.getD p 0) = _
        rw [List.getD_eq_getElem?_getD, List.getElem?_eq_getElem hp]; rfl, pts⟩
      have srt' : ts'.Pairwise (fun x y => lexT ((y.1 : Int), (y.2.1 : Int), y.2.2) ((x.1 : Int), (x.2.1 : Int), x.2.2) = false) := by
        rw [List.pairwise_map] at srt
        show (es'.map _).Pairwise _
        rw [List.pairwise_map]
        refine srt.imp_of_mem fun {x y} hx hy hxy => ?_
        obtain ⟨e0, _, rfl⟩ := back x hx
        obtain ⟨e1, _, rfl⟩ := back y hy
        exact hxy
      have sf : Same H6 (upd (upd (upd H6 S (.lst (es'.map fun e => V.ref e.1))) R (.tup (es'.map fun e => V.ref e.1))) W' (.tup [V.str ⟨(os.map fun p => w.1.getD p 0).toArray⟩, V.ref R])) := Same.trans (same_new fS) (Same.trans (same_new fR) (same_new fW))
      refine q _ (.ref W') (os.map fun p => w.1.getD p 0, ts') (Same.trans s5 (Same.trans s6 sf)) ⟨W', R, _, rfl, SqT.of upd_same, SqT.of (at_upd upd_same fW), ?_⟩ (named_ok W io N srt') N
      have go : ∀ l : List (Addr × Tri), (∀ e ∈ l, ∃ e0 ∈ es, e = (e0.1, ((e0.2.1 : Int), (e0.2.2.1 : Int), e0.2.2.2))) → Paired (TieAt K (upd (upd (upd H6 S (.lst (es'.map fun e => V.ref e.1))) R (.tup (es'.map fun e => V.ref e.1))) W' (.tup [V.str ⟨(os.map fun p => w.1.getD p 0).toArray⟩, V.ref R]))) (l.map fun e => V.ref e.1) (l.map fun e => ((e.2.1.toNat, e.2.2.1.toNat, e.2.2.2) : Tie)) := by
        intro l
        induction l with
        | nil => intro _; exact .nil
        | cons x l ih =>
          intro hl
          obtain ⟨e0, he0, rfl⟩ := hl x List.mem_cons_self
          exact .cons ⟨e0.1, rfl, SqT.of (sf _ _ (s6 _ _ (hes e0 he0)))⟩ (ih fun e he => hl e (List.mem_cons_of_mem _ he))
      exact go es' back
/-- drawn kinds of places -/
def spKindsR : Sp := fun vs H Q _ => ∃ (h : Addr) (n : Int), vs = [.ref h, .int n] ∧ 0 ≤ n ∧ n ≤ 40 ∧ Row H h ∧ ∀ H' cs, Keep h H H' → Row H' h → (cs : List Nat).length = n.toNat → (∀ c ∈ cs, Ltr c) → Q (.str ⟨cs.toArray⟩) H'
theorem ok_kinds (T : Tx K mg base) : FnOk P w K mg base CX0 2 T.kinds.f T.kinds.fd ["row", "many"] spKindsR := by
  refine T.kinds.F.ok sc_kinds (fun vs H Q E h => ?_) (fun cdv A outer s H vs Q E hr h => ?_)
  · obtain ⟨_, _, rfl, _⟩ := h; rfl
  · obtain ⟨h, n, rfl, n0, n1, hh, q⟩ := h
    refine ⟨_, (pss_cons (ps_set (i := 2) sc_kinds.nd rfl (.inr rfl) (pe_ix ix_list (pe_lst (pa_cons pe_str (pa_cons pe_str (pa_cons pe_str (pa_cons pe_str (pa_cons pe_str (pa_cons pe_str pa_nil))))))) (pe_call (ok_take T) (hr.mono (by decide)) (by rfl) T.take.g T.take.F.kp T.take.b .nil pass0 (pa_cons (pv 0) (pa_cons pe_int pa_nil))) (fun _ _ => rfl)))
      (pss_one (ps_ret (pe_join pe_str (pe_lc (own := [("k", 3)]) (g := gName 3) (tt := tYes) (te := tOp rIxS (tVar 2) (tCall spTake [] E0 (tCons (tVar 0) (tCons (tCB _ (tCons (tVar 2) tNil)) tNil)))) rfl sc_kinds.nd (pi_range1 (by rfl) T.m_range (pa_cons (pv 1) pa_nil)) (blkOk_by (N := ["row", "many", "some", "k"]) (sc := defScope s_kinds) (by decide +kernel)) (fun _ _ _ _ _ => (pg_name (i := 3) sc_kinds.nd rfl (.inl rfl))) (fun _ _ _ _ _ => pts_nil) (fun _ _ _ _ _ => (pe_ix ix_str (pv 2) (pe_call (ok_take T) (hr.mono (by decide)) (by rfl) T.take.g T.take.F.kp T.take.b .nil pass0 (pa_cons (pv 0) (pa_cons (pe_callB call_len_str (by rfl) T.m_len (by decide +kernel) (pa_cons (pv 2) pa_nil)) pa_nil))) (fun _ _ => rfl)))))))), ?_⟩
    walk_at "rd"
    refine ⟨sz (by show 6 ≤ 100000; decide), fun p4 f4 => ?_⟩
    walk_at "rd"
    refine ⟨h, 6, rfl, by decide, by decide, hh.put (hh.ne f4), fun H5 g5 k5 hh5 a5 b5 => ?_⟩
    have e5 := k5 p4 _ (hh.ne f4) upd_same
    have kA : Keep h H H5 := Keep.trans (Same.keep (same_new f4)) k5
    obtain ⟨some_, es, ms, ls⟩ := strs_of (zs := [Str.ofString "a", Str.ofString "a", Str.ofString "ab", Str.ofString "az", Str.ofString "abc", Str.ofString "abcdefghijklmnopqrstuvwxyz"]) (by unfold LtsR; decide +kernel) (n := 6) rfl a5 b5
    refine d_ixLm e5 es ?_
    walk_at "rd"
    intro D fD
    have nD := hh5.ne fD
    refine lc_range (fun i H' => ∃ cs : List Nat, cs.length = i ∧ (∀ c ∈ cs, Ltr c) ∧ H' D = some (.lst (cs.map fun c => V.str (sg c))) ∧ Keep h H5 H' ∧ Row H' h) ⟨[], rfl, by simp, upd_same, Same.keep (same_new fD), hh5.put nD⟩ (fun i H' hi8 hP => ?_) (fun H' hP => ?_)
    · obtain ⟨cs, hlen, hl, eD, kk, hh'⟩ := hP
      walk_at "rd"
      refine ⟨sz (by have := ls.2.2; omega), ?_⟩
      walk_at "rd"
      refine ⟨h, (some_.length : Nat), rfl, by have := ls.2.1; omega, by have := ls.2.2; omega, hh', fun H9 g9 k9 hh9 a9 b9 => ?_⟩
      obtain ⟨c, ec, mc, lc⟩ := ls.pick a9 b9
      refine ⟨some_, _, c, rfl, rfl, sz (by have := ls.2.2; omega), ec, ?_⟩
      refine ⟨_, k9 D _ nD eD, szl (by rw [List.length_map]; omega), cs ++ [c], by rw [List.length_append, hlen]; rfl, ?_, by rw [upd_same, List.map_append]; rfl, Keep.new (Keep.trans kk k9) fD, hh9.put nD⟩
      intro x hx
      rcases List.mem_append.mp hx with hx | hx
      · exact hl x hx
      · rw [List.mem_singleton.mp hx]; exact lc
    obtain ⟨cs, hlen, hl, eD, kk, hh'⟩ := hP
    refine ⟨_, D, cs.map sg, rfl, rfl, .inl (SqL.of (by rw [List.map_map]; exact eD)), ?_, ?_⟩
    · rw [sum_const _ 1 _ (by intro x hx; obtain ⟨c, _, rfl⟩ := List.mem_map.mp hx; rfl), List.length_map]
      have e0 : (Str.ofString "").length = 0 := by decide +kernel
      rw [e0]; omega
    rw [join_signs]
    walk_at "rd"
    exact q H' cs (Keep.trans kA kk) hh' hlen hl
/-- a drawn web -/
def spWeb (K : PySem.W.Frag) : Sp := fun vs H Q _ => ∃ (h : Addr) (most : Nat), vs = [.ref h, .int (most : Nat)] ∧ 1 ≤ most ∧ most ≤ 40 ∧ Row H h ∧ ∀ H' v w, Keep h H H' → Row H' h → WebAt K H' v w → WOk w → w.1.length ≤ most → Q v H'
theorem ok_web (T : Tx K mg base) : FnOk P w K mg base CX0 3 T.web.f T.web.fd ["row", "most"] (spWeb K) := by
  refine T.web.F.ok sc_web (fun vs H Q E h => ?_) (fun cdv A outer s H vs Q E hr h => ?_)
  · obtain ⟨a, _, rfl, _⟩ := h; rfl
  · obtain ⟨h, most, rfl, mo1, mo40, hh, q⟩ := h
    refine ⟨_, (pss_cons (ps_set (i := 2) sc_web.nd rfl (.inl rfl) (pe_ix ix_list (pe_lst (pa_cons (pe_call (ok_take T) (hr.mono (by decide)) (by rfl) T.take.g T.take.F.kp T.take.b .nil pass0 (pa_cons (pv 0) (pa_cons (pe_op op_add (pv 1) pe_int) pa_nil))) (pa_cons (pv 1) (pa_cons (pe_op op_add pe_int (pe_call (ok_take T) (hr.mono (by decide)) (by rfl) T.take.g T.take.F.kp T.take.b .nil pass0 (pa_cons (pv 0) (pa_cons (pv 1) pa_nil)))) pa_nil)))) (pe_call (ok_take T) (hr.mono (by decide)) (by rfl) T.take.g T.take.F.kp T.take.b .nil pass0 (pa_cons (pv 0) (pa_cons pe_int pa_nil))) (fun _ _ => rfl)))
      (pss_cons (ps_set (i := 3) sc_web.nd rfl (.inl rfl) (pe_call (ok_kinds T) (hr.mono (by decide)) (by rfl) T.kinds.g T.kinds.F.kp T.kinds.b .nil pass0 (pa_cons (pv 0) (pa_cons (pv 2) pa_nil))))
      (pss_cons (ps_set (i := 4) sc_web.nd rfl (.inl rfl) (pe_ix ix_list (pe_lst (pa_cons pe_str (pa_cons pe_str (pa_cons pe_str pa_nil)))) (pe_call (ok_take T) (hr.mono (by decide)) (by rfl) T.take.g T.take.F.kp T.take.b .nil pass0 (pa_cons (pv 0) (pa_cons pe_int pa_nil))) (fun _ _ => rfl)))
      (pss_cons (ps_set (i := 5) sc_web.nd rfl (.inl rfl) (pe_op op_add pe_int (pe_call (ok_take T) (hr.mono (by decide)) (by rfl) T.take.g T.take.F.kp T.take.b .nil pass0 (pa_cons (pv 0) (pa_cons pe_int pa_nil)))))
      (pss_cons (ps_set (i := 6) sc_web.nd rfl (.inl rfl) (pe_lst pa_nil))
      (pss_cons (ps_for PassesOwn.never rfl (pi_range1 (by rfl) T.m_range (pa_cons (pv 2) pa_nil)) (pg_name (i := 7) sc_web.nd rfl (.inl rfl))
        (pss_one (ps_for PassesOwn.never rfl (pi_range2 (by rfl) T.m_range (pa_cons (pe_op op_add (pv 7) pe_int) (pa_cons (pv 2) pa_nil))) (pg_name (i := 8) sc_web.nd rfl (.inl rfl))
          (pss_one (ps_if (pt_cmpR op_lt (pe_call (ok_take T) (hr.mono (by decide)) (by rfl) T.take.g T.take.F.kp T.take.b .nil pass0 (pa_cons (pv 0) (pa_cons pe_int pa_nil))) (pv 5) (nomark _))
            (pss_one (ps_expr (pe_bm PySem.F.plainAttrs_list PySem.F.slot_list_append PySem.F.type_list_append mt_append (pv 6) (pa_cons (pe_tup (pa_cons (pv 7) (pa_cons (pv 8) (pa_cons (pe_ix ix_str (pv 4) (pe_call (ok_take T) (hr.mono (by decide)) (by rfl) T.take.g T.take.F.kp T.take.b .nil pass0 (pa_cons (pv 0) (pa_cons (pe_callB call_len_str (by rfl) T.m_len (by decide +kernel) (pa_cons (pv 4) pa_nil)) pa_nil))) (fun _ _ => rfl)) pa_nil)))) pa_nil))))
            pss_nil)))))
      (pss_one (ps_ret (pe_tup (pa_cons (pv 3) (pa_cons (pe_callTy call_tuple_of (by rfl) T.m_tuple (by decide +kernel) (pa_cons (pv 6) pa_nil)) pa_nil))))))))))), ?_⟩
    walk_at "rd"
    refine ⟨h, (most : Int) + 1, rfl, by omega, by omega, hh, fun H0 g0 k0 hh0 a0 b0 => ?_⟩
    walk_at "rd"
    refine ⟨h, (most : Nat), rfl, by omega, by omega, hh0, fun H1 g1 k1 hh1 a1 b1 => ?_⟩
    walk_at "rd"
    refine ⟨sz (by show 3 ≤ 100000; decide), fun p2 f2 => ?_⟩
    walk_at "rd"
    refine ⟨h, 3, rfl, by decide, by decide, hh1.put (hh1.ne f2), fun H3 g3 k3 hh3 a3 b3 => ?_⟩
    have e3 := k3 p2 _ (hh1.ne f2) upd_same
    obtain ⟨n, en, n0, n1⟩ := ints_of (ns := [g0, (most : Int), 1 + g1]) (A := 0) (B := most) (by intro x hx; simp only [List.mem_cons, List.not_mem_nil, or_false] at hx; omega) (n := 3) rfl a3 b3
    refine d_ixLm e3 en ?_
    walk_at "rd"
    refine ⟨h, n, rfl, n0, by omega, hh3, fun H5 cs k5 hh5 hlen hl => ?_⟩
    walk_at "rd"
    refine ⟨sz (by show 3 ≤ 100000; decide), fun p6 f6 => ?_⟩
    walk_at "rd"
    refine ⟨h, 3, rfl, by decide, by decide, hh5.put (hh5.ne f6), fun H7 g7 k7 hh7 a7 b7 => ?_⟩
    have e7 := k7 p6 _ (hh5.ne f6) upd_same
    obtain ⟨sorts, eo, so, lo⟩ := strs_of (zs := [Str.ofString "x", Str.ofString "xy", Str.ofString "abcdefghijklmnopqrstuvwxyz"]) (by unfold LtsR; decide +kernel) (n := 3) rfl a7 b7
    refine d_ixLm e7 eo ?_
    walk_at "rd"
    refine ⟨h, 4, rfl, by decide, by decide, hh7, fun H8 g8 k8 hh8 a8 b8 => ?_⟩
    have kA : Keep h H H8 := Keep.trans k0 (Keep.trans k1 (Keep.trans (Same.keep (same_new f2)) (Keep.trans k3 (Keep.trans k5 (Keep.trans (Same.keep (same_new f6)) (Keep.trans k7 k8))))))
    walk_at "rd"
    refine ⟨sz (by decide), fun l fl => ?_⟩
    walk_at "rd"
    have nl := hh8.ne fl
    refine for_range (fun i σ H7 => ∃ y7 y8 ts tvs, σ = [some (.ref h), some (.int (most : Nat)), some (.int n), some (.str ⟨cs.toArray⟩), some (.str sorts), some (.int (1 + g8)), some (.ref l), y7, y8] ∧ H7 l = some (.lst tvs) ∧ Paired (TieAt K H7) tvs ts ∧ ts.Pairwise tlt ∧
      (∀ t ∈ ts, t.1 < i ∧ t.1 < t.2.1 ∧ t.2.1 < n.toNat ∧ Ltr t.2.2) ∧ ts.length ≤ 40 * i ∧ Keep h H8 H7 ∧ Row H7 h) ⟨_, _, [], [], rfl, upd_same, .nil, .nil, by simp, by simp, Same.keep (same_new fl), hh8.put nl⟩ (fun i σ H7 hi7 hP => ?_) (fun σ H7 hP => ?_)
    · obtain ⟨y7, y8, ts, tvs, rfl, eL, pT, sT, bT, lT, k7, hh7⟩ := hP
      walk_at "rd"
      refine for_range (fun j σ Hx => ∃ y8 ts tvs, σ = [some (.ref h), some (.int (most : Nat)), some (.int n), some (.str ⟨cs.toArray⟩), some (.str sorts), some (.int (1 + g8)), some (.ref l), some (.int (0 + (i : Nat))), y8] ∧ Hx l = some (.lst tvs) ∧ Paired (TieAt K Hx) tvs ts ∧ ts.Pairwise tlt ∧
        (∀ t ∈ ts, (t.1 < i ∨ (t.1 = i ∧ t.2.1 < i + 1 + j)) ∧ t.1 < t.2.1 ∧ t.2.1 < n.toNat ∧ Ltr t.2.2) ∧ ts.length ≤ 40 * i + j ∧ Keep h H8 Hx ∧ Row Hx h) ⟨_, ts, tvs, rfl, eL, pT, sT, fun t ht => ⟨.inl (bT t ht).1, (bT t ht).2⟩, lT, k7, hh7⟩ (fun j σ H8' hj hP => ?_) (fun σ H8' hP => ?_)
      · obtain ⟨z8, us, uvs, rfl, eL8, pU, sU, bU, lU, k8', hh8'⟩ := hP
        walk_at "rd"
        refine ⟨h, 4, rfl, by decide, by decide, hh8', fun H9 g9 k9 hh9 a9 b9 => ?_⟩
        have eL9 := k9 l _ nl eL8
        obtain ⟨_, _, e8, _⟩ := id hh8'
        have pU9 : Paired (TieAt K H9) uvs us := Paired.imp pU fun _ _ z => z.keep k9 e8
        walk_at "rd"
        refine ite2 (fun e => ?_) (fun e => ?_)
        · walk_at "rd"
          refine d_app eL9 ?_
          walk_at "rd"
          refine ⟨sz (by have := lo.2.2; omega), ?_⟩
          walk_at "rd"
          refine ⟨h, (sorts.length : Nat), rfl, by have := lo.2.1; omega, by have := lo.2.2; omega, hh9, fun Ha ga ka hha aa ba => ?_⟩
          have eLa := ka l _ nl eL9
          obtain ⟨_, _, e9, _⟩ := id hh9
          have pUa : Paired (TieAt K Ha) uvs us := Paired.imp pU9 fun _ _ z => z.keep ka e9
          obtain ⟨c, ec, _, lc⟩ := lo.pick aa ba
          refine ⟨sorts, _, c, rfl, rfl, sz (by have := lo.2.2; omega), ec, ?_⟩
          walk_at "rd"
          refine ⟨sz (by show 3 ≤ 100000; decide), fun p fp => ?_⟩
          walk_at "rd"
          have npl : l ≠ p := ne_of_none eLa fp
          have eLb : (upd Ha p (.tup [V.int (0 + (i : Nat)), V.int (0 + (i : Nat) + 1 + (j : Nat)), V.str (sg c)])) l = some (.lst uvs) := by rw [upd_ne npl]; exact eLa
          have luv : uvs.length = us.length := Paired.length pU
          refine d_append eLb (szl (by omega)) ?_
          have k89 := Keep.trans k8' (Keep.trans k9 ka)
          refine ⟨_, us ++ [(i, i + 1 + j, c)], uvs ++ [.ref p], rfl, upd_same, ?_, ?_, ?_, ?_, ?_, ?_⟩
          · have lst9 : ∃ ys, (upd Ha p (.tup [V.int (0 + (i : Nat)), V.int (0 + (i : Nat) + 1 + (j : Nat)), V.str (sg c)])) l = some (.lst ys) := ⟨_, eLb⟩
            refine Paired.snoc (Paired.imp pUa fun _ _ z => (z.put (.inl fp)).put (.inr lst9)) ⟨p, rfl, ?_⟩
            refine sqt_upd (.inr lst9) (SqT.of ?_)
            rw [upd_same]
            simp only [Int.zero_add]
            rfl
          · refine List.pairwise_append.mpr ⟨sU, List.pairwise_singleton _ _, fun a ha b hb => ?_⟩
            rw [List.mem_singleton.mp hb]
            rcases (bU a ha).1 with z | ⟨z1, z2⟩
            · exact .inl z
            · exact .inr ⟨z1, z2⟩
          · intro t ht
            rcases List.mem_append.mp ht with ht | ht
            · obtain ⟨z1, z2⟩ := bU t ht
              refine ⟨?_, z2⟩
              rcases z1 with z | ⟨z3, z4⟩
              · exact .inl z
              · exact .inr ⟨z3, by omega⟩
            · rw [List.mem_singleton.mp ht]
              exact ⟨.inr ⟨rfl, by show i + 1 + j < i + 1 + (j + 1); omega⟩, by show i < i + 1 + j; omega, by show i + 1 + j < n.toNat; omega, lc⟩
          · rw [List.length_append]
            show us.length + 1 ≤ 40 * i + (j + 1)
            omega
          · exact Keep.new (Keep.new k89 (Keep.free k89 (hha.ne fp) fp)) fl
          · exact (hha.put (hha.ne fp)).put nl
        · walk_at "rd"
          exact ⟨_, us, uvs, rfl, eL9, pU9, sU, fun t ht => ⟨(bU t ht).1.imp id fun z => ⟨z.1, by omega⟩, (bU t ht).2⟩, by omega, Keep.trans k8' k9, hh9⟩
      · obtain ⟨z8, us, uvs, rfl, eL8, pU, sU, bU, lU, k8', hh8'⟩ := hP
        refine ⟨_, _, us, uvs, rfl, eL8, pU, sU, fun t ht => ⟨?_, (bU t ht).2⟩, by omega, k8', hh8'⟩
        rcases (bU t ht).1 with z | ⟨z, _⟩ <;> omega
    · obtain ⟨y7, y8, ts, tvs, rfl, eL, pT, sT, bT, lT, k7, hh7⟩ := hP
      walk_at "rd"
      refine ⟨l, tvs, rfl, .inl ⟨SqL.of eL, fun t ft => ?_⟩⟩
      walk_at "rd"
      refine ⟨sz (by show 2 ≤ 100000; decide), fun a fa => ?_⟩
      refine q _ (.ref a) (cs, ts) ?_ ?_ ⟨a, t, tvs, rfl, SqT.of upd_same, sqt_upd (.inl fa) (SqT.of upd_same), Paired.imp pT fun _ _ z => (z.put (.inl ft)).put (.inl fa)⟩ ⟨by show cs.length ≤ 40; omega, by show ts.length ≤ 1600; omega, hl, sT, fun t ht => ⟨(bT t ht).2.1, by show t.2.1 < cs.length; rw [hlen]; exact (bT t ht).2.2.1, (bT t ht).2.2.2⟩⟩ (by show cs.length ≤ most; omega)
      · exact Keep.same (Keep.same (Keep.trans kA k7) (same_new ft)) (same_new fa)
      · exact (hh7.put (hh7.ne ft)).put ((hh7.put (hh7.ne ft)).ne fa)
/-- ties that stand loosely among n places -/
structure Lo (n : Nat) (ts : List Tie) : Prop where
  diff : ts.Pairwise (fun x y => ends x ≠ ends y)
  ends : ∀ t ∈ ts, t.1 < t.2.1 ∧ t.2.1 < n ∧ Ltr t.2.2
theorem lo_ok {n : Nat} {cs : List Nat} {ts ts' : List Tie} (L : Lo n ts) (lc : cs.length = n) (hl : ∀ c ∈ cs, Ltr c) (n40 : n ≤ 40) (few : ts.length ≤ 1600) (pm : ts'.Perm ts) (srt : ts'.Pairwise (fun x y => lexT ((y.1 : Int), (y.2.1 : Int), y.2.2) ((x.1 : Int), (x.2.1 : Int), x.2.2) = false)) : WOk (cs, ts') :=
  ⟨by show cs.length ≤ 40; omega, by show ts'.length ≤ 1600; rw [pm.length_eq]; exact few, hl, rise_of srt ((List.Perm.pairwise_iff (fun {x y} h => h.symm) pm).mpr L.diff), fun t ht => by
    have := L.ends t (pm.mem_iff.mp ht)
    exact ⟨this.1, by show t.2.1 < cs.length; omega, this.2.2⟩⟩
/-- a row or a ring -/
def spLine (K : PySem.W.Frag) : Sp := fun vs H Q _ => ∃ (h : Addr) (n : Nat) (ring : Bool), vs = [.ref h, .int (n : Nat), .bl ring] ∧ 1 ≤ n ∧ n ≤ 40 ∧ (ring = true → 3 ≤ n) ∧ Row H h ∧ ∀ H' v w, Keep h H H' → Row H' h → WebAt K H' v w → WOk w → Q v H'
theorem ok_line (T : Tx K mg base) : FnOk P w K mg base CX0 3 T.line.f T.line.fd ["row", "many", "ring"] (spLine K) := by
  refine T.line.F.ok sc_line (fun vs H Q E h => ?_) (fun cdv A outer s H vs Q E hr h => ?_)
  · obtain ⟨_, _, _, rfl, _⟩ := h; rfl
  · obtain ⟨h, n, ring, rfl, n1, n40, r3, hh, q⟩ := h
    refine ⟨_, (pss_cons (ps_set (i := 3) sc_line.nd rfl (.inl rfl) (pe_call (ok_kinds T) (hr.mono (by decide)) (by rfl) T.kinds.g T.kinds.F.kp T.kinds.b .nil pass0 (pa_cons (pv 0) (pa_cons (pv 1) pa_nil))))
      (pss_cons (ps_set (i := 4) sc_line.nd rfl (.inl rfl) (pe_ix ix_list (pe_lst (pa_cons pe_str (pa_cons pe_str (pa_cons pe_str (pa_cons pe_str pa_nil))))) (pe_call (ok_take T) (hr.mono (by decide)) (by rfl) T.take.g T.take.F.kp T.take.b .nil pass0 (pa_cons (pv 0) (pa_cons pe_int pa_nil))) (fun _ _ => rfl)))
      (pss_cons (ps_set (i := 5) sc_line.nd rfl (.inl rfl) (pe_lst pa_nil))
      (pss_cons (ps_for PassesOwn.never rfl (pi_range1 (by rfl) T.m_range (pa_cons (pe_op op_sub (pv 1) pe_int) pa_nil)) (pg_name (i := 6) sc_line.nd rfl (.inl rfl))
        (pss_one (ps_expr (pe_bm PySem.F.plainAttrs_list PySem.F.slot_list_append PySem.F.type_list_append mt_append (pv 5) (pa_cons (pe_tup (pa_cons (pv 6) (pa_cons (pe_op op_add (pv 6) pe_int) (pa_cons (pe_ix ix_str (pv 4) (pe_call (ok_take T) (hr.mono (by decide)) (by rfl) T.take.g T.take.F.kp T.take.b .nil pass0 (pa_cons (pv 0) (pa_cons (pe_callB call_len_str (by rfl) T.m_len (by decide +kernel) (pa_cons (pv 4) pa_nil)) pa_nil))) (fun _ _ => rfl)) pa_nil)))) pa_nil)))))
      (Evl.pss_cut (ps_if (pt_val (pv 2))
        (pss_one (ps_expr (pe_bm PySem.F.plainAttrs_list PySem.F.slot_list_append PySem.F.type_list_append mt_append (pv 5) (pa_cons (pe_tup (pa_cons pe_int (pa_cons (pe_op op_sub (pv 1) pe_int) (pa_cons (pe_ix ix_str (pv 4) (pe_call (ok_take T) (hr.mono (by decide)) (by rfl) T.take.g T.take.F.kp T.take.b .nil pass0 (pa_cons (pv 0) (pa_cons (pe_callB call_len_str (by rfl) T.m_len (by decide +kernel) (pa_cons (pv 4) pa_nil)) pa_nil))) (fun _ _ => rfl)) pa_nil)))) pa_nil))))
        pss_nil)
      (pss_cons (ps_set (i := 7) sc_line.nd rfl (.inl rfl) (pe_tup (pa_cons (pv 3) (pa_cons (pe_callTy call_tuple_of (by rfl) T.m_tuple (by decide +kernel) (pa_cons (pe_callB cr_sorted3S (by rfl) T.m_sorted (by decide +kernel) (pa_cons (pv 5) pa_nil)) pa_nil)) pa_nil))))
      (pss_one (ps_ret (pe_call (ok_turned T) (hr.mono (by decide)) (by rfl) T.turned.g T.turned.F.kp T.turned.b .nil pass0 (pa_cons (pv 7) (pa_cons (pe_call (ok_order T) (hr.mono (by decide)) (by rfl) T.order.g T.order.F.kp T.order.b .nil pass0 (pa_cons (pv 0) (pa_cons (pv 1) pa_nil))) pa_nil))))))))))), ?_⟩
    walk_at "rd"
    refine ⟨h, (n : Nat), rfl, by omega, by omega, hh, fun H1 cs k1 hh1 lcs hl => ?_⟩
    rw [Int.toNat_natCast] at lcs
    walk_at "rd"
    refine ⟨sz (by show 4 ≤ 100000; decide), fun p2 f2 => ?_⟩
    walk_at "rd"
    refine ⟨h, 4, rfl, by decide, by decide, hh1.put (hh1.ne f2), fun H3 g3 k3 hh3 a3 b3 => ?_⟩
    have e3 := k3 p2 _ (hh1.ne f2) upd_same
    have kA : Keep h H H3 := Keep.trans k1 (Keep.trans (Same.keep (same_new f2)) k3)
    obtain ⟨sorts, eo, so, lo⟩ := strs_of (zs := [Str.ofString "x", Str.ofString "x", Str.ofString "xy", Str.ofString "axz"]) (by unfold LtsR; decide +kernel) (n := 4) rfl a3 b3
    refine d_ixLm e3 eo ?_
    walk_at "rd"
    refine ⟨sz (by decide), fun l fl => ?_⟩
    have nl := hh3.ne fl
    walk_at "rd"
    refine for_range (fun i σ H4 => ∃ y6 y7 ts tvs, σ = [some (.ref h), some (.int (n : Nat)), some (.bl ring), some (.str ⟨cs.toArray⟩), some (.str sorts), some (.ref l), y6, y7] ∧ H4 l = some (.lst tvs) ∧ Paired (TieAt K H4) tvs ts ∧ ts.length = i ∧ ts.Pairwise (fun x y => ends x ≠ ends y) ∧ (∀ t ∈ ts, t.1 < i ∧ t.2.1 = t.1 + 1 ∧ Ltr t.2.2) ∧ Keep h H3 H4 ∧ Row H4 h)
      ⟨_, _, [], [], rfl, upd_same, .nil, rfl, .nil, (fun t ht => by cases ht), Same.keep (same_new fl), hh3.put nl⟩ (fun i σ H4 hi hP => ?_) (fun σ H4 hP => ?_)
    · obtain ⟨y6, y7, ts, tvs, rfl, eL, pT, lts, df, en, k4, hh4⟩ := hP
      walk_at "rd"
      refine d_app eL ?_
      walk_at "rd"
      refine ⟨sz (by have := lo.2.2; omega), ?_⟩
      walk_at "rd"
      refine ⟨h, (sorts.length : Nat), rfl, by have := lo.2.1; omega, by have := lo.2.2; omega, hh4, fun Ha ga ka hha aa ba => ?_⟩
      have eLa := ka l _ nl eL
      obtain ⟨_, e9⟩ := hh4.lst
      have pTa : Paired (TieAt K Ha) tvs ts := Paired.imp pT fun _ _ z => z.keep ka e9
      obtain ⟨c, ec, _, lc⟩ := lo.pick aa ba
      refine ⟨sorts, _, c, rfl, rfl, sz (by have := lo.2.2; omega), ec, ?_⟩
      walk_at "rd"
      refine ⟨sz (by show 3 ≤ 100000; decide), fun p fp => ?_⟩
      walk_at "rd"
      have npl : l ≠ p := ne_of_none eLa fp
      have eLb : (upd Ha p (.tup [V.int (0 + (i : Nat)), V.int (0 + (i : Nat) + 1), V.str (sg c)])) l = some (.lst tvs) := by rw [upd_ne npl]; exact eLa
      have luv : tvs.length = ts.length := Paired.length pT
      have i40 : i < 40 := by have := hi; omega
      refine d_append eLb (szl (by omega)) ?_
      refine ⟨_, _, ts ++ [(i, i + 1, c)], tvs ++ [.ref p], rfl, upd_same, ?_, by rw [List.length_append, lts]; rfl, ?_, ?_, ?_, ?_⟩
      · have lst9 : ∃ ys, (upd Ha p (.tup [V.int (0 + (i : Nat)), V.int (0 + (i : Nat) + 1), V.str (sg c)])) l = some (.lst ys) := ⟨_, eLb⟩
        refine Paired.snoc (Paired.imp pTa fun _ _ z => (z.put (.inl fp)).put (.inr lst9)) ⟨p, rfl, ?_⟩
        refine sqt_upd (.inr lst9) (SqT.of ?_)
        rw [upd_same]
        simp only [Int.zero_add]
        rfl
      · refine List.pairwise_append.mpr ⟨df, List.pairwise_singleton _ _, fun a ha b hb => ?_⟩
        rw [List.mem_singleton.mp hb]
        intro z
        have := (en a ha).1
        unfold ends at z
        injection z with z1 z2
        omega
      · intro t ht
        rcases List.mem_append.mp ht with ht | ht
        · obtain ⟨z1, z2⟩ := en t ht
          exact ⟨by omega, z2⟩
        · rw [List.mem_singleton.mp ht]
          exact ⟨by show i < i + 1; omega, rfl, lc⟩
      · exact Keep.new (Keep.new (Keep.trans k4 ka) (Keep.free (Keep.trans k4 ka) (hha.ne fp) fp)) fl
      · exact (hha.put (hha.ne fp)).put nl
    · obtain ⟨y6, y7, ts, tvs, rfl, eL, pT, lts, df, en, k4, hh4⟩ := hP
      refine d_cut (fun σ H' => ∃ y6 y7 ts tvs, σ = [some (.ref h), some (.int (n : Nat)), some (.bl ring), some (.str ⟨cs.toArray⟩), some (.str sorts), some (.ref l), y6, y7] ∧ H' l = some (.lst tvs) ∧ Paired (TieAt K H') tvs ts ∧ ts.length ≤ 41 ∧ Lo n ts ∧ Keep h H3 H' ∧ Row H' h) ?_ (fun σ H5 hP => ?_)
      · have lts2 : ts.length ≤ 39 := by omega
        have en2 : ∀ t ∈ ts, t.1 < t.2.1 ∧ t.2.1 < n ∧ Ltr t.2.2 := fun t ht => by
          have := en t ht
          exact ⟨by omega, by omega, this.2.2⟩
        walk_at "rd"
        refine ite2 (fun c => ?_) (fun c => ?_)
        · have n3 := r3 c
          walk_at "rd"
          refine d_app eL ?_
          walk_at "rd"
          refine ⟨sz (by have := lo.2.2; omega), ?_⟩
          walk_at "rd"
          refine ⟨h, (sorts.length : Nat), rfl, by have := lo.2.1; omega, by have := lo.2.2; omega, hh4, fun Ha ga ka hha aa ba => ?_⟩
          have eLa := ka l _ nl eL
          obtain ⟨_, e9⟩ := hh4.lst
          have pTa : Paired (TieAt K Ha) tvs ts := Paired.imp pT fun _ _ z => z.keep ka e9
          obtain ⟨c, ec, _, lc⟩ := lo.pick aa ba
          refine ⟨sorts, _, c, rfl, rfl, sz (by have := lo.2.2; omega), ec, ?_⟩
          walk_at "rd"
          refine ⟨sz (by show 3 ≤ 100000; decide), fun p fp => ?_⟩
          walk_at "rd"
          have npl : l ≠ p := ne_of_none eLa fp
          have eLb : (upd Ha p (.tup [V.int 0, V.int ((n : Nat) - 1), V.str (sg c)])) l = some (.lst tvs) := by rw [upd_ne npl]; exact eLa
          have luv : tvs.length = ts.length := Paired.length pT
          refine d_append eLb (szl (by omega)) ?_
          refine ⟨_, _, ts ++ [(0, n - 1, c)], tvs ++ [.ref p], rfl, upd_same, ?_, by rw [List.length_append, List.length_singleton]; omega, ⟨?_, ?_⟩, ?_, ?_⟩
          · have lst9 : ∃ ys, (upd Ha p (.tup [V.int 0, V.int ((n : Nat) - 1), V.str (sg c)])) l = some (.lst ys) := ⟨_, eLb⟩
            refine Paired.snoc (Paired.imp pTa fun _ _ z => (z.put (.inl fp)).put (.inr lst9)) ⟨p, rfl, ?_⟩
            refine sqt_upd (.inr lst9) (SqT.of ?_)
            rw [upd_same, show ((n : Nat) : Int) - 1 = ((n - 1 : Nat) : Int) by omega]
            rfl
          · refine List.pairwise_append.mpr ⟨df, List.pairwise_singleton _ _, fun a ha b hb => ?_⟩
            rw [List.mem_singleton.mp hb]
            intro z
            have := (en a ha)
            unfold ends at z
            injection z with z1 z2
            have z1 : a.1 = 0 := z1
            have z2 : a.2.1 = n - 1 := z2
            omega
          · intro t ht
            rcases List.mem_append.mp ht with ht | ht
            · exact en2 t ht
            · rw [List.mem_singleton.mp ht]
              exact ⟨by show 0 < n - 1; omega, by show n - 1 < n; omega, lc⟩
          · exact Keep.new (Keep.new (Keep.trans k4 ka) (Keep.free (Keep.trans k4 ka) (hha.ne fp) fp)) fl
          · exact (hha.put (hha.ne fp)).put nl
        · exact ⟨_, _, ts, tvs, rfl, eL, pT, by omega, ⟨df, en2⟩, k4, hh4⟩
      · obtain ⟨y6, y7, ts, tvs, rfl, eL, pT, lts, L, k5, hh5⟩ := hP
        walk_at "rd"
        obtain ⟨es, evs, hts, hsq⟩ := Ties.tris pT
        refine ⟨l, es, rfl, by rw [← evs]; exact SqL.of eL, hsq, fun es' S pm srt fS => ?_⟩
        obtain ⟨ts', pS, pts, srt'⟩ := tris_back pm hts hsq srt
        have W := lo_ok L lcs hl n40 (by omega) pts srt'
        walk_at "rd"
        refine ⟨S, _, rfl, .inl ⟨SqL.of upd_same, fun R fR => ?_⟩⟩
        walk_at "rd"
        refine ⟨sz (by show 2 ≤ 100000; decide), fun W' fW => ?_⟩
        have sS := same_new (o := .lst (es'.map fun e => V.ref e.1)) fS
        have sR := same_new (o := .tup (es'.map fun e => V.ref e.1)) fR
        have sW := same_new (o := .tup [V.str ⟨cs.toArray⟩, V.ref R]) fW
        have sf := Same.trans sS (Same.trans sR sW)
        have hw : WebAt K (upd (upd (upd H5 S (.lst (es'.map fun e => V.ref e.1))) R (.tup (es'.map fun e => V.ref e.1))) W' (.tup [V.str ⟨cs.toArray⟩, V.ref R])) (.ref W') (cs, ts') := ⟨W', R, _, rfl, SqT.of upd_same, SqT.of (at_upd upd_same fW), pS.same sf⟩
        have hh6 := hh5.same sf
        have k6 : Keep h H _ := Keep.same (Keep.trans kA k5) sf
        generalize upd (upd (upd H5 S _) R _) W' _ = H6 at hw hh6 k6 ⊢
        walk_at "rd"
        refine ⟨h, n, rfl, by omega, hh6, fun H7 o os k7 hh7 fo eo pmo => ?_⟩
        obtain ⟨_, e6⟩ := hh6.lst
        walk_at "rd"
        refine ⟨.ref W', (cs, ts'), o, os, rfl, hw.keep k7 e6, W, eo, Ord.of (by show os.Perm (List.range cs.length); rw [lcs]; exact pmo), fun H8 v' w' s8 hw' W2 N => ?_⟩
        exact q H8 v' w' (Keep.same (Keep.trans k6 k7) s8) (hh7.same s8) hw' W2
/-- a row or a ring of so many -/
def spShaped (K : PySem.W.Frag) : Sp := fun vs H Q _ => ∃ (h : Addr) (n : Nat), vs = [.ref h, .int (n : Nat)] ∧ 1 ≤ n ∧ n ≤ 40 ∧ Row H h ∧ ∀ H' v w, Keep h H H' → Row H' h → WebAt K H' v w → WOk w → Q v H'
theorem ok_shaped (T : Tx K mg base) : FnOk P w K mg base CX0 4 T.shaped.f T.shaped.fd ["row", "most"] (spShaped K) := by
  refine T.shaped.F.ok sc_shaped (fun vs H Q E h => ?_) (fun cdv A outer s H vs Q E hr h => ?_)
  · obtain ⟨_, _, rfl, _⟩ := h; rfl
  · obtain ⟨h, n, rfl, n1, n40, hh, q⟩ := h
    refine ⟨_, (pss_cons (ps_set (i := 2) sc_shaped.nd rfl (.inl rfl) (pe_ix ix_list (pe_lst (pa_cons (pe_op op_add pe_int (pe_call (ok_take T) (hr.mono (by decide)) (by rfl) T.take.g T.take.F.kp T.take.b .nil pass0 (pa_cons (pv 0) (pa_cons (pv 1) pa_nil)))) (pa_cons (pv 1) pa_nil))) (pe_call (ok_take T) (hr.mono (by decide)) (by rfl) T.take.g T.take.F.kp T.take.b .nil pass0 (pa_cons (pv 0) (pa_cons pe_int pa_nil))) (fun _ _ => rfl)))
      (pss_one (ps_ret (pe_call (ok_line T) (hr.mono (by decide)) (by rfl) T.line.g T.line.F.kp T.line.b .nil pass0 (pa_cons (pv 0) (pa_cons (pv 2) (pa_cons (pe_and (pe_cmpR op_gt (pv 2) pe_int (nomark _)) (pe_one (pe_cmpR op_eq (pe_call (ok_take T) (hr.mono (by decide)) (by rfl) T.take.g T.take.F.kp T.take.b .nil pass0 (pa_cons (pv 0) (pa_cons pe_int pa_nil))) pe_int (nomark _)))) pa_nil))))))), ?_⟩
    walk_at "rd"
    refine ⟨h, (n : Nat), rfl, by omega, by omega, hh, fun H1 g1 k1 hh1 a1 b1 => ?_⟩
    walk_at "rd"
    refine ⟨sz (by show 2 ≤ 100000; decide), fun p2 f2 => ?_⟩
    walk_at "rd"
    refine ⟨h, 2, rfl, by decide, by decide, hh1.put (hh1.ne f2), fun H3 g3 k3 hh3 a3 b3 => ?_⟩
    have e3 := k3 p2 _ (hh1.ne f2) upd_same
    have kA : Keep h H H3 := Keep.trans k1 (Keep.trans (Same.keep (same_new f2)) k3)
    obtain ⟨m, en, m0, m1⟩ := ints_of (ns := [1 + g1, (n : Int)]) (A := 1) (B := n) (by intro x hx; simp only [List.mem_cons, List.not_mem_nil, or_false] at hx; omega) (n := 2) rfl a3 b3
    refine d_ixLm e3 en ?_
    obtain ⟨m, rfl⟩ := Int.eq_ofNat_of_zero_le (show 0 ≤ m by omega)
    walk_at "rd"
    refine ite2 (fun c => ?_) (fun c => ?_)
    · have c := of_decide_eq_true c
      walk_at "rd"
      refine ⟨h, 2, rfl, by decide, by decide, hh3, fun H4 g4 k4 hh4 a4 b4 => ?_⟩
      walk_at "rd"
      refine ⟨h, m, _, rfl, by omega, by omega, fun _ => by omega, hh4, fun H5 v w k5 hh5 hw W => ?_⟩
      exact q H5 v w (Keep.trans kA (Keep.trans k4 k5)) hh5 hw W
    · walk_at "rd"
      refine ⟨h, m, _, rfl, by omega, by omega, fun z => (nomatch z), hh3, fun H5 v w k5 hh5 hw W => ?_⟩
      exact q H5 v w (Keep.trans kA k5) hh5 hw W
/-- a tree -/
def spTree (K : PySem.W.Frag) : Sp := fun vs H Q _ => ∃ (h : Addr), vs = [.ref h] ∧ Row H h ∧ ∀ H' v w, Keep h H H' → Row H' h → WebAt K H' v w → WOk w → Q v H'
theorem ok_tree (T : Tx K mg base) : FnOk P w K mg base CX0 3 T.tree.f T.tree.fd ["row"] (spTree K) := by
  refine T.tree.F.ok sc_tree (fun vs H Q E h => ?_) (fun cdv A outer s H vs Q E hr h => ?_)
  · obtain ⟨_, rfl, _⟩ := h; rfl
  · obtain ⟨h, rfl, hh, q⟩ := h
    refine ⟨_, (pss_cons (ps_set (i := 1) sc_tree.nd rfl (.inl rfl) (pe_op op_add pe_int (pe_call (ok_take T) (hr.mono (by decide)) (by rfl) T.take.g T.take.F.kp T.take.b .nil pass0 (pa_cons (pv 0) (pa_cons pe_int pa_nil)))))
      (pss_cons (ps_set (i := 2) sc_tree.nd rfl (.inl rfl) (pe_call (ok_kinds T) (hr.mono (by decide)) (by rfl) T.kinds.g T.kinds.F.kp T.kinds.b .nil pass0 (pa_cons (pv 0) (pa_cons (pv 1) pa_nil))))
      (pss_cons (ps_set (i := 3) sc_tree.nd rfl (.inl rfl) (pe_ix ix_list (pe_lst (pa_cons pe_str (pa_cons pe_str pa_nil))) (pe_call (ok_take T) (hr.mono (by decide)) (by rfl) T.take.g T.take.F.kp T.take.b .nil pass0 (pa_cons (pv 0) (pa_cons pe_int pa_nil))) (fun _ _ => rfl)))
      (pss_cons (ps_set (i := 4) sc_tree.nd rfl (.inl rfl) (pe_lst pa_nil))
      (pss_cons (ps_for PassesOwn.never rfl (pi_range2 (by rfl) T.m_range (pa_cons pe_int (pa_cons (pv 1) pa_nil))) (pg_name (i := 5) sc_tree.nd rfl (.inl rfl))
        (pss_one (ps_expr (pe_bm PySem.F.plainAttrs_list PySem.F.slot_list_append PySem.F.type_list_append mt_append (pv 4) (pa_cons (pe_tup (pa_cons (pe_call (ok_take T) (hr.mono (by decide)) (by rfl) T.take.g T.take.F.kp T.take.b .nil pass0 (pa_cons (pv 0) (pa_cons (pv 5) pa_nil))) (pa_cons (pv 5) (pa_cons (pe_ix ix_str (pv 3) (pe_call (ok_take T) (hr.mono (by decide)) (by rfl) T.take.g T.take.F.kp T.take.b .nil pass0 (pa_cons (pv 0) (pa_cons (pe_callB call_len_str (by rfl) T.m_len (by decide +kernel) (pa_cons (pv 3) pa_nil)) pa_nil))) (fun _ _ => rfl)) pa_nil)))) pa_nil)))))
      (pss_one (ps_ret (pe_call (ok_turned T) (hr.mono (by decide)) (by rfl) T.turned.g T.turned.F.kp T.turned.b .nil pass0 (pa_cons (pe_tup (pa_cons (pv 2) (pa_cons (pe_callTy call_tuple_of (by rfl) T.m_tuple (by decide +kernel) (pa_cons (pe_callB cr_sorted3S (by rfl) T.m_sorted (by decide +kernel) (pa_cons (pv 4) pa_nil)) pa_nil)) pa_nil))) (pa_cons (pe_call (ok_order T) (hr.mono (by decide)) (by rfl) T.order.g T.order.F.kp T.order.b .nil pass0 (pa_cons (pv 0) (pa_cons (pv 1) pa_nil))) pa_nil)))))))))), ?_⟩
    walk_at "rd"
    refine ⟨h, 31, rfl, by decide, by decide, hh, fun H0 g0 k0 hh0 a0 b0 => ?_⟩
    obtain ⟨g, rfl⟩ := Int.eq_ofNat_of_zero_le a0
    walk_at "rd"
    rw [show (10 : Int) + (g : Nat) = ((10 + g : Nat) : Int) by omega]
    have n10 : 10 ≤ 10 + g := by omega
    have n40 : 10 + g ≤ 40 := by omega
    generalize 10 + g = n at n10 n40 ⊢
    refine ⟨h, (n : Nat), rfl, by omega, by omega, hh0, fun H1 cs k1 hh1 lcs hl => ?_⟩
    rw [Int.toNat_natCast] at lcs
    walk_at "rd"
    refine ⟨sz (by show 2 ≤ 100000; decide), fun p2 f2 => ?_⟩
    walk_at "rd"
    refine ⟨h, 2, rfl, by decide, by decide, hh1.put (hh1.ne f2), fun H3 g3 k3 hh3 a3 b3 => ?_⟩
    have e3 := k3 p2 _ (hh1.ne f2) upd_same
    have kA : Keep h H H3 := Keep.trans k0 (Keep.trans k1 (Keep.trans (Same.keep (same_new f2)) k3))
    obtain ⟨sorts, eo, so, lo⟩ := strs_of (zs := [Str.ofString "x", Str.ofString "xyz"]) (by unfold LtsR; decide +kernel) (n := 2) rfl a3 b3
    refine d_ixLm e3 eo ?_
    walk_at "rd"
    refine ⟨sz (by decide), fun l fl => ?_⟩
    have nl := hh3.ne fl
    walk_at "rd"
    refine for_range (fun i σ H4 => ∃ y5 y6 ts tvs, σ = [some (.ref h), some (.int (n : Nat)), some (.str ⟨cs.toArray⟩), some (.str sorts), some (.ref l), y5] ∧ y5 = y6 ∧ H4 l = some (.lst tvs) ∧ Paired (TieAt K H4) tvs ts ∧ ts.length = i ∧ ts.Pairwise (fun x y => ends x ≠ ends y) ∧ (∀ t ∈ ts, t.1 < t.2.1 ∧ t.2.1 < i + 1 ∧ Ltr t.2.2) ∧ Keep h H3 H4 ∧ Row H4 h)
      ⟨_, _, [], [], rfl, rfl, upd_same, .nil, rfl, .nil, (fun t ht => by cases ht), Same.keep (same_new fl), hh3.put nl⟩ (fun i σ H4 hi hP => ?_) (fun σ H4 hP => ?_)
    · obtain ⟨y5, y6, ts, tvs, rfl, _, eL, pT, lts, df, en, k4, hh4⟩ := hP
      have i40 : i < 40 := by have := hi; omega
      walk_at "rd"
      refine d_app eL ?_
      walk_at "rd"
      rw [show (1 : Int) + (i : Nat) = ((1 + i : Nat) : Int) by omega]
      refine ⟨h, ((1 + i : Nat) : Int), rfl, by omega, by omega, hh4, fun Hb gb kb hhb ab bb => ?_⟩
      obtain ⟨gb, rfl⟩ := Int.eq_ofNat_of_zero_le ab
      obtain ⟨_, e8⟩ := hh4.lst
      have eLb0 := kb l _ nl eL
      have pTb : Paired (TieAt K Hb) tvs ts := Paired.imp pT fun _ _ z => z.keep kb e8
      walk_at "rd"
      refine ⟨sz (by have := lo.2.2; omega), ?_⟩
      walk_at "rd"
      refine ⟨h, (sorts.length : Nat), rfl, by have := lo.2.1; omega, by have := lo.2.2; omega, hhb, fun Ha ga ka hha aa ba => ?_⟩
      have eLa := ka l _ nl eLb0
      obtain ⟨_, e9⟩ := hhb.lst
      have pTa : Paired (TieAt K Ha) tvs ts := Paired.imp pTb fun _ _ z => z.keep ka e9
      obtain ⟨c, ec, _, lc⟩ := lo.pick aa ba
      refine ⟨sorts, _, c, rfl, rfl, sz (by have := lo.2.2; omega), ec, ?_⟩
      walk_at "rd"
      refine ⟨sz (by show 3 ≤ 100000; decide), fun p fp => ?_⟩
      walk_at "rd"
      have npl : l ≠ p := ne_of_none eLa fp
      have eLb : (upd Ha p (.tup [V.int (gb : Nat), V.int (1 + i : Nat), V.str (sg c)])) l = some (.lst tvs) := by rw [upd_ne npl]; exact eLa
      have luv : tvs.length = ts.length := Paired.length pT
      refine d_append eLb (szl (by omega)) ?_
      refine ⟨_, _, ts ++ [(gb, 1 + i, c)], tvs ++ [.ref p], rfl, rfl, upd_same, ?_, by rw [List.length_append, lts]; rfl, ?_, ?_, ?_, ?_⟩
      · have lst9 : ∃ ys, (upd Ha p (.tup [V.int (gb : Nat), V.int (1 + i : Nat), V.str (sg c)])) l = some (.lst ys) := ⟨_, eLb⟩
        refine Paired.snoc (Paired.imp pTa fun _ _ z => (z.put (.inl fp)).put (.inr lst9)) ⟨p, rfl, ?_⟩
        refine sqt_upd (.inr lst9) (SqT.of ?_)
        rw [upd_same]
      · refine List.pairwise_append.mpr ⟨df, List.pairwise_singleton _ _, fun a ha b hb => ?_⟩
        rw [List.mem_singleton.mp hb]
        intro z
        have := (en a ha).2.1
        unfold ends at z
        injection z with z1 z2
        have z2 : a.2.1 = 1 + i := z2
        omega
      · intro t ht
        rcases List.mem_append.mp ht with ht | ht
        · obtain ⟨z1, z2, z3⟩ := en t ht
          exact ⟨z1, by omega, z3⟩
        · rw [List.mem_singleton.mp ht]
          exact ⟨by show gb < 1 + i; omega, by show 1 + i < i + 1 + 1; omega, lc⟩
      · have kk := Keep.trans k4 (Keep.trans kb ka)
        exact Keep.new (Keep.new kk (Keep.free kk (hha.ne fp) fp)) fl
      · exact (hha.put (hha.ne fp)).put nl
    · obtain ⟨y5, y6, ts, tvs, rfl, _, eL, pT, lts, df, en, k4, hh5⟩ := hP
      have L : Lo n ts := ⟨df, fun t ht => by
        have := en t ht
        exact ⟨this.1, by omega, this.2.2⟩⟩
      walk_at "rd"
      obtain ⟨es, evs, hts, hsq⟩ := Ties.tris pT
      refine ⟨l, es, rfl, by rw [← evs]; exact SqL.of eL, hsq, fun es' S pm srt fS => ?_⟩
      obtain ⟨ts', pS, pts, srt'⟩ := tris_back pm hts hsq srt
      have W := lo_ok L lcs hl n40 (by omega) pts srt'
      walk_at "rd"
      refine ⟨S, _, rfl, .inl ⟨SqL.of upd_same, fun R fR => ?_⟩⟩
      walk_at "rd"
      refine ⟨sz (by show 2 ≤ 100000; decide), fun W' fW => ?_⟩
      have sS := same_new (o := .lst (es'.map fun e => V.ref e.1)) fS
      have sR := same_new (o := .tup (es'.map fun e => V.ref e.1)) fR
      have sW := same_new (o := .tup [V.str ⟨cs.toArray⟩, V.ref R]) fW
      have sf := Same.trans sS (Same.trans sR sW)
      have hw : WebAt K (upd (upd (upd H4 S (.lst (es'.map fun e => V.ref e.1))) R (.tup (es'.map fun e => V.ref e.1))) W' (.tup [V.str ⟨cs.toArray⟩, V.ref R])) (.ref W') (cs, ts') := ⟨W', R, _, rfl, SqT.of upd_same, SqT.of (at_upd upd_same fW), pS.same sf⟩
      have hh6 := hh5.same sf
      have k6 : Keep h H _ := Keep.same (Keep.trans kA k4) sf
      generalize upd (upd (upd H4 S _) R _) W' _ = H6 at hw hh6 k6 ⊢
      walk_at "rd"
      refine ⟨h, n, rfl, by omega, hh6, fun H7 o os k7 hh7 fo eo pmo => ?_⟩
      obtain ⟨_, e6⟩ := hh6.lst
      walk_at "rd"
      refine ⟨.ref W', (cs, ts'), o, os, rfl, hw.keep k7 e6, W, eo, Ord.of (by show os.Perm (List.range cs.length); rw [lcs]; exact pmo), fun H8 v' w' s8 hw' W2 N => ?_⟩
      exact q H8 v' w' (Keep.same (Keep.trans k6 k7) s8) (hh7.same s8) hw' W2
theorem tyx_tup {K : PySem.W.Frag} {H : Hp} {a : Addr} {xs : List V} (h : SqT K H a xs) : TyX K H (.ref a) (.type "tuple") := by
  rcases h with (h | ⟨o, h⟩) | ⟨o, its, n, h1, h2, _⟩
  · exact .base (.tup h)
  · exact .fTuple h
  · exact .kTuple h1 h2
theorem d_isTup {K : PySem.W.Frag} {H : Hp} {a : Addr} {xs : List V} {Q : VK} (h : SqT K H a xs) (q : Q (.bl true) H) : rIsi K [.ref a, .ty "tuple"] H Q := ⟨.ref a, .ty "tuple", .type "tuple", .type "tuple", true, rfl, .ty "tuple", tyx_tup h, kit_ty (by decide +kernel), q⟩
theorem cut_ints93 (ns : List Int) (lo hi : Option Int) : ∀ x ∈ cutV (ns.map V.int) lo hi, ∃ c : Int, x = V.int c := fun x hx => by
  unfold cutV at hx
  have m := List.mem_of_mem_drop (List.mem_of_mem_take hx)
  obtain ⟨c, _, rfl⟩ := List.mem_map.mp m
  exact ⟨c, rfl⟩
theorem keep_same93 {h : Addr} {H H' : Hp} (f : H h = none) (k : Keep h H H') : Same H H' := fun b o e => k b o (fun z => by rw [z, f] at e; cases e) e
theorem nine_at {g : Int} (h0 : 0 ≤ g) (h1 : g < 8) : ∃ n : Nat, atI [V.int 9, V.int 9, V.int 9, V.int 9, V.int 9, V.int 9, V.int 9, V.int 32] g = some (.int (n : Nat)) ∧ 1 ≤ n ∧ n ≤ 40 := by
  have h : g = 0 ∨ g = 1 ∨ g = 2 ∨ g = 3 ∨ g = 4 ∨ g = 5 ∨ g = 6 ∨ g = 7 := by omega
  rcases h with h | h | h | h | h | h | h | h <;> rw [h]
  · exact ⟨9, rfl, by omega, by omega⟩
  · exact ⟨9, rfl, by omega, by omega⟩
  · exact ⟨9, rfl, by omega, by omega⟩
  · exact ⟨9, rfl, by omega, by omega⟩
  · exact ⟨9, rfl, by omega, by omega⟩
  · exact ⟨9, rfl, by omega, by omega⟩
  · exact ⟨9, rfl, by omega, by omega⟩
  · exact ⟨32, rfl, by omega, by omega⟩
theorem bareW : WOk (([], []) : Web) := ⟨by decide, by decide, (fun c hc => by cases hc), .nil, (fun t ht => by cases ht)⟩
theorem bareS : webS ([], []) = Str.ofString "" := by decide +kernel
theorem ok_law (T : Tx K mg base) : FnOk P w K mg base CX0 6 T.law.f T.law.fd ["script"] (spLawT K T.cs) := by
  refine T.law.F.ok sc_law (fun vs H Q E h => ?_) (fun cdv A outer s H vs Q E hr h => ?_)
  · obtain ⟨_, _, rfl, _⟩ := h; rfl
  · obtain ⟨a, ns, rfl, hS, hl, tabs, q⟩ := h
    have tb0 := tabs (T.c_is_web, T.P_is_web) List.mem_cons_self
    refine ⟨_, (pss_cons (ps_for PassesOwn.never rfl (pi_list (pe_op op_cat (pe_slice sl_list (pv 0) po_none (po_some pe_int)) (pe_lst (pa_cons pe_int pa_nil)))) (pg_name (i := 1) sc_law.nd rfl (.inl rfl))
        (pss_cons (ps_set (i := 2) sc_law.nd rfl (.inl rfl) (pe_call (ok_row T) (hr.mono (by decide)) (by rfl) T.row.g T.row.F.kp T.row.b .nil pass0 (pa_cons (pv 1) pa_nil)))
        (pss_cons (ps_set (i := 3) sc_law.nd rfl (.inl rfl) (pe_call (ok_web T) (hr.mono (by decide)) (by rfl) T.web.g T.web.F.kp T.web.b .nil pass0 (pa_cons (pv 2) (pa_cons (pe_ix ix_list (pe_lst (pa_cons pe_int (pa_cons pe_int (pa_cons pe_int (pa_cons pe_int (pa_cons pe_int (pa_cons pe_int (pa_cons pe_int (pa_cons pe_int pa_nil))))))))) (pe_call (ok_take T) (hr.mono (by decide)) (by rfl) T.take.g T.take.F.kp T.take.b .nil pass0 (pa_cons (pv 2) (pa_cons pe_int pa_nil))) (fun _ _ => rfl)) pa_nil))))
        (pss_cons (ps_set (i := 4) sc_law.nd rfl (.inl rfl) (pe_call (ok_take T) (hr.mono (by decide)) (by rfl) T.take.g T.take.F.kp T.take.b .nil pass0 (pa_cons (pv 2) (pa_cons pe_int pa_nil))))
        (Evl.pss_cut (ps_if (pt_cmpR op_eq (pv 4) pe_int (nomark _))
          (pss_one (ps_set (i := 3) sc_law.nd rfl (.inl rfl) (pe_call (ok_shaped T) (hr.mono (by decide)) (by rfl) T.shaped.g T.shaped.F.kp T.shaped.b .nil pass0 (pa_cons (pv 2) (pa_cons pe_int pa_nil)))))
          pss_nil)
        (Evl.pss_cut (ps_if (pt_cmpR op_eq (pv 4) pe_int (nomark _))
          (pss_one (ps_set (i := 3) sc_law.nd rfl (.inl rfl) (pe_call (ok_tree T) (hr.mono (by decide)) (by rfl) T.tree.g T.tree.F.kp T.tree.b .nil pass0 (pa_cons (pv 2) pa_nil))))
          pss_nil)
        (pss_cons (ps_set (i := 5) sc_law.nd rfl (.inl rfl) (pe_call (ok_text T) (hr.mono (by decide)) (by rfl) T.text.g T.text.F.kp T.text.b .nil pass0 (pa_cons (pv 3) pa_nil)))
        (pss_cons (ps_if (pt_cmpR op_ne (pe_call (ok_show_web T) (hr.mono (by decide)) (by rfl) T.show_web.g T.show_web.F.kp T.show_web.b .nil pass0 (pa_cons (pv 3) pa_nil)) (pv 5) (nomark _))
          (pss_one (ps_ret pe_bl))
          pss_nil)
        (pss_cons (ps_set (i := 6) sc_law.nd rfl (.inl rfl) (pe_call (ok_read_web T) (hr.mono (by decide)) (by rfl) T.read_web.g T.read_web.F.kp T.read_web.b .nil pass0 (pa_cons (pv 5) pa_nil)))
        (pss_one (ps_if (PW.pt (pw_or (pt_cmpR (op_neD (hr.units)) (pv 6) (pv 3) (nomark _)) (pw_or (pt_not (pt_val (pe_callB call_isi (by rfl) T.m_isinstance (by decide +kernel) (pa_cons (pv 6) (pa_cons (pe_bltn (by rfl) T.m_tuple (by decide +kernel) (v := .ty "tuple") rfl) pa_nil))))) (pw_or1 (pt_not (pt_val (pe_callB call_isi (by rfl) T.m_isinstance (by decide +kernel) (pa_cons (pe_ix ix_tup (pv 6) pe_int (fun _ _ => rfl)) (pa_cons (pe_bltn (by rfl) T.m_tuple (by decide +kernel) (v := .ty "tuple") rfl) pa_nil)))))))))
          (pss_one (ps_ret pe_bl))
          pss_nil)))))))))))
      (pss_one (ps_ret (pe_and (pe_cmpR op_eq (pe_call (ok_show_web T) (hr.mono (by decide)) (by rfl) T.show_web.g T.show_web.F.kp T.show_web.b .nil pass0 (pa_cons (pe_tup (pa_cons pe_str (pa_cons (pe_tup pa_nil) pa_nil))) pa_nil)) pe_str (nomark _)) (pe_one (pe_cmpR (op_eqD (hr.units)) (pe_call (ok_read_web T) (hr.mono (by decide)) (by rfl) T.read_web.g T.read_web.F.kp T.read_web.b .nil pass0 (pa_cons pe_str pa_nil)) (pe_tup (pa_cons pe_str (pa_cons (pe_tup pa_nil) pa_nil))) (nomark _))))))), ?_⟩
    walk_at "rd"
    refine d_slL hS (fun a1 fa1 => ?_)
    have s1 := same_new (o := .lst (cutV (ns.map V.int) none (some 20))) fa1
    have e1 := upd_same (H := H) (a := a1) (o := .lst (cutV (ns.map V.int) none (some 20)))
    have ci := cut_ints93 ns none (some 20)
    have lci := cutV_length (ns.map V.int) none (some 20)
    rw [List.length_map] at lci
    generalize cutV (ns.map V.int) none (some 20) = cs at s1 e1 ci lci ⊢
    generalize upd H a1 (.lst cs) = H1 at s1 e1 ⊢
    walk_at "rd"
    refine ⟨sz (by show 1 ≤ 100000; decide), fun a2 fa2 => ?_⟩
    have s2 := same_new (o := .lst [V.int 0]) fa2
    have e2 := upd_same (H := H1) (a := a2) (o := .lst [V.int 0])
    have e12 := s2 _ _ e1
    generalize upd H1 a2 (.lst [V.int 0]) = H2 at s2 e2 e12 ⊢
    refine ⟨a1, a2, _, _, rfl, rfl, e12, e2, sz (by show cs.length + 1 ≤ 100000; omega), fun a3 fa3 => ?_⟩
    have s3 := same_new (o := .lst (cs ++ [V.int 0])) fa3
    have e3 := upd_same (H := H2) (a := a3) (o := .lst (cs ++ [V.int 0]))
    generalize upd H2 a3 (.lst (cs ++ [V.int 0])) = H3 at s3 e3 ⊢
    have all : ∀ x ∈ cs ++ [V.int 0], ∃ c : Int, x = V.int c := fun x hx => by
      rcases List.mem_append.mp hx with hx | hx
      · exact ci x hx
      · rw [List.mem_singleton.mp hx]; exact ⟨_, rfl⟩
    generalize cs ++ [V.int 0] = ds at e3 all ⊢
    have s03 := Same.trans s1 (Same.trans s2 s3)
    refine d_iLe (SqL.of e3) ?_
    refine for_it (walk_list (K := K) (xs := ds)) (fun i σ H4 => ∃ y1 y2 y3 y4 y5 y6, σ = [some (.ref a), y1, y2, y3, y4, y5, y6] ∧ Same H3 H4)
      ⟨_, _, _, _, _, _, rfl, Same.refl _⟩ (fun i σ H4 _ hP => ?_) (fun i x σ H4' H4 hi hP hy => ?_) (fun σ H4 hP => ?_)
    · obtain ⟨_, _, _, _, _, _, _, k4⟩ := hP
      exact SqL.of (k4 _ _ e3)
    · obtain ⟨y1, y2, y3, y4, y5, y6, rfl, k4⟩ := hP
      obtain ⟨rfl, ex⟩ := hy
      obtain ⟨c, rfl⟩ := all x (List.mem_of_getElem? ex)
      walk_at "rd"
      refine ⟨c, rfl, fun H5 h s5 fh hh5 => ?_⟩
      walk_at "rd"
      refine ⟨sz (by show 8 ≤ 100000; decide), fun p6 f6 => ?_⟩
      walk_at "rd"
      refine ⟨h, 8, rfl, by decide, by decide, hh5.put (hh5.ne f6), fun H7 g7 k7 hh7 a7 b7 => ?_⟩
      have e7 := k7 p6 _ (hh5.ne f6) upd_same
      obtain ⟨n, en, n1, n40⟩ := nine_at a7 b7
      refine d_ixLm e7 en ?_
      walk_at "rd"
      refine ⟨h, n, rfl, n1, n40, hh7, fun H8 v u k8 hh8 hw U _ => ?_⟩
      have k58 : Keep h H5 H8 := Keep.trans (Same.keep (same_new f6)) (Keep.trans k7 k8)
      walk_at "rd"
      refine ⟨h, 4, rfl, by decide, by decide, hh8, fun H9 g9 k9 hh9 a9 b9 => ?_⟩
      have k59 := Keep.trans k58 k9
      obtain ⟨_, eh8⟩ := hh8.lst
      have hw9 := hw.keep k9 eh8
      clear hw hh8 k8 k7 hh7 e7
      refine d_cut (fun σ H' => ∃ v' u' y5 y6, σ = [some (.ref a), some (.int c), some (.ref h), some v', some (.int g9), y5, y6] ∧ Keep h H5 H' ∧ Row H' h ∧ WebAt K H' v' u' ∧ WOk u') ?_ (fun σ Ha hP => ?_)
      · walk_at "rd"
        refine ite2 (fun e => ?_) (fun e => ?_)
        · walk_at "rd"
          refine ⟨h, 40, rfl, by decide, by decide, hh9, fun Hb v' u' kb hhb hwb Ub => ?_⟩
          walk_at "rd"
          exact ⟨v', u', _, _, rfl, Keep.trans k59 kb, hhb, hwb, Ub⟩
        · walk_at "rd"
          exact ⟨v, u, _, _, rfl, k59, hh9, hw9, U⟩
      obtain ⟨v2, u2, y5', y6', rfl, ka, hha, hwa, Ua⟩ := hP
      refine d_cut (fun σ H' => ∃ v' u' y5 y6, σ = [some (.ref a), some (.int c), some (.ref h), some v', some (.int g9), y5, y6] ∧ Keep h H5 H' ∧ Row H' h ∧ WebAt K H' v' u' ∧ WOk u') ?_ (fun σ Hb hP => ?_)
      · walk_at "rd"
        refine ite2 (fun e => ?_) (fun e => ?_)
        · walk_at "rd"
          refine ⟨h, rfl, hha, fun Hb v' u' kb hhb hwb Ub => ?_⟩
          walk_at "rd"
          exact ⟨v', u', _, _, rfl, Keep.trans ka kb, hhb, hwb, Ub⟩
        · walk_at "rd"
          exact ⟨v2, u2, _, _, rfl, ka, hha, hwa, Ua⟩
      obtain ⟨v3, u3, y5'', y6'', rfl, kb, hhb, hwb, Ub⟩ := hP
      have s4b : Same H4 Hb := keep_same93 fh (Keep.trans (Same.keep s5) kb)
      walk_at "rd"
      refine ⟨v3, u3, rfl, hwb, Ub, fun Hc sc => ?_⟩
      walk_at "rd"
      refine ⟨v3, u3, rfl, hwb.same sc, Ub, fun Hd sd => ?_⟩
      walk_at "rd"
      refine ⟨rfl, ?_⟩
      refine ⟨_, rfl, ?_⟩
      rw [show (!decide (V.str (webS u3) = V.str (webS u3))) = false by simp]
      refine iteF ?_
      walk_at "rd"
      have tbd : Hd T.P_is_web = some (TbX T.P_is_web) := sd _ _ (sc _ _ (s4b _ _ (k4 _ _ (s03 _ _ tb0))))
      refine ⟨u3, rfl, tbd, Ub, fun He v4 se hwe => ?_⟩
      have sbe := Same.trans sc (Same.trans sd se)
      obtain ⟨ae, be, tve, rfl, qe1, qe2, pe3⟩ := id hwe
      have hwb2 := hwb.same sbe
      walk_at "rd"
      refine ⟨_, _, hwe.dp, hwb2.dp, webD_good Ub, webD_good Ub, ?_⟩
      rw [good_eqv (webD_good Ub)]
      walk_at "rd"
      refine d_isTup qe1 ?_
      walk_at "rd"
      refine d_ixT qe1 rfl ?_
      walk_at "rd"
      refine d_isTup qe2 ?_
      walk_at "rd"
      exact ⟨_, _, _, _, _, _, rfl, Same.trans k4 (Same.trans s4b sbe)⟩
    · obtain ⟨y1, y2, y3, y4, y5, y6, rfl, k4⟩ := hP
      walk_at "rd"
      refine ⟨sz (by show 0 ≤ 100000; decide), fun b1 fb1 => ?_⟩
      have sb1 := same_new (o := .tup ([] : List V)) fb1
      have eb1 := upd_same (H := H4) (a := b1) (o := .tup ([] : List V))
      generalize upd H4 b1 (.tup []) = H5 at sb1 eb1 ⊢
      walk_at "rd"
      refine ⟨sz (by show 2 ≤ 100000; decide), fun b2 fb2 => ?_⟩
      have sb2 := same_new (o := .tup [V.str (Str.ofString ""), V.ref b1]) fb2
      have wb : WebAt K (upd H5 b2 (.tup [V.str (Str.ofString ""), V.ref b1])) (.ref b2) ([], []) := ⟨b2, b1, [], rfl, SqT.of upd_same, SqT.of (sb2 _ _ eb1), .nil⟩
      generalize upd H5 b2 _ = H6 at sb2 wb ⊢
      walk_at "rd"
      refine ⟨.ref b2, ([], []), rfl, wb, bareW, fun H7 s7 => ?_⟩
      rw [bareS]
      walk_at "rd"
      refine d_eqY ?_
      refine ⟨_, rfl, ?_⟩
      refine iteT ?_
      walk_at "rd"
      have s07 := Same.trans s03 (Same.trans k4 (Same.trans sb1 (Same.trans sb2 s7)))
      refine ⟨([], []), congrArg (fun z => [V.str z]) bareS.symm, s07 _ _ tb0, bareW, fun H8 v8 s8 hw8 => ?_⟩
      walk_at "rd"
      refine ⟨sz (by show 0 ≤ 100000; decide), fun b3 fb3 => ?_⟩
      have sb3 := same_new (o := .tup ([] : List V)) fb3
      have eb3 := upd_same (H := H8) (a := b3) (o := .tup ([] : List V))
      have hw9 := hw8.same sb3
      generalize upd H8 b3 (.tup []) = H9 at sb3 eb3 hw9 ⊢
      walk_at "rd"
      refine ⟨sz (by show 2 ≤ 100000; decide), fun b4 fb4 => ?_⟩
      have sb4 := same_new (o := .tup [V.str (Str.ofString ""), V.ref b3]) fb4
      have wb4 : WebAt K (upd H9 b4 (.tup [V.str (Str.ofString ""), V.ref b3])) (.ref b4) ([], []) := ⟨b4, b3, [], rfl, SqT.of upd_same, SqT.of (sb4 _ _ eb3), .nil⟩
      have hw10 := hw9.same sb4
      generalize upd H9 b4 _ = H10 at sb4 wb4 hw10 ⊢
      refine ⟨_, _, hw10.dp, wb4.dp, webD_good bareW, webD_good bareW, ?_⟩
      rw [good_eqv (webD_good bareW)]
      walk_at "rd"
      exact q _ fun p hp => sb4 _ _ (sb3 _ _ (s8 _ _ (s07 _ _ (tabs p hp))))

end
theorem all_mk {l : PySem.W.OpenLaw} {w : World} {K : PySem.W.Frag} {h : Heap} {mg : Str → Option Value} {fa f_4 f_5 f_6 f_7 f_8 f_10 f_11 f_12 f_15 f_16 f_17 f_18 f_19 f_20 f_21 f_22 f_23 f_24 f_25 cc8 PP8 : Addr} (X : K.In h) (G : h.Ns mainGlobals mg) (hfa : mg "law" = some (.ref fa))
    {tc8 : Value} {td8 : Option Addr} {tv8 : Array Value} {ts8 : Array (Option Value)}
    (facts : ∀ x ∈ [("is_web" : Str)], TabFact mg h x)
    {od4 an4 od5 an5 od6 an6 od7 an7 od8 an8 od10 an10 od11 an11 od12 an12 od15 an15 od16 an16 od17 an17 od18 an18 od19 an19 od20 an20 od21 an21 od22 an22 od23 an23 od24 an24 od25 an25 : Option Addr} {sl4 sl5 sl6 sl7 sl8 sl10 sl11 sl12 sl15 sl16 sl17 sl18 sl19 sl20 sl21 sl22 sl23 sl24 sl25 : Array (Option Value)} {oc4 kV4 dc4 pm4 ct4 cd4 oc5 kV5 dc5 pm5 ct5 cd5 oc6 kV6 dc6 pm6 ct6 cd6 oc7 kV7 dc7 pm7 ct7 cd7 oc8 kV8 dc8 pm8 ct8 oc10 kV10 dc10 pm10 ct10 cd10 oc11 kV11 dc11 pm11 ct11 cd11 oc12 kV12 dc12 pm12 ct12 cd12 oc15 kV15 dc15 pm15 ct15 cd15 oc16 kV16 dc16 pm16 ct16 cd16 oc17 kV17 dc17 pm17 ct17 cd17 oc18 kV18 dc18 pm18 ct18 cd18 oc19 kV19 dc19 pm19 ct19 cd19 oc20 kV20 dc20 pm20 ct20 cd20 oc21 kV21 dc21 pm21 ct21 cd21 oc22 kV22 dc22 pm22 ct22 cd22 oc23 kV23 dc23 pm23 ct23 cd23 oc24 kV24 dc24 pm24 ct24 cd24 oc25 kV25 dc25 pm25 ct25 cd25 : Value}
    (a4 : PySem.W.nsIn K mainGlobals "is_letter" = some (some (.ref f_4))) (l4 : K.lookup f_4 = some ⟨oc4, od4, .func (PySem.W.fnOf "is_letter" "is_letter" (defArgs s_is_letter) (defBody s_is_letter) (defScope s_is_letter) .none kV4 dc4 pm4 an4 cd4 ct4), sl4⟩) (c4 : PySem.W.codeIn K cd4 "is_letter" = true) (k4 : PySem.W.keepIn K (.ref f_4) = true)
    (a5 : PySem.W.nsIn K mainGlobals "is_place" = some (some (.ref f_5))) (l5 : K.lookup f_5 = some ⟨oc5, od5, .func (PySem.W.fnOf "is_place" "is_place" (defArgs s_is_place) (defBody s_is_place) (defScope s_is_place) .none kV5 dc5 pm5 an5 cd5 ct5), sl5⟩) (c5 : PySem.W.codeIn K cd5 "is_place" = true) (k5 : PySem.W.keepIn K (.ref f_5) = true)
    (a6 : PySem.W.nsIn K mainGlobals "rises" = some (some (.ref f_6))) (l6 : K.lookup f_6 = some ⟨oc6, od6, .func (PySem.W.fnOf "rises" "rises" (defArgs s_rises) (defBody s_rises) (defScope s_rises) .none kV6 dc6 pm6 an6 cd6 ct6), sl6⟩) (c6 : PySem.W.codeIn K cd6 "rises" = true) (k6 : PySem.W.keepIn K (.ref f_6) = true)
    (a7 : PySem.W.nsIn K mainGlobals "is_tie" = some (some (.ref f_7))) (l7 : K.lookup f_7 = some ⟨oc7, od7, .func (PySem.W.fnOf "is_tie" "is_tie" (defArgs s_is_tie) (defBody s_is_tie) (defScope s_is_tie) .none kV7 dc7 pm7 an7 cd7 ct7), sl7⟩) (c7 : PySem.W.codeIn K cd7 "is_tie" = true) (k7 : PySem.W.keepIn K (.ref f_7) = true)
    (a8 : PySem.W.nsIn K mainGlobals "is_web" = some (some (.ref f_8))) (l8 : K.lookup f_8 = some ⟨oc8, od8, .func (PySem.W.fnOf "is_web" "is_web" (defArgs s_is_web) (defBody s_is_web) (defScope s_is_web) .none kV8 dc8 pm8 an8 (.ref cc8) ct8), sl8⟩) (c8 : PySem.W.codeIn K (.ref cc8) "is_web" = true) (k8 : PySem.W.keepIn K (.ref f_8) = true)
    (t8 : K.lookup cc8 = some ⟨tc8, td8, .fields tv8, ts8⟩) (u8 : tv8[11]? = some (.ref PP8)) (n8 : K.lookup PP8 = none)
    (a10 : PySem.W.nsIn K mainGlobals "show_web" = some (some (.ref f_10))) (l10 : K.lookup f_10 = some ⟨oc10, od10, .func (PySem.W.fnOf "show_web" "show_web" (defArgs s_show_web) (defBody s_show_web) (defScope s_show_web) .none kV10 dc10 pm10 an10 cd10 ct10), sl10⟩) (c10 : PySem.W.codeIn K cd10 "show_web" = true) (k10 : PySem.W.keepIn K (.ref f_10) = true)
    (a11 : PySem.W.nsIn K mainGlobals "read_web" = some (some (.ref f_11))) (l11 : K.lookup f_11 = some ⟨oc11, od11, .func (PySem.W.fnOf "read_web" "read_web" (defArgs s_read_web) (defBody s_read_web) (defScope s_read_web) .none kV11 dc11 pm11 an11 cd11 ct11), sl11⟩) (c11 : PySem.W.codeIn K cd11 "read_web" = true) (k11 : PySem.W.keepIn K (.ref f_11) = true)
    (a12 : PySem.W.nsIn K mainGlobals "web_of" = some (some (.ref f_12))) (l12 : K.lookup f_12 = some ⟨oc12, od12, .func (PySem.W.fnOf "web_of" "web_of" (defArgs s_web_of) (defBody s_web_of) (defScope s_web_of) .none kV12 dc12 pm12 an12 cd12 ct12), sl12⟩) (c12 : PySem.W.codeIn K cd12 "web_of" = true) (k12 : PySem.W.keepIn K (.ref f_12) = true)
    (a15 : PySem.W.nsIn K mainGlobals "_law_row" = some (some (.ref f_15))) (l15 : K.lookup f_15 = some ⟨oc15, od15, .func (PySem.W.fnOf "_law_row" "_law_row" (defArgs s_row) (defBody s_row) (defScope s_row) .none kV15 dc15 pm15 an15 cd15 ct15), sl15⟩) (c15 : PySem.W.codeIn K cd15 "_law_row" = true) (k15 : PySem.W.keepIn K (.ref f_15) = true)
    (a16 : PySem.W.nsIn K mainGlobals "_law_take" = some (some (.ref f_16))) (l16 : K.lookup f_16 = some ⟨oc16, od16, .func (PySem.W.fnOf "_law_take" "_law_take" (defArgs s_take) (defBody s_take) (defScope s_take) .none kV16 dc16 pm16 an16 cd16 ct16), sl16⟩) (c16 : PySem.W.codeIn K cd16 "_law_take" = true) (k16 : PySem.W.keepIn K (.ref f_16) = true)
    (a17 : PySem.W.nsIn K mainGlobals "_law_kinds" = some (some (.ref f_17))) (l17 : K.lookup f_17 = some ⟨oc17, od17, .func (PySem.W.fnOf "_law_kinds" "_law_kinds" (defArgs s_kinds) (defBody s_kinds) (defScope s_kinds) .none kV17 dc17 pm17 an17 cd17 ct17), sl17⟩) (c17 : PySem.W.codeIn K cd17 "_law_kinds" = true) (k17 : PySem.W.keepIn K (.ref f_17) = true)
    (a18 : PySem.W.nsIn K mainGlobals "_law_web" = some (some (.ref f_18))) (l18 : K.lookup f_18 = some ⟨oc18, od18, .func (PySem.W.fnOf "_law_web" "_law_web" (defArgs s_web) (defBody s_web) (defScope s_web) .none kV18 dc18 pm18 an18 cd18 ct18), sl18⟩) (c18 : PySem.W.codeIn K cd18 "_law_web" = true) (k18 : PySem.W.keepIn K (.ref f_18) = true)
    (a19 : PySem.W.nsIn K mainGlobals "_law_order" = some (some (.ref f_19))) (l19 : K.lookup f_19 = some ⟨oc19, od19, .func (PySem.W.fnOf "_law_order" "_law_order" (defArgs s_order) (defBody s_order) (defScope s_order) .none kV19 dc19 pm19 an19 cd19 ct19), sl19⟩) (c19 : PySem.W.codeIn K cd19 "_law_order" = true) (k19 : PySem.W.keepIn K (.ref f_19) = true)
    (a20 : PySem.W.nsIn K mainGlobals "_law_turned" = some (some (.ref f_20))) (l20 : K.lookup f_20 = some ⟨oc20, od20, .func (PySem.W.fnOf "_law_turned" "_law_turned" (defArgs s_turned) (defBody s_turned) (defScope s_turned) .none kV20 dc20 pm20 an20 cd20 ct20), sl20⟩) (c20 : PySem.W.codeIn K cd20 "_law_turned" = true) (k20 : PySem.W.keepIn K (.ref f_20) = true)
    (a21 : PySem.W.nsIn K mainGlobals "_law_line" = some (some (.ref f_21))) (l21 : K.lookup f_21 = some ⟨oc21, od21, .func (PySem.W.fnOf "_law_line" "_law_line" (defArgs s_line) (defBody s_line) (defScope s_line) .none kV21 dc21 pm21 an21 cd21 ct21), sl21⟩) (c21 : PySem.W.codeIn K cd21 "_law_line" = true) (k21 : PySem.W.keepIn K (.ref f_21) = true)
    (a22 : PySem.W.nsIn K mainGlobals "_law_shaped" = some (some (.ref f_22))) (l22 : K.lookup f_22 = some ⟨oc22, od22, .func (PySem.W.fnOf "_law_shaped" "_law_shaped" (defArgs s_shaped) (defBody s_shaped) (defScope s_shaped) .none kV22 dc22 pm22 an22 cd22 ct22), sl22⟩) (c22 : PySem.W.codeIn K cd22 "_law_shaped" = true) (k22 : PySem.W.keepIn K (.ref f_22) = true)
    (a23 : PySem.W.nsIn K mainGlobals "_law_text" = some (some (.ref f_23))) (l23 : K.lookup f_23 = some ⟨oc23, od23, .func (PySem.W.fnOf "_law_text" "_law_text" (defArgs s_text) (defBody s_text) (defScope s_text) .none kV23 dc23 pm23 an23 cd23 ct23), sl23⟩) (c23 : PySem.W.codeIn K cd23 "_law_text" = true) (k23 : PySem.W.keepIn K (.ref f_23) = true)
    (a24 : PySem.W.nsIn K mainGlobals "_law_tree" = some (some (.ref f_24))) (l24 : K.lookup f_24 = some ⟨oc24, od24, .func (PySem.W.fnOf "_law_tree" "_law_tree" (defArgs s_tree) (defBody s_tree) (defScope s_tree) .none kV24 dc24 pm24 an24 cd24 ct24), sl24⟩) (c24 : PySem.W.codeIn K cd24 "_law_tree" = true) (k24 : PySem.W.keepIn K (.ref f_24) = true)
    (a25 : PySem.W.nsIn K mainGlobals "law" = some (some (.ref f_25))) (l25 : K.lookup f_25 = some ⟨oc25, od25, .func (PySem.W.fnOf "law" "law" (defArgs s_law) (defBody s_law) (defScope s_law) .none kV25 dc25 pm25 an25 cd25 ct25), sl25⟩) (c25 : PySem.W.codeIn K cd25 "law" = true) (k25 : PySem.W.keepIn K (.ref f_25) = true)
    (z0 : PySem.W.nsIn K mainGlobals "all" = some none)
    (z1 : PySem.W.nsIn K mainGlobals "dict" = some none)
    (z2 : PySem.W.nsIn K mainGlobals "int" = some none)
    (z3 : PySem.W.nsIn K mainGlobals "isinstance" = some none)
    (z4 : PySem.W.nsIn K mainGlobals "len" = some none)
    (z5 : PySem.W.nsIn K mainGlobals "range" = some none)
    (z6 : PySem.W.nsIn K mainGlobals "set" = some none)
    (z7 : PySem.W.nsIn K mainGlobals "sorted" = some none)
    (z8 : PySem.W.nsIn K mainGlobals "str" = some none)
    (z9 : PySem.W.nsIn K mainGlobals "tuple" = some none)
    (z10 : PySem.W.nsIn K mainGlobals "type" = some none) :
    LawX l w K mg fa h := by
  have e := hfa.symm.trans (PySem.W.mg_of X G a25)
  cases e
  have F4 := fun_mk (st := s_is_letter) l4 c4 k4
  have b4 := F4.binds (ps := ["thing"]) fun _ _ _ _ _ _ us hl => match us, hl with | [_], _ => rfl
  have F5 := fun_mk (st := s_is_place) l5 c5 k5
  have b5 := F5.binds (ps := ["kinds", "thing"]) fun _ _ _ _ _ _ us hl => match us, hl with | [_, _], _ => rfl
  have F6 := fun_mk (st := s_rises) l6 c6 k6
  have b6 := F6.binds (ps := ["numbers"]) fun _ _ _ _ _ _ us hl => match us, hl with | [_], _ => rfl
  have F7 := fun_mk (st := s_is_tie) l7 c7 k7
  have b7 := F7.binds (ps := ["kinds", "thing"]) fun _ _ _ _ _ _ us hl => match us, hl with | [_, _], _ => rfl
  have F8 := fun_mk (st := s_is_web) l8 c8 k8
  have b8 := F8.binds (ps := ["thing"]) fun _ _ _ _ _ _ us hl => match us, hl with | [_], _ => rfl
  have F10 := fun_mk (st := s_show_web) l10 c10 k10
  have b10 := F10.binds (ps := ["web"]) fun _ _ _ _ _ _ us hl => match us, hl with | [_], _ => rfl
  have F11 := fun_mk (st := s_read_web) l11 c11 k11
  have b11 := F11.binds (ps := ["text"]) fun _ _ _ _ _ _ us hl => match us, hl with | [_], _ => rfl
  have F12 := fun_mk (st := s_web_of) l12 c12 k12
  have b12 := F12.binds (ps := ["lines"]) fun _ _ _ _ _ _ us hl => match us, hl with | [_], _ => rfl
  have F15 := fun_mk (st := s_row) l15 c15 k15
  have b15 := F15.binds (ps := ["cell"]) fun _ _ _ _ _ _ us hl => match us, hl with | [_], _ => rfl
  have F16 := fun_mk (st := s_take) l16 c16 k16
  have b16 := F16.binds (ps := ["row", "many"]) fun _ _ _ _ _ _ us hl => match us, hl with | [_, _], _ => rfl
  have F17 := fun_mk (st := s_kinds) l17 c17 k17
  have b17 := F17.binds (ps := ["row", "many"]) fun _ _ _ _ _ _ us hl => match us, hl with | [_, _], _ => rfl
  have F18 := fun_mk (st := s_web) l18 c18 k18
  have b18 := F18.binds (ps := ["row", "most"]) fun _ _ _ _ _ _ us hl => match us, hl with | [_, _], _ => rfl
  have F19 := fun_mk (st := s_order) l19 c19 k19
  have b19 := F19.binds (ps := ["row", "many"]) fun _ _ _ _ _ _ us hl => match us, hl with | [_, _], _ => rfl
  have F20 := fun_mk (st := s_turned) l20 c20 k20
  have b20 := F20.binds (ps := ["web", "order"]) fun _ _ _ _ _ _ us hl => match us, hl with | [_, _], _ => rfl
  have F21 := fun_mk (st := s_line) l21 c21 k21
  have b21 := F21.binds (ps := ["row", "many", "ring"]) fun _ _ _ _ _ _ us hl => match us, hl with | [_, _, _], _ => rfl
  have F22 := fun_mk (st := s_shaped) l22 c22 k22
  have b22 := F22.binds (ps := ["row", "most"]) fun _ _ _ _ _ _ us hl => match us, hl with | [_, _], _ => rfl
  have F23 := fun_mk (st := s_text) l23 c23 k23
  have b23 := F23.binds (ps := ["web"]) fun _ _ _ _ _ _ us hl => match us, hl with | [_], _ => rfl
  have F24 := fun_mk (st := s_tree) l24 c24 k24
  have b24 := F24.binds (ps := ["row"]) fun _ _ _ _ _ _ us hl => match us, hl with | [_], _ => rfl
  have F25 := fun_mk (st := s_law) l25 c25 k25
  have b25 := F25.binds (ps := ["script"]) fun _ _ _ _ _ _ us hl => match us, hl with | [_], _ => rfl
  have q8 := tab_of X (PySem.W.mg_of X G a8) l8 rfl t8 u8 (facts _ (by simp))
  exact ⟨_, [(cc8, PP8)], fun s v => .of_eq rfl, List.forall_mem_cons.mpr ⟨q8.1, List.forall_mem_nil _⟩, List.forall_mem_cons.mpr ⟨n8, List.forall_mem_nil _⟩, List.forall_mem_cons.mpr ⟨q8.2, List.forall_mem_nil _⟩, fun base _ _ TB => let T : Tx K mg base := ⟨⟨_, _, F4, b4, PySem.W.mg_of X G a4⟩, ⟨_, _, F5, b5, PySem.W.mg_of X G a5⟩, ⟨_, _, F6, b6, PySem.W.mg_of X G a6⟩, ⟨_, _, F7, b7, PySem.W.mg_of X G a7⟩, ⟨_, _, F8, b8, PySem.W.mg_of X G a8⟩, ⟨_, _, F10, b10, PySem.W.mg_of X G a10⟩, ⟨_, _, F11, b11, PySem.W.mg_of X G a11⟩, ⟨_, _, F12, b12, PySem.W.mg_of X G a12⟩, ⟨_, _, F15, b15, PySem.W.mg_of X G a15⟩, ⟨_, _, F16, b16, PySem.W.mg_of X G a16⟩, ⟨_, _, F17, b17, PySem.W.mg_of X G a17⟩, ⟨_, _, F18, b18, PySem.W.mg_of X G a18⟩, ⟨_, _, F19, b19, PySem.W.mg_of X G a19⟩, ⟨_, _, F20, b20, PySem.W.mg_of X G a20⟩, ⟨_, _, F21, b21, PySem.W.mg_of X G a21⟩, ⟨_, _, F22, b22, PySem.W.mg_of X G a22⟩, ⟨_, _, F23, b23, PySem.W.mg_of X G a23⟩, ⟨_, _, F24, b24, PySem.W.mg_of X G a24⟩, ⟨_, _, F25, b25, PySem.W.mg_of X G a25⟩, PySem.W.mg_none_of X G z0, PySem.W.mg_none_of X G z1, PySem.W.mg_none_of X G z2, PySem.W.mg_none_of X G z3, PySem.W.mg_none_of X G z4, PySem.W.mg_none_of X G z5, PySem.W.mg_none_of X G z6, PySem.W.mg_none_of X G z7, PySem.W.mg_none_of X G z8, PySem.W.mg_none_of X G z9, PySem.W.mg_none_of X G z10, cc8, PP8, rfl, TB (cc8, PP8) List.mem_cons_self⟩; .of (ok_law T) ⟨rfl, by decide, by decide⟩⟩
end Cw
open PySem PySem.W PyProof.Rows
set_option maxHeartbeats 0 in
theorem PySem.Challenge.cw_commonweb_k93_webs_written_holds : PySem.Challenge.rw_commonweb_k93_webs_written.Holds := by
  w_on; o_law; k_head; (case hw => w_witness2)
  k_fill
  refine Cw.walk_ofX (l := PySem.Challenge.rw_commonweb_k93_webs_written) ["is_web"] rfl rfl (by decide +kernel) (fun w h Y => PySem.W.kIn_of Y) ?F
  case F =>
    intro w mg fa h KX G hmg facts
    refine' Cw.all_mk KX G hmg facts ?a4 ?l4 ?c4 ?k4 ?a5 ?l5 ?c5 ?k5 ?a6 ?l6 ?c6 ?k6 ?a7 ?l7 ?c7 ?k7 ?a8 ?l8 ?c8 ?k8 ?t8 ?u8 ?n8 ?a10 ?l10 ?c10 ?k10 ?a11 ?l11 ?c11 ?k11 ?a12 ?l12 ?c12 ?k12 ?a15 ?l15 ?c15 ?k15 ?a16 ?l16 ?c16 ?k16 ?a17 ?l17 ?c17 ?k17 ?a18 ?l18 ?c18 ?k18 ?a19 ?l19 ?c19 ?k19 ?a20 ?l20 ?c20 ?k20 ?a21 ?l21 ?c21 ?k21 ?a22 ?l22 ?c22 ?k22 ?a23 ?l23 ?c23 ?k23 ?a24 ?l24 ?c24 ?k24 ?a25 ?l25 ?c25 ?k25 ?z0 ?z1 ?z2 ?z3 ?z4 ?z5 ?z6 ?z7 ?z8 ?z9 ?z10
    (case a4 => k_is); (case l4 => k_is); (case c4 => k_is); (case k4 => k_is); (case a5 => k_is); (case l5 => k_is); (case c5 => k_is); (case k5 => k_is); (case a6 => k_is); (case l6 => k_is); (case c6 => k_is); (case k6 => k_is); (case a7 => k_is); (case l7 => k_is); (case c7 => k_is); (case k7 => k_is); (case a8 => k_is); (case l8 => k_is); (case c8 => k_is); (case k8 => k_is); (case t8 => k_is); (case u8 => rfl); (case n8 => rfl); (case a10 => k_is); (case l10 => k_is); (case c10 => k_is); (case k10 => k_is); (case a11 => k_is); (case l11 => k_is); (case c11 => k_is); (case k11 => k_is); (case a12 => k_is); (case l12 => k_is); (case c12 => k_is); (case k12 => k_is); (case a15 => k_is); (case l15 => k_is); (case c15 => k_is); (case k15 => k_is); (case a16 => k_is); (case l16 => k_is); (case c16 => k_is); (case k16 => k_is); (case a17 => k_is); (case l17 => k_is); (case c17 => k_is); (case k17 => k_is); (case a18 => k_is); (case l18 => k_is); (case c18 => k_is); (case k18 => k_is); (case a19 => k_is); (case l19 => k_is); (case c19 => k_is); (case k19 => k_is); (case a20 => k_is); (case l20 => k_is); (case c20 => k_is); (case k20 => k_is); (case a21 => k_is); (case l21 => k_is); (case c21 => k_is); (case k21 => k_is); (case a22 => k_is); (case l22 => k_is); (case c22 => k_is); (case k22 => k_is); (case a23 => k_is); (case l23 => k_is); (case c23 => k_is); (case k23 => k_is); (case a24 => k_is); (case l24 => k_is); (case c24 => k_is); (case k24 => k_is); (case a25 => k_is); (case l25 => k_is); (case c25 => k_is); (case k25 => k_is); (case z0 => k_is); (case z1 => k_is); (case z2 => k_is); (case z3 => k_is); (case z4 => k_is); (case z5 => k_is); (case z6 => k_is); (case z7 => k_is); (case z8 => k_is); (case z9 => k_is); (case z10 => k_is)
