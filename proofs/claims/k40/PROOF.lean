import PyProof.Rows.All
import Wide.All
import OpenK.AllK
import Wide.FinOn
import PySem.Challenge.RW_commonweb_k40_bounds_by_degrees
import HandS.ForMost
import HandS.Conv
import KE.KItemsList
import KE.KDictZip
import HandS.Deep
import HandS.Evl
import HandS.IsInst
import HandS.Zip
import HandS.Walk
import KE.KEqSeq
import KE.KEqDeep
import HandS.SortRule
import HandS.DictTup
import KE.KDictSum
import PyProof.Draws
import HandS.SetFor
import PyProof.P3Eq
import HandS.NoneIn
import KE.DataFind
import PyProof.WalkInts
import PyProof.PureStr
import HandS.Strs
import KE.KSetDisp
import HandS.TupAny
import HandS.Style
import HandS.DictComp
import HandS.SortInts
import HandS.Wide
import HandS.WordsDict
import KE.GoesMore
import KE.GoesZip
import HandS.SetKeys
import HandS.SortKw
import PyProof.StrWalks
import PyProof.Rows.SortShellAny
set_option Elab.async false
set_option linter.all false
set_option maxRecDepth 100000
set_option maxHeartbeats 4000000
/-! list(enumerate(xs)) -/
namespace Cw
open PySem PySem.Spec PySem.Calls PyProof.Rows L2

theorem en_nolen : typeLookup (.type "enumerate") "__len__" = pure none := am_miss_of_fast (by decide +kernel)
theorem en_nohint : typeLookup (.type "enumerate") "__length_hint__" = pure none := am_miss_of_fast (by decide +kernel)

/-- how the iterator stands ahead of turn i -/
def EnSt (h : Heap) (e it l S : Addr) (items : Array Value) (i : Nat) : Prop :=
  h.IsListIter it l i ∧ h.IsList l items ∧ ((∃ old, IsEnum h e it i old) ∨ ∃ old T f oT, IsEnumHeld h e it i old T f ∧ h.get? T = some oT ∧ T ≠ e ∧ T ≠ it ∧ T ≠ S)

theorem EnSt.keep {h h' : Heap} {e it l S : Addr} {items : Array Value} {i : Nat} (x : EnSt h e it l S items i) (hk : ∀ b o, b ≠ S → h.get? b = some o → h'.get? b = some o) (h1 : e ≠ S) (h2 : it ≠ S) (h3 : l ≠ S) : EnSt h' e it l S items i := by
  obtain ⟨a, b, c⟩ := x
  refine ⟨a.at fun o q => hk it o h2 q, b.at fun o q => hk l o h3 q, ?_⟩
  rcases c with ⟨old, c⟩ | ⟨old, T, f, oT, c, hT, r1, r2, r3⟩
  · exact .inl ⟨old, hk _ _ h1 c⟩
  · exact .inr ⟨old, T, f, oT, hk _ _ h1 c, hk _ _ r3 hT, r1, r2, r3⟩

section
variable {prog : Program} {w : World} {A : Around} {E : Value → Shared → Prop} {s : Shared} {e it l S : Addr} {items : Array Value}

theorem en_item {i : Nat} {x : Value} {Q : Option Value → Shared → Prop} (st : EnSt s.heap e it l S items i) (hei : e ≠ it) (hle : l ≠ e) (hli : l ≠ it) (hS : S < s.heap.objs.size) (hx : items[i]? = some x)
    (hQ : ∀ h' t, EnSt h' e it l S items (i + 1) → h'.get? s.heap.objs.size = some { cls := .type "tuple", data := .seq #[.int i t, x] } → h'.objs.size = s.heap.objs.size + 1 →
      (∀ b o, b ≠ e → b ≠ it → s.heap.get? b = some o → h'.get? b = some o) → ∀ tk, Q (some (.ref s.heap.objs.size)) { s with heap := h', toks := tk }) : wpAny (model prog w) A (pyNext (.ref e)) Q E s := by
  obtain ⟨a, b, c⟩ := st
  have ec : ((i + 1 : Nat) : Int) = (i : Int) + 1 := by omega
  have nit : s.heap.objs.size ≠ it := let ⟨_, q, _⟩ := a; Nat.ne_of_gt (Heap.lt_size q)
  rcases c with ⟨old, c⟩ | ⟨old, T, f, oT, c, hT, r1, r2, r3⟩
  · refine wpAny_pyNext_enum_item c a b hx hei fun h' ho hit' hT hsz hk => hQ h' _ ⟨hit', b.at fun o q => hk l o hle hli q, .inr ⟨_, s.heap.objs.size, false, _, (by rw [ec]; exact ho), hT, Nat.ne_of_gt (Heap.lt_size c), nit, Nat.ne_of_gt hS⟩⟩ hT hsz hk _
  · refine wpAny_pyNext_enum_item_held c hT r1 r2 a b hx hei fun h' ho hit' hT' hsz hk => hQ h' _ ⟨hit', b.at fun o q => hk l o hle hli q, .inr ⟨old, T, true, oT, (by rw [ec]; exact ho), hk _ _ r1 r2 hT, r1, r2, r3⟩⟩ hT' hsz hk _

theorem en_done {i : Nat} {Q : Option Value → Shared → Prop} (hh : A.handled = none) (st : EnSt s.heap e it l S items i) (hx : items[i]? = none)
    (hQ : ∀ h', Heap.ExtBut it s.heap h' → Q none { s with heap := h' }) : wpAny (model prog w) A (pyNext (.ref e)) Q E s := by
  obtain ⟨a, b, c⟩ := st
  rcases c with ⟨old, c⟩ | ⟨old, T, f, oT, c, hT, r1, r2, r3⟩
  · exact wpAny_pyNext_enum_end hh c a b hx hQ
  · exact wpAny_pyNext_enum_end_held hh c a b hx hQ

/-- the tuples made so far -/
structure EnG (items : Array Value) (lo : Addr) (h : Heap) (as : List Addr) : Prop where
  rise : as.Pairwise (· < ·)
  above : ∀ a ∈ as, lo < a
  pairs : ∀ (j : Nat) (a : Addr), as[j]? = some a → ∃ t x, items[j]? = some x ∧ h.get? a = some { cls := .type "tuple", data := .seq #[.int j t, x] }
theorem EnG.there {lo : Addr} {h : Heap} {as : List Addr} (g : EnG items lo h as) {a : Addr} (ha : a ∈ as) : a < h.objs.size := by
  obtain ⟨j, hj⟩ := List.mem_iff_getElem?.mp ha
  obtain ⟨_, _, _, z⟩ := g.pairs j a hj
  exact Heap.lt_size z

theorem en_loop {R : Result → Shared → Prop} (hh : A.handled = none) (hei : e ≠ it) (hle : l ≠ e) (hli : l ≠ it) (heS : e < S) (hiS : it < S) (hlS : l < S) (hn : items.size ≤ sizeLine) (res : Value) {h₁ : Heap}
    (hR : ∀ h' tk acc c as, (∀ b o, b ≠ S → b ≠ e → b ≠ it → h₁.get? b = some o → h'.get? b = some o) → h'.get? S = some { cls := .type "list", dict := none, data := .seq acc c, slots := #[] } → as.length = items.size → EnG items S h' as →
      acc.toList = as.map Value.ref → R (.ok (.ret res)) { s with heap := h', toks := tk }) :
    ∀ (k i : Nat) (h : Heap) (tk c : Nat) (acc : Array Value) (as : List Addr), items.size - i = k → i ≤ items.size → EnSt h e it l S items i → (∀ b o, b ≠ S → b ≠ e → b ≠ it → h₁.get? b = some o → h.get? b = some o) →
      h.get? S = some { cls := .type "list", dict := none, data := .seq acc c, slots := #[] } → acc.toList = as.map Value.ref → as.length = i → EnG items S h as →
      codeAny (model prog w) A (.builtin "list.extend.loop" ⟨[.ref S, .ref e, res], []⟩) R { s with heap := h, toks := tk } := by
  have neS : e ≠ S := Nat.ne_of_lt heS
  have niS : it ≠ S := Nat.ne_of_lt hiS
  have nlS : l ≠ S := Nat.ne_of_lt hlS
  intro k
  induction k with
  | zero =>
    intro i h tk c acc as hk hi hst hkeep hS hacc hal hG
    refine codeAny_builtin (prog := prog) (w := w) PySem.F.entry_extend_loop ?_
    rw [Around.under_plainId (A := A) PySem.F.plain_extend_loop _]
    show wpAny _ A.in1 (pyNext (.ref e) >>= _) _ _ _
    refine wpAny_bind (en_done (s := { s with heap := h, toks := tk }) (A := A.in1) hh hst (Array.getElem?_eq_none (by omega)) fun h' he => ?_)
    refine wpAny_pure (hR h' tk acc c as (fun b o h1 h2 h3 q => he b o h3 (hkeep b o h1 h2 h3 q)) (he S _ niS.symm hS) (by omega) ⟨hG.rise, hG.above, fun j a hj => ?_⟩ hacc)
    obtain ⟨t, x, z1, z2⟩ := hG.pairs j a hj
    exact ⟨t, x, z1, he a _ (Nat.ne_of_gt (Nat.lt_trans hiS (hG.above a (List.mem_of_getElem? hj)))) z2⟩
  | succ k ih =>
    intro i h tk c acc as hk hi hst hkeep hS hacc hal hG
    have hlt : i < items.size := by omega
    have hx : items[i]? = some items[i] := Array.getElem?_eq_getElem hlt
    have hsz : acc.size = i := by rw [← Array.length_toList, hacc, List.length_map, hal]
    refine codeAny_builtin (prog := prog) (w := w) PySem.F.entry_extend_loop ?_
    rw [Around.under_plainId (A := A) PySem.F.plain_extend_loop _]
    show wpAny _ A.in1 (pyNext (.ref e) >>= _) _ _ _
    refine wpAny_bind (en_item (s := { s with heap := h, toks := tk }) (S := S) hst hei hle hli (Heap.lt_size hS) hx fun h' t hst' ht hz hkp tk' => ?_)
    dsimp only at ht hz hkp ⊢
    have hS' := hkp S _ neS.symm niS.symm hS
    have up : ∀ b o, b ≠ S → h'.get? b = some o → (h'.update S (Obj.mapSeq (·.push (Value.ref h.objs.size)))).get? b = some o := fun b o hb q => (Heap.get?_update_other _ _ (Ne.symm hb)).trans q
    have hSl : S < h.objs.size := Heap.lt_size hS
    show wpAny _ A.in1 (updateSeq S (·.push (Value.ref h.objs.size)) >>= _) _ _ _
    refine wpAny_bind (wpAny_updateSeq hS' rfl (wpAny_pure ⟨plainId_quiet PySem.F.plain_extend_loop _, ih (i + 1) _ tk' _ (acc.push (Value.ref h.objs.size)) (as ++ [h.objs.size]) (by omega) hlt (hst'.keep up neS niS nlS)
      (fun b o h1 h2 h3 q => up b o h1 (hkp b o h2 h3 (hkeep b o h1 h2 h3 q))) (Heap.get?_update_self _ hS' rfl) (by rw [Array.toList_push, hacc, List.map_append]; rfl) (by rw [List.length_append, hal]; rfl) ⟨?_, ?_, ?_⟩⟩) (by rw [hsz]; omega) (by show (acc.push (Value.ref h.objs.size)).size ≤ sizeLine + 1; rw [Array.size_push, hsz]; omega))
    · refine List.pairwise_append.mpr ⟨hG.rise, List.pairwise_singleton _ _, fun a ha b hb => ?_⟩
      rw [List.mem_singleton.mp hb]; exact hG.there ha
    · intro a ha
      rcases List.mem_append.mp ha with ha | ha
      · exact hG.above a ha
      · rw [List.mem_singleton.mp ha]; exact hSl
    · intro j b hj
      rcases Nat.lt_trichotomy j as.length with h1 | h1 | h1
      · rw [List.getElem?_append_left h1] at hj
        obtain ⟨t', x', z1, z2⟩ := hG.pairs j b hj
        have hb := hG.above b (List.mem_of_getElem? hj)
        exact ⟨t', x', z1, up b _ (Nat.ne_of_gt hb) (hkp b _ (Nat.ne_of_gt (Nat.lt_trans heS hb)) (Nat.ne_of_gt (Nat.lt_trans hiS hb)) z2)⟩
      · subst h1
        have hb : h.objs.size = b := by simpa using hj
        subst hb
        exact ⟨t, _, by rw [hal]; exact hx, by rw [hal]; exact up _ _ (Nat.ne_of_gt hSl) ht⟩
      · have hnone : (as ++ [h.objs.size])[j]? = none := List.getElem?_eq_none (by rw [List.length_append, List.length_singleton]; omega)
        rw [hnone] at hj; cases hj

theorem en_hint (hT : s.TypeIs (.ref e) "enumerate") {Q : Bool → Shared → Prop} (h : Q true s) : wpAny (model prog w) A (Builtin.List.listLengthHint (.ref e)) Q E s := by
  unfold Builtin.List.listLengthHint
  refine wpAny_bind (wpAny_specialOf hT en_nolen ?_)
  show wpAny _ _ (specialOf (Value.ref e) (Str.ofString "__length_hint__") >>= _) _ _ _
  refine wpAny_bind (wpAny_specialOf hT en_nohint ?_)
  exact wpAny_pure h

theorem en_extend {R : Result → Shared → Prop} (hh : A.handled = none) (he : IsEnum s.heap e it 0 .none) (hit : s.heap.IsListIter it l 0) (hl : s.heap.IsList l items) (hei : e ≠ it) (hle : l ≠ e) (hli : l ≠ it) (heS : e < S) (hiS : it < S) (hlS : l < S) (res : Value) (c₀ : Nat) (hS : s.heap.get? S = some { cls := .type "list", data := .seq #[] c₀ })
    (hR : ∀ h' tk acc c as, (∀ b o, b ≠ S → b ≠ e → b ≠ it → s.heap.get? b = some o → h'.get? b = some o) → h'.get? S = some { cls := .type "list", dict := none, data := .seq acc c, slots := #[] } → as.length = items.size → EnG items S h' as →
      acc.toList = as.map Value.ref → R (.ok (.ret res)) { s with heap := h', toks := tk }) (hn : items.size ≤ sizeLine) :
    wpAny (model prog w) A.in1 (Builtin.List.listExtendWith (.ref S) (.ref e) res)
      (fun fin s' => match fin with | .done f => R (.ok f) s' | .again c' => c'.quiet = true ∧ codeAny (model prog w) A c' R s') (fun e s' => R (.error e) s') s := by
  have hSr : S ≠ e := Nat.ne_of_gt heS
  have hTy : s.TypeIs (.ref e) "enumerate" := ⟨_, he, rfl⟩
  have key : ∀ (h : Heap) (c₁ tk : Nat), (∀ b o, b ≠ S → s.heap.get? b = some o → h.get? b = some o) → h.get? S = some { cls := .type "list", data := .seq #[] c₁ } → codeAny (model prog w) A (.builtin "list.extend.loop" ⟨[.ref S, .ref e, res], []⟩) R { s with heap := h, toks := tk } := by
    intro h c₁ tk hk hS₁
    refine en_loop (s := s) (h₁ := s.heap) hh hei hle hli heS hiS hlS hn res hR items.size 0 h tk c₁ #[] [] (Nat.sub_zero _) (Nat.zero_le _) ⟨hit.at fun o q => hk it o (Nat.ne_of_lt hiS) q, hl.at fun o q => hk l o (Nat.ne_of_lt hlS) q, .inl ⟨_, hk _ _ (Nat.ne_of_lt heS) he⟩⟩
      (fun b o h1 _ _ q => hk b o h1 q) hS₁ rfl rfl ⟨List.Pairwise.nil, (fun _ ha => nomatch ha), (fun j a hj => by simp at hj)⟩
  unfold Builtin.List.listExtendWith
  refine wpAny_bind (wpAny_typeOf (T := "enumerate") hTy ?_)
  have h1 : Builtin.List.listSameRef (.ref S) (.ref e) = false := by simp [Builtin.List.listSameRef, hSr]
  have h2 : (Value.type "enumerate" == Value.type "list") = false := by decide
  have h3 : (Value.type "enumerate" == Value.type "tuple") = false := by decide
  simp only [h1, h2, h3, Bool.or_false, Bool.false_eq_true, if_false]
  refine wpAny_bind (wpAny_pyIter_enum he ?_)
  refine wpAny_bind (wpAny_holding (en_hint hTy ?_))
  refine wpAny_ite_split (fun _ => ?_) (fun _ => wpAny_pure ⟨plainId_quiet PySem.F.plain_extend_loop _, key _ c₀ _ (fun b o _ q => q) hS⟩)
  refine wpAny_bind (wpAny_rule (wpAny_bind ?_))
  · show wpAny _ _ (updateSeq S (·.push .none) >>= fun _ => updateSeq S (·.pop)) _ _ _
    refine wpAny_bind (wpAny_updateSeq hS rfl ?_)
    have hS₂ := Heap.get?_update_self (Obj.mapSeq (·.push Value.none)) hS rfl
    refine wpAny_updateSeq (hz := by seq_fits) hS₂ rfl ?_
    have hS₃ := Heap.get?_update_self (Obj.mapSeq (·.pop)) hS₂ rfl
    refine wpAny_pure ⟨plainId_quiet PySem.F.plain_extend_loop _, key _ _ _ (fun b o hb q => ?_) hS₃⟩
    exact (Heap.get?_update_other _ _ (Ne.symm hb)).trans ((Heap.get?_update_other _ _ (Ne.symm hb)).trans q)

theorem EnG.low {lo lo' : Addr} {h : Heap} {as : List Addr} (g : EnG items lo h as) (hl : lo' ≤ lo) : EnG items lo' h as := ⟨g.rise, fun a ha => Nat.lt_of_le_of_lt hl (g.above a ha), g.pairs⟩

/-- list(e), e an enumerate that nobody has asked yet -/
theorem en_call {Q : Value → Shared → Prop} (hh : A.handled = none) (he : IsEnum s.heap e it 0 .none) (hit : s.heap.IsListIter it l 0) (hl : s.heap.IsList l items) (hei : e ≠ it) (hle : l ≠ e) (hli : l ≠ it) (hn : items.size ≤ sizeLine)
    (hQ : ∀ h' tk acc c as, (∀ b o, b ≠ e → b ≠ it → s.heap.get? b = some o → h'.get? b = some o) → h'.get? s.heap.objs.size = some { cls := .type "list", dict := none, data := .seq acc c, slots := #[] } → as.length = items.size → EnG items s.heap.objs.size h' as →
      acc.toList = as.map Value.ref → Q (.ref s.heap.objs.size) { s with heap := h', toks := tk }) : wpAny (model prog w) A (call (.type "list") [.ref e]) Q E s := by
  refine callType_codes (Q₁ := fun obj s₁ => obj = .ref s.heap.objs.size ∧ s₁ = { s with heap := s.heap.push { cls := .type "list", data := .seq #[] } }) PySem.F.called_list (PySem.F.typeCall_list_1 _) PySem.F.entry_list_init (code_list_new _ ⟨rfl, rfl⟩) fun obj s₁ h₁ => ?_
  obtain ⟨rfl, rfl⟩ := h₁
  have hS : (s.heap.push { cls := .type "list", data := .seq #[] }).get? s.heap.objs.size = some { cls := .type "list", data := .seq #[] } := Heap.get?_push_size _ rfl
  have k1 : ∀ b o, s.heap.get? b = some o → (s.heap.push { cls := .type "list", data := .seq #[] }).get? b = some o := fun b o q => Heap.get?_push_of_some _ q
  have heS : e < s.heap.objs.size := Heap.lt_size he
  have hiS : it < s.heap.objs.size := by obtain ⟨_, q, _⟩ := hit; exact Heap.lt_size q
  have hlS : l < s.heap.objs.size := by obtain ⟨_, q, _⟩ := hl; exact Heap.lt_size q
  refine ⟨⟨_, hS, rfl⟩, PySem.F.args_list_init_2 _ _, ?_⟩
  show wpAny _ _ (do let old ← Builtin.List.listItems (.ref s.heap.objs.size); Builtin.List.listUpdate (.ref s.heap.objs.size) (fun _ => #[]); letGo old.toList.reverse; Builtin.List.listExtendWith (.ref s.heap.objs.size) (.ref e) .none) _ _ _
  refine wpAny_bind ?_; unfold Builtin.List.listItems; refine wpAny_bind (wpAny_seqItems hS rfl (wpAny_pure ?_))
  show wpAny _ _ (updateSeq s.heap.objs.size (fun _ => #[]) >>= fun _ => letGo (#[] : Array Value).toList.reverse >>= fun _ => Builtin.List.listExtendWith (.ref s.heap.objs.size) (.ref e) .none) _ _ _
  refine wpAny_bind (wpAny_updateSeq hS rfl (wpAny_bind (wpAny_letGo ?_)))
  have hS₂ := Heap.get?_update_self (Obj.mapSeq (fun _ => (#[] : Array Value))) hS rfl
  have k2 : ∀ b o, b ≠ s.heap.objs.size → s.heap.get? b = some o → ((s.heap.push { cls := .type "list", data := .seq #[] }).update s.heap.objs.size (Obj.mapSeq (fun _ => (#[] : Array Value)))).get? b = some o := fun b o hb q => (Heap.get?_update_other _ _ (Ne.symm hb)).trans (k1 b o q)
  refine en_extend (A := A.in1) (s := { s with heap := (s.heap.push { cls := .type "list", data := .seq #[] }).update s.heap.objs.size (Obj.mapSeq (fun _ => (#[] : Array Value))) }) hh (k2 _ _ (Nat.ne_of_lt heS) he) (hit.at fun o q => k2 it o (Nat.ne_of_lt hiS) q) (hl.at fun o q => k2 l o (Nat.ne_of_lt hlS) q) hei hle hli heS hiS hlS .none _ hS₂ (fun h' tk acc c as hk hS' hl' hG hacc => ?_) hn
  exact ⟨rfl, hQ h' tk acc c as (fun b o h1 h2 q => hk b o (Nat.ne_of_lt (Heap.lt_size q)) h1 h2 (k2 b o (Nat.ne_of_lt (Heap.lt_size q)) q)) hS' hl' hG hacc⟩
end

/-- the tuples tracked at their addresses -/
def putE : Hp → List Addr → List V → Nat → Hp
  | H, a :: as, x :: xs, j => putE (upd H a (.tup [.int j, x])) as xs (j + 1)
  | H, _, _, _ => H
theorem putE_off {b : Addr} : ∀ (as : List Addr) (xs : List V) (j : Nat) (H : Hp), b ∉ as → putE H as xs j b = H b
  | [], _, _, _, _ => rfl
  | _ :: _, [], _, _, _ => rfl
  | a :: as, x :: xs, j, H, h => by
    show putE (upd H a (.tup [.int j, x])) as xs (j + 1) b = H b
    rw [putE_off as xs _ _ (fun z => h (List.mem_cons_of_mem _ z)), upd_ne (fun z => h (by rw [z]; exact List.mem_cons_self))]
theorem putE_at : ∀ (as : List Addr) (xs : List V) (j : Nat) (H : Hp), as.Nodup → ∀ i t x, as[i]? = some t → xs[i]? = some x → putE H as xs j t = some (.tup [.int ((j + i : Nat) : Int), x])
  | [], _, _, _, _, _, _, _, h, _ => by simp at h
  | _ :: _, [], _, _, _, _, _, _, _, h => by simp at h
  | a :: as, y :: xs, j, H, hn, 0, t, x, h1, h2 => by
    have e1 : a = t := Option.some.inj h1
    have e2 : y = x := Option.some.inj h2
    subst e1; subst e2
    show putE (upd H a (.tup [.int j, y])) as xs (j + 1) a = _
    rw [putE_off as xs _ _ (List.nodup_cons.mp hn).1, upd_same]; rfl
  | a :: as, y :: xs, j, H, hn, i + 1, t, x, h1, h2 => by
    have ih := putE_at as xs (j + 1) (upd H a (.tup [.int j, y])) (List.nodup_cons.mp hn).2 i t x h1 h2
    show putE (upd H a (.tup [.int j, y])) as xs (j + 1) t = _
    rw [ih, show j + 1 + i = j + (i + 1) by omega]
theorem refs_vals : ∀ as : List Addr, Vals (as.map V.ref) (as.map Value.ref)
  | [] => .nil
  | _ :: as => .cons rfl (refs_vals as)
def rLstEn (K : PySem.W.Frag) : List V → Hp → VK → Prop := fun vs H Q => ∃ (a : Addr) (xs : List V), vs = [.ref a] ∧ SqL K H a xs ∧
  ∀ (H' : Hp) (p : Addr) (ts : List Addr), Same H H' → H p = none → (∀ t ∈ ts, H t = none) → p ∉ ts → H' p = some (.lst (ts.map V.ref)) → ts.length = xs.length → (∀ j t x, ts[j]? = some t → xs[j]? = some x → H' t = some (.tup [.int (j : Nat), x])) → Q (.ref p) H'
def tLstEn (K : PySem.W.Frag) (ta : TA) : TE := fun σ H Q => ta σ H fun vs H1 => rLstEn K vs H1 Q
section
variable {X : Cx} {e : Expr} {ta : TA} {p1 p2 pos pos2 : Pos}
theorem enum_laid {pins : List (Addr × Obj)} {σ : L2.St} {H : Hp} {s : Shared} {h' : Heap} {tk S : Nat} {xs : List V} {its : List Value} {acc : Array Value} {c : Nat} {as : List Addr} (I : Inv X pins σ H s) (hz : xs.length ≤ sizeLine) (rv : Vals xs its)
    (hk : ∀ b o, s.heap.get? b = some o → h'.get? b = some o) (hS0 : s.heap.objs.size ≤ S) (hS : h'.get? S = some { cls := .type "list", dict := none, data := .seq acc c, slots := #[] }) (hl : as.length = its.toArray.size) (hG : EnG its.toArray S h' as) (hacc : acc.toList = as.map Value.ref) :
    ∃ H' : Hp, Same H H' ∧ H S = none ∧ (∀ t ∈ as, H t = none) ∧ S ∉ as ∧ H' S = some (.lst (as.map V.ref)) ∧ (∀ j t x, as[j]? = some t → xs[j]? = some x → H' t = some (.tup [.int (j : Nat), x])) ∧ Inv X pins σ H' { s with heap := h', toks := tk } := by
  have lk : xs.length = its.length := Vals.length rv
  have hl' : as.length = xs.length := by rw [hl, List.size_toArray, lk]
  have hSn : S ∉ as := fun z => Nat.lt_irrefl _ (hG.above _ z)
  have nd : as.Nodup := List.Pairwise.imp (fun {a b} (h : a < b) => Nat.ne_of_lt h) hG.rise
  have new : ∀ t ∈ as, H t = none := fun t ht => I.hok.fresh (Nat.le_trans hS0 (Nat.le_of_lt (hG.above t ht)))
  have newS : H S = none := I.hok.fresh hS0
  have off : ∀ b, b ∉ as → b ≠ S → putE (upd H S (.lst (as.map V.ref))) as xs 0 b = H b := fun b h1 h2 => by rw [putE_off as xs _ _ h1, upd_ne h2]
  have low : ∀ b o, s.heap.get? b = some o → b ∉ as ∧ b ≠ S := fun b o q => ⟨fun z => absurd (Heap.lt_size q) (Nat.not_lt.mpr (Nat.le_trans hS0 (Nat.le_of_lt (hG.above b z)))), Nat.ne_of_lt (Nat.lt_of_lt_of_le (Heap.lt_size q) hS0)⟩
  have kp : Same H (putE (upd H S (.lst (as.map V.ref))) as xs 0) := fun b u q => by
    rw [off b (fun z => by rw [new b z] at q; cases q) (fun z => by rw [z, newS] at q; cases q)]
    exact q
  have eS : putE (upd H S (.lst (as.map V.ref))) as xs 0 S = some (.lst (as.map V.ref)) := by rw [putE_off as xs _ _ hSn, upd_same]
  have atP : ∀ j t x, as[j]? = some t → xs[j]? = some x → putE (upd H S (.lst (as.map V.ref))) as xs 0 t = some (.tup [.int (j : Nat), x]) := fun j t x h1 h2 => by
    rw [putE_at as xs 0 _ nd j t x h1 h2, Nat.zero_add]
  refine ⟨_, kp, newS, new, hSn, eS, atP, ?_⟩
  refine I.call' (ch := []) rfl ⟨fun b o q _ _ _ => hk b o q, fun b o q _ _ _ => ⟨o.slots, hk b o q⟩, fun b o q n _ => (off b (low b o q).1 (low b o q).2).trans n, fun b o q _ => ⟨o, hk b o q⟩, fun b xs q => kp b _ q, fun b o u q => kp b _ q, fun b ps q => ⟨#[], by rw [kp b _ q]; simp⟩⟩ (fun b u q => ?_) I.bare fun b z => by simp at z
  by_cases hb : b ∈ as
  · obtain ⟨j, e1⟩ := List.mem_iff_getElem?.mp hb
    have hj : j < xs.length := by
      have := (List.getElem?_eq_some_iff.mp e1).1
      omega
    have e2 : xs[j]? = some xs[j] := List.getElem?_eq_getElem hj
    rw [atP j b _ e1 e2] at q
    cases q
    obtain ⟨t, x, f1, f2⟩ := hG.pairs j b e1
    obtain ⟨u, g1, g2⟩ := rv.get e2
    have f1' : its[j]? = some x := by simpa using f1
    rw [g1] at f1'
    cases f1'
    exact ⟨by show 2 ≤ sizeLine; decide, [.int j t, x], .cons ⟨t, rfl⟩ (.cons g2 .nil), ⟨_, f2, rfl, _, rfl⟩⟩
  · by_cases hb2 : b = S
    · rw [hb2] at q ⊢
      rw [eS] at q
      cases q
      refine ⟨by rw [List.length_map]; omega, acc.toList, c, by rw [hacc]; exact refs_vals as, ?_⟩
      rw [Array.toArray_toList]; exact hS
    · rw [off b hb hb2] at q
      exact (I.hok b u q).stay (fun d v _ y => hk d v y) (fun d y => kp d _ y) fun d xs y => kp d _ y
/-- list(enumerate(e)) -/
theorem pe_listEnum (hc : X.calm = true) (hg : Gl X "list") (hm : X.mg "list" = none) (hg2 : Gl X "enumerate") (hm2 : X.mg "enumerate" = none) (ha : PA X [e] ta)
    (hs : starEach [.Call (.Name "enumerate" p2) [e] [] pos2] X.env = [(false, eval (.Call (.Name "enumerate" p2) [e] [] pos2) X.env)] := by rfl) (hs2 : starEach [e] X.env = [(false, eval e X.env)] := by rfl) :
    PE X (.Call (.Name "list" p1) [.Call (.Name "enumerate" p2) [e] [] pos2] [] pos) (tLstEn X.K ta) := by
  refine ⟨fun pins s σ H Q I hq => ?_⟩
  refine Call_ (ld_blt I hg hm boot_list (PyProof.Rows.callWith_type1 ?_ hs rfl))
  rw [hs]
  show wpAny _ _ (spliced ((false, eval (.Call (.Name "enumerate" p2) [e] [] pos2) X.env) :: backTo pos [])) _ _ s
  refine Calls.spliced_cons (Call_ (ld_blt I hg2 hm2 boot_enumerate (PyProof.Rows.callWith_type1 (thn (ha.run pos2 pins s σ H _ I hq) fun us s1 ⟨vs, H1, I1, r1, q1⟩ => ?_) hs2 rfl)))
  obtain ⟨a, xs, ex, hq, q⟩ := q1
  subst ex
  cases r1 with
  | cons r rr =>
    cases rr; cases r
    obtain ⟨its, rv, p', hz⟩ := I1.list hq
    have hl0 : a < s1.heap.objs.size := by obtain ⟨_, z, _⟩ := p'.isList; exact Heap.lt_size z
    refine call_enumerate_list p'.isList fun h' he hit hsz hk => ?_
    have I2 : Inv X pins σ H1 { s1 with heap := h' } := I1.kept (t' := s1.toks) hk
    refine Calls.spliced_nil ?_
    refine en_call (s := { s1 with heap := h' }) (I1.ok.hd hc) he hit (p'.isList.at fun o z => hk a o z) (Nat.succ_ne_self _) (Nat.ne_of_lt (Nat.lt_succ_of_lt hl0)) (Nat.ne_of_lt hl0) (by rw [List.size_toArray, ← rv.length]; exact hz) fun h'' tk acc c as hk2 hS hl hG hacc => ?_
    have hk3 : ∀ b o, s1.heap.get? b = some o → h''.get? b = some o := fun b o z => hk2 b o (Nat.ne_of_lt (Nat.lt_succ_of_lt (Heap.lt_size z))) (Nat.ne_of_lt (Heap.lt_size z)) (hk b o z)
    obtain ⟨H', k1, k2, k3, k4, k5, k6, J⟩ := enum_laid (tk := tk) I1 hz rv hk3 (by show s1.heap.objs.size ≤ h'.objs.size; omega) hS hl hG hacc
    exact ⟨.ref _, H', J, rfl, q H' _ as k1 k2 k3 k4 k5 (by rw [hl, List.size_toArray, rv.length]) k6⟩
end
end Cw

namespace Cw
open PySem PySem.Spec PyProof.Rows L2

/-! ### a def of the text, called by its name -/
structure Df (K : PySem.W.Frag) (mg : Str → Option Value) (x : Str) (st : Stmt) (ps : List Str) where
  f : Addr
  fd : FuncData
  F : Fun K x x st f fd
  b : Binds K fd ps []
  g : mg x = some (.ref f)

theorem units1 {k : Nat} {A : Around} (r : Room k A) : A.units + 65 < cLine := by have := r.un; omega
theorem blkOk_in {N : List Str} {sc scO scope : Scope} {own : List (Str × Nat)} {cl : List (Str × Addr)} {C : Addr} {env : Env} (he : env.scope = sc) (h : blkC N (relS scO sc) scope own = true) : BlkOk N (compEnvC scO cl C env).scope scope own := by
  subst he
  exact blkOk_by h
/-! ### heaps -/
/-- all but h is as it was -/
def Keep (h : Addr) (H H' : Hp) : Prop := ∀ b o, b ≠ h → H b = some o → H' b = some o
theorem Keep.refl (h : Addr) (H : Hp) : Keep h H H := fun _ _ _ e => e
theorem Keep.trans {h : Addr} {H H1 H2 : Hp} (a : Keep h H H1) (b : Keep h H1 H2) : Keep h H H2 := fun c o n e => b c o n (a c o n e)
theorem Keep.same {h : Addr} {H H1 H2 : Hp} (a : Keep h H H1) (b : Same H1 H2) : Keep h H H2 := fun c o n e => b c o (a c o n e)
theorem Same.keep {h : Addr} {H H1 : Hp} (a : Same H H1) : Keep h H H1 := fun c o _ e => a c o e
theorem Keep.put {h : Addr} {H : Hp} {o : HO} : Keep h H (upd H h o) := fun c u n e => by rw [upd_ne n]; exact e
/-- what was new ahead of it is not told -/
theorem Keep.out {h : Addr} {H0 H H1 : Hp} (s : Same H0 H) (k : Keep h H H1) (n : H0 h = none) : Same H0 H1 := fun c o e => k c o (ne_of_none e n) (s c o e)
theorem same_new {H : Hp} {p : Addr} {o : HO} (h : H p = none) : Same H (upd H p o) := fun b x e => by rw [upd_ne (ne_of_none e h)]; exact e
theorem same_upd {H H' : Hp} {p : Addr} {o : HO} (s : Same H H') (h : H p = none) : Same H (upd H' p o) := fun b x e => by rw [upd_ne (ne_of_none e h)]; exact s b x e
theorem Same.sqt {K : PySem.W.Frag} {H H' : Hp} {a : Addr} {xs : List V} (e : Same H H') (h : SqT K H a xs) : SqT K H' a xs := by
  rcases h with (h | ⟨o, h⟩) | h
  · exact .inl (.inl (e _ _ h))
  · exact .inl (.inr ⟨o, e _ _ h⟩)
  · exact .inr h
theorem at_upd {H : Hp} {a b : Addr} {o u : HO} (h : H a = some o) (n : H b = none) : upd H b u a = some o := by rw [upd_ne (ne_of_none h n)]; exact h

theorem Keep.new {h p : Addr} {H H' : Hp} {o : HO} (k : Keep h H H') (n : H p = none) : Keep h H (upd H' p o) := fun b u nb e => by rw [upd_ne (ne_of_none e n)]; exact k b u nb e
theorem Keep.free {h p : Addr} {H H' : Hp} (k : Keep h H H') (ne : p ≠ h) (n : H' p = none) : H p = none := by
  cases q : H p with
  | none => rfl
  | some o => rw [k p o ne q] at n; cases n
theorem Keep.self {h : Addr} {H H' : Hp} {o : HO} (k : Keep h H H') : Keep h H (upd H' h o) := fun b u nb e => by rw [upd_ne nb]; exact k b u nb e
theorem Keep.seqN {K : PySem.W.Frag} {H H' : Hp} {a h : Addr} {xs : List V} (k : Keep h H H') (n : H h = none) (q : SqL K H a xs) : SqL K H' a xs := by
  rcases q with (q | ⟨o, q⟩) | q
  · exact .inl (.inl (k _ _ (ne_of_none q n) q))
  · exact .inl (.inr ⟨o, k _ _ (ne_of_none q n) q⟩)
  · exact .inr q
/-- a tuple stands behind a store at a new place, at a list -/
theorem sqt_upd {K : PySem.W.Frag} {H : Hp} {a b : Addr} {xs : List V} {o : HO} (n : H b = none ∨ ∃ ys, H b = some (.lst ys)) (q : SqT K H a xs) : SqT K (upd H b o) a xs := by
  have ne : ∀ u, H a = some u → (∀ ys, u ≠ .lst ys) → a ≠ b := fun u e hu z => by
    subst z
    rcases n with n | ⟨ys, n⟩
    · rw [n] at e; cases e
    · rw [n] at e; exact hu ys (Option.some.inj e).symm
  rcases q with (q | ⟨o', q⟩) | q
  · exact .inl (.inl (by rw [upd_ne (ne _ q (by intro ys z; cases z))]; exact q))
  · exact .inl (.inr ⟨o', by rw [upd_ne (ne _ q (by intro ys z; cases z))]; exact q⟩)
  · exact .inr q
/-- x in (a, b, ..), data at any depth -/
def rInT (K : PySem.W.Frag) (neg : Bool) : R2 := fun x y H Q => ∃ d ds, Dp K H x d ∧ Dp K H y (.tuple ds) ∧ SeqAt.shaped d = true ∧ SeqAt.shaped (.tuple ds) = true ∧ Q (.bl (if neg then !(ds.any fun z => PyData.eqv z d) else ds.any fun z => PyData.eqv z d)) H
theorem op_inT {X : Cx} (hu : X.A.units + 65 < cLine) : OpR X (compareOp .In) (rInT X.K false) := by
  intro pins s σ H x y v u Q I rx ry h
  obtain ⟨d, ds, hd, he, sd, se, q⟩ := h
  obtain ⟨as, r1⟩ := Dp.reads I d x v hd rx
  obtain ⟨bs, r2⟩ := Dp.reads I (.tuple ds) y u he ry
  exact SeqAt.in_tuple_reads r2 r1 (SeqAt.canLay_of_shaped se) (SeqAt.canLay_of_shaped sd) (room_in_shaped sd hu) ⟨.bl _, H, I, rfl, q⟩
/-! ### readings, step by step -/
section
variable {K : PySem.W.Frag} {σ : L2.St} {H : Hp} {Q : VK} {QA : List V → Hp → Prop} {QT : Bool → Hp → Prop} {D : Ends} {ta tb tc te : TE} {tr t1 : TA} {tt tu : TT} {t u : TS} {r r' : R2} {v x y : V} {i j : Int} {n : Nat} {p : Addr} {xs : List V}
theorem d_var {i : Nat} (e : σ[i]? = some (some v)) (h : Q v H) : tVar i σ H Q := ⟨v, e, h⟩
theorem d_c (h : Q v H) : tC v σ H Q := h
theorem d_op (h : ta σ H fun x H1 => tb σ H1 fun y H2 => r x y H2 Q) : tOp r ta tb σ H Q := h
theorem d_un {r : V → Hp → VK → Prop} (h : ta σ H fun x H1 => r x H1 Q) : tUn r ta σ H Q := h
theorem d_cons (h : ta σ H fun x H1 => tr σ H1 fun xs H2 => QA (x :: xs) H2) : tCons ta tr σ H QA := h
theorem d_nil (h : QA [] H) : tNil σ H QA := h
theorem d_cb {r : List V → Hp → VK → Prop} (h : tr σ H fun vs H1 => r vs H1 Q) : tCB r tr σ H Q := h
theorem d_call {sp : Sp} {dvs : List V} {E : XK} (h : tr σ H fun vs H1 => sp (vs ++ dvs) H1 Q E) : tCall sp dvs E tr σ H Q := h
theorem d_tup (h : tr σ H fun xs H1 => xs.length ≤ sizeLine ∧ ∀ p, H1 p = none → Q (.ref p) (upd H1 p (.tup xs))) : tTup tr σ H Q := h
theorem d_lst (h : tr σ H fun xs H1 => xs.length ≤ sizeLine ∧ ∀ p, H1 p = none → Q (.ref p) (upd H1 p (.lst xs))) : tLst tr σ H Q := h
theorem d_rI {C : Int → Int → Prop} {g : Int → Int → V} (hc : C i j) (h : Q (g i j) H) : rI C g (.int i) (.int j) H Q := ⟨i, j, rfl, rfl, hc, h⟩
theorem d_rI0 {g : Int → Int → V} (h : Q (g i j) H) : rI0 g (.int i) (.int j) H Q := ⟨i, j, rfl, rfl, h⟩
theorem d_rU {g : Int → V} (h : Q (g i) H) : rU g (.int i) H Q := ⟨i, rfl, h⟩
theorem d_eqI (h : Q (.bl (decide (i = j))) H) : rEq (.int i) (.int j) H Q := ⟨rfl, by
  rw [show decide (V.int i = V.int j) = decide (i = j) by rw [Bool.eq_iff_iff]; simp]; exact h⟩
theorem d_neI (h : Q (.bl (!decide (i = j))) H) : rNe (.int i) (.int j) H Q := ⟨rfl, by
  rw [show decide (V.int i = V.int j) = decide (i = j) by rw [Bool.eq_iff_iff]; simp]; exact h⟩
theorem d_ixL (h : SqL K H p xs) (e : atI xs i = some v) (q : Q v H) : rIxL K (.ref p) (.int i) H Q := ⟨p, xs, i, v, rfl, rfl, h, e, q⟩
theorem d_ixLm (h : H p = some (.lst xs)) (e : atI xs i = some v) (q : Q v H) : rIxL K (.ref p) (.int i) H Q := ⟨p, xs, i, v, rfl, rfl, SqL.of h, e, q⟩
theorem d_ixT (h : SqT K H p xs) (e : atI xs i = some v) (q : Q v H) : rIxT K (.ref p) (.int i) H Q := ⟨p, xs, i, v, rfl, rfl, h, e, q⟩
theorem d_ixTm (h : H p = some (.tup xs)) (e : atI xs i = some v) (q : Q v H) : rIxT K (.ref p) (.int i) H Q := ⟨p, xs, i, v, rfl, rfl, SqT.of h, e, q⟩
theorem d_test (h : te σ H fun x H' => ∃ k, x = .bl k ∧ QT k H') : tTest te σ H QT := h
theorem d_tB (h : te σ H fun x H' => ∃ k, x = .bl k ∧ QT k H') : tB te σ H QT := h
theorem d_bl {b : Bool} {C : Bool → Prop} (h : C b) : ∃ k, V.bl b = .bl k ∧ C k := ⟨b, rfl, h⟩
theorem d_not (h : tt σ H fun c H1 => QT (!c) H1) : tNot tt σ H QT := h
theorem d_and (h : tt σ H fun c H1 => if c = true then tu σ H1 QT else QT false H1) : tAnd tt tu σ H QT := h
theorem d_or (h : tt σ H fun c H1 => if c = true then QT true H1 else tu σ H1 QT) : tOr tt tu σ H QT := h
theorem d_if (h : tt σ H fun c H1 => if c = true then ta σ H1 Q else tb σ H1 Q) : tIf tt ta tb σ H Q := h
theorem d_andV (h : ta σ H fun x H1 => ∃ c, x = .bl c ∧ if c = true then tb σ H1 Q else Q (.bl false) H1) : tAndV ta tb σ H Q := h
theorem d_sl {r : V → Option Int → Option Int → Hp → VK → Prop} {tl th : TO} (h : te σ H fun x H1 => tl σ H1 fun l H2 => th σ H2 fun u H3 => r x l u H3 Q) : tSl r te tl th σ H Q := h
theorem d_nop {QO : Option Int → Hp → Prop} (h : QO none H) : tNoPart σ H QO := h
theorem d_part {QO : Option Int → Hp → Prop} (h : te σ H fun x H1 => ∃ i, x = .int i ∧ QO (some i) H1) : tPart te σ H QO := h
theorem d_in {C : Int → Prop} (h : C i) : ∃ k, V.int i = .int k ∧ C k := ⟨i, rfl, h⟩
theorem d_bm {T : String} {r : V → List V → Hp → VK → Prop} (h : te σ H fun x H1 => tyV K T x H1 ∧ tr σ H1 fun xs H2 => r x xs H2 Q) : tBM K T r te tr σ H Q := h
theorem d_bm0 {T : String} {r : V → List V → Hp → VK → Prop} (h : te σ H fun x H1 => tyV K T x H1 ∧ r x [] H1 Q) : tBM0 K T r te σ H Q := h
theorem d_m1 {r : V → List V → Hp → VK → Prop} (h : ta σ H fun x H1 => (∃ a, x = .str a) ∧ te σ H1 fun y H2 => r x [y] H2 Q) : tM1 r ta te σ H Q := h
theorem d_exs {A : Str} {C : Prop} (h : C) : (∃ a, V.str A = .str a) ∧ C := ⟨⟨_, rfl⟩, h⟩
theorem d_app {l : Addr} {ys : List V} (h : H l = some (.lst ys)) (q : tr σ H fun zs H2 => rAppend (.ref l) zs H2 Q) : tyV K "list" (.ref l) H ∧ tr σ H fun zs H2 => rAppend (.ref l) zs H2 Q := ⟨.inl ⟨rfl, _, SqL.of h⟩, q⟩
theorem d_append {l : Addr} {ys : List V} (h : H l = some (.lst ys)) (hl : ys.length < sizeLine) (q : Q .non (upd H l (.lst (ys ++ [y])))) : rAppend (.ref l) [y] H Q := ⟨l, ys, y, rfl, rfl, h, hl, q⟩
theorem d_setL {QU : Hp → Prop} {l : Addr} {ys : List V} {j : Nat} (h : H l = some (.lst ys)) (e : ixN ys.length i = some j) (q : QU (upd H l (.lst (ys.set j v)))) : rSetL (.ref l) (.int i) v H QU := ⟨l, ys, i, j, rfl, rfl, h, e, q⟩
theorem d_lenL {C : List V → Prop} (h : SqL K H p xs) (q : C xs) : ∃ p' ys, [V.ref p] = [.ref p'] ∧ (SqL K H p' ys ∨ SqT K H p' ys) ∧ C ys := ⟨p, xs, rfl, .inl h, q⟩
theorem d_lenT {C : List V → Prop} (h : SqT K H p xs) (q : C xs) : ∃ p' ys, [V.ref p] = [.ref p'] ∧ (SqL K H p' ys ∨ SqT K H p' ys) ∧ C ys := ⟨p, xs, rfl, .inr h, q⟩
theorem d_lenS {C : Str → Prop} {z : Str} (h : z.length ≤ sizeLine) (q : C z) : ∃ z', [V.str z] = [.str z'] ∧ z'.length ≤ sizeLine ∧ C z' := ⟨z, rfl, h, q⟩
theorem d_isN {C : Prop} (q : C) : V.non = .non ∧ C := ⟨rfl, q⟩
-- statements
theorem d_next (h : D.nx σ H) : tNext D σ H := h
theorem d_seq (h : t { D with nx := u D } σ H) : tSeq t u D σ H := h
theorem d_asg {g : TG} (h : te σ H fun x H1 => g x σ H1 D.nx) : tAsg te g D σ H := h
theorem d_drop (h : te σ H fun _ H1 => D.nx σ H1) : tDrop te D σ H := h
theorem d_ret (h : te σ H D.rt) : tRet te D σ H := h
theorem d_retN (h : D.rt .non H) : tRetN D σ H := h
theorem d_ifS (h : tt σ H fun b H1 => if b = true then t D σ H1 else u D σ H1) : tIfS tt t u D σ H := h
theorem d_brk (h : D.bk σ H) : tBreak D σ H := h
theorem d_ct (h : D.ct σ H) : tCont D σ H := h
theorem d_aug {i : Nat} {ti : TIp} (e : σ[i]? = some (some x)) (h : te σ H fun y H1 => ti x y H1 fun z H2 => D.nx (σ.set i (some z)) H2) : tAug i te ti D σ H := ⟨x, e, h⟩
theorem d_gname {i : Nat} {QS : L2.St → Hp → Prop} (h : QS (σ.set i (some v)) H) : gName i v σ H QS := h
theorem d_gnil {QS : L2.St → Hp → Prop} (h : QS σ H) : gNil [] σ H QS := ⟨rfl, h⟩
theorem d_gcons {t : TG} {u : TGs} {vs : List V} {QS : L2.St → Hp → Prop} (h : t v σ H fun σ' H' => u vs σ' H' QS) : gCons t u (v :: vs) σ H QS := ⟨v, vs, rfl, h⟩
theorem d_gtup {t : TGs} {QS : L2.St → Hp → Prop} (h : SqT K H p xs) (hl : xs.length = n) (q : t xs σ H QS) : gTup K n t (.ref p) σ H QS := ⟨p, xs, rfl, h, hl, q⟩
theorem d_gtupm {t : TGs} {QS : L2.St → Hp → Prop} (h : H p = some (.tup xs)) (hl : xs.length = n) (q : t xs σ H QS) : gTup K n t (.ref p) σ H QS := ⟨p, xs, rfl, SqT.of h, hl, q⟩
theorem d_gsub {ti : TE} {s : TSet} {QS : L2.St → Hp → Prop} (h : ta σ H fun o H1 => ti σ H1 fun i H2 => s o i v H2 fun H3 => QS σ H3) : gSub ta ti s v σ H QS := h
-- what is walked
theorem d_for {wi : TI} {g : TG} (h : wi σ H fun J H1 => ∃ W : Nat → Nat → L2.St → Hp → Prop, (∃ m, W 0 m σ H1) ∧ ∀ i m σ H, W i m σ H →
  (J.stop i H ∧ D.nx σ H) ∨ (J.go i H ∧ ∃ N : L2.St → Hp → Prop, (∀ σ' H', N σ' H' → ∃ m', m' < m ∧ W (i + 1) m' σ' H') ∧ ∀ x H', J.yld i H x H' → g x σ H' fun σ2 H2 => t { D with nx := N, ct := N, bk := D.nx } σ2 H2)) : tFor wi g t D σ H := h
theorem d_lc {wi : TI} {g : TG} {vs : List Nat} (h : wi σ H fun J H1 => ∀ D, H1 D = none → ∃ W : Nat → Nat → Hp → Prop, (∃ m, W 0 m (upd H1 D (.lst []))) ∧ ∀ i m H, W i m H →
  (J.stop i H ∧ Q (.ref D) H) ∨ (J.go i H ∧ ∃ Nx : Hp → Prop, (∀ H', Nx H' → ∃ m', m' < m ∧ W (i + 1) m' H') ∧ ∀ x H', J.yld i H x H' → g x (wipe σ vs) H' fun σ2 H2 => wipe σ2 vs = wipe σ vs ∧ tt σ2 H2 fun b H3 =>
    if b = true then te σ2 H3 fun y H4 => ∃ acc, H4 D = some (.lst acc) ∧ acc.length < sizeLine ∧ Nx (upd H4 D (.lst (acc ++ [y]))) else Nx H3)) : tLc wi g tt te vs σ H Q := h
theorem d_iR1 {R : It → Hp → Prop} (h : tr σ H fun vs H1 => ∃ j : Int, vs = [.int j] ∧ -(2 ^ 62) ≤ j ∧ j < 2 ^ 62 ∧ R (Itr 0 j.toNat) H1) : iRng1 tr σ H R := h
theorem d_iR2 {R : It → Hp → Prop} (h : tr σ H fun vs H1 => ∃ i j : Int, vs = [.int i, .int j] ∧ (-(2 ^ 62) ≤ i ∧ i < 2 ^ 62 ∧ -(2 ^ 62) ≤ j ∧ j < 2 ^ 62) ∧ R (Itr i (j - i).toNat) H1) : iRng2 tr σ H R := h
theorem d_iR1e {C : Int → Prop} (h1 : -(2 ^ 62) ≤ j) (h2 : j < 2 ^ 62) (h : C j) : ∃ k : Int, [V.int j] = [.int k] ∧ -(2 ^ 62) ≤ k ∧ k < 2 ^ 62 ∧ C k := ⟨j, rfl, h1, h2, h⟩
theorem d_iR2e {C : Int → Int → Prop} (h1 : -(2 ^ 62) ≤ i ∧ i < 2 ^ 62 ∧ -(2 ^ 62) ≤ j ∧ j < 2 ^ 62) (h : C i j) : ∃ k l : Int, [V.int i, V.int j] = [.int k, .int l] ∧ (-(2 ^ 62) ≤ k ∧ k < 2 ^ 62 ∧ -(2 ^ 62) ≤ l ∧ l < 2 ^ 62) ∧ C k l := ⟨i, j, rfl, h1, h⟩
theorem d_iL {R : It → Hp → Prop} (h : te σ H fun x H1 => ∃ a, x = .ref a ∧ (∃ xs, SqL K H1 a xs) ∧ R (Itl K a) H1) : iList K te σ H R := h
theorem d_iT {R : It → Hp → Prop} (h : te σ H fun x H1 => ∃ a, x = .ref a ∧ (∃ xs, SqT K H1 a xs) ∧ R (Itt K a) H1) : iTup K te σ H R := h
theorem d_iTe {C : Addr → Prop} {a : Addr} (h : SqT K H a xs) (q : C a) : ∃ a', V.ref a = .ref a' ∧ (∃ xs, SqT K H a' xs) ∧ C a' := ⟨a, rfl, ⟨xs, h⟩, q⟩
theorem d_iLe {C : Addr → Prop} {a : Addr} (h : SqL K H a xs) (q : C a) : ∃ a', V.ref a = .ref a' ∧ (∃ xs, SqL K H a' xs) ∧ C a' := ⟨a, rfl, ⟨xs, h⟩, q⟩
theorem d_iS {R : It → Hp → Prop} (h : te σ H fun v H1 => ∃ x, v = .str x ∧ R (Its x) H1) : iStr te σ H R := h
theorem d_iSe {C : Str → Prop} {z : Str} (q : C z) : ∃ x, V.str z = .str x ∧ C x := ⟨z, rfl, q⟩
theorem d_yes (h : QT true H) : tYes σ H QT := h
theorem d_dget1 {td ty : TE} (h : td σ H fun x H1 => ∃ a, x = .ref a ∧ IsD H1 a ∧ ty σ H1 fun y H2 => ∃ o, DGet H2 a y o ∧ Q (o.getD .non) H2) : tDGet1 td ty σ H Q := h
theorem d_dget2 {td ty tx : TE} (h : td σ H fun x H1 => ∃ a, x = .ref a ∧ IsD H1 a ∧ ty σ H1 fun y H2 => tx σ H2 fun z H3 => ∃ o, DGet H3 a y o ∧ Q (o.getD z) H3) : tDGet2 td ty tx σ H Q := h
theorem d_daug {td ty tv : TE} {rd : V → V → Hp → VK → Prop} (h : td σ H fun x H1 => ty σ H1 fun y H2 => ∃ a v, x = .ref a ∧ DGet H2 a y (some v) ∧ tv σ H2 fun y2 H3 => rd v y2 H3 fun z H4 => ∃ H5, DPut H4 a y z H5 ∧ D.nx σ H5) : sDAug td ty tv rd D σ H := h
theorem d_notV (h : ta σ H fun x H1 => ∃ c, x = .bl c ∧ Q (.bl (!c)) H1) : tNotV ta σ H Q := h
theorem d_par {i j : Nat} (h : tr σ H fun vs H1 => ∃ v w, vs = [v, w] ∧ D.nx ((σ.set i (some v)).set j (some w)) H1) : tPar i j tr D σ H := h
theorem d_par2 {C : V → V → Prop} (h : C x y) : ∃ v w, [x, y] = [v, w] ∧ C v w := ⟨x, y, rfl, h⟩
theorem d_dget {td ty : TE} (h : td σ H fun x H1 => ty σ H1 fun y H2 => ∃ a v, x = .ref a ∧ DGet H2 a y (some v) ∧ Q v H2) : tDGet td ty σ H Q := h
theorem d_dput {td ty tv : TE} (h : tv σ H fun v H1 => td σ H1 fun x H2 => ty σ H2 fun y H3 => ∃ a H4, x = .ref a ∧ DPut H3 a y v H4 ∧ D.nx σ H4) : sDPut td ty tv D σ H := h
theorem d_din {td ty : TE} (h : ty σ H fun y H1 => td σ H1 fun x H2 => ∃ a o, x = .ref a ∧ DGet H2 a y o ∧ Q (.bl o.isSome) H2) : tDIn ty td σ H Q := h
theorem d_dnewT (h : ∀ p, H p = none → Q (.ref p) (upd H p (.dT []))) : tDNewT σ H Q := h
theorem d_dnewK (h : ∀ p, H p = none → Q (.ref p) (upd H p (.dK []))) : tDNewK σ H Q := h
theorem iteNT {A B : Prop} (h : B) : if (!true) = true then A else B := h
theorem iteNF {A B : Prop} (h : A) : if (!false) = true then A else B := h
theorem d_cut (M : L2.St → Hp → Prop) (h : t { D with nx := M } σ H) (k : ∀ σ' H', M σ' H' → u D σ' H') : Evl.tCut t u D σ H := ⟨M, h, k⟩
/-- a and b where b only looks -/
theorem if_any {c : Bool} {tb : TE} (hb : ∀ Q' : VK, (∀ b H', Same H H' → Q' (.bl b) H') → tb σ H Q') (q : ∀ b H', Same H H' → Q (.bl b) H') : if c = true then tb σ H Q else Q (.bl false) H := by
  cases c with
  | true => exact iteT (hb Q q)
  | false => exact iteF (q _ _ (Same.refl _))
theorem d_wipe {σ2 σ3 : L2.St} {vs : List Nat} {C : Prop} (e : wipe σ2 vs = wipe σ3 vs) (h : C) : wipe σ2 vs = wipe σ3 vs ∧ C := ⟨e, h⟩
theorem d_lsten (h : tr σ H fun vs H1 => rLstEn K vs H1 Q) : tLstEn K tr σ H Q := h
theorem d_slL {a : Addr} {lo hi : Option Int} (h : SqL K H a xs) (q : ∀ p, H p = none → Q (.ref p) (upd H p (.lst (cutV xs lo hi)))) : rSlL K (.ref a) lo hi H Q := ⟨a, xs, rfl, h, q⟩
theorem d_lrg {tg : L2.St → Hp → (Int → Int → Hp → Prop) → Prop} (h : tg σ H fun a b H1 => RgOk a b ∧ ∀ q, H1 q = none → Q (.ref q) (upd H1 q (.lst (rgV a b)))) : tLstRg tg σ H Q := h
theorem d_rg1 {R : Int → Int → Hp → Prop} (h : te σ H fun x H1 => ∃ n, x = .int n ∧ R 0 n H1) : tRg1 te σ H R := h
end
/-- the law's hand: two whole numbers -/
def Hand (H : Hp) (h : Addr) : Prop := ∃ d m : Int, H h = some (.lst [.int d, .int m]) ∧ 0 ≤ d ∧ 0 ≤ m ∧ m < 2147483587
theorem Hand.same {H H' : Hp} {h : Addr} (x : Hand H h) (s : Same H H') : Hand H' h := by
  obtain ⟨d, m, e, r⟩ := x
  exact ⟨d, m, s _ _ e, r⟩
theorem Hand.ne {H : Hp} {h p : Addr} (x : Hand H h) (n : H p = none) : p ≠ h := by
  obtain ⟨d, m, e, r⟩ := x
  exact (ne_of_none e n).symm
theorem Hand.put {H : Hp} {h p : Addr} {o : HO} (x : Hand H h) (n : p ≠ h) : Hand (upd H p o) h := by
  obtain ⟨d, m, e, r⟩ := x
  exact ⟨d, m, by rw [upd_ne n.symm]; exact e, r⟩
/-- a tuple stays where a list changes -/
theorem Keep.sqt {K : PySem.W.Frag} {h : Addr} {H H' : Hp} {a : Addr} {xs ys : List V} (k : Keep h H H') (e : H h = some (.lst ys)) (q : SqT K H a xs) : SqT K H' a xs := by
  rcases q with (q | ⟨o, q⟩) | q
  · exact .inl (.inl (k _ _ (ne_of q e (by intro z; cases z)) q))
  · exact .inl (.inr ⟨o, k _ _ (ne_of q e (by intro z; cases z)) q⟩)
  · exact .inr q
mutual
theorem dp_same {K : PySem.W.Frag} {H H' : Hp} (s : Same H H') : ∀ (d : PyData) (v : V), Dp K H v d → Dp K H' v d
  | .none, _, h => by cases h; exact .non
  | .bool b, _, h => by cases h; exact .bl b
  | .int i, _, h => by cases h; exact .int i
  | .str x, _, h => by cases h; exact .str x
  | .list ds, _, h => by
    cases h with
    | lst hs ha => exact .lst (Same.seq s hs) (dpa_same s ds _ ha)
  | .tuple ds, _, h => by
    cases h with
    | tup hs ha => exact .tup (Same.sqt s hs) (dpa_same s ds _ ha)
  | .dict _, _, h => by cases h
theorem dpa_same {K : PySem.W.Frag} {H H' : Hp} (s : Same H H') : ∀ (ds : List PyData) (vs : List V), DpAll K H vs ds → DpAll K H' vs ds
  | [], _, h => by cases h; exact .nil
  | d :: ds, _, h => by
    cases h with
    | cons a b => exact .cons (dp_same s d _ a) (dpa_same s ds _ b)
end
theorem dpa_ints {K : PySem.W.Frag} {H : Hp} : ∀ ns : List Int, DpAll K H (ns.map V.int) (ns.map PyData.int)
  | [] => .nil
  | n :: r => .cons (.int n) (dpa_ints r)
theorem shaped_ints (ns : List Int) : SeqAt.shaped (.list (ns.map PyData.int)) = true := PySem.W.ke_shaped_ints ns
/-- one sign -/
abbrev sg (c : Nat) : Str := ⟨#[c]⟩
def Ltr (c : Nat) : Prop := 97 ≤ c ∧ c ≤ 122
abbrev Tie := Nat × Nat × Nat
/-- places' kinds, ties -/
abbrev Web := List Nat × List Tie
def TieAt (K : PySem.W.Frag) (H : Hp) (v : V) (t : Tie) : Prop := ∃ a, v = .ref a ∧ SqT K H a [.int (t.1 : Nat), .int (t.2.1 : Nat), .str (sg t.2.2)]
def WebAt (K : PySem.W.Frag) (H : Hp) (v : V) (w : Web) : Prop := ∃ a b tvs, v = .ref a ∧ SqT K H a [.str ⟨w.1.toArray⟩, .ref b] ∧ SqT K H b tvs ∧ Paired (TieAt K H) tvs w.2
def tlt (s t : Tie) : Prop := s.1 < t.1 ∨ (s.1 = t.1 ∧ s.2.1 < t.2.1)
structure WOk (w : Web) : Prop where
  few : w.1.length ≤ 40
  most : w.2.length ≤ 1600
  kinds : ∀ c ∈ w.1, Ltr c
  rise : w.2.Pairwise tlt
  ends : ∀ t ∈ w.2, t.1 < t.2.1 ∧ t.2.1 < w.1.length ∧ Ltr t.2.2
theorem Paired.imp {α β : Type} {F G : α → β → Prop} {xs : List α} {ys : List β} (p : Paired F xs ys) (h : ∀ a b, F a b → G a b) : Paired G xs ys := by
  induction p with
  | nil => exact .nil
  | cons a _ ih => exact .cons (h _ _ a) ih
theorem TieAt.same {K : PySem.W.Frag} {H H' : Hp} {v : V} {t : Tie} (x : TieAt K H v t) (s : Same H H') : TieAt K H' v t := by
  obtain ⟨a, e, q⟩ := x
  exact ⟨a, e, Same.sqt s q⟩
theorem TieAt.keep {K : PySem.W.Frag} {H H' : Hp} {v : V} {t : Tie} {h : Addr} {ys : List V} (x : TieAt K H v t) (k : Keep h H H') (e : H h = some (.lst ys)) : TieAt K H' v t := by
  obtain ⟨a, e', q⟩ := x
  exact ⟨a, e', k.sqt e q⟩
theorem WebAt.same {K : PySem.W.Frag} {H H' : Hp} {v : V} {w : Web} (x : WebAt K H v w) (s : Same H H') : WebAt K H' v w := by
  obtain ⟨a, b, tvs, e, q1, q2, q3⟩ := x
  exact ⟨a, b, tvs, e, Same.sqt s q1, Same.sqt s q2, Paired.imp q3 fun _ _ z => z.same s⟩
theorem WebAt.keep {K : PySem.W.Frag} {H H' : Hp} {v : V} {w : Web} {h : Addr} {ys : List V} (x : WebAt K H v w) (k : Keep h H H') (e : H h = some (.lst ys)) : WebAt K H' v w := by
  obtain ⟨a, b, tvs, e', q1, q2, q3⟩ := x
  exact ⟨a, b, tvs, e', k.sqt e q1, k.sqt e q2, Paired.imp q3 fun _ _ z => z.keep k e⟩
theorem TieAt.put {K : PySem.W.Frag} {H : Hp} {v : V} {t : Tie} {b : Addr} {o : HO} (x : TieAt K H v t) (n : H b = none ∨ ∃ ys, H b = some (.lst ys)) : TieAt K (upd H b o) v t := by
  obtain ⟨a, e, q⟩ := x
  exact ⟨a, e, sqt_upd n q⟩
theorem WebAt.put {K : PySem.W.Frag} {H : Hp} {v : V} {w : Web} {b : Addr} {o : HO} (x : WebAt K H v w) (n : H b = none ∨ ∃ ys, H b = some (.lst ys)) : WebAt K (upd H b o) v w := by
  obtain ⟨a, b, tvs, e', q1, q2, q3⟩ := x
  exact ⟨a, b, tvs, e', sqt_upd n q1, sqt_upd n q2, Paired.imp q3 fun _ _ z => z.put n⟩
theorem Paired.at {α β : Type} {F : α → β → Prop} : ∀ {xs : List α} {ys : List β}, Paired F xs ys → ∀ {i : Nat} {x : α}, xs[i]? = some x → ∃ y, ys[i]? = some y ∧ F x y
  | _, _, .nil, i, x, h => by cases h
  | _, _, .cons r t, 0, x, h => by
    cases h
    exact ⟨_, rfl, r⟩
  | _, _, .cons r t, i + 1, x, h => Paired.at t h
open TL in
theorem joinL_nil : ∀ ps : List (List Nat), joinL [] ps = ps.flatten
  | [] => rfl
  | [p] => by show p = [p].flatten; simp
  | p :: q :: r => by
    show p ++ ([] ++ joinL [] (q :: r)) = (p :: q :: r).flatten
    rw [joinL_nil (q :: r)]; simp
theorem str_ext {x y : Str} (h : x.cps.toList = y.cps.toList) : x = y := by
  cases x; cases y
  simpa using h
open TL in
theorem join_signs (cs : List Nat) : Txt.join (Str.ofString "") (cs.map sg) = ⟨cs.toArray⟩ := by
  rw [join_eq]
  apply str_ext
  show tl (Str.join (Str.ofString "") (cs.map sg)) = cs
  rw [tl_join, show tl (Str.ofString "") = [] from by decide +kernel, joinL_nil, List.map_map]
  induction cs with
  | nil => rfl
  | cons c r ih =>
    rw [List.map_cons, List.flatten_cons, ih]
    rfl
theorem sum_const {α : Type} (f : α → Nat) (n : Nat) : ∀ l : List α, (∀ x ∈ l, f x = n) → (l.map f).sum = l.length * n
  | [], _ => by simp
  | a :: r, h => by
    rw [List.map_cons, List.sum_cons, sum_const f n r fun x hx => h x (List.mem_cons_of_mem _ hx), h a List.mem_cons_self, List.length_cons, Nat.succ_mul]
    omega
theorem sz {n : Nat} (h : n ≤ 100000) : n ≤ sizeLine := Nat.le_trans h (by decide)
theorem szl {n : Nat} (h : n ≤ 100000) : n < sizeLine := Nat.lt_of_le_of_lt h (by decide)
end Cw

namespace Cw
open PySem PySem.Spec PyProof.Rows L2
/-! ### ties -/
def at2 (a b : Nat) (t : Tie) : Bool := (t.1 == a && t.2.1 == b) || (t.1 == b && t.2.1 == a)
def tieL (ts : List Tie) (a b : Nat) : Option Nat := (ts.find? (at2 a b)).map (·.2.2)
def beside (p : Nat) (t : Tie) : Option Nat := if t.1 = p then some t.2.1 else if t.2.1 = p then some t.1 else none
def nb (ts : List Tie) (p : Nat) : List Nat := ts.filterMap (beside p)
theorem at2_iff {a b : Nat} {t : Tie} : at2 a b t = true ↔ (t.1 = a ∧ t.2.1 = b) ∨ (t.1 = b ∧ t.2.1 = a) := by
  simp [at2]
theorem at2_swap (a b : Nat) (t : Tie) : at2 a b t = at2 b a t := by
  unfold at2; rw [Bool.or_comm]
theorem tieL_swap (ts : List Tie) (a b : Nat) : tieL ts a b = tieL ts b a := by
  unfold tieL
  rw [show at2 a b = at2 b a from funext (at2_swap a b)]
theorem tieL_isSome {ts : List Tie} {a b : Nat} : (tieL ts a b).isSome = true ↔ ∃ t ∈ ts, at2 a b t = true := by
  unfold tieL
  rw [Option.isSome_map, List.find?_isSome]
theorem tieL_none {ts : List Tie} {a b : Nat} (h : ∀ t ∈ ts, at2 a b t = false) : tieL ts a b = none := by
  unfold tieL
  rw [List.find?_eq_none.mpr (fun t ht => by rw [h t ht]; simp)]; rfl
theorem tieL_snoc (l : List Tie) (t : Tie) (a b : Nat) : tieL (l ++ [t]) a b = (tieL l a b).or (if at2 a b t = true then some t.2.2 else none) := by
  unfold tieL
  rw [List.find?_append]
  cases l.find? (at2 a b) with
  | some x => rfl
  | none =>
    show ((none : Option Tie).or ([t].find? (at2 a b))).map (·.2.2) = (none : Option Nat).or _
    rw [Option.none_or, Option.none_or]
    by_cases h : at2 a b t = true
    · rw [if_pos h, List.find?_cons_of_pos h]; rfl
    · rw [if_neg h, List.find?_cons_of_neg h]; rfl
theorem nb_snoc (l : List Tie) (t : Tie) (p : Nat) : nb (l ++ [t]) p = nb l p ++ (if t.1 = p then [t.2.1] else if t.2.1 = p then [t.1] else []) := by
  unfold nb
  rw [List.filterMap_append]
  congr 1
  by_cases h1 : t.1 = p
  · rw [if_pos h1]; simp [beside, h1]
  · by_cases h2 : t.2.1 = p
    · rw [if_neg h1, if_pos h2]; simp [beside, h1, h2]
    · rw [if_neg h1, if_neg h2]; simp [beside, h1, h2]
theorem nb_len (l : List Tie) (p : Nat) : (nb l p).length ≤ l.length := List.length_filterMap_le _ _
theorem take_snoc {α : Type} {l : List α} {i : Nat} {x : α} (h : l[i]? = some x) : l.take (i + 1) = l.take i ++ [x] := by
  rw [List.take_add_one, h]; rfl
/-- no tie stands twice -/
theorem tieL_new {ts : List Tie} (s : ts.Pairwise tlt) (e : ∀ t ∈ ts, t.1 < t.2.1) {i : Nat} {t : Tie} (h : ts[i]? = some t) : tieL (ts.take i) t.1 t.2.1 = none := by
  refine tieL_none fun u hu => ?_
  have hl : (ts.take i ++ [t]).Pairwise tlt := by rw [← take_snoc h]; exact s.sublist (List.take_sublist _ _)
  have lt := (List.pairwise_append.mp hl).2.2 u hu t List.mem_cons_self
  have e1 := e u (List.mem_of_mem_take hu)
  have e2 := e t (List.mem_of_getElem? h)
  cases q : at2 t.1 t.2.1 u with
  | false => rfl
  | true =>
    rcases at2_iff.mp q with ⟨a, b⟩ | ⟨a, b⟩
    · rcases lt with z | ⟨_, z⟩ <;> omega
    · omega
theorem sorted_ext : ∀ {l m : List Nat}, l.Pairwise (· < ·) → m.Pairwise (· < ·) → (∀ x, x ∈ l ↔ x ∈ m) → l = m
  | [], [], _, _, _ => rfl
  | [], y :: m, _, _, h => absurd ((h y).mpr List.mem_cons_self) (by simp)
  | x :: l, [], _, _, h => absurd ((h x).mp List.mem_cons_self) (by simp)
  | x :: l, y :: m, hl, hm, h => by
    obtain ⟨l1, l2⟩ := List.pairwise_cons.mp hl
    obtain ⟨m1, m2⟩ := List.pairwise_cons.mp hm
    have hx : x = y := by
      rcases List.mem_cons.mp ((h x).mp List.mem_cons_self) with z | z
      · exact z
      · rcases List.mem_cons.mp ((h y).mpr List.mem_cons_self) with z' | z'
        · exact z'.symm
        · have a := m1 x z
          have b := l1 y z'
          omega
    subst hx
    congr 1
    refine sorted_ext l2 m2 fun z => ⟨fun hz => ?_, fun hz => ?_⟩
    · rcases List.mem_cons.mp ((h z).mp (List.mem_cons_of_mem _ hz)) with q | q
      · have := l1 z hz; omega
      · exact q
    · rcases List.mem_cons.mp ((h z).mpr (List.mem_cons_of_mem _ hz)) with q | q
      · have := m1 z hz; omega
      · exact q
theorem beside_iff {p o : Nat} {t : Tie} (e : t.1 < t.2.1) : beside p t = some o ↔ at2 p o t = true := by
  rw [at2_iff]
  unfold beside
  by_cases h1 : t.1 = p
  · rw [if_pos h1]
    constructor
    · intro z; exact .inl ⟨h1, Option.some.inj z⟩
    · rintro (⟨_, z⟩ | ⟨z1, z2⟩)
      · rw [z]
      · omega
  · rw [if_neg h1]
    by_cases h2 : t.2.1 = p
    · rw [if_pos h2]
      constructor
      · intro z; exact .inr ⟨Option.some.inj z, h2⟩
      · rintro (⟨z, _⟩ | ⟨z1, z2⟩)
        · exact absurd z h1
        · rw [z1]
    · rw [if_neg h2]
      constructor
      · intro z; cases z
      · rintro (⟨z, _⟩ | ⟨_, z⟩)
        · exact absurd z h1
        · exact absurd z h2
theorem nb_rise {ts : List Tie} (s : ts.Pairwise tlt) (e : ∀ t ∈ ts, t.1 < t.2.1) (p : Nat) : (nb ts p).Pairwise (· < ·) := by
  unfold nb
  rw [List.pairwise_filterMap]
  refine List.Pairwise.imp_of_mem (fun {t u} ht hu lt a ha b hb => ?_) s
  have e1 := e t ht
  have e2 := e u hu
  rcases at2_iff.mp ((beside_iff e1).mp ha) with ⟨a1, a2⟩ | ⟨a1, a2⟩ <;> rcases at2_iff.mp ((beside_iff e2).mp hb) with ⟨b1, b2⟩ | ⟨b1, b2⟩ <;> rcases lt with z | ⟨z1, z2⟩ <;> omega
theorem nb_eq {w : Web} (W : WOk w) (p : Nat) : nb w.2 p = (List.range w.1.length).filter fun o => (tieL w.2 p o).isSome := by
  refine sorted_ext (nb_rise W.rise (fun t ht => (W.ends t ht).1) p) (List.Pairwise.filter _ List.pairwise_lt_range) fun o => ?_
  rw [List.mem_filter, tieL_isSome, List.mem_range]
  unfold nb
  rw [List.mem_filterMap]
  constructor
  · rintro ⟨t, ht, hb⟩
    have q := (beside_iff (W.ends t ht).1).mp hb
    refine ⟨?_, t, ht, q⟩
    have r := W.ends t ht
    rcases at2_iff.mp q with ⟨_, a⟩ | ⟨a, _⟩ <;> omega
  · rintro ⟨_, t, ht, q⟩
    exact ⟨t, ht, (beside_iff (W.ends t ht).1).mpr q⟩
theorem tieL_self {w : Web} (W : WOk w) (p : Nat) : tieL w.2 p p = none := by
  refine tieL_none fun t ht => ?_
  have r := W.ends t ht
  cases q : at2 p p t with
  | false => rfl
  | true => rcases at2_iff.mp q with ⟨a, b⟩ | ⟨a, b⟩ <;> omega
/-- a tie's kind, or None -/
def optV : Option Nat → V
  | some c => .str (sg c)
  | none => .non
theorem optV_non (o : Option Nat) : (!decide (optV o = .non)) = o.isSome := by cases o <;> rfl
theorem optV_scal (o : Option Nat) : scal (optV o) (optV o) = true := by cases o <;> rfl
def zs (l : List Nat) : List Int := l.map fun (o : Nat) => (o : Int)
theorem ints_map (l : List Nat) : (l.map fun o => V.int (o : Nat)) = (zs l).map V.int := by
  unfold zs; rw [List.map_map]; rfl
theorem eqv_ints (l : List Int) : PyData.eqv (.list (l.map PyData.int)) (.list (l.map PyData.int)) = true := by
  show PyData.eqvAll _ _ = true
  rw [PySem.W.ked_eqvAll, decide_eq_true rfl]
theorem dp_nats {K : PySem.W.Frag} {H : Hp} {a : Addr} {l : List Nat} (h : H a = some (.lst (l.map fun o => V.int (o : Nat)))) : Dp K H (.ref a) (.list ((zs l).map PyData.int)) := by
  rw [ints_map] at h
  exact .lst (SqL.of h) (dpa_ints _)
/-- the heap without one object -/
def del (H : Hp) (a : Addr) : Hp := fun b => if b = a then none else H b
theorem del_ne {H : Hp} {a b : Addr} (n : b ≠ a) : del H a b = H b := by unfold del; rw [if_neg n]
theorem del_at {H : Hp} {a b : Addr} {o : HO} (n : b ≠ a) (h : H b = some o) : del H a b = some o := by rw [del_ne n]; exact h
theorem del_same (H : Hp) (a : Addr) : Same (del H a) H := fun b o e => by
  by_cases n : b = a
  · unfold del at e; rw [if_pos n] at e; cases e
  · rw [del_ne n] at e; exact e
theorem Keep.del {h : Addr} {H H' : Hp} (k : Keep h H H') : Same (del H h) (del H' h) := fun b o e => by
  by_cases n : b = h
  · unfold Cw.del at e; rw [if_pos n] at e; cases e
  · rw [del_ne n] at e ⊢; exact k b o n e
theorem dpa_snoc {K : PySem.W.Frag} {H : Hp} : ∀ {vs : List V} {ds : List PyData} {v : V} {d : PyData}, DpAll K H vs ds → Dp K H v d → DpAll K H (vs ++ [v]) (ds ++ [d])
  | [], [], _, _, _, h => .cons h .nil
  | _ :: _, _ :: _, _, _, .cons a b, h => .cons a (dpa_snoc b h)
/-- what is held: pairs of equal lists of whole numbers -/
def hD (x : List Int) : PyData := .list [.list (x.map PyData.int), .list (x.map PyData.int)]
def Held (K : PySem.W.Frag) (H : Hp) (hd : Addr) (m : Nat) : Prop := ∃ (hs : List V) (xs : List (List Int)), H hd = some (.lst hs) ∧ hs.length ≤ m ∧ DpAll K (del H hd) hs (xs.map hD)
theorem Held.same {K : PySem.W.Frag} {H H' : Hp} {hd : Addr} {m : Nat} (x : Held K H hd m) (s : Same H H') : Held K H' hd m := by
  obtain ⟨hs, xs, e, l, a⟩ := x
  exact ⟨hs, xs, s _ _ e, l, dpa_same (Keep.del (Same.keep s)) _ _ a⟩
theorem Held.mono {K : PySem.W.Frag} {H : Hp} {hd : Addr} {m n : Nat} (x : Held K H hd m) (h : m ≤ n) : Held K H hd n := by
  obtain ⟨hs, xs, e, l, a⟩ := x
  exact ⟨hs, xs, e, Nat.le_trans l h, a⟩
theorem dpa_at {K : PySem.W.Frag} {H : Hp} : ∀ {vs : List V} {ds : List PyData} (i : Nat) {v : V}, DpAll K H vs ds → vs[i]? = some v → ∃ d, ds[i]? = some d ∧ Dp K H v d
  | [], _, _, _, _, h => by simp at h
  | _ :: _, _ :: _, 0, _, .cons a b, h => by
    cases h
    exact ⟨_, rfl, a⟩
  | _ :: _, _ :: _, i + 1, _, .cons a b, h => dpa_at i b (by simpa using h)
theorem rgV_nats (n : Int) : rgV 0 n = (List.range n.toNat).map fun q => V.int (q : Nat) := by
  unfold rgV
  rw [Int.sub_zero]
  congr 1
  funext i
  rw [Int.zero_add]
end Cw

namespace Cw
open PySem PySem.Spec PyProof.Rows L2 Srt

/-! ### triples (whole number, whole number, one sign), by all three -/
abbrev Tri := Int × Int × Nat
def lexT (p q : Tri) : Bool := if p.1 = q.1 then (if p.2.1 = q.2.1 then decide (p.2.2 < q.2.2) else decide (p.2.1 < q.2.1)) else decide (p.1 < q.1)
theorem lexT_iff {p q : Tri} : lexT p q = true ↔ p.1 < q.1 ∨ (p.1 = q.1 ∧ (p.2.1 < q.2.1 ∨ (p.2.1 = q.2.1 ∧ p.2.2 < q.2.2))) := by
  unfold lexT
  by_cases e : p.1 = q.1
  · rw [if_pos e]
    by_cases e2 : p.2.1 = q.2.1
    · rw [if_pos e2, decide_eq_true_eq]; omega
    · rw [if_neg e2, decide_eq_true_eq]; omega
  · rw [if_neg e, decide_eq_true_eq]; omega
theorem lexT_no {p q : Tri} : lexT p q = false ↔ ¬ (p.1 < q.1 ∨ (p.1 = q.1 ∧ (p.2.1 < q.2.1 ∨ (p.2.1 = q.2.1 ∧ p.2.2 < q.2.2)))) := by
  rw [← lexT_iff]
  cases lexT p q <;> simp
theorem swo_T {α : Type} (k : α → Tri) : SrtO.Swo fun v u => lexT (k v) (k u) := by
  refine ⟨fun x y h => ?_, fun x y z h1 h2 => ?_⟩
  · have a := lexT_iff.mp h
    exact lexT_no.mpr (by omega)
  · have a := lexT_no.mp h1
    have b := lexT_no.mp h2
    exact lexT_no.mpr (by omega)
def IsTri (h : Heap) (v : Value) (p : Tri) : Prop := ∃ a o t u t3 n, v = .ref a ∧ h.get? a = some o ∧ o.cls = .type "tuple" ∧ o.data = .seq #[.int p.1 t, .int p.2.1 u, .str (sg p.2.2) t3] n
theorem IsTri.keeps {h h' : Heap} {v : Value} {p : Tri} (x : IsTri h v p) (k : ∀ b o, h.get? b = some o → o.cls = .type "tuple" → h'.get? b = some o) : IsTri h' v p := by
  obtain ⟨a, o, t, u, t3, n, e, ho, hc, hd⟩ := x
  exact ⟨a, o, t, u, t3, n, e, k _ _ ho hc, hc, hd⟩
theorem sg_lt (c d : Nat) : decide ((sg c).cps.toList < (sg d).cps.toList) = decide (c < d) := by
  rw [Bool.eq_iff_iff, decide_eq_true_eq, decide_eq_true_eq]
  show ([c] : List Nat) < [d] ↔ c < d
  rw [List.cons_lt_cons_iff]
  constructor
  · rintro (h | ⟨_, h⟩)
    · exact h
    · exact absurd h (List.not_lt_nil _)
  · intro h; exact .inl h
theorem sg_inj {c d : Nat} : sg c = sg d ↔ c = d := by
  constructor
  · intro h
    have e : (sg c).cps.toList = (sg d).cps.toList := by rw [h]
    simpa using e
  · rintro rfl; rfl
section
variable {prog : Program} {w : World} {A : Around} {E : Value → Shared → Prop} {s : Shared}
theorem tri_cmp {vs : List Value} {k : Value → Tri} (hp : ∀ v ∈ vs, IsTri s.heap v (k v)) : SrtO.Cmp prog w A s (tuples' true) (fun p => p.1 ∈ vs) (SrtO.lt2 fun v u => lexT (k v) (k u)) := by
  intro p q hm hm'
  have h1 := hp _ hm
  have h2 := hp _ hm'
  show wpAny (model prog w) A (keyLt' (tuples' true) p.1 q.1) (fun r s' => s' = s ∧ r = lexT (k p.1) (k q.1)) (fun _ _ => False) s
  generalize k p.1 = P at h1 ⊢
  generalize k q.1 = R at h2 ⊢
  obtain ⟨x, y, c⟩ := P
  obtain ⟨x', y', c'⟩ := R
  obtain ⟨a, o, t, u, t3, n, e, ho, hc, hd⟩ := h1
  obtain ⟨a', o', t', u', t3', n', e', ho', hc', hd'⟩ := h2
  dsimp only at hd hd'
  rw [e, e']
  refine PySem.W.kat_lt ho hd ho' hd' ?_
  show PySem.W.KatLex prog w A true (decide (3 < 3)) _ [(.int x t, .int x' t'), (.int y u, .int y' u'), (.str (sg c) t3, .str (sg c') t3')] 0 s
  refine PySem.W.kat_cons (SeqAt.EqAt.int_int x t x' t' prog w _ _ (PySem.W.kat_go (fun e1 => ?_) (fun e1 => ?_)))
  · have ex : x = x' := by simpa using e1
    subst ex
    refine PySem.W.kat_yes (PySem.W.kat_cons (SeqAt.EqAt.int_int y u y' u' prog w _ _ (PySem.W.kat_go (fun e2 => ?_) (fun e2 => ?_))))
    · have ey : y = y' := by simpa using e2
      subst ey
      refine PySem.W.kat_yes (PySem.W.kat_cons (wpAny_eqBool_str (PySem.W.kat_go (fun e3 => ?_) (fun e3 => ?_))))
      · have ec : c = c' := sg_inj.mp (by simpa using e3)
        subst ec
        exact PySem.W.kat_yes (PySem.W.kat_nil ⟨rfl, (lexT_no.mpr (by show ¬ (x < x ∨ (x = x ∧ (y < y ∨ (y = y ∧ c < c)))); omega)).symm⟩)
      · refine PySem.W.kat_no (PySem.W.kat_one _ _ (PyProof.Rows.lt_str ?_))
        refine (show s = s ∧ decide ((sg c).cps.toList < (sg c').cps.toList) = lexT (x, y, c) (x, y, c') from ⟨rfl, ?_⟩)
        rw [sg_lt]
        unfold lexT
        rw [if_pos rfl, if_pos rfl]
    · have ey : ¬ y = y' := by simpa using e2
      refine PySem.W.kat_no (PySem.W.kat_one _ _ (PyProof.Rows.lt_int ?_))
      refine (show s = s ∧ decide (y < y') = lexT (x, y, c) (x, y', c') from ⟨rfl, ?_⟩)
      unfold lexT
      rw [if_pos rfl, if_neg ey]
  · have ex : ¬ x = x' := by simpa using e1
    refine PySem.W.kat_no (oneLt_int ⟨rfl, ?_⟩)
    unfold lexT
    rw [if_neg ex]
theorem tri_firsts {h : Heap} : ∀ {vs : List Value}, (∀ v ∈ vs, ∃ p, IsTri h v p) → ∃ fs : List Value, PySem.W.KatTups h vs fs ∧ fs.length = vs.length ∧ ∀ f ∈ fs, ∃ x t, f = Value.int x t
  | [], _ => ⟨[], PySem.W.KatTups.nil, rfl, fun _ hm => by simp at hm⟩
  | v :: vs, hp => by
    obtain ⟨fs, h1, h2, h3⟩ := tri_firsts (vs := vs) fun v' hm => hp v' (List.mem_cons_of_mem _ hm)
    obtain ⟨p, a, o, t, u, t3, n, e, ho, hc, hd⟩ := hp v List.mem_cons_self
    subst e
    refine ⟨.int p.1 t :: fs, PySem.W.KatTups.cons ho hc hd rfl h1, by rw [List.length_cons, List.length_cons, h2], fun f hm => ?_⟩
    rcases List.mem_cons.mp hm with rfl | hm
    · exact ⟨_, t, rfl⟩
    · exact h3 f hm
theorem tri_sortable {a : Addr} {vs : List Value} {k : Value → Tri} (h0 : 0 < vs.length) (hp : ∀ v ∈ vs, IsTri s.heap v (k v)) (ha : ∀ o, s.heap.get? a = some o → o.cls ≠ .type "tuple") : SrtO.SortableO prog w A s a vs fun v u => lexT (k v) (k u) := by
  intro h' keep
  have hp' : ∀ v ∈ vs, IsTri h' v (k v) := fun v hm => (hp v hm).keeps fun b o e c => keep b o (fun z => by subst z; exact ha o e c) e
  obtain ⟨fs, h1, h2, h3⟩ := tri_firsts fun v hm => ⟨_, hp' v hm⟩
  refine ⟨tuples' true, fun Q E hq => PySem.W.kat_kind (T := .type "int") h1 (by omega) (fun f hm => ?_) (by rfl) ?_, tri_cmp hp'⟩
  · obtain ⟨x, t, rfl⟩ := h3 f hm
    exact PySem.W.Looks.now
  · rw [show (Value.type "int" != Value.type "tuple") = true by decide +kernel]; exact hq
theorem sorted_tris {l : Addr} {vs : List Value} {k : Value → Tri} {Q : Value → Shared → Prop} (hl : s.heap.IsList l vs.toArray) (hz : vs.length ≤ sizeLine) (hp : ∀ v ∈ vs, IsTri s.heap v (k v))
    (h : ∀ (h' : Heap) (d : Addr) (out : List Value), SrtO.Srtd (fun v u => lexT (k v) (k u)) out → out.Perm vs → (∀ b o, s.heap.get? b = some o → h'.get? b = some o) → s.heap.objs.size ≤ d → (∃ n, h'.get? d = some (seqObj "list" out.toArray n)) → Q (.ref d) { s with heap := h' }) :
    wpAny (model prog w) A (call (.builtin "sorted") [.ref l]) Q E s := by
  refine SrtO.sorted_ord (swo_T k) hl hz (fun h2 h₁ a ha kk => tri_sortable (s := { s with heap := h₁ }) (by omega) (fun v hm => (hp v hm).keeps fun b o e _ => (kk b o e).2) fun o e c => ?_) fun out hs hb => ?_
  · have e' : some o = some (seqObj "list" vs.toArray 0) := e.symm.trans ha
    cases e'
    exact absurd (Value.type.inj c) (by decide)
  · exact h _ _ out hs hb.perm (fun b o e => sortedAll_old e) (Nat.le_succ _) (sortedAll_at s.heap vs out.toArray)
end
def triV (p : Tri) : List V := [.int p.1, .int p.2.1, .str (sg p.2.2)]
/-- sorted(ties): the same tuples, by their three -/
def rSorted3 (K : PySem.W.Frag) : List V → Hp → VK → Prop := fun vs H Q => ∃ (a : Addr) (es : List (Addr × Tri)), vs = [V.ref a] ∧ SqL K H a (es.map fun e => V.ref e.1) ∧ (∀ e ∈ es, H e.1 = some (.tup (triV e.2))) ∧
  ∀ (es' : List (Addr × Tri)) p, es'.Perm es → (es'.map (·.2)).Pairwise (fun x y => lexT y x = false) → H p = none → Q (.ref p) (upd H p (.lst (es'.map fun e => V.ref e.1)))
section
variable {X : Cx}
theorem cr_sorted3 : CallR X (.builtin "sorted") (rSorted3 X.K) := by
  intro pins s σ H vs us Q I r h
  obtain ⟨a, es, rfl, hs, hx, q⟩ := h
  obtain ⟨its, rv, hl, hz⟩ := I.list hs
  obtain ⟨u, rfl, ru⟩ := vals1 r
  obtain rfl : u = Value.ref a := ru
  -- the items, by their addresses
  have eits : its = es.map fun e => Value.ref e.1 := by
    have : ∀ {xs : List (Addr × Tri)} {us : List Value}, Vals (xs.map fun e => V.ref e.1) us → us = xs.map fun e => Value.ref e.1 := by
      intro xs
      induction xs with
      | nil => intro us r; cases r; rfl
      | cons x xs ih =>
        intro us r
        cases r with
        | cons r1 r2 => rw [ih r2, (show _ = Value.ref x.1 from r1)]; rfl
    exact this rv
  -- the key, read off the heap
  let kA : Addr → Tri := fun b => match H b with
    | some (.tup [.int x, .int y, .str z]) => (x, y, (z.cps.toList.headD 0))
    | _ => (0, 0, 0)
  have kA_eq : ∀ e ∈ es, kA e.1 = e.2 := fun e he => by
    show (match H e.1 with
      | some (.tup [.int x, .int y, .str z]) => (x, y, (z.cps.toList.headD 0))
      | _ => (0, 0, 0)) = e.2
    rw [hx e he]; rfl
  let kV' : Value → Tri := fun v => match v with
    | .ref b => kA b
    | _ => (0, 0, 0)
  refine sorted_tris (k := kV') hl.isList (by rw [← rv.length]; exact hz) (fun v hv => ?_) fun h' d out h1 h2 kp hd hn => ?_
  · rw [eits] at hv
    obtain ⟨e, he, rfl⟩ := List.mem_map.mp hv
    obtain ⟨_, its2, r2, o, ho, hc, n, hd⟩ := I.hok _ _ (hx e he)
    have ek : kV' (Value.ref e.1) = e.2 := kA_eq e he
    rw [ek]
    cases r2 with
    | cons ra rr =>
      cases rr with
      | cons rb rr =>
        cases rr with
        | cons rc rr =>
          cases rr
          obtain ⟨t1, rfl⟩ := ra
          obtain ⟨t2, rfl⟩ := rb
          obtain ⟨t3, rfl⟩ := rc
          exact ⟨e.1, o, t1, t2, t3, n, rfl, ho, hc, hd⟩
  · obtain ⟨n, hn⟩ := hn
    rw [eits] at h2
    have hmem : ∀ v ∈ out, ∃ e ∈ es, v = Value.ref e.1 := fun v hv => by
      obtain ⟨e, he, e'⟩ := List.mem_map.mp (h2.mem_iff.mp hv)
      exact ⟨e, he, e'.symm⟩
    -- back to pairs
    let back : Value → Addr × Tri := fun v => match v with
      | .ref b => (b, kA b)
      | _ => (0, (0, 0, 0))
    have p1 : (out.map back).Perm es := by
      have z := h2.map back
      rw [List.map_map] at z
      have e2 : es.map (back ∘ fun e => Value.ref e.1) = es := by
        conv => rhs; rw [← List.map_id es]
        refine List.map_congr_left fun e he => ?_
        show (e.1, kA e.1) = e
        rw [kA_eq e he]
      rw [e2] at z
      exact z
    have e3 : (out.map back).map (fun e => V.ref e.1) = out.map backV := by
      rw [List.map_map]
      refine List.map_congr_left fun v hv => ?_
      obtain ⟨e, he, rfl⟩ := hmem v hv
      rfl
    have srt : ((out.map back).map (·.2)).Pairwise (fun x y => lexT y x = false) := by
      rw [List.map_map, List.pairwise_map]
      refine h1.imp_of_mem fun {x y} hx' hy' hxy => ?_
      obtain ⟨e, he, rfl⟩ := hmem x hx'
      obtain ⟨e', he', rfl⟩ := hmem y hy'
      exact hxy
    have g := q (out.map back) d p1 srt (I.hok.fresh hd)
    rw [e3] at g
    have hzo : (out.map backV).length ≤ sizeLine := by
      rw [List.length_map, h2.length_eq, List.length_map]
      rw [List.length_map] at hz
      exact hz
    have hvb : Vals (out.map backV) out := vals_back fun u hu => by
      obtain ⟨e, he, rfl⟩ := hmem u hu
      exact ⟨_, rfl⟩
    exact ⟨.ref d, upd H d (.lst (out.map backV)), I.laid (t' := s.toks) kp hd (show ObjOk X.prog X.w _ _ _ (.lst (out.map backV)) from ⟨hzo, out, n, hvb, hn⟩), rfl, g⟩

/-- sorted(d), the keys pairs of whole numbers -/
def rSortedD : List V → Hp → VK → Prop := fun vs H Q => ∃ (d : Addr) (kvs : List (List Key × V)), vs = [V.ref d] ∧ H d = some (.dT kvs) ∧ (∀ p ∈ kvs, ∃ i j : Int, p.1 = [.inl i, .inl j]) ∧
  ∀ (es : List (Addr × Int × Int)) p, (es.map fun e => ([.inl e.2.1, .inl e.2.2] : List Key)).Perm (kvs.map (·.1)) → (∀ e ∈ es, H e.1 = some (.tup [.int e.2.1, .int e.2.2])) → (es.map (·.2)).Pairwise (fun x y => SrtO.lexB y x = false) → H p = none → Q (.ref p) (upd H p (.lst (es.map fun e => V.ref e.1)))
theorem cr_sortedD (hc : X.calm = true) : CallR X (.builtin "sorted") rSortedD := by
  intro pins s σ H vs us Q I r h
  obtain ⟨d, kvs, rfl, hd, hk, q⟩ := h
  obtain ⟨u, rfl, ru⟩ := vals1 r
  obtain rfl : u = Value.ref d := ru
  obtain ⟨z, lo, ks, pr, o, es0, ep, ho, hx, hdt, he, hn⟩ := (show ObjOk X.prog X.w H s.heap d (.dT kvs) from I.hok d _ hd)
  have l1 : es0.size = ks.length := size_of_entries he
  have l2 : kvs.length = ks.length := Paired.length pr
  refine Calls.call_function_entry PyProof.Rows.kind_sorted PyProof.Rows.plain_sorted PyProof.Rows.entry_sorted (PyProof.Rows.args_sorted1 _) ?_; unfold Builtin.«sorted»
  refine wpAny_bind (m := checkCount "sorted" 1 1 _) (wpAny_pure (wpAny_bind (PySem.W.kdu_collect (A := X.A.in1) (kdl_raw lo hx hdt) (I.ok.hd hc) ho (by omega) fun h' tk acc hk' hacc => ?_)))
  -- the collected keys
  have ea : acc.toList = ks.map fun x => Value.ref x.2.1 := by
    have hl : acc.toList.length = ks.length := by rw [Array.length_toList, hacc.1]; exact l1
    refine List.ext_getElem? fun j => ?_
    rw [List.getElem?_map]
    cases hj : acc.toList[j]? with
    | none => rw [List.getElem?_eq_none (by have := List.getElem?_eq_none_iff.mp hj; omega)]; rfl
    | some v =>
      obtain ⟨en, hen, hv⟩ := hacc.2 j v (by rw [← Array.getElem?_toList]; exact hj)
      have qe := entry_at he j
      rw [hen] at qe
      cases hb : ks[j]? with
      | none => rw [hb] at qe; cases qe
      | some b =>
        rw [hb] at qe
        have e2 : en = entryOfKey (tupleKind (mixKind X.prog X.w)) b := Option.some.inj qe
        rw [hv, e2]; rfl
  have pk : ∀ x ∈ ks, ∃ i j : Int, x.1 = [.inl i, .inl j] ∧ H x.2.1 = some (.tup [.int i, .int j]) := by
    have go : ∀ {kvs : List (List Key × V)} {ks : List (List Key × Addr × Value)}, Paired (fun (p : List Key × V) (q : List Key × Addr × Value) => p.1 = q.1 ∧ H q.2.1 = some (.tup (p.1.map kV)) ∧ RelV p.2 q.2.2) kvs ks → (∀ p ∈ kvs, ∃ i j : Int, p.1 = [.inl i, .inl j]) → ∀ x ∈ ks, ∃ i j : Int, x.1 = [.inl i, .inl j] ∧ H x.2.1 = some (.tup [.int i, .int j]) := by
      intro kvs ks pr
      induction pr with
      | nil => intro _ x hx; simp at hx
      | cons a _ ih =>
        intro hk x hx
        rcases List.mem_cons.mp hx with rfl | hx
        · obtain ⟨i, j, e⟩ := hk _ List.mem_cons_self
          refine ⟨i, j, a.1.symm.trans e, ?_⟩
          have := a.2.1
          rw [e] at this
          exact this
        · exact ih (fun p hp => hk p (List.mem_cons_of_mem _ hp)) x hx
    exact go pr hk
  have ek : ks.map (·.1) = kvs.map (·.1) := by
    have go : ∀ {kvs : List (List Key × V)} {ks : List (List Key × Addr × Value)}, Paired (fun (p : List Key × V) (q : List Key × Addr × Value) => p.1 = q.1 ∧ H q.2.1 = some (.tup (p.1.map kV)) ∧ RelV p.2 q.2.2) kvs ks → ks.map (·.1) = kvs.map (·.1) := by
      intro kvs ks pr
      induction pr with
      | nil => rfl
      | cons a _ ih => rw [List.map_cons, List.map_cons, ih, a.1]
    exact go pr
  let kA : Addr → Int × Int := fun b => match H b with
    | some (.tup [.int x, .int y]) => (x, y)
    | _ => (0, 0)
  have kA_eq : ∀ {b : Addr} {i j : Int}, H b = some (.tup [.int i, .int j]) → kA b = (i, j) := fun {b i j} e => by
    show (match H b with
      | some (.tup [.int x, .int y]) => (x, y)
      | _ => (0, 0)) = (i, j)
    rw [e]
  let kW : Value → Int × Int := fun v => match v with
    | .ref b => kA b
    | _ => (0, 0)
  have I1 : Inv X pins σ H { s with heap := h', toks := tk } := I.kept hk'
  have hal : acc.toList.length ≤ sizeLine := by rw [ea, List.length_map]; omega
  refine wpAny_bind (wpAny_newList ?_ hal)
  have hoL : (h'.push (seqObj "list" acc.toList.toArray 0)).get? h'.objs.size = some (seqObj "list" acc.toList.toArray 0) := Heap.get?_push_size _ rfl
  have hpair : ∀ v ∈ acc.toList, Srt.IsPair (h'.push (seqObj "list" acc.toList.toArray 0)) v (kW v).1 (kW v).2 := fun v hv => by
    rw [ea] at hv
    obtain ⟨x, hx', rfl⟩ := List.mem_map.mp hv
    obtain ⟨i, j, _, e⟩ := pk x hx'
    obtain ⟨_, its2, r2, o', ho', hc', n', hd'⟩ := I1.hok _ _ e
    have e2 : kW (Value.ref x.2.1) = (i, j) := kA_eq e
    rw [e2]
    obtain ⟨u1, u2, rfl, ⟨t1, rfl⟩, ⟨t2, rfl⟩⟩ := vals2 r2
    exact ⟨x.2.1, o', t1, t2, n', rfl, Heap.get?_push_of_some _ ho', hc', hd'⟩
  show wpAny _ _ _ _ _ { s with heap := h'.push (seqObj "list" acc.toList.toArray 0), toks := tk }
  refine wpAny_bind (wpAny_holding (wpAny_call_entry PyProof.Rows.slot_list_sort ⟨_, hoL, rfl⟩ PyProof.Rows.entry_list_sort
    (SrtO.list_sort_ord (s := { s with heap := h'.push (seqObj "list" acc.toList.toArray 0), toks := tk }) (SrtO.swo_lex kW) hoL hal (fun h2 => SrtO.pairs_sortableO (by omega) hpair fun o e c => ?_) fun out hs hb => ⟨_, rfl, ?_⟩) (PyProof.Rows.args_list_sort _)))
  · have e' : some o = some (seqObj "list" acc.toList.toArray 0) := e.symm.trans hoL
    cases e'
    exact absurd (Value.type.inj c) (by decide)
  obtain ⟨n, hn2⟩ := PyProof.Rows.sortedHeap_at (vs := acc.toList) (out := out.toArray) hoL
  have h2 := hb.perm
  rw [ea] at h2
  have hmem : ∀ v ∈ out, ∃ x ∈ ks, v = Value.ref x.2.1 := fun v hv => by
    obtain ⟨x, hx', e'⟩ := List.mem_map.mp (h2.mem_iff.mp hv)
    exact ⟨x, hx', e'.symm⟩
  let back : Value → Addr × Int × Int := fun v => match v with
    | .ref b => (b, kA b)
    | _ => (0, (0, 0))
  have g := q (out.map back) h'.objs.size (by
      have z := h2.map fun v => ([.inl (back v).2.1, .inl (back v).2.2] : List Key)
      rw [List.map_map] at z
      have e2 : ks.map ((fun v => ([.inl (back v).2.1, .inl (back v).2.2] : List Key)) ∘ fun x => Value.ref x.2.1) = ks.map (·.1) := by
        refine List.map_congr_left fun x hx' => ?_
        obtain ⟨i, j, e3, e4⟩ := pk x hx'
        show ([.inl (kA x.2.1).1, .inl (kA x.2.1).2] : List Key) = x.1
        rw [kA_eq e4, e3]
      rw [e2, ek] at z
      rw [List.map_map]
      exact z) (fun e he' => by
      obtain ⟨v, hv, rfl⟩ := List.mem_map.mp he'
      obtain ⟨x, hx', rfl⟩ := hmem v hv
      obtain ⟨i, j, e3, e4⟩ := pk x hx'
      show H x.2.1 = some (.tup [.int (kA x.2.1).1, .int (kA x.2.1).2])
      rw [kA_eq e4, e4]) (by
      rw [List.map_map, List.pairwise_map]
      refine hs.imp_of_mem fun {x y} hx' hy' hxy => ?_
      obtain ⟨e1, _, rfl⟩ := hmem x hx'
      obtain ⟨e2, _, rfl⟩ := hmem y hy'
      exact hxy) (I1.hok.fresh (Nat.le_refl _))
  have e3 : (out.map back).map (fun e => V.ref e.1) = out.map backV := by
    rw [List.map_map]
    refine List.map_congr_left fun v hv => ?_
    obtain ⟨e, he', rfl⟩ := hmem v hv
    rfl
  rw [e3] at g
  have hzo : (out.map backV).length ≤ sizeLine := by
    rw [List.length_map, h2.length_eq, List.length_map]; omega
  have hvb : Vals (out.map backV) out := vals_back fun u hu => by
    obtain ⟨e, _, rfl⟩ := hmem u hu
    exact ⟨_, rfl⟩
  refine wpAny_pure ⟨_, rfl, .ref h'.objs.size, upd H h'.objs.size (.lst (out.map backV)), I1.laid (t' := tk) (fun b u e => ?_) (Nat.le_refl _) (show ObjOk X.prog X.w _ _ _ (.lst (out.map backV)) from ⟨hzo, out, n, hvb, hn2⟩), rfl, g⟩
  have hb' : b < h'.objs.size := Heap.lt_size e
  rw [PyProof.Rows.sortedHeap_old (Nat.ne_of_lt hb') (by rw [size_push']; exact Nat.lt_succ_of_lt hb')]; exact Heap.get?_push_of_some _ e

/-- d.pop(k), k a tuple that is there -/
def rPop1 : V → List V → Hp → VK → Prop := fun x xs H Q => ∃ (a : Addr) (kvs : List (List Key × V)) (k : List Key) (b : Addr) (v : V), x = .ref a ∧ xs = [.ref b] ∧ H a = some (.dT kvs) ∧ H b = some (.tup (k.map kV)) ∧ valV kvs k = some v ∧ Q v (upd H a (.dT (dropK kvs k)))
end
section
variable {prog : Program} {w : World} {K : Type} [DecidableEq K] {knd : HeapKind prog w K}
theorem meets_pop1 {d b : Addr} {k : K} (hd : (d == sysModules) = false) :
    MeetsIn prog w (Builtin.«dict.pop» ⟨[.ref d, .ref b], []⟩) (fun A R s => ∃ xs p0, knd.room A.in1 ∧ knd.is s.heap k b ∧ s.heap.DictOfH knd d xs ∧ xs.length ≤ sizeLine ∧ atKey xs k = some p0 ∧
      ∀ p, atKey xs k = some p → ∀ h' tk, h'.DictOfH knd d (DT.dropH xs k) → Heap.SameBut d s.heap h' → R (.ok (.ret p.2)) { s with heap := h', toks := tk }) :=
  .of_wp fun A R s ⟨xs, p0, hu, hkey, hm, hsz, hp0, hsome⟩ => by
    obtain ⟨o, es, ep, ho, hc, hdat, he, his, hn⟩ := id hm
    have hes : es.size = xs.length := size_of_entries he
    have hne : xs ≠ [] := fun z => by rw [z] at hp0; cases hp0
    have hem : es.isEmpty = false := by
      cases q : es.isEmpty with
      | false => rfl
      | true =>
        have z : es.size = 0 := by simpa using q
        exact absurd (List.length_eq_zero_iff.mp (by omega)) hne
    unfold Builtin.«dict.pop»
    refine wpAny_bind ?_; unfold Builtin.Dict.keyAndDefault
    refine wpAny_bind (wpAny_notOrdered_dict hm.typeIs ?_)
    show wpAny _ _ (pure (d, Value.ref b, (none : Option Value))) _ _ s
    refine wpAny_pure ?_
    simp only [show (keyPart (Value.ref b)).isSome = false from rfl, Bool.false_eq_true, if_false]
    refine wpAny_bind (wpAny_dictEntries ho hdat (wpAny_bind (wpAny_pure ?_)))
    simp only [hem, Bool.false_eq_true, if_false]
    refine wpAny_bind (DT.takeH hu hkey hm hsz (fun hno => ?_) fun p e hp hev h' hm' hs' => ?_)
    · rw [hno] at hp0; cases hp0
    · simp only [Option.isNone_some, Bool.false_eq_true, if_false]
      exact wpAny_bind (wpAny_letGo (wpAny_pure ⟨e.val, rfl, by rw [hev]; exact hsome p hp h' _ hm' hs'⟩))
end
section
variable {X : Cx}
theorem mt_pop1T (hu : X.A.units + 1 < cLine) : MtR X "dict.pop" rPop1 := by
  intro pins s σ H x xs v us Q I rx rxs h
  obtain ⟨a, kvs, k, b, v0, rfl, rfl, ha, hb, hv0, q⟩ := h
  cases rx
  obtain ⟨u1, rfl, r1⟩ := vals1 rxs
  cases r1
  obtain ⟨z, hd, xs', rel, dd⟩ := dt_of I.hok ha
  have hz : xs'.length ≤ sizeLine := by rw [← Paired.length rel]; exact z
  have r := rel.val k
  rw [hv0] at r
  obtain ⟨p0, hp0, rv⟩ : ∃ p0, atKey xs' k = some p0 ∧ RelV v0 p0.2 := by
    cases ev : atKey xs' k with
    | none => rw [ev] at r; exact (show False from r).elim
    | some p0 => rw [ev] at r; exact ⟨p0, rfl, r⟩
  refine call_meetsIn PySem.F.slot_dict_pop dd.typeIs PySem.F.entry_dict_pop (PySem.F.args_dict_pop_2 _ _) (meets_pop1 (knd := tupleKind (mixKind X.prog X.w)) (k := k) hd) ⟨xs', p0, tupleKind_room_in1 hu, key_of I.hok hb, dd, hz, hp0, fun p hp h' tk dd' hs => ?_⟩
  rw [hp0] at hp
  cases hp
  obtain ⟨o, es, ep, hq, h2, h3, h4, _, h5⟩ := dd'
  have I2 : Inv X pins σ (upd H a (.dT (dropK kvs k))) { s with heap := h', toks := tk } :=
    d_write I (by rw [ha]; exact True.intro) hs ⟨o, hq⟩ ⟨Nat.le_trans (dropK_le kvs k) z, hd, _, (L2.DX.KT_drop k rel).keeps (fun c ys ec => (by rw [upd_ne (ne_of ec ha (fun z => nomatch z))]; exact ec)), o, es, ep, hq, h2, h3, h4, h5⟩
  show EP X pins σ Q p0.2 _
  exact ⟨v0, _, I2, rv, q⟩
end
/-- a text's signs with their places -/
def Itse (x : Str) : It := ⟨fun i _ => i < x.cps.size, fun i H v H' => ∃ T c, v = .ref T ∧ H T = none ∧ H' = upd H T (.tup [.int (i : Nat), .str ⟨#[c]⟩]) ∧ x.cps[i]? = some c, fun i _ => x.cps.size ≤ i⟩
theorem turn_enumS {P : Program} {w : World} {K : PySem.W.Frag} {elts : List Expr} {kk : Nat} {tpos : Pos} (e it : Addr) (x : Str) (t : Tok) (ty : String) (hty : ty = "str_ascii_iterator" ∨ ty = "str_iterator") :
    Turn P w K (.Tuple elts kk tpos) (Itse x) [e, it] e (fun i h => (∃ old, IsEnum h e it i old) ∧ h.IsStrIter it ty x t i ∧ e ≠ it ∧ i ≤ x.cps.size) where
  mem := by simp
  obj := fun i h st b hb => by
    obtain ⟨⟨old, he⟩, ⟨o, ho, hc, hd⟩, _⟩ := st
    have e' : b = e ∨ b = it := by simpa using hb
    rcases e' with z | z
    · rw [z]; exact ⟨_, he, fun v q => nomatch q⟩
    · rw [z]; exact ⟨o, ho, fun v q => by rw [hd] at q; cases q⟩
  keep := fun i h h' st k => by
    obtain ⟨⟨old, he⟩, ⟨o, ho, r⟩, hne⟩ := st
    exact ⟨⟨old, k e (by simp) _ he⟩, ⟨o, k it (by simp) o ho, r⟩, hne⟩
  item := by
    intro X hP hw hK hc i pins s σ H E I hf st hg
    subst hP hw hK
    obtain ⟨⟨old, he⟩, hit, hne, hi⟩ := st
    have hg' : i < x.cps.size := hg
    have hel : e < s.heap.objs.size := Heap.lt_size he
    have hil : it < s.heap.objs.size := by obtain ⟨_, q, _⟩ := hit; exact Heap.lt_size q
    have D : Draws X.prog X.w X.A.in1 it [it] x.cps.size (fun i v => ∃ c u, x.cps[i]? = some c ∧ v = .str ⟨#[c]⟩ u) (fun i h => h.IsStrIter it ty x t i) := by
      rcases hty with z | z
      · rw [z]; exact Draws.strAscii (A := X.A.in1) (I.ok.hd hc) it x t
      · rw [z]; exact Draws.strWide (A := X.A.in1) (I.ok.hd hc) it x t
    refine wpAny_pyNext_enum_itemD D he hit hg hne (by simpa using hne) fun v h' tk hv ho hit' hT hsz hk => ?_
    obtain ⟨c, u, hcx, rfl⟩ := hv
    refine ⟨_, rfl, wpAny_letOwnedTupleGo_enum (s := { s with heap := h', toks := tk + 1 }) ho fun h'' he' sb => ?_⟩
    have hT2 : h''.get? s.heap.objs.size = some { cls := .type "tuple", data := .seq #[.int i tk, .str ⟨#[c]⟩ u] } := (sb.2 _ (Nat.ne_of_gt hel)).trans hT
    have new : ObjOk X.prog X.w (upd H s.heap.objs.size (.tup [.int (i : Nat), .str ⟨#[c]⟩])) h'' s.heap.objs.size (.tup [.int (i : Nat), .str ⟨#[c]⟩]) :=
      ⟨(by show 2 ≤ sizeLine; decide), [.int i tk, .str ⟨#[c]⟩ u], .cons ⟨_, rfl⟩ (.cons ⟨u, rfl⟩ .nil), ⟨_, hT2, rfl, _, rfl⟩⟩
    have I1 : Inv X pins σ (upd H s.heap.objs.size (.tup [.int (i : Nat), .str ⟨#[c]⟩])) { s with heap := h'', toks := tk + 1 } :=
      I.turnedNew (ch := [e, it]) (fun b ob hb q => (sb.2 b (fun z => hb (by simp [z]))).trans (hk b ob (fun z => hb (by simp [z])) (fun z => hb (by simp [z])) q)) hf (Nat.le_refl _) new
    refine ⟨.ref s.heap.objs.size, _, I1, rfl, ⟨_, c, rfl, I.hok.fresh (Nat.le_refl _), rfl, hcx⟩, ⟨⟨.str ⟨#[c]⟩ u, ?_⟩, (by obtain ⟨o, a, b⟩ := hit'; exact ⟨o, (sb.2 it (Ne.symm hne)).trans a, b⟩), hne, hg'⟩, fun b hb => ?_⟩
    · rw [show ((i + 1 : Nat) : Int) = (i : Int) + 1 by omega]; exact he'
    · have hb' : b < s.heap.objs.size := by
        have z : b = e ∨ b = it := by simpa using hb
        rcases z with z | z
        · rw [z]; exact hel
        · rw [z]; exact hil
      rw [upd_ne (Nat.ne_of_lt hb')]; exact (hf b hb).1
  done := by
    intro X hP hw hK hc i pins s σ H E I hf st hg
    subst hP hw hK
    obtain ⟨⟨old, he⟩, hit, hne, hi⟩ := st
    have hg' : x.cps.size ≤ i := hg
    obtain rfl : i = x.cps.size := by omega
    have D : Draws X.prog X.w X.A.in1 it [it] x.cps.size (fun i v => ∃ c u, x.cps[i]? = some c ∧ v = .str ⟨#[c]⟩ u) (fun i h => h.IsStrIter it ty x t i) := by
      rcases hty with z | z
      · rw [z]; exact Draws.strAscii (A := X.A.in1) (I.ok.hd hc) it x t
      · rw [z]; exact Draws.strWide (A := X.A.in1) (I.ok.hd hc) it x t
    obtain ⟨f0, f1, f2, f3, f4, f5⟩ := hf it (by simp)
    exact wpAny_pyNext_enum_endD D he hit fun h' eb => ⟨rfl, I.turned (t' := s.toks) (fun b o hb q => eb b o hb q) f0 f1 f3 f4 f5⟩
  self := fun A i s Q E st h => by
    obtain ⟨⟨old, he⟩, _, _⟩ := st
    exact wpAny_pyIter_enum he h
def iEnumS (ta : TA) : TI := fun σ H R => ta σ H fun vs H1 => ∃ x, vs = [.str x] ∧ R (Itse x) H1
theorem strIter_ty (x : Str) : strIterType x = "str_ascii_iterator" ∨ strIterType x = "str_iterator" := by
  unfold strIterType
  cases x.cps.all (· < 128)
  · exact .inr rfl
  · exact .inl rfl
theorem pi_enumS {X : Cx} {e : Expr} {ta : TA} {p pos tpos : Pos} {elts : List Expr} {kk : Nat} (hg : Gl X "enumerate") (hm : X.mg "enumerate" = none) (ha : PA X [e] ta) (hs : starEach [e] X.env = [(false, eval e X.env)] := by rfl) :
    PI X (.Tuple elts kk tpos) (.Call (.Name "enumerate" p) [e] [] pos) (iEnumS ta) := by
  refine ⟨fun pins s σ H R I h => Call_ (ld_blt I hg hm boot_enumerate (PyProof.Rows.callWith_type1 (thn (ha.run pos pins s σ H _ I h) fun us s1 ⟨vs, H1, I1, r1, q1⟩ => ?_) hs rfl))⟩
  obtain ⟨x, ex, q⟩ := q1
  subst ex
  cases r1 with
  | cons r rr =>
    cases rr
    obtain ⟨t, rfl⟩ := r
    refine call_enumerate_str fun h' he hit hsz hk => wpAny_pyIter_enum he ?_
    have I2 : Inv X pins σ H1 { s1 with heap := h' } := I1.kept (t' := s1.toks) hk
    refine ⟨s1.heap.objs.size + 1, [s1.heap.objs.size + 1, s1.heap.objs.size], _, _, H1, rfl, I2, turn_enumS (s1.heap.objs.size + 1) s1.heap.objs.size x t (strIterType x) (strIter_ty x), ⟨⟨.none, he⟩, hit, Nat.succ_ne_self _, Nat.zero_le _⟩, fun b hb => ?_, q⟩
    have hle : s1.heap.objs.size ≤ b := by
      have z : b = s1.heap.objs.size + 1 ∨ b = s1.heap.objs.size := by simpa using hb
      rcases z with z | z
      · rw [z]; exact Nat.le_add_right _ _
      · rw [z]; exact Nat.le_refl _
    exact I1.fpOk hle (I1.hok.fresh hle)
theorem walk_enumS {z : Str} : Walk (Itse z) z.cps.size (fun _ => True) (YPair (fun i => some (.int (i : Nat))) (fun i => z.cps[i]?.map fun c => V.str ⟨#[c]⟩)) := by
  refine ⟨fun _ _ hi _ => hi, fun _ _ => Nat.le_refl _, fun i H v H' _ _ y => ?_⟩
  obtain ⟨T, c, h1, h2, h3, h4⟩ := y
  exact ⟨T, .int (i : Nat), .str ⟨#[c]⟩, h1, h2, h3, rfl, by show (z.cps[i]?).map _ = _; rw [h4]; rfl⟩
theorem d_iEnS {ta : TA} {σ : L2.St} {H : Hp} {R : It → Hp → Prop} (h : ta σ H fun vs H1 => ∃ x, vs = [.str x] ∧ R (Itse x) H1) : iEnumS ta σ H R := h
theorem d_iEnSe {C : Str → Prop} {z : Str} (q : C z) : ∃ x, [V.str z] = [.str x] ∧ C x := ⟨z, rfl, q⟩
theorem d_iEn {K : PySem.W.Frag} {ta : TA} {σ : L2.St} {H : Hp} {R : It → Hp → Prop} (h : ta σ H fun vs H1 => ∃ a xs, vs = [.ref a] ∧ SqL K H1 a xs ∧ R (Ite K a) H1) : iEnum K ta σ H R := h
end Cw

namespace Cw
open PySem PySem.Spec PyProof.Rows L2
theorem erase_map {α β : Type} (f : α → β) : ∀ (l : List α) (m : Nat), (l.map f).eraseIdx m = (l.eraseIdx m).map f
  | [], m => by simp
  | _ :: _, 0 => rfl
  | x :: l, m + 1 => by
    show f x :: (l.map f).eraseIdx m = f x :: (l.eraseIdx m).map f
    rw [erase_map f l m]
theorem erase_perm {α : Type} : ∀ (l : List α) (m : Nat) (h : m < l.length), (l[m] :: l.eraseIdx m).Perm l
  | [], m, h => absurd h (Nat.not_lt_zero _)
  | x :: l, 0, _ => List.Perm.refl _
  | x :: l, m + 1, h => by
    have hm : m < l.length := Nat.lt_of_succ_lt_succ h
    have ih := erase_perm l m hm
    exact (List.Perm.swap x l[m] _).trans (ih.cons x)
/-- as many different numbers below n as there are, at most -/
theorem nodup_len : ∀ (n : Nat) (l : List Nat), l.Nodup → (∀ x ∈ l, x < n) → l.length ≤ n
  | 0, l, _, h => by
    cases l with
    | nil => exact Nat.le_refl _
    | cons x r => exact absurd (h x List.mem_cons_self) (Nat.not_lt_zero _)
  | n + 1, l, hn, h => by
    by_cases hm : n ∈ l
    · have ih := nodup_len n (l.erase n) (hn.erase n) fun x hx => by
        have h1 := h x (List.mem_of_mem_erase hx)
        have h2 : x ≠ n := fun z => by
          subst z
          exact absurd hx (List.Nodup.not_mem_erase hn)
        omega
      rw [List.length_erase_of_mem hm] at ih
      omega
    · have ih := nodup_len n l hn fun x hx => by
        have h1 := h x hx
        have h2 : x ≠ n := fun z => hm (z ▸ hx)
        omega
      omega
/-! ### places called otherwise -/
def qa (qs : List Nat) (p : Nat) : Nat := qs.getD p 0
def mapTie (qs : List Nat) (t : Tie) : Tie := (min (qa qs t.1) (qa qs t.2.1), max (qa qs t.1) (qa qs t.2.1), t.2.2)
theorem qa_at {qs : List Nat} {p : Nat} (h : p < qs.length) : qs[p]? = some (qa qs p) := by
  unfold qa
  rw [List.getD_eq_getElem?_getD, List.getElem?_eq_getElem h]; rfl
structure Ord (qs : List Nat) (n : Nat) : Prop where
  len : qs.length = n
  nd : qs.Nodup
  lt : ∀ q ∈ qs, q < n
  all : ∀ j, j < n → j ∈ qs
theorem Ord.of {qs : List Nat} {n : Nat} (p : qs.Perm (List.range n)) : Ord qs n :=
  ⟨by rw [p.length_eq, List.length_range], p.nodup_iff.mpr List.nodup_range, fun q hq => List.mem_range.mp (p.mem_iff.mp hq), fun j hj => p.mem_iff.mpr (List.mem_range.mpr hj)⟩
theorem Ord.inj {qs : List Nat} {n p r : Nat} (o : Ord qs n) (hp : p < n) (hr : r < n) (h : qa qs p = qa qs r) : p = r := by
  have h1 : p < qs.length := by rw [o.len]; exact hp
  have h2 : r < qs.length := by rw [o.len]; exact hr
  have e1 := qa_at h1
  have e2 := qa_at h2
  rw [List.getElem?_eq_getElem h1] at e1
  rw [List.getElem?_eq_getElem h2] at e2
  exact (List.getElem_inj o.nd).mp ((Option.some.inj e1).trans (h.trans (Option.some.inj e2).symm))
theorem Ord.lt' {qs : List Nat} {n p : Nat} (o : Ord qs n) (hp : p < n) : qa qs p < n := o.lt _ (List.mem_of_getElem? (qa_at (by rw [o.len]; exact hp)))
theorem Ord.onto {qs : List Nat} {n j : Nat} (o : Ord qs n) (hj : j < n) : ∃ p, p < n ∧ qa qs p = j := by
  obtain ⟨p, hp⟩ := List.mem_iff_getElem?.mp (o.all j hj)
  have h1 : p < qs.length := (List.getElem?_eq_some_iff.mp hp).1
  rw [qa_at h1] at hp
  exact ⟨p, by rw [← o.len]; exact h1, Option.some.inj hp⟩
def ends (t : Tie) : Nat × Nat := (t.1, t.2.1)
structure Named (w : Web) (qs : List Nat) (w' : Web) : Prop where
  len : w'.1.length = w.1.length
  kinds : ∀ p, p < w.1.length → w'.1[qa qs p]? = w.1[p]?
  ties : w'.2.Perm (w.2.map (mapTie qs))
theorem mapTie_ends {w : Web} {qs : List Nat} (W : WOk w) (o : Ord qs w.1.length) : (w.2.map (mapTie qs)).Pairwise (fun x y => ends x ≠ ends y) := by
  rw [List.pairwise_map]
  refine List.Pairwise.imp_of_mem (fun {t u} ht hu lt e => ?_) W.rise
  have r1 := W.ends t ht
  have r2 := W.ends u hu
  unfold ends mapTie at e
  simp only [Prod.mk.injEq] at e
  obtain ⟨e1, e2⟩ := e
  by_cases c : qa qs t.1 = qa qs u.1
  · have a := o.inj (by omega) (by omega) c
    have c2 : qa qs t.2.1 = qa qs u.2.1 := by omega
    have b := o.inj (by omega) (by omega) c2
    rcases lt with z | ⟨_, z⟩ <;> omega
  · have c1 : qa qs t.1 = qa qs u.2.1 := by omega
    have c2 : qa qs t.2.1 = qa qs u.1 := by omega
    have a := o.inj (by omega) (by omega) c1
    have b := o.inj (by omega) (by omega) c2
    omega
/-- sorted ties of different ends rise -/
theorem rise_of {ts : List Tie} (s : ts.Pairwise (fun x y => lexT ((y.1 : Int), (y.2.1 : Int), y.2.2) ((x.1 : Int), (x.2.1 : Int), x.2.2) = false)) (d : ts.Pairwise (fun x y => ends x ≠ ends y)) : ts.Pairwise tlt := by
  refine (s.and d).imp fun {x y} h => ?_
  obtain ⟨h1, h2⟩ := h
  have a := lexT_no.mp h1
  unfold ends at h2
  simp only [ne_eq, Prod.mk.injEq, not_and] at h2
  dsimp only at a
  unfold tlt
  by_cases c : x.1 = y.1
  · have := h2 c
    right
    omega
  · left
    omega
theorem named_ok {w w' : Web} {qs : List Nat} (W : WOk w) (o : Ord qs w.1.length) (N : Named w qs w') (s : w'.2.Pairwise (fun x y => lexT ((y.1 : Int), (y.2.1 : Int), y.2.2) ((x.1 : Int), (x.2.1 : Int), x.2.2) = false)) : WOk w' := by
  refine ⟨by rw [N.len]; exact W.few, by rw [N.ties.length_eq, List.length_map]; exact W.most, fun c hc => ?_, rise_of s ?_, fun t ht => ?_⟩
  · obtain ⟨j, hj⟩ := List.mem_iff_getElem?.mp hc
    have hj' : j < w.1.length := by rw [← N.len]; exact (List.getElem?_eq_some_iff.mp hj).1
    obtain ⟨p, hp, rfl⟩ := o.onto hj'
    rw [N.kinds p hp] at hj
    exact W.kinds c (List.mem_of_getElem? hj)
  · exact (List.Perm.pairwise_iff (fun {x y} h => h.symm) N.ties).mpr (mapTie_ends W o)
  · obtain ⟨u, hu, rfl⟩ := List.mem_map.mp (N.ties.mem_iff.mp ht)
    have r := W.ends u hu
    have a := o.lt' (p := u.1) (by omega)
    have b := o.lt' (p := u.2.1) (by omega)
    have n : qa qs u.1 ≠ qa qs u.2.1 := fun z => by
      have := o.inj (by omega) (by omega) z
      omega
    refine ⟨?_, ?_, r.2.2⟩
    · show min _ _ < max _ _; omega
    · show max _ _ < w'.1.length; rw [N.len]; omega
theorem flat_rep (n : Nat) (x : V) : (List.replicate n [x]).flatten = List.replicate n x := by
  induction n with
  | zero => rfl
  | succ n ih => rw [List.replicate_succ, List.flatten_cons, ih, List.replicate_succ]; rfl
end Cw

namespace Cw
open PySem PySem.Spec PyProof.Rows L2
/-! ### a dict of ties by their ends -/
def kE (a b : Int) : List Key := [.inl a, .inl b]
structure DictOk (n : Nat) (kvs : List (List Key × V)) : Prop where
  nd : (kvs.map (·.1)).Nodup
  ok : ∀ p ∈ kvs, ∃ a b c : Nat, p = (kE a b, V.str (sg c)) ∧ a < b ∧ b < n ∧ Ltr c
theorem DictOk.nil (n : Nat) : DictOk n [] := ⟨List.nodup_nil, fun p hp => by simp at hp⟩
theorem valV_mem {kvs : List (List Key × V)} {k : List Key} {v : V} (h : valV kvs k = some v) : (k, v) ∈ kvs := by
  unfold valV at h
  obtain ⟨p, hp, rfl⟩ := Option.map_eq_some_iff.mp h
  have h1 := List.find?_some hp
  have h2 := List.mem_of_find?_eq_some hp
  have e : p.1 = k := of_decide_eq_true h1
  subst e
  exact h2
theorem DictOk.at {n : Nat} {kvs : List (List Key × V)} (d : DictOk n kvs) {k : List Key} {v : V} (h : valV kvs k = some v) : ∃ a b c : Nat, k = kE a b ∧ v = V.str (sg c) ∧ a < b ∧ b < n ∧ Ltr c := by
  obtain ⟨a, b, c, e, r⟩ := d.ok _ (valV_mem h)
  cases e
  exact ⟨a, b, c, rfl, rfl, r⟩
theorem DictOk.put {n : Nat} {kvs : List (List Key × V)} (d : DictOk n kvs) {a b c : Nat} (h1 : a < b) (h2 : b < n) (h3 : Ltr c) : DictOk n (putK kvs (kE a b) (.str (sg c))) := by
  unfold putK
  by_cases h : (kvs.any fun kv => decide (kv.1 = kE a b)) = true
  · rw [if_pos h]
    refine ⟨?_, fun p hp => ?_⟩
    · rw [List.map_map]
      have e : kvs.map ((·.1) ∘ fun kv => if kv.1 = kE a b then (kv.1, V.str (sg c)) else kv) = kvs.map (·.1) := by
        refine List.map_congr_left fun x _ => ?_
        show (if x.1 = kE a b then (x.1, V.str (sg c)) else x).1 = x.1
        split <;> rfl
      rw [e]
      exact d.nd
    · obtain ⟨x, hx, rfl⟩ := List.mem_map.mp hp
      by_cases e : x.1 = kE a b
      · rw [if_pos e, e]
        exact ⟨a, b, c, rfl, h1, h2, h3⟩
      · rw [if_neg e]
        exact d.ok x hx
  · rw [if_neg h]
    have hno : kE a b ∉ kvs.map (·.1) := fun hm => by
      obtain ⟨x, hx, e⟩ := List.mem_map.mp hm
      exact h (List.any_eq_true.mpr ⟨x, hx, decide_eq_true e⟩)
    refine ⟨?_, fun p hp => ?_⟩
    · rw [List.map_append]
      exact List.nodup_append.mpr ⟨d.nd, by simp, fun x hx y hy => by rw [List.mem_singleton.mp hy]; intro z; exact hno (by rw [← (show x = kE a b from z)]; exact hx)⟩
    · rcases List.mem_append.mp hp with hp | hp
      · exact d.ok p hp
      · rw [List.mem_singleton.mp hp]
        exact ⟨a, b, c, rfl, h1, h2, h3⟩
theorem DictOk.drop {n : Nat} {kvs : List (List Key × V)} (d : DictOk n kvs) (k : List Key) : DictOk n (dropK kvs k) :=
  ⟨d.nd.sublist ((List.filter_sublist).map _), fun p hp => d.ok p (List.mem_filter.mp hp).1⟩
theorem valV_drop {kvs : List (List Key × V)} {k j : List Key} (h : j ≠ k) : valV (dropK kvs k) j = valV kvs j := by
  unfold valV dropK
  congr 1
  induction kvs with
  | nil => rfl
  | cons x kvs ih =>
    by_cases e : x.1 = k
    · have e2 : ¬ x.1 = j := fun z => h (z.symm.trans e)
      rw [List.filter_cons_of_neg (by simp [e]), List.find?_cons_of_neg (by simp [e2])]
      exact ih
    · rw [List.filter_cons_of_pos (by simp [e])]
      by_cases e2 : x.1 = j
      · rw [List.find?_cons_of_pos (by simp [e2]), List.find?_cons_of_pos (by simp [e2])]
      · rw [List.find?_cons_of_neg (by simp [e2]), List.find?_cons_of_neg (by simp [e2])]
        exact ih
theorem DictOk.has {n : Nat} {kvs : List (List Key × V)} {k : List Key} (d : DictOk n kvs) (h : k ∈ kvs.map (·.1)) : ∃ v, valV kvs k = some v := by
  obtain ⟨x, hx, rfl⟩ := List.mem_map.mp h
  cases e : valV kvs x.1 with
  | some v => exact ⟨v, rfl⟩
  | none => exact absurd (List.mem_map.mpr ⟨x, hx, rfl⟩) (valV_not e)
theorem DictOk.len {n : Nat} {kvs : List (List Key × V)} (d : DictOk n kvs) (hn : n ≤ 40) : kvs.length ≤ 1600 := by
  let code : List Key × V → Nat := fun p => match p.1 with
    | [.inl a, .inl b] => a.toNat * 40 + b.toNat
    | _ => 0
  have hc : ∀ p ∈ kvs, ∃ a b : Nat, p.1 = kE a b ∧ code p = a * 40 + b ∧ a < 40 ∧ b < 40 := fun p hp => by
    obtain ⟨a, b, c, rfl, h1, h2, _⟩ := d.ok p hp
    exact ⟨a, b, rfl, rfl, by omega, by omega⟩
  have l := nodup_len 1600 (kvs.map code) (by
    have z := d.nd
    unfold List.Nodup at z ⊢
    rw [List.pairwise_map] at z ⊢
    refine List.Pairwise.imp_of_mem (fun {x y} hx hy hne e => ?_) z
    obtain ⟨a, b, e1, e2, b1, b2⟩ := hc x hx
    obtain ⟨a', b', e1', e2', b1', b2'⟩ := hc y hy
    rw [e2, e2'] at e
    have : a = a' ∧ b = b' := by omega
    rw [e1, e1', this.1, this.2] at hne
    exact hne rfl) (fun x hx => by
    obtain ⟨p, hp, rfl⟩ := List.mem_map.mp hx
    obtain ⟨a, b, _, e2, b1, b2⟩ := hc p hp
    rw [e2]; omega)
  rw [List.length_map] at l
  exact l
theorem DictOk.pairs {n : Nat} {kvs : List (List Key × V)} (d : DictOk n kvs) : ∀ p ∈ kvs, ∃ i j : Int, p.1 = [.inl i, .inl j] := fun p hp => by
  obtain ⟨a, b, c, rfl, _⟩ := d.ok p hp
  exact ⟨a, b, rfl⟩
/-- the web's other, in the making -/
def OI (h d : Addr) (H3 : Hp) (N : Nat) (kvs : List (List Key × V)) (H' : Hp) : Prop := H' d = some (.dT kvs) ∧ Keep h H3 H' ∧ Hand H' h ∧ DictOk N kvs
section
variable {h d p : Addr} {H3 H' H'' : Hp} {N : Nat} {kvs : List (List Key × V)} {o : HO}
theorem OI.new (x : OI h d H3 N kvs H') (f : H' p = none) : OI h d H3 N kvs (upd H' p o) := by
  obtain ⟨e, k, hh, dk⟩ := x
  exact ⟨at_upd e f, Keep.new k (Keep.free k (hh.ne f) f), hh.put (hh.ne f), dk⟩
theorem OI.draw (x : OI h d H3 N kvs H') (k' : Keep h H' H'') (hh' : Hand H'' h) : OI h d H3 N kvs H'' := by
  obtain ⟨e, k, hh, dk⟩ := x
  obtain ⟨_, _, eh, _⟩ := hh
  exact ⟨k' d _ (ne_of e eh (by intro z; cases z)) e, Keep.trans k k', hh', dk⟩
theorem OI.same (x : OI h d H3 N kvs H') (s : Same H' H'') : OI h d H3 N kvs H'' := x.draw (Same.keep s) (x.2.2.1.same s)
theorem OI.set (x : OI h d H3 N kvs H') (f : H3 d = none) {kvs' : List (List Key × V)} (dk' : DictOk N kvs') : OI h d H3 N kvs' (upd H' d (.dT kvs')) := by
  obtain ⟨e, k, hh, dk⟩ := x
  obtain ⟨_, _, eh, _⟩ := id hh
  exact ⟨upd_same, Keep.new k f, hh.put (ne_of e eh (by intro z; cases z)), dk'⟩
end
theorem putK_keys {kvs : List (List Key × V)} {k j : List Key} {v : V} (h : j ∈ kvs.map (·.1)) : j ∈ (putK kvs k v).map (·.1) := by
  obtain ⟨x, hx, rfl⟩ := List.mem_map.mp h
  unfold putK
  split
  · refine List.mem_map.mpr ⟨_, List.mem_map.mpr ⟨x, hx, rfl⟩, ?_⟩
    split <;> rfl
  · exact List.mem_map.mpr ⟨x, List.mem_append_left _ hx, rfl⟩
theorem dropK_keys {kvs : List (List Key × V)} {k j : List Key} (h : j ∈ kvs.map (·.1)) (n : j ≠ k) : j ∈ (dropK kvs k).map (·.1) := by
  obtain ⟨x, hx, rfl⟩ := List.mem_map.mp h
  exact List.mem_map.mpr ⟨x, List.mem_filter.mpr ⟨hx, decide_eq_true n⟩, rfl⟩
/-- the web's other, its keys being gone through -/
def OL (h d : Addr) (H3 : Hp) (N : Nat) (p : Addr) (es : List (Addr × Int × Int)) (i : Nat) (kvs : List (List Key × V)) (H' : Hp) : Prop :=
  OI h d H3 N kvs H' ∧ H' p = some (.lst (es.map fun e => V.ref e.1)) ∧ p ≠ h ∧ (∀ e ∈ es, H' e.1 = some (.tup [.int e.2.1, .int e.2.2])) ∧ (∀ j e, i ≤ j → es[j]? = some e → kE e.2.1 e.2.2 ∈ kvs.map (·.1)) ∧ (es.map fun e => kE e.2.1 e.2.2).Nodup
section
variable {h d p b : Addr} {H3 H' H'' : Hp} {N i : Nat} {kvs : List (List Key × V)} {o : HO} {es : List (Addr × Int × Int)}
theorem OL.start (x : OI h d H3 N kvs H') (f : H' p = none) (pm : (es.map fun e => kE e.2.1 e.2.2).Perm (kvs.map (·.1))) (he : ∀ e ∈ es, H' e.1 = some (.tup [.int e.2.1, .int e.2.2])) : OL h d H3 N p es 0 kvs (upd H' p (.lst (es.map fun e => V.ref e.1))) :=
  ⟨x.new f, upd_same, x.2.2.1.ne f, fun e h => at_upd (he e h) f, fun j e _ h => pm.mem_iff.mp (List.mem_map.mpr ⟨e, List.mem_of_getElem? h, rfl⟩), pm.nodup_iff.mpr x.2.2.2.nd⟩
theorem OL.next (x : OL h d H3 N p es i kvs H') : OL h d H3 N p es (i + 1) kvs H' := ⟨x.1, x.2.1, x.2.2.1, x.2.2.2.1, fun j e hj => x.2.2.2.2.1 j e (by omega), x.2.2.2.2.2⟩
theorem OL.new (x : OL h d H3 N p es i kvs H') (f : H' b = none) : OL h d H3 N p es i kvs (upd H' b o) := ⟨x.1.new f, at_upd x.2.1 f, x.2.2.1, fun e h => at_upd (x.2.2.2.1 e h) f, x.2.2.2.2⟩
theorem OL.list (x : OL h d H3 N p es i kvs H') {ys ys' : List V} (e : H' b = some (.lst ys)) (np : b ≠ p) (nh : b ≠ h) (f : H3 b = none) : OL h d H3 N p es i kvs (upd H' b (.lst ys')) := by
  obtain ⟨⟨ed, k, hh, dk⟩, ep, n, he, r⟩ := x
  exact ⟨⟨by rw [upd_ne (ne_of ed e (by intro z; cases z))]; exact ed, Keep.new k f, hh.put nh, dk⟩, by rw [upd_ne np.symm]; exact ep, n, fun t h => by rw [upd_ne (ne_of (he t h) e (by intro z; cases z))]; exact he t h, r⟩
theorem OL.draw (x : OL h d H3 N p es i kvs H') (k' : Keep h H' H'') (hh' : Hand H'' h) : OL h d H3 N p es i kvs H'' := by
  obtain ⟨O, ep, np, he, r⟩ := x
  obtain ⟨_, _, eh, _⟩ := id O.2.2.1
  exact ⟨O.draw k' hh', k' p _ np ep, np, fun e h => k' _ _ (ne_of (he e h) eh (by intro z; cases z)) (he e h), r⟩
theorem OL.set (x : OL h d H3 N p es i kvs H') (f : H3 d = none) {c c2 t : Nat} (h1 : c < c2) (h2 : c2 < N) (h3 : Ltr t) : OL h d H3 N p es i (putK kvs (kE c c2) (.str (sg t))) (upd H' d (.dT (putK kvs (kE c c2) (.str (sg t))))) := by
  obtain ⟨O, ep, np, he, hk, nd⟩ := x
  exact ⟨O.set f (O.2.2.2.put h1 h2 h3), by rw [upd_ne (ne_of ep O.1 (by intro z; cases z))]; exact ep, np, fun e h => by rw [upd_ne (ne_of (he e h) O.1 (by intro z; cases z))]; exact he e h, fun j e hj h => putK_keys (hk j e hj h), nd⟩
theorem OL.pop (x : OL h d H3 N p es i kvs H') (f : H3 d = none) {e : Addr × Int × Int} (h0 : es[i]? = some e) : OL h d H3 N p es (i + 1) (dropK kvs (kE e.2.1 e.2.2)) (upd H' d (.dT (dropK kvs (kE e.2.1 e.2.2)))) := by
  obtain ⟨O, ep, np, he, hk, nd⟩ := x
  refine ⟨O.set f (O.2.2.2.drop _), by rw [upd_ne (ne_of ep O.1 (by intro z; cases z))]; exact ep, np, fun e h => by rw [upd_ne (ne_of (he e h) O.1 (by intro z; cases z))]; exact he e h, fun j e' hj h => dropK_keys (hk j e' (by omega) h) fun z => ?_, nd⟩
  have li : i < es.length := (List.getElem?_eq_some_iff.mp h0).1
  have lj : j < es.length := (List.getElem?_eq_some_iff.mp h).1
  have e1 := (List.getElem?_eq_some_iff.mp h0).2
  have e2 := (List.getElem?_eq_some_iff.mp h).2
  have ne := List.pairwise_iff_getElem.mp nd i j (by rw [List.length_map]; exact li) (by rw [List.length_map]; exact lj) (by omega)
  simp only [List.getElem_map, e1, e2] at ne
  exact ne z.symm
end
theorem valV_mem' {kvs : List (List Key × V)} {n : Nat} (d : DictOk n kvs) {k : List Key} (h : k ∈ kvs.map (·.1)) : ∃ a b c : Nat, k = kE a b ∧ valV kvs k = some (V.str (sg c)) ∧ a < b ∧ b < n ∧ Ltr c := by
  obtain ⟨v, e⟩ := d.has h
  obtain ⟨a, b, c, e1, rfl, r⟩ := d.at e
  exact ⟨a, b, c, e1, e, r⟩
theorem kE_inj {a b c d : Int} (h : kE a b = kE c d) : a = c ∧ b = d := by
  unfold kE at h
  injection h with h1 h2
  injection h1 with h1
  injection h2 with h2
  injection h2 with h2
  exact ⟨h1, h2⟩
theorem rise_keys {es : List (Addr × Int × Int)} {ts : List Tie} (e : ts.map (fun t => ((t.1 : Int), (t.2.1 : Int))) = es.map (·.2)) (nd : (es.map fun e => kE e.2.1 e.2.2).Nodup)
    (s : (es.map (·.2)).Pairwise (fun x y => SrtO.lexB y x = false)) : ts.Pairwise tlt := by
  rw [← e, List.pairwise_map] at s
  have e2 : (es.map fun e => kE e.2.1 e.2.2) = ts.map fun t => kE t.1 t.2.1 := by
    have z := congrArg (List.map fun q : Int × Int => kE q.1 q.2) e
    rw [List.map_map, List.map_map] at z
    exact z.symm
  rw [e2] at nd
  have nd' := List.pairwise_map.mp nd
  refine (List.Pairwise.and s nd').imp fun {x y} ⟨h1, h2⟩ => ?_
  have h3 : ¬ ((y.1 : Int) < x.1 ∨ ((y.1 : Int) = x.1 ∧ (y.2.1 : Int) < x.2.1)) := fun z => by
    rw [← SrtO.lexB_iff (p := ((y.1 : Int), (y.2.1 : Int))) (q := ((x.1 : Int), (x.2.1 : Int)))] at z
    rw [z] at h1; cases h1
  have h4 : ¬ (x.1 = y.1 ∧ x.2.1 = y.2.1) := fun z => h2 (by rw [z.1, z.2])
  unfold tlt
  omega
/-- names that lead each place of the one to a like place of the other -/
structure NamesOk (w w' : Web) (ns : List Nat) : Prop where
  len : ns.length = w.1.length
  nd : ns.Nodup
  like : ∀ p q : Nat, ns[p]? = some q → q < w'.1.length ∧ w'.1[q]? = w.1[p]?
theorem cut_take (xs : List V) (n : Nat) (h : n ≤ xs.length) : cutV xs none (some (n : Nat)) = xs.take n := by
  unfold cutV
  have e : HT.sIx xs.length xs.length (some ((n : Nat) : Int)) = min n xs.length := HT.sIx_nat xs.length xs.length n
  rw [HT.sIx_none, e, List.drop_zero, Nat.sub_zero, Nat.min_eq_left h]
end Cw

namespace Cw
open PySem PySem.Spec PyProof.Rows L2
/-! ### leads -/
abbrev Lead := List (Nat × Nat)
structure LOk (w w' : Web) (ld : Lead) : Prop where
  rise : ld.Pairwise (fun x y => x.1 < y.1)
  ends : (ld.map (·.2)).Nodup
  like : ∀ p ∈ ld, p.1 < w.1.length ∧ p.2 < w'.1.length ∧ w'.1[p.2]? = w.1[p.1]?
def PairAt (K : PySem.W.Frag) (H : Hp) (v : V) (p : Nat × Nat) : Prop := ∃ a, v = .ref a ∧ SqT K H a [.int (p.1 : Nat), .int (p.2 : Nat)]
theorem PairAt.same {K : PySem.W.Frag} {H H' : Hp} {v : V} {p : Nat × Nat} (x : PairAt K H v p) (s : Same H H') : PairAt K H' v p := by
  obtain ⟨a, e, q⟩ := x
  exact ⟨a, e, Same.sqt s q⟩
theorem PairAt.keep {K : PySem.W.Frag} {H H' : Hp} {v : V} {p : Nat × Nat} {h : Addr} {ys : List V} (x : PairAt K H v p) (k : Keep h H H') (e : H h = some (.lst ys)) : PairAt K H' v p := by
  obtain ⟨a, e', q⟩ := x
  exact ⟨a, e', k.sqt e q⟩
theorem PairAt.put {K : PySem.W.Frag} {H : Hp} {v : V} {p : Nat × Nat} {b : Addr} {o : HO} (x : PairAt K H v p) (n : H b = none ∨ ∃ ys, H b = some (.lst ys)) : PairAt K (upd H b o) v p := by
  obtain ⟨a, e, q⟩ := x
  exact ⟨a, e, sqt_upd n q⟩
def Pairs (K : PySem.W.Frag) (H : Hp) (pvs : List V) (ld : Lead) : Prop := Paired (PairAt K H) pvs ld
section
variable {K : PySem.W.Frag} {H H' : Hp} {pvs : List V} {ld : Lead} {h b : Addr} {ys : List V} {o : HO}
theorem Pairs.same (x : Pairs K H pvs ld) (s : Same H H') : Pairs K H' pvs ld := Paired.imp x fun _ _ z => z.same s
theorem Pairs.keep (x : Pairs K H pvs ld) (k : Keep h H H') (e : H h = some (.lst ys)) : Pairs K H' pvs ld := Paired.imp x fun _ _ z => z.keep k e
theorem Pairs.put (x : Pairs K H pvs ld) (n : H b = none ∨ ∃ ys, H b = some (.lst ys)) : Pairs K (upd H b o) pvs ld := Paired.imp x fun _ _ z => z.put n
/-- one more pair, at a new place, and the list itself -/
theorem Pairs.more {p q : Nat} {l : Addr} {zs : List V} (x : Pairs K H pvs ld) (e : H l = some (.lst ys)) (f : H b = none) : Pairs K (upd (upd H b (.tup [.int (p : Nat), .int (q : Nat)])) l (.lst zs)) (pvs ++ [.ref b]) (ld ++ [(p, q)]) := by
  have el : (upd H b (.tup [.int (p : Nat), .int (q : Nat)])) l = some (.lst ys) := at_upd e f
  exact Paired.snoc ((x.put (.inl f)).put (.inr ⟨_, el⟩)) ⟨b, rfl, sqt_upd (.inr ⟨_, el⟩) (SqT.of upd_same)⟩
theorem Pairs.len (x : Pairs K H pvs ld) : pvs.length = ld.length := Paired.length x
end
theorem LOk.few {w w' : Web} {ld : Lead} (l : LOk w w' ld) : ld.length ≤ w'.1.length := by
  have := nodup_len w'.1.length (ld.map (·.2)) l.ends fun x hx => by
    obtain ⟨p, hp, rfl⟩ := List.mem_map.mp hx
    exact (l.like p hp).2.1
  rwa [List.length_map] at this
theorem eqv_nil (ds : List PyData) : PyData.eqv (.list ds) (.list []) = ds.isEmpty := by
  cases ds <;> simp [PyData.eqv, PyData.eqvAll]
theorem erase_zs (ls : List Nat) (j : Nat) : (zs ls).eraseIdx j = zs (ls.eraseIdx j) := erase_map _ _ _
theorem zs_at {ls : List Nat} {j x : Nat} : (zs ls)[j]? = some (x : Int) ↔ ls[j]? = some x := by
  unfold zs
  rw [List.getElem?_map, Option.map_eq_some_iff]
  constructor
  · rintro ⟨a, ha, e⟩
    rw [ha]; congr 1; omega
  · intro h
    exact ⟨x, h, rfl⟩
theorem nodup_at {ls : List Nat} (nd : ls.Nodup) {i j x : Nat} (h1 : ls[i]? = some x) (h2 : ls[j]? = some x) : i = j := by
  obtain ⟨l1, e1⟩ := List.getElem?_eq_some_iff.mp h1
  obtain ⟨l2, e2⟩ := List.getElem?_eq_some_iff.mp h2
  rcases Nat.lt_trichotomy i j with z | z | z
  · exact absurd (e1.trans e2.symm) (List.pairwise_iff_getElem.mp nd i j l1 l2 z)
  · exact z
  · exact absurd (e2.trans e1.symm) (List.pairwise_iff_getElem.mp nd j i l2 l1 z)
theorem nodup_erase {ls : List Nat} (nd : ls.Nodup) {j x : Nat} (h : ls[j]? = some x) : ∀ y, y ∈ ls.eraseIdx j ↔ y ∈ ls ∧ y ≠ x := by
  intro y
  obtain ⟨l1, e1⟩ := List.getElem?_eq_some_iff.mp h
  have p := erase_perm ls j l1
  rw [e1] at p
  have nd2 := p.nodup_iff.mpr nd
  rw [List.nodup_cons] at nd2
  have m := p.mem_iff (a := y)
  rw [List.mem_cons] at m
  constructor
  · intro hy
    exact ⟨m.mp (.inr hy), fun z => nd2.1 (z ▸ hy)⟩
  · rintro ⟨hy, ne⟩
    rcases m.mpr hy with z | z
    · exact absurd z ne
    · exact z
/-! ### led ties -/
def ldAt (ld : Lead) (p : Nat) : Option Nat := (ld.find? fun q => q.1 == p).map (·.2)
def isLed (w' : Web) (ld : Lead) (t : Tie) : Bool := match ldAt ld t.1, ldAt ld t.2.1 with
  | some a, some b => decide (tieL w'.2 a b = some t.2.2)
  | _, _ => false
def dueL (w w' : Web) (ld : Lead) : List Tie := w.2.filter (isLed w' ld)
theorem ldAt_nil (p : Nat) : ldAt [] p = none := rfl
theorem ldAt_pos {x : Nat × Nat} {r : Lead} {p : Nat} (e : x.1 = p) : ldAt (x :: r) p = some x.2 := by
  unfold ldAt; rw [List.find?_cons_of_pos (by simp [e])]; rfl
theorem ldAt_neg {x : Nat × Nat} {r : Lead} {p : Nat} (e : x.1 ≠ p) : ldAt (x :: r) p = ldAt r p := by
  unfold ldAt; rw [List.find?_cons_of_neg (by simp [e])]
theorem ldAt_none {ld : Lead} {p : Nat} (h : ∀ q ∈ ld, q.1 ≠ p) : ldAt ld p = none := by
  unfold ldAt
  rw [List.find?_eq_none.mpr fun q hq => by simp [h q hq]]; rfl
theorem filt_at (p : Nat) : ∀ ld : Lead, ld.Pairwise (fun x y => x.1 < y.1) → (ld.filter fun q => q.1 == p).map (·.2) = (ldAt ld p).toList
  | [], _ => rfl
  | x :: r, s => by
    obtain ⟨h, t⟩ := List.pairwise_cons.mp s
    by_cases e : x.1 = p
    · rw [ldAt_pos e, List.filter_cons_of_pos (by simp [e]), List.map_cons, filt_at p r t, ldAt_none fun q hq => by have := h q hq; omega]; rfl
    · rw [ldAt_neg e, List.filter_cons_of_neg (by simp [e])]; exact filt_at p r t
theorem ldAt_mem {ld : Lead} {p q : Nat} (h : ldAt ld p = some q) : (p, q) ∈ ld := by
  unfold ldAt at h
  obtain ⟨x, hx, rfl⟩ := Option.map_eq_some_iff.mp h
  have e : x.1 = p := by simpa using List.find?_some hx
  subst e
  exact List.mem_of_find?_eq_some hx
theorem led_merge (k : Nat) : ∀ (ld : Lead) (acc : List (Key × V)), ld.Pairwise (fun x y => x.1 < y.1) → valV (mergeK acc (ld.map fun p => ((.inl (p.1 : Int) : Key), V.int (p.2 : Nat)))) (.inl (k : Int)) = ((ldAt ld k).map fun q => V.int (q : Nat)).or (valV acc (.inl (k : Int)))
  | [], acc, _ => rfl
  | x :: r, acc, s => by
    obtain ⟨h, t⟩ := List.pairwise_cons.mp s
    show valV (mergeK (putK acc (.inl (x.1 : Int)) (V.int (x.2 : Nat))) (r.map _)) _ = _
    rw [led_merge k r _ t, valV_put]
    by_cases e : x.1 = k
    · rw [ldAt_pos e, ldAt_none fun q hq => by have := h q hq; omega, e, if_pos rfl]; rfl
    · rw [ldAt_neg e, if_neg (by intro z; injection z with z; omega)]
theorem led_dict (ld : Lead) (s : ld.Pairwise (fun x y => x.1 < y.1)) (k : Nat) : valV (mergeK [] (ld.map fun p => ((.inl (p.1 : Int) : Key), V.int (p.2 : Nat)))) (.inl (k : Int)) = (ldAt ld k).map fun q => V.int (q : Nat) := by
  rw [led_merge k ld [] s]
  show Option.or _ none = _
  rw [Option.or_none]
theorem optV_get (o : Option Nat) : (o.map fun c => V.str (sg c)).getD .non = optV o := by cases o <;> rfl
theorem optV_str (o : Option Nat) (c : Nat) : scal (optV o) (.str (sg c)) = true := by cases o <;> rfl
theorem optV_eq (o : Option Nat) (c : Nat) : decide (optV o = .str (sg c)) = decide (o = some c) := by
  cases o with
  | none => rfl
  | some d =>
    rw [Bool.eq_iff_iff, decide_eq_true_eq, decide_eq_true_eq]
    constructor
    · intro z
      injection z with z
      rw [sg_inj.mp z]
    · intro z
      cases z; rfl
theorem due_snoc {w' : Web} {ld : Lead} {ts : List Tie} {i : Nat} {t : Tie} (h : ts[i]? = some t) : (ts.take (i + 1)).filter (isLed w' ld) = (ts.take i).filter (isLed w' ld) ++ if isLed w' ld t = true then [t] else [] := by
  rw [take_snoc h, List.filter_append]
  congr 1
  by_cases c : isLed w' ld t = true
  · rw [if_pos c, List.filter_cons_of_pos c]; rfl
  · rw [if_neg c, List.filter_cons_of_neg c]; rfl
def Ties (K : PySem.W.Frag) (H : Hp) (xs : List V) (ts : List Tie) : Prop := Paired (TieAt K H) xs ts
section
variable {K : PySem.W.Frag} {H H' : Hp} {xs : List V} {ts : List Tie} {h b : Addr} {ys : List V} {o : HO}
theorem Ties.same (x : Ties K H xs ts) (s : Same H H') : Ties K H' xs ts := Paired.imp x fun _ _ z => z.same s
theorem Ties.keep (x : Ties K H xs ts) (k : Keep h H H') (e : H h = some (.lst ys)) : Ties K H' xs ts := Paired.imp x fun _ _ z => z.keep k e
theorem Ties.put (x : Ties K H xs ts) (n : H b = none ∨ ∃ ys, H b = some (.lst ys)) : Ties K (upd H b o) xs ts := Paired.imp x fun _ _ z => z.put n
theorem Ties.more {t : Tie} {l : Addr} {zs : List V} (x : Ties K H xs ts) (e : H l = some (.lst ys)) (f : H b = none) : Ties K (upd (upd H b (.tup [.int (t.1 : Nat), .int (t.2.1 : Nat), .str (sg t.2.2)])) l (.lst zs)) (xs ++ [.ref b]) (ts ++ [t]) := by
  have el : (upd H b (.tup [.int (t.1 : Nat), .int (t.2.1 : Nat), .str (sg t.2.2)])) l = some (.lst ys) := at_upd e f
  exact Paired.snoc ((x.put (.inl f)).put (.inr ⟨_, el⟩)) ⟨b, rfl, sqt_upd (.inr ⟨_, el⟩) (SqT.of upd_same)⟩
theorem Ties.len (x : Ties K H xs ts) : xs.length = ts.length := Paired.length x
end
theorem two_led {ld : Lead} {t : Tie} (h : ((ldAt ld t.1).toList ++ (ldAt ld t.2.1).toList).length = 2) : ∃ x y, ldAt ld t.1 = some x ∧ ldAt ld t.2.1 = some y := by
  cases e1 : ldAt ld t.1 <;> cases e2 : ldAt ld t.2.1 <;> rw [e1, e2] at h <;> simp at h
  exact ⟨_, _, rfl, rfl⟩
theorem not_two {w' : Web} {ld : Lead} {t : Tie} (h : ¬ ((ldAt ld t.1).toList ++ (ldAt ld t.2.1).toList).length = 2) : isLed w' ld t = false := by
  unfold isLed
  cases e1 : ldAt ld t.1 <;> cases e2 : ldAt ld t.2.1 <;> rw [e1, e2] at h <;> simp at h <;> rfl
theorem isLed_at {w' : Web} {ld : Lead} {t : Tie} {x y : Nat} (h1 : ldAt ld t.1 = some x) (h2 : ldAt ld t.2.1 = some y) : isLed w' ld t = decide (tieL w'.2 x y = some t.2.2) := by
  unfold isLed; rw [h1, h2]
theorem isLed_no {w' : Web} {ld : Lead} {t : Tie} (h : ldAt ld t.1 = none ∨ ldAt ld t.2.1 = none) : isLed w' ld t = false := by
  unfold isLed
  rcases h with h | h
  · rw [h]
  · rw [h]; cases ldAt ld t.1 <;> rfl
theorem Pairs.refs {K : PySem.W.Frag} {H : Hp} : ∀ {pvs : List V} {ld : Lead}, Pairs K H pvs ld → ∃ ps : List Addr, pvs = ps.map V.ref ∧ Paired (fun p (kv : Key × V) => SqT K H p [kV kv.1, kv.2]) ps (ld.map fun p => ((.inl (p.1 : Int) : Key), V.int (p.2 : Nat)))
  | _, _, .nil => ⟨[], rfl, .nil⟩
  | _, _, .cons h t => by
    obtain ⟨a, rfl, q⟩ := h
    obtain ⟨ps, rfl, r⟩ := Pairs.refs t
    exact ⟨a :: ps, rfl, .cons q r⟩
end Cw

namespace Cw
open PySem PySem.Spec PyProof.Rows L2
/-! ### data told -/
def tieD (t : Tie) : PyData := .tuple [.int (t.1 : Nat), .int (t.2.1 : Nat), .str (sg t.2.2)]
def pairD (p : Nat × Nat) : PyData := .tuple [.int (p.1 : Nat), .int (p.2 : Nat)]
def tiesD (ts : List Tie) : PyData := .list (ts.map tieD)
def pairsD (ld : Lead) : PyData := .list (ld.map pairD)
theorem Ties.dpa {K : PySem.W.Frag} {H : Hp} : ∀ {xs : List V} {ts : List Tie}, Ties K H xs ts → DpAll K H xs (ts.map tieD)
  | _, _, .nil => .nil
  | _, _, .cons h t => by
    obtain ⟨a, rfl, q⟩ := h
    exact .cons (.tup q (.cons (.int _) (.cons (.int _) (.cons (.str _) .nil)))) (Ties.dpa t)
theorem Pairs.dpa {K : PySem.W.Frag} {H : Hp} : ∀ {xs : List V} {ts : Lead}, Pairs K H xs ts → DpAll K H xs (ts.map pairD)
  | _, _, .nil => .nil
  | _, _, .cons h t => by
    obtain ⟨a, rfl, q⟩ := h
    exact .cons (.tup q (.cons (.int _) (.cons (.int _) .nil))) (Pairs.dpa t)
theorem Ties.dp {K : PySem.W.Frag} {H : Hp} {xs : List V} {ts : List Tie} {l : Addr} (x : Ties K H xs ts) (e : H l = some (.lst xs)) : Dp K H (.ref l) (tiesD ts) := .lst (SqL.of e) x.dpa
theorem Pairs.dp {K : PySem.W.Frag} {H : Hp} {xs : List V} {ts : Lead} {l : Addr} (x : Pairs K H xs ts) (e : H l = some (.lst xs)) : Dp K H (.ref l) (pairsD ts) := .lst (SqL.of e) x.dpa
theorem lay_all : ∀ {ds : List PyData} {k : Nat}, (∀ d ∈ ds, d.canLay0 = true ∧ d.depth ≤ k) → PyData.canLayAll0 ds = true ∧ PyData.depthAll ds ≤ k
  | [], k, _ => ⟨by simp [PyData.canLayAll0], by simp [PyData.depthAll]⟩
  | d :: ds, k, h => by
    obtain ⟨h1, h2⟩ := lay_all (ds := ds) (k := k) fun x hx => h x (List.mem_cons_of_mem _ hx)
    obtain ⟨h3, h4⟩ := h d List.mem_cons_self
    exact ⟨by simp [PyData.canLayAll0, h1, h3], by simp only [PyData.depthAll]; omega⟩
theorem shaped_list {ds : List PyData} {k : Nat} (hk : k ≤ 63) (h : ∀ d ∈ ds, d.canLay0 = true ∧ d.depth ≤ k) : SeqAt.shaped (.list ds) = true := by
  obtain ⟨h1, h2⟩ := lay_all h
  have : PyData.depth (.list ds) ≤ 64 := by simp only [PyData.depth]; omega
  simp [SeqAt.shaped, PyData.canLay0, h1, this]
theorem good_eqv {d : PyData} (h : SeqAt.shaped d = true) : PyData.eqv d d = true := SeqAt.eqv_refl d (SeqAt.canLay_of_shaped h)
theorem str_ok : ∀ c : Nat, c < 123 → PyData.strOk (sg c) = true := fun c h => by
  unfold PyData.strOk sg
  simp; omega
theorem tieD_lay {t : Tie} (h : Ltr t.2.2) : (tieD t).canLay0 = true ∧ (tieD t).depth ≤ 1 := by
  have := str_ok t.2.2 (by unfold Ltr at h; omega)
  unfold tieD
  simp [PyData.canLay0, PyData.canLayAll0, PyData.depth, PyData.depthAll, this]
theorem pairD_lay (p : Nat × Nat) : (pairD p).canLay0 = true ∧ (pairD p).depth ≤ 1 := by
  unfold pairD
  simp [PyData.canLay0, PyData.canLayAll0, PyData.depth, PyData.depthAll]
theorem tiesD_good {ts : List Tie} (h : ∀ t ∈ ts, Ltr t.2.2) : SeqAt.shaped (tiesD ts) = true := shaped_list (k := 1) (by decide) fun d hd => by
  obtain ⟨t, ht, rfl⟩ := List.mem_map.mp hd
  exact tieD_lay (h t ht)
theorem pairsD_good (ld : Lead) : SeqAt.shaped (pairsD ld) = true := shaped_list (k := 1) (by decide) fun d hd => by
  obtain ⟨t, ht, rfl⟩ := List.mem_map.mp hd
  exact pairD_lay t
theorem due_good {w w' : Web} (W : WOk w) (ld : Lead) : SeqAt.shaped (tiesD (dueL w w' ld)) = true := tiesD_good fun t ht => (W.ends t (List.mem_filter.mp ht).1).2.2
/-! ### what is held -/
def HeldG (K : PySem.W.Frag) (H : Hp) (hd : Addr) (m : Nat) : Prop := ∃ (hs : List V) (xs : List PyData), H hd = some (.lst hs) ∧ hs.length ≤ m ∧ DpAll K (del H hd) hs (xs.map fun x => PyData.list [x, x]) ∧ ∀ x ∈ xs, SeqAt.shaped x = true
/-- and nothing of it at h -/
def HeldH (K : PySem.W.Frag) (H : Hp) (hd h : Addr) (m : Nat) : Prop := ∃ (hs : List V) (xs : List PyData), H hd = some (.lst hs) ∧ hs.length ≤ m ∧ DpAll K (del (del H hd) h) hs (xs.map fun x => PyData.list [x, x]) ∧ ∀ x ∈ xs, SeqAt.shaped x = true
section
variable {K : PySem.W.Frag} {H H' : Hp} {hd h : Addr} {m n : Nat}
theorem HeldG.same (x : HeldG K H hd m) (s : Same H H') : HeldG K H' hd m := by
  obtain ⟨hs, xs, e, l, a, g⟩ := x
  exact ⟨hs, xs, s _ _ e, l, dpa_same (Keep.del (Same.keep s)) _ _ a, g⟩
theorem HeldG.mono (x : HeldG K H hd m) (h : m ≤ n) : HeldG K H hd n := by
  obtain ⟨hs, xs, e, l, a, g⟩ := x
  exact ⟨hs, xs, e, Nat.le_trans l h, a, g⟩
theorem HeldG.hand (x : HeldG K H hd m) (s : Same H H') (f : H h = none) : HeldH K H' hd h m := by
  obtain ⟨hs, xs, e, l, a, g⟩ := x
  refine ⟨hs, xs, s _ _ e, l, dpa_same (fun b o hb => ?_) _ _ a, g⟩
  have h1 := del_same _ _ b o hb
  rw [del_ne (ne_of_none h1 f)]
  exact Keep.del (Same.keep s) b o hb
theorem HeldH.out (x : HeldH K H hd h m) : HeldG K H hd m := by
  obtain ⟨hs, xs, e, l, a, g⟩ := x
  exact ⟨hs, xs, e, l, dpa_same (del_same _ _) _ _ a, g⟩
theorem keep_dd (k : Keep h H H') : Same (del (del H hd) h) (del (del H' hd) h) := Keep.del fun b o nb e => by
  have := del_same _ _ b o e
  by_cases n : b = hd
  · unfold del at e; rw [if_pos n] at e; cases e
  · rw [del_ne n]; exact k b o nb this
theorem HeldH.keep (x : HeldH K H hd h m) (k : Keep h H H') (n : hd ≠ h) : HeldH K H' hd h m := by
  obtain ⟨hs, xs, e, l, a, g⟩ := x
  exact ⟨hs, xs, k _ _ n e, l, dpa_same (keep_dd k) _ _ a, g⟩
theorem HeldH.same (x : HeldH K H hd h m) (s : Same H H') (n : hd ≠ h) : HeldH K H' hd h m := x.keep (Same.keep s) n
end
theorem sqt_del {K : PySem.W.Frag} {H : Hp} {a b : Addr} {xs ys : List V} (e : H b = some (.lst ys)) (q : SqT K H a xs) : SqT K (del H b) a xs := by
  rcases q with (q | ⟨o, q⟩) | q
  · exact .inl (.inl (del_at (ne_of q e (by intro z; cases z)) q))
  · exact .inl (.inr ⟨o, del_at (ne_of q e (by intro z; cases z)) q⟩)
  · exact .inr q
theorem Ties.del {K : PySem.W.Frag} {H : Hp} {b : Addr} {xs ys : List V} {ts : List Tie} (x : Ties K H xs ts) (e : H b = some (.lst ys)) : Ties K (Cw.del H b) xs ts := Paired.imp x fun _ _ ⟨a, r, q⟩ => ⟨a, r, sqt_del e q⟩
/-- a pair of lists of ties, held -/
theorem dp_two {K : PySem.W.Frag} {H : Hp} {hd h r t f : Addr} {hs hv tv fv : List V} {ts : List Tie} (ehd : H hd = some (.lst hs)) (eh : H h = some (.lst hv)) (er : H r = some (.lst [.ref t, .ref f])) (et : H t = some (.lst tv)) (ef : H f = some (.lst fv)) (x : Ties K H tv ts) (y : Ties K H fv ts)
    (n0 : h ≠ hd) (n1 : r ≠ hd) (n2 : t ≠ hd) (n3 : f ≠ hd) (m1 : r ≠ h) (m2 : t ≠ h) (m3 : f ≠ h) : Dp K (del (del H hd) h) (.ref r) (.list [tiesD ts, tiesD ts]) := by
  have eh' := del_at n0 eh
  refine .lst (SqL.of (del_at m1 (del_at n1 er))) (.cons ?_ (.cons ?_ .nil))
  · exact ((x.del ehd).del eh').dp (del_at m2 (del_at n2 et))
  · exact ((y.del ehd).del eh').dp (del_at m3 (del_at n3 ef))
end Cw

namespace Cw
open PySem PySem.Spec PyProof.Rows L2
theorem LOk.sub {w w' : Web} {ld kd : Lead} (L : LOk w w' ld) (s : kd.Sublist ld) : LOk w w' kd := ⟨L.rise.sublist s, L.ends.sublist (s.map _), fun p hp => L.like p (s.subset hp)⟩
theorem ldAt_iff {ld : Lead} (s : ld.Pairwise (fun x y => x.1 < y.1)) {p q : Nat} : ldAt ld p = some q ↔ (p, q) ∈ ld := by
  refine ⟨ldAt_mem, fun h => ?_⟩
  cases e : ldAt ld p with
  | none =>
    have : ld.find? (fun q => q.1 == p) = none := by
      unfold ldAt at e
      exact Option.map_eq_none_iff.mp e
    have := List.find?_eq_none.mp this _ h
    simp at this
  | some r =>
    have h2 := ldAt_mem e
    obtain ⟨i, hi, e1⟩ := List.getElem_of_mem h
    obtain ⟨j, hj, e2⟩ := List.getElem_of_mem h2
    have pw := List.pairwise_iff_getElem.mp s
    rcases Nat.lt_trichotomy i j with z | z | z
    · have := pw i j hi hj z
      rw [e1, e2] at this
      exact absurd this (Nat.lt_irrefl _)
    · subst z
      rw [e1] at e2
      injection e2 with _ e2
      rw [e2]
    · have := pw j i hj hi z
      rw [e1, e2] at this
      exact absurd this (Nat.lt_irrefl _)
theorem isLed_iff {w' : Web} {ld : Lead} (s : ld.Pairwise (fun x y => x.1 < y.1)) {t : Tie} : isLed w' ld t = true ↔ ∃ a b, (t.1, a) ∈ ld ∧ (t.2.1, b) ∈ ld ∧ tieL w'.2 a b = some t.2.2 := by
  constructor
  · intro h
    cases e1 : ldAt ld t.1 with
    | none => rw [isLed_no (.inl e1)] at h; cases h
    | some a =>
      cases e2 : ldAt ld t.2.1 with
      | none => rw [isLed_no (.inr e2)] at h; cases h
      | some b =>
        rw [isLed_at e1 e2] at h
        exact ⟨a, b, ldAt_mem e1, ldAt_mem e2, of_decide_eq_true h⟩
  · rintro ⟨a, b, h1, h2, h3⟩
    rw [isLed_at ((ldAt_iff s).mpr h1) ((ldAt_iff s).mpr h2)]
    exact decide_eq_true h3
def onT (p : Nat) (t : Tie) : Bool := t.1 == p || t.2.1 == p
/-- the pairs on some ties -/
def tiedL (ts : List Tie) (ld : Lead) : Lead := ld.filter fun p => ts.any (onT p.1)
theorem due_tied {w w' : Web} {ld : Lead} (L : LOk w w' ld) : dueL w w' (tiedL (dueL w w' ld) ld) = dueL w w' ld := by
  have sub : (tiedL (dueL w w' ld) ld).Sublist ld := List.filter_sublist
  refine List.filter_congr fun t ht => ?_
  rw [Bool.eq_iff_iff, isLed_iff (L.rise.sublist sub), isLed_iff L.rise]
  constructor
  · rintro ⟨a, b, h1, h2, h3⟩
    exact ⟨a, b, sub.subset h1, sub.subset h2, h3⟩
  · rintro ⟨a, b, h1, h2, h3⟩
    have hd : t ∈ dueL w w' ld := List.mem_filter.mpr ⟨ht, (isLed_iff L.rise).mpr ⟨a, b, h1, h2, h3⟩⟩
    exact ⟨a, b, List.mem_filter.mpr ⟨h1, List.any_eq_true.mpr ⟨t, hd, by simp [onT]⟩⟩, List.mem_filter.mpr ⟨h2, List.any_eq_true.mpr ⟨t, hd, by simp [onT]⟩⟩, h3⟩
theorem optV_scal2 (a b : Option Nat) : scal (optV a) (optV b) = true := by cases a <;> cases b <;> rfl
theorem optV_inj (a b : Option Nat) : decide (optV a = optV b) = decide (a = b) := by
  rw [Bool.eq_iff_iff, decide_eq_true_eq, decide_eq_true_eq]
  constructor
  · intro z
    cases a <;> cases b
    · rfl
    · cases z
    · cases z
    · injection z with z; rw [sg_inj.mp z]
  · intro z; rw [z]
theorem tiedL_snoc {ts : List Tie} {ld : Lead} {i : Nat} {p : Nat × Nat} (h : ld[i]? = some p) : tiedL ts (ld.take (i + 1)) = tiedL ts (ld.take i) ++ if ts.any (onT p.1) = true then [p] else [] := by
  unfold tiedL
  rw [take_snoc h, List.filter_append]
  congr 1
  by_cases c : ts.any (onT p.1) = true
  · rw [if_pos c, List.filter_cons_of_pos (p := fun p : Nat × Nat => ts.any (onT p.1)) c]; rfl
  · rw [if_neg c, List.filter_cons_of_neg (p := fun p : Nat × Nat => ts.any (onT p.1)) c]; rfl
/-- a block in a block -/
theorem any_ends (ts : List Tie) (p : Nat) : (!(((ts.map ends).filter fun e => e.1 == p || e.2 == p).map pairD).isEmpty) = ts.any (onT p) := by
  induction ts with
  | nil => rfl
  | cons t r ih =>
    rw [List.any_cons, List.map_cons]
    by_cases c : onT p t = true
    · rw [List.filter_cons_of_pos (p := fun e : Nat × Nat => e.1 == p || e.2 == p) (a := ends t) c, c, Bool.true_or]; rfl
    · rw [List.filter_cons_of_neg (p := fun e : Nat × Nat => e.1 == p || e.2 == p) (a := ends t) c, ih, Bool.eq_false_iff.mpr c, Bool.false_or]
theorem sh2 (x y : Int) : SeqAt.shaped (.tuple [.int x, .int y]) = true := by simp [SeqAt.shaped, PyData.canLay0, PyData.canLayAll0, PyData.depth, PyData.depthAll]
theorem two_good (a b : Lead) : SeqAt.shaped (.list [pairsD a, pairsD b]) = true := shaped_list (k := 2) (by decide) fun d hd => by
  have g : ∀ l : Lead, (pairsD l).canLay0 = true ∧ (pairsD l).depth ≤ 2 := fun l => by
    obtain ⟨h1, h2⟩ := lay_all (ds := l.map pairD) (k := 1) fun d hd => by
      obtain ⟨t, ht, rfl⟩ := List.mem_map.mp hd
      exact pairD_lay t
    unfold pairsD
    exact ⟨by simp only [PyData.canLay0]; exact h1, by simp only [PyData.depth]; omega⟩
  rcases List.mem_cons.mp hd with e | hd
  · rw [e]; exact g a
  · rw [List.mem_singleton.mp hd]; exact g b
end Cw

namespace Cw
open PySem PySem.Spec PyProof.Rows L2

/-! ### l.remove(x) where items are data of any depth; least and greatest of texts -/
section
variable {X : Cx}
def rRemD (K : PySem.W.Frag) : V → List V → Hp → VK → Prop := fun x xs H Q => ∃ (l : Addr) (ys : List V) (y : V) (d : PyData) (ds : List PyData) (j : Nat), x = V.ref l ∧ xs = [y] ∧ H l = some (.lst ys) ∧ DpAll K H ys ds ∧ Dp K H y d ∧
  SeqAt.shaped (.list ds) = true ∧ SeqAt.shaped d = true ∧ SeqAt.dataPlace ds d = some j ∧ Q .non (upd H l (.lst (ys.eraseIdx j)))
/-- by the library's own rule for data: the first equal one is gone -/
theorem mt_removeD (hu : X.A.units + 65 < cLine) : MtR X "list.remove" (rRemD X.K) := fun pins s σ H x xs v us Q I rx rxs ⟨l, ys, y, d, ds, j, e1, e2, hH, ha, hy, sl, sd, hj, q⟩ => by
  subst e1 e2
  obtain rfl : v = Value.ref l := rx
  obtain ⟨uy, eu, ry⟩ := rxs.one
  obtain ⟨big, its, n, rv, hlen, ho⟩ := I.lstM hH
  obtain ⟨cs, got⟩ := Dp.readsAll I ds _ its ha rv
  obtain ⟨bs, got2⟩ := Dp.reads I d y uy hy ry
  rw [eu]
  refine SeqAt.remove_list_data (vs := its.toArray) (xs := ds) (d := d) ⟨_, ho, rfl, n, rfl⟩ (by simpa using got) got2 (PyData.plainAll_of_canLay0 ds (SeqAt.canLay_of_shaped sl)) (PyData.plain_of_canLay0 d (SeqAt.canLay_of_shaped sd)) (room_in_shaped sd hu) hj (by simpa [← hlen] using big) ?_
  exact ⟨.non, upd H l (.lst (ys.eraseIdx j)), I.lset (its' := its.eraseIdx j) (f := fun zs => zs.eraseIdxIfInBounds j) hH ho (List.eraseIdxIfInBounds_toArray ..) (rv.eraseIdx j) (Nat.le_trans (List.length_eraseIdx_le ys j) big), rfl, q⟩
end

theorem cmp_gtS {prog : Program} {w : World} {A : Around} {P : Nat → Value → Prop} (val : Nat → Str) (hval : ∀ i v, P i v → ∃ t, v = .str (val i) t) :
    CmpOf prog w A .Gt P (fun i j => decide ((val j).cps.toList < (val i).cps.toList)) := fun i j vi vj s Q E hi hj h => by
  obtain ⟨t, rfl⟩ := hval i vi hi
  obtain ⟨u, rfl⟩ := hval j vj hj
  exact richCompare_gives (op := .Gt) (typeIs_str s _ t) (typeIs_str s _ u) F.slot_str_gt F.entry_str_gt (F.args_str_gt_2 _ _) (gives_str_gt _ _ t u) (fun x => nomatch x) h
theorem cmp_ltS {prog : Program} {w : World} {A : Around} {P : Nat → Value → Prop} (val : Nat → Str) (hval : ∀ i v, P i v → ∃ t, v = .str (val i) t) :
    CmpOf prog w A .Lt P (fun i j => decide ((val i).cps.toList < (val j).cps.toList)) := fun i j vi vj s Q E hi hj h => by
  obtain ⟨t, rfl⟩ := hval i vi hi
  obtain ⟨u, rfl⟩ := hval j vj hj
  exact richCompare_gives (op := .Lt) (typeIs_str s _ t) (typeIs_str s _ u) F.slot_str_lt F.entry_str_lt (F.args_str_lt_2 _ _) (gives_str_lt _ _ t u) (fun x => nomatch x) h
/-- two texts -/
def two (x y : Str) (i : Nat) : Str := if i = 0 then x else y
theorem two_at {x y : Str} {t u : Tok} {i : Nat} {v : Value} (h : (#[Value.str x t, Value.str y u] : Array Value)[i]? = some v) : ∃ t', v = .str (two x y i) t' := by
  match i, h with
  | 0, h => exact ⟨t, (Option.some.inj h).symm⟩
  | 1, h => exact ⟨u, (Option.some.inj h).symm⟩
  | i + 2, h => simp at h
theorem two_max {x y : Str} {t u : Tok} {v : Value} (h : (#[Value.str x t, Value.str y u] : Array Value)[argBest (fun i j => decide ((two x y j).cps.toList < (two x y i).cps.toList)) 1]? = some v) :
    ∃ t', v = .str (if x.cps.toList < y.cps.toList then y else x) t' := by
  by_cases hb : x.cps.toList < y.cps.toList
  · have e : argBest (fun i j => decide ((two x y j).cps.toList < (two x y i).cps.toList)) 1 = 1 := by simp [argBest, two, hb]
    rw [e] at h
    rw [if_pos hb]
    exact ⟨u, (Option.some.inj h).symm⟩
  · have e : argBest (fun i j => decide ((two x y j).cps.toList < (two x y i).cps.toList)) 1 = 0 := by simp [argBest, two, hb]
    rw [e] at h
    rw [if_neg hb]
    exact ⟨t, (Option.some.inj h).symm⟩
theorem two_min {x y : Str} {t u : Tok} {v : Value} (h : (#[Value.str x t, Value.str y u] : Array Value)[argBest (fun i j => decide ((two x y i).cps.toList < (two x y j).cps.toList)) 1]? = some v) :
    ∃ t', v = .str (if y.cps.toList < x.cps.toList then y else x) t' := by
  by_cases hb : y.cps.toList < x.cps.toList
  · have e : argBest (fun i j => decide ((two x y i).cps.toList < (two x y j).cps.toList)) 1 = 1 := by simp [argBest, two, hb]
    rw [e] at h
    rw [if_pos hb]
    exact ⟨u, (Option.some.inj h).symm⟩
  · have e : argBest (fun i j => decide ((two x y i).cps.toList < (two x y j).cps.toList)) 1 = 0 := by simp [argBest, two, hb]
    rw [e] at h
    rw [if_neg hb]
    exact ⟨t, (Option.some.inj h).symm⟩
section
variable {prog : Program} {w : World} {A : Around} {E : Value → Shared → Prop} {s : Shared} {x y : Str} {t u : Tok} {Q : Value → Shared → Prop}
/-- an iterator that was just laid over what stands at l: both are old, what was there ahead of s₂ is kept -/
theorem two_room {h : Heap} {o : Obj} {l : Addr} (hl : l < h.objs.size) : ∀ c ∈ [h.objs.size, l], c < (h.push o).objs.size := fun c hc => by
  rw [Heap.size_push]
  rcases List.mem_cons.mp hc with e | e
  · exact Nat.lt_succ_of_le (Nat.le_of_eq e)
  · rw [List.mem_singleton.mp e]; exact Nat.lt_succ_of_lt hl
theorem two_kept {g h h' : Heap} {o : Obj} (ext : ∀ b ob, g.get? b = some ob → h.get? b = some ob) (sz : g.objs.size ≤ h.objs.size) (k : ∀ b ob, b ∉ [h.objs.size] → (h.push o).get? b = some ob → h'.get? b = some ob) :
    ∀ b ob, g.get? b = some ob → h'.get? b = some ob := fun b ob e => k b ob (by have z := Heap.lt_size e; simp only [List.mem_singleton]; exact Nat.ne_of_lt (Nat.lt_of_lt_of_le z sz)) (Heap.get?_push_of_some _ (ext b ob e))
/-- the two texts as a tuple that is new, as a list that stands -/
theorem two_tup (v1 v2 : Value) : (s.heap.push { cls := .type "tuple", data := .seq #[v1, v2] }).IsTuple s.heap.objs.size #[v1, v2] := ⟨_, Heap.get?_push_size _ rfl, rfl, 0, rfl⟩
theorem max_twoS (hh : A.handled = none) (h : ∀ h' tk t', (∀ c o, s.heap.get? c = some o → h'.get? c = some o) → Q (.str (if x.cps.toList < y.cps.toList then y else x) t') { s with heap := h', toks := tk }) :
    wpAny (model prog w) A (call (.builtin "max") [.str x t, .str y u]) Q E s := by
  have T := two_tup (s := s) (Value.str x t) (Value.str y u)
  have lt : s.heap.objs.size < (s.heap.push { cls := .type "tuple", data := .seq #[Value.str x t, Value.str y u] }).objs.size := by rw [Heap.size_push]; exact Nat.lt_succ_self _
  exact call_max_two (wpAny_pyIter_tuple T ⟨_, [_, s.heap.objs.size], [_], _, _, _, _, rfl, Walks.tuple (A := A.in1) hh _ _ (Nat.ne_of_lt lt) _, ⟨⟨_, Heap.get?_push_size _ rfl, rfl, rfl⟩, T.push _⟩, two_room lt, Nat.succ_pos 1, cmp_gtS (two x y) (fun _ _ => two_at),
    fun v h' tk hP hk => (two_max hP).elim fun t' e => by subst e; exact h h' tk t' (two_kept (fun b o e => Heap.get?_push_of_some _ e) (Nat.le_of_lt lt) hk)⟩)
theorem min_twoS (hh : A.handled = none) (h : ∀ h' tk t', (∀ c o, s.heap.get? c = some o → h'.get? c = some o) → Q (.str (if y.cps.toList < x.cps.toList then y else x) t') { s with heap := h', toks := tk }) :
    wpAny (model prog w) A (call (.builtin "min") [.str x t, .str y u]) Q E s := by
  have T := two_tup (s := s) (Value.str x t) (Value.str y u)
  have lt : s.heap.objs.size < (s.heap.push { cls := .type "tuple", data := .seq #[Value.str x t, Value.str y u] }).objs.size := by rw [Heap.size_push]; exact Nat.lt_succ_self _
  exact call_min_two (wpAny_pyIter_tuple T ⟨_, [_, s.heap.objs.size], [_], _, _, _, _, rfl, Walks.tuple (A := A.in1) hh _ _ (Nat.ne_of_lt lt) _, ⟨⟨_, Heap.get?_push_size _ rfl, rfl, rfl⟩, T.push _⟩, two_room lt, Nat.succ_pos 1, cmp_ltS (two x y) (fun _ _ => two_at),
    fun v h' tk hP hk => (two_min hP).elim fun t' e => by subst e; exact h h' tk t' (two_kept (fun b o e => Heap.get?_push_of_some _ e) (Nat.le_of_lt lt) hk)⟩)
theorem max_listS {l : Addr} (hh : A.handled = none) (hl : s.heap.IsList l #[Value.str x t, Value.str y u]) (h : ∀ h' tk t', (∀ c o, s.heap.get? c = some o → h'.get? c = some o) → Q (.str (if x.cps.toList < y.cps.toList then y else x) t') { s with heap := h', toks := tk }) :
    wpAny (model prog w) A (call (.builtin "max") [.ref l]) Q E s := by
  have lt : l < s.heap.objs.size := hl.elim fun _ e => Heap.lt_size e.1
  exact call_max_walk (wpAny_pyIter_list hl ⟨_, [_, l], [_], _, _, _, _, rfl, Walks.list (A := A.in1) hh _ l (Nat.ne_of_lt lt) _, ⟨⟨_, Heap.get?_push_size _ rfl, rfl, rfl⟩, hl.push _⟩, two_room lt, Nat.succ_pos 1, cmp_gtS (two x y) (fun _ _ => two_at),
    fun v h' tk hP hk => (two_max hP).elim fun t' e => by subst e; exact h h' tk t' (two_kept (fun b o e => e) (Nat.le_refl _) hk)⟩)
theorem min_listS {l : Addr} (hh : A.handled = none) (hl : s.heap.IsList l #[Value.str x t, Value.str y u]) (h : ∀ h' tk t', (∀ c o, s.heap.get? c = some o → h'.get? c = some o) → Q (.str (if y.cps.toList < x.cps.toList then y else x) t') { s with heap := h', toks := tk }) :
    wpAny (model prog w) A (call (.builtin "min") [.ref l]) Q E s := by
  have lt : l < s.heap.objs.size := hl.elim fun _ e => Heap.lt_size e.1
  exact call_min_walk (wpAny_pyIter_list hl ⟨_, [_, l], [_], _, _, _, _, rfl, Walks.list (A := A.in1) hh _ l (Nat.ne_of_lt lt) _, ⟨⟨_, Heap.get?_push_size _ rfl, rfl, rfl⟩, hl.push _⟩, two_room lt, Nat.succ_pos 1, cmp_ltS (two x y) (fun _ _ => two_at),
    fun v h' tk hP hk => (two_min hP).elim fun t' e => by subst e; exact h h' tk t' (two_kept (fun b o e => e) (Nat.le_refl _) hk)⟩)
end
section
variable {X : Cx}
theorem plainL_is {h : Heap} {a : Addr} {its : Array Value} (p : PlainL h a its) : h.IsList a its := by
  obtain ⟨o, n, e, h1, h2, h3⟩ := p
  exact ⟨o, e, h1, n, h3⟩
theorem cr_max2S (hc : X.calm = true) : CallR X (.builtin "max") (fun xs H Q => ∃ x y : Str, xs = [.str x, .str y] ∧ Q (.str (if x.cps.toList < y.cps.toList then y else x)) H) := by
  intro pins s σ H xs us Q I r h
  obtain ⟨x, y, rfl, q⟩ := h
  obtain ⟨u, w', rfl, ⟨t, rfl⟩, ⟨t', rfl⟩⟩ := vals2 r
  exact max_twoS (I.ok.hd hc) fun h' tk t2 k => ⟨.str _, H, I.kept k, ⟨_, rfl⟩, q⟩
theorem cr_min2S (hc : X.calm = true) : CallR X (.builtin "min") (fun xs H Q => ∃ x y : Str, xs = [.str x, .str y] ∧ Q (.str (if y.cps.toList < x.cps.toList then y else x)) H) := by
  intro pins s σ H xs us Q I r h
  obtain ⟨x, y, rfl, q⟩ := h
  obtain ⟨u, w', rfl, ⟨t, rfl⟩, ⟨t', rfl⟩⟩ := vals2 r
  exact min_twoS (I.ok.hd hc) fun h' tk t2 k => ⟨.str _, H, I.kept k, ⟨_, rfl⟩, q⟩
theorem cr_maxLS (hc : X.calm = true) : CallR X (.builtin "max") (fun xs H Q => ∃ (a : Addr) (x y : Str), xs = [.ref a] ∧ SqL X.K H a [.str x, .str y] ∧ Q (.str (if x.cps.toList < y.cps.toList then y else x)) H) := by
  intro pins s σ H xs us Q I r h
  obtain ⟨a, x, y, rfl, hS, q⟩ := h
  obtain ⟨u, rfl, ru⟩ := vals1 r
  cases ru
  obtain ⟨its, rv, pl, _⟩ := I.list hS
  obtain ⟨u1, u2, rfl, ⟨t, rfl⟩, ⟨t', rfl⟩⟩ := rv.two
  exact max_listS (I.ok.hd hc) (plainL_is pl) fun h' tk t2 k => ⟨.str _, H, I.kept k, ⟨_, rfl⟩, q⟩
theorem cr_minLS (hc : X.calm = true) : CallR X (.builtin "min") (fun xs H Q => ∃ (a : Addr) (x y : Str), xs = [.ref a] ∧ SqL X.K H a [.str x, .str y] ∧ Q (.str (if y.cps.toList < x.cps.toList then y else x)) H) := by
  intro pins s σ H xs us Q I r h
  obtain ⟨a, x, y, rfl, hS, q⟩ := h
  obtain ⟨u, rfl, ru⟩ := vals1 r
  cases ru
  obtain ⟨its, rv, pl, _⟩ := I.list hS
  obtain ⟨u1, u2, rfl, ⟨t, rfl⟩, ⟨t', rfl⟩⟩ := rv.two
  exact min_listS (I.ok.hd hc) (plainL_is pl) fun h' tk t2 k => ⟨.str _, H, I.kept k, ⟨_, rfl⟩, q⟩
theorem vals_ix {xs : List V} {us : List Value} (hl : us.length = xs.length) (k : ∀ (j : Nat) (u : Value), us[j]? = some u → ∃ x, xs[j]? = some x ∧ RelV x u) : Vals xs us := by
  induction us generalizing xs with
  | nil =>
    obtain rfl : xs = [] := List.eq_nil_of_length_eq_zero hl.symm
    exact .nil
  | cons u us ih =>
    match xs, hl with
    | x :: xs, hl =>
      obtain ⟨y, e, r⟩ := k 0 u rfl
      obtain rfl : x = y := Option.some.inj e
      exact .cons r (ih (Nat.succ.inj hl) fun j v hj => k (j + 1) v hj)
/-- list(text): its signs -/
theorem cr_listStr (hc : X.calm = true) : CallR X (.type "list") (fun xs H Q => ∃ x : Str, xs = [.str x] ∧ x.length ≤ sizeLine ∧ ∀ l, H l = none → Q (.ref l) (upd H l (.lst (x.cps.toList.map fun c => V.str (sg c))))) := by
  intro pins s σ H xs us Q I r h
  obtain ⟨x, rfl, hl, q⟩ := h
  obtain ⟨u, rfl, ru⟩ := vals1 r
  obtain ⟨t, rfl⟩ := ru
  refine call_list_str (I.ok.hd hc) x t (fun h' tk acc' c' hk hS hit => ?_) (by exact hl)
  have nw : H s.heap.objs.size = none := I.hok.fresh (Nat.le_refl _)
  refine ⟨.ref s.heap.objs.size, _, I.laid (t' := tk) hk (Nat.le_refl _) ?_, rfl, q _ nw⟩
  obtain ⟨hz, hv⟩ := hit
  refine ⟨by rw [List.length_map]; exact hl, acc'.toList, c', vals_ix (by simp [hz]) (fun j u hj => ?_), by simpa using hS⟩
  rw [Array.getElem?_toList] at hj
  obtain ⟨c, k, e, rfl⟩ := hv j u hj
  exact ⟨.str (sg c), by rw [List.getElem?_map, Array.getElem?_toList, e]; rfl, _, rfl⟩
end
end Cw

namespace Cw
open PySem PySem.Spec PyProof.Rows L2
/-! ### counts: what two lists have in common -/
section
variable {α : Type} [DecidableEq α]
/-- how many of the first are in the second, one for one -/
def csum : List α → List α → Nat
  | [], _ => 0
  | x :: xs, ys => if x ∈ ys then csum xs (ys.erase x) + 1 else csum xs (ys.erase x)
/-- what is left of the second -/
def cleft : List α → List α → List α
  | [], ys => ys
  | x :: xs, ys => cleft xs (ys.erase x)
theorem cleft_snoc (x : α) : ∀ (xs ys : List α), cleft (xs ++ [x]) ys = (cleft xs ys).erase x
  | [], _ => rfl
  | _ :: xs, ys => cleft_snoc x xs _
theorem csum_snoc (x : α) : ∀ (xs ys : List α), csum (xs ++ [x]) ys = if x ∈ cleft xs ys then csum xs ys + 1 else csum xs ys
  | [], ys => by
    show (if x ∈ ys then 0 + 1 else 0) = if x ∈ ys then 0 + 1 else 0
    rfl
  | z :: xs, ys => by
    show (if z ∈ ys then csum (xs ++ [x]) (ys.erase z) + 1 else csum (xs ++ [x]) (ys.erase z)) = if x ∈ cleft xs (ys.erase z) then (if z ∈ ys then csum xs (ys.erase z) + 1 else csum xs (ys.erase z)) + 1 else (if z ∈ ys then csum xs (ys.erase z) + 1 else csum xs (ys.erase z))
    rw [csum_snoc x xs]
    split <;> split <;> rfl
theorem cleft_len : ∀ (xs ys : List α), (cleft xs ys).length ≤ ys.length
  | [], _ => Nat.le_refl _
  | x :: xs, ys => Nat.le_trans (cleft_len xs _) List.length_erase_le
theorem cleft_sub : ∀ {xs ys : List α} {z : α}, z ∈ cleft xs ys → z ∈ ys
  | [], _, _, h => h
  | _ :: _, _, _, h => List.mem_of_mem_erase (cleft_sub (xs := _) h)
theorem csum_le : ∀ (xs ys : List α), csum xs ys ≤ xs.length
  | [], _ => Nat.le_refl _
  | x :: xs, ys => by
    have := csum_le xs (ys.erase x)
    show (if x ∈ ys then csum xs (ys.erase x) + 1 else csum xs (ys.erase x)) ≤ xs.length + 1
    split <;> omega
end
section
variable {κ α : Type} [DecidableEq κ] [DecidableEq α] {key : α → κ} {kvs : List (κ × V)} {ys : List α}
/-- the dict counts ys -/
def CntIs (key : α → κ) (kvs : List (κ × V)) (ys : List α) : Prop := ∀ x, (valV kvs (key x)).getD (.int 0) = .int (ys.count x : Nat)
theorem CntIs.nil : CntIs key ([] : List (κ × V)) [] := fun _ => rfl
theorem CntIs.add (hk : ∀ x y, key x = key y → x = y) (h : CntIs key kvs ys) (x : α) : CntIs key (putK kvs (key x) (.int ((ys.count x : Nat) + 1))) (ys ++ [x]) := by
  intro z
  rw [valV_put, List.count_append]
  by_cases e : key z = key x
  · rw [if_pos e]
    have := hk _ _ e
    subst this
    rw [List.count_singleton_self]
    rfl
  · rw [if_neg e, h z]
    have e2 : ¬ x = z := fun w => e (by rw [w])
    rw [List.count_singleton, if_neg (by simpa using e2)]
    rfl
theorem CntIs.sub (hk : ∀ x y, key x = key y → x = y) (h : CntIs key kvs ys) {x : α} (hx : x ∈ ys) : CntIs key (putK kvs (key x) (.int ((ys.count x : Nat) - 1))) (ys.erase x) := by
  intro z
  rw [valV_put]
  have hp := List.count_pos_iff.mpr hx
  by_cases e : key z = key x
  · rw [if_pos e]
    have := hk _ _ e
    subst this
    rw [List.count_erase_self]
    show V.int _ = V.int _
    congr 1
    omega
  · rw [if_neg e, h z]
    have e2 : z ≠ x := fun w => e (by rw [w])
    rw [List.count_erase_of_ne e2]
theorem CntIs.there (h : CntIs key kvs ys) {x : α} (hx : x ∈ ys) : valV kvs (key x) = some (.int (ys.count x : Nat)) := by
  have z := h x
  have hp := List.count_pos_iff.mpr hx
  cases e : valV kvs (key x) with
  | some v => rw [e] at z; exact congrArg some z
  | none =>
    rw [e] at z
    have z' : (0 : Int) = ((ys.count x : Nat) : Int) := V.int.inj z
    omega
theorem putK_few (k : κ) (v : V) : (putK kvs k v).length ≤ kvs.length + 1 := by
  unfold putK
  split
  · rw [List.length_map]; omega
  · rw [List.length_append]; exact Nat.le_refl _
theorem putK_same {k : κ} {v w : V} (h : valV kvs k = some w) : (putK kvs k v).length = kvs.length := by
  unfold putK
  rw [valV_any, h, if_pos (show (some w).isSome = true from rfl), List.length_map]
end
section
variable {κ α : Type} [DecidableEq κ] [DecidableEq α] {key : α → κ} {kvs : List (κ × V)} {x y : List α} {i : Nat} {c : α}
theorem dec_in {p : Prop} {i : Decidable p} (e : decide p = true) : p := of_decide_eq_true e
theorem dec_out {p : Prop} {i : Decidable p} (e : ¬ decide p = true) : ¬ p := fun z => e (decide_eq_true z)
theorem cnt_in (h : (0 : Int) < ((cleft (x.take i) y).count c : Nat)) : c ∈ cleft (x.take i) y := List.count_pos_iff.mp (by omega)
theorem cnt_out (h : ¬ (0 : Int) < ((cleft (x.take i) y).count c : Nat)) : ¬ c ∈ cleft (x.take i) y := fun z => h (by have := List.count_pos_iff.mpr z; omega)
theorem csum_in (hc : x[i]? = some c) (hm : c ∈ cleft (x.take i) y) : csum (x.take (i + 1)) y = csum (x.take i) y + 1 := by
  rw [take_snoc hc, csum_snoc, if_pos hm]
theorem csum_out (hc : x[i]? = some c) (hm : ¬ c ∈ cleft (x.take i) y) : csum (x.take (i + 1)) y = csum (x.take i) y := by
  rw [take_snoc hc, csum_snoc, if_neg hm]
theorem cleft_in (hc : x[i]? = some c) : cleft (x.take (i + 1)) y = (cleft (x.take i) y).erase c := by
  rw [take_snoc hc, cleft_snoc]
theorem cleft_out (hc : x[i]? = some c) (hm : ¬ c ∈ cleft (x.take i) y) : cleft (x.take (i + 1)) y = cleft (x.take i) y := by
  rw [take_snoc hc, cleft_snoc, List.erase_of_not_mem hm]
theorem CntIs.turn (hk : ∀ x y, key x = key y → x = y) (h : CntIs key kvs (cleft (x.take i) y)) (hc : x[i]? = some c) (hm : c ∈ cleft (x.take i) y) :
    CntIs key (putK kvs (key c) (.int (((cleft (x.take i) y).count c : Nat) - 1))) (cleft (x.take (i + 1)) y) := by
  rw [cleft_in hc]
  exact h.sub hk hm
end
/-- a sign's key -/
def kS (c : Nat) : Key := .inr (sg c)
theorem kS_inj : ∀ c d : Nat, kS c = kS d → c = d := fun c d h => sg_inj.mp (Sum.inr.inj h)
abbrev Tr3 := Nat × Nat × Nat
def kT (t : Tr3) : List Key := [.inr (sg t.1), .inr (sg t.2.1), .inr (sg t.2.2)]
theorem kT_inj : ∀ s t : Tr3, kT s = kT t → s = t := fun s t h => by
  obtain ⟨a, b, c⟩ := s
  obtain ⟨d, e, f⟩ := t
  simp only [kT, List.cons.injEq, Sum.inr.injEq, and_true] at h
  rw [sg_inj.mp h.1, sg_inj.mp h.2.1, sg_inj.mp h.2.2]
def tr3V (t : Tr3) : List V := [.str (sg t.1), .str (sg t.2.1), .str (sg t.2.2)]
def TriAt (H : Hp) (v : V) (t : Tr3) : Prop := ∃ a, v = .ref a ∧ H a = some (.tup (tr3V t))
theorem TriAt.same {H H' : Hp} {v : V} {t : Tr3} (x : TriAt H v t) (s : Same H H') : TriAt H' v t := by
  obtain ⟨a, e, q⟩ := x
  exact ⟨a, e, s _ _ q⟩
theorem TriAt.put {H : Hp} {v : V} {t : Tr3} {b : Addr} {o : HO} (x : TriAt H v t) (n : ∀ xs, H b ≠ some (.tup xs)) : TriAt (upd H b o) v t := by
  obtain ⟨a, e, q⟩ := x
  refine ⟨a, e, ?_⟩
  rw [upd_ne (fun z => n _ (by rw [← z]; exact q))]
  exact q
/-- data of signs, of triples -/
def triD (t : Tr3) : PyData := .tuple [.str (sg t.1), .str (sg t.2.1), .str (sg t.2.2)]
theorem TriAt.dp {K : PySem.W.Frag} {H : Hp} {v : V} {t : Tr3} (x : TriAt H v t) : Dp K H v (triD t) := by
  obtain ⟨a, rfl, q⟩ := x
  exact .tup (SqT.of q) (.cons (.str _) (.cons (.str _) (.cons (.str _) .nil)))
theorem dpa_tri {K : PySem.W.Frag} {H : Hp} {vs : List V} {ts : List Tr3} (h : Paired (TriAt H) vs ts) : DpAll K H vs (ts.map triD) := by
  induction h with
  | nil => exact .nil
  | cons a _ ih => exact .cons a.dp ih
theorem tri_shaped {t : Tr3} (h : Ltr t.1 ∧ Ltr t.2.1 ∧ Ltr t.2.2) : SeqAt.shaped (triD t) = true := by
  have h1 := str_ok t.1 (by have := h.1.2; omega)
  have h2 := str_ok t.2.1 (by have := h.2.1.2; omega)
  have h3 := str_ok t.2.2 (by have := h.2.2.2; omega)
  simp [SeqAt.shaped, triD, PyData.canLay0, PyData.canLayAll0, PyData.depth, PyData.depthAll, h1, h2, h3]
theorem tris_shaped {ts : List Tr3} (h : ∀ t ∈ ts, Ltr t.1 ∧ Ltr t.2.1 ∧ Ltr t.2.2) : SeqAt.shaped (.list (ts.map triD)) = true := shaped_list (k := 1) (by decide) fun d hd => by
  obtain ⟨t, ht, rfl⟩ := List.mem_map.mp hd
  have z := h t ht
  have h1 := str_ok t.1 (by have := z.1.2; omega)
  have h2 := str_ok t.2.1 (by have := z.2.1.2; omega)
  have h3 := str_ok t.2.2 (by have := z.2.2.2; omega)
  exact ⟨by simp [triD, PyData.canLay0, PyData.canLayAll0, h1, h2, h3], by simp [triD, PyData.depth, PyData.depthAll]⟩
def sgD (c : Nat) : PyData := .str (sg c)
theorem dpa_sg {K : PySem.W.Frag} {H : Hp} : ∀ cs : List Nat, DpAll K H (cs.map fun c => V.str (sg c)) (cs.map sgD)
  | [] => .nil
  | _ :: r => .cons (.str _) (dpa_sg r)
theorem sg_shaped {c : Nat} (h : Ltr c) : SeqAt.shaped (sgD c) = true := by
  have h1 := str_ok c (by have := h.2; omega)
  simp [SeqAt.shaped, sgD, PyData.canLay0, PyData.depth, h1]
theorem sgs_shaped {cs : List Nat} (h : ∀ c ∈ cs, Ltr c) : SeqAt.shaped (.list (cs.map sgD)) = true := shaped_list (k := 0) (by decide) fun d hd => by
  obtain ⟨c, hc, rfl⟩ := List.mem_map.mp hd
  have h1 := str_ok c (by have := (h c hc).2; omega)
  exact ⟨by simp [sgD, PyData.canLay0, h1], by simp [sgD, PyData.depth]⟩
theorem sgD_eqv (c d : Nat) : PyData.eqv (sgD c) (sgD d) = decide (c = d) := by
  show ((sg c) == (sg d)) = _
  by_cases e : c = d
  · subst e; simp
  · rw [decide_eq_false e]
    exact beq_eq_false_iff_ne.mpr fun z => e (sg_inj.mp z)
theorem triD_eqv (s t : Tr3) : PyData.eqv (triD s) (triD t) = decide (s = t) := by
  obtain ⟨a, b, c⟩ := s
  obtain ⟨d, e, f⟩ := t
  have h : PyData.eqv (triD (a, b, c)) (triD (d, e, f)) = ((PyData.eqv (sgD a) (sgD d)) && ((PyData.eqv (sgD b) (sgD e)) && ((PyData.eqv (sgD c) (sgD f)) && true))) := by simp only [triD, sgD, PyData.eqv, PyData.eqvAll]
  rw [h, sgD_eqv, sgD_eqv, sgD_eqv, Bool.eq_iff_iff]
  simp
/-- the first place of x -/
theorem first_of {α : Type} [DecidableEq α] (f : α → PyData) (hf : ∀ x y, PyData.eqv (f x) (f y) = decide (x = y)) {x : α} : ∀ {ys : List α}, x ∈ ys → ∃ j, SeqAt.dataPlace (ys.map f) (f x) = some j ∧ ys[j]? = some x ∧ ys.eraseIdx j = ys.erase x
  | [], h => by simp at h
  | a :: r, h => by
    by_cases e : a = x
    · exact ⟨0, by simp [SeqAt.dataPlace, List.findIdx?_cons, hf, e], by rw [e]; rfl, by rw [e, List.erase_cons_head]; rfl⟩
    · obtain ⟨j, h1, h2, h3⟩ := first_of f hf ((List.mem_cons.mp h).resolve_left fun z => e z.symm)
      refine ⟨j + 1, ?_, h2, by rw [List.erase_cons_tail (by simpa using e), ← h3]; rfl⟩
      simp only [SeqAt.dataPlace, List.map_cons, List.findIdx?_cons, hf, e] at h1 ⊢
      simp [h1]
theorem any_mem {α : Type} [DecidableEq α] (f : α → PyData) (hf : ∀ x y, PyData.eqv (f x) (f y) = decide (x = y)) (x : α) (ys : List α) : ((ys.map f).any fun z => PyData.eqv z (f x)) = decide (x ∈ ys) := by
  rw [Bool.eq_iff_iff, List.any_eq_true, decide_eq_true_eq]
  constructor
  · rintro ⟨z, hz, e⟩
    obtain ⟨y, hy, rfl⟩ := List.mem_map.mp hz
    rw [hf, decide_eq_true_eq] at e
    rw [← e]; exact hy
  · intro h
    exact ⟨f x, List.mem_map.mpr ⟨x, h, rfl⟩, by rw [hf]; exact decide_eq_true rfl⟩
/-- x is taken out of the list -/
theorem rem_of {K : PySem.W.Frag} {H : Hp} {l : Addr} {Q : VK} {α : Type} [DecidableEq α] (f : α → PyData) (hf : ∀ x y, PyData.eqv (f x) (f y) = decide (x = y)) {x : α} {ys : List α} {vs : List V} {v : V}
    (hx : x ∈ ys) (hl : H l = some (.lst vs)) (hv : DpAll K H vs (ys.map f)) (hd : Dp K H v (f x)) (s1 : SeqAt.shaped (.list (ys.map f)) = true) (s2 : SeqAt.shaped (f x) = true)
    (q : ∀ j, ys[j]? = some x → ys.eraseIdx j = ys.erase x → Q .non (upd H l (.lst (vs.eraseIdx j)))) : rRemD K (.ref l) [v] H Q := by
  obtain ⟨j, h1, h2, h3⟩ := first_of f hf hx
  exact ⟨l, vs, v, f x, ys.map f, j, rfl, rfl, hl, hv, hd, s1, s2, h1, q j h2 h3⟩
theorem Paired.eraseIdx {α β : Type} {F : α → β → Prop} : ∀ {xs : List α} {ys : List β} (j : Nat), Paired F xs ys → Paired F (xs.eraseIdx j) (ys.eraseIdx j)
  | _, _, _, .nil => .nil
  | _, _, 0, .cons _ t => t
  | _, _, j + 1, .cons r t => .cons r (Paired.eraseIdx j t)
theorem map_eraseIdx {α β : Type} (f : α → β) : ∀ (ns : List α) (j : Nat), (ns.map f).eraseIdx j = (ns.eraseIdx j).map f
  | [], _ => rfl
  | _ :: _, 0 => rfl
  | n :: r, j + 1 => by
    show f n :: (r.map f).eraseIdx j = f n :: (r.eraseIdx j).map f
    rw [map_eraseIdx f r j]
/-! ### a tie's three letters -/
def tri (w : Web) (t : Tie) : Tr3 :=
  let a := w.1.getD t.1 0
  let b := w.1.getD t.2.1 0
  (t.2.2, if b < a then b else a, if a < b then b else a)
def tris (w : Web) : List Tr3 := w.2.map (tri w)
theorem tri_ok {w : Web} (W : WOk w) {t : Tie} (ht : t ∈ w.2) : Ltr (tri w t).1 ∧ Ltr (tri w t).2.1 ∧ Ltr (tri w t).2.2 := by
  obtain ⟨h1, h2, h3⟩ := W.ends t ht
  have k : ∀ i, i < w.1.length → Ltr (w.1.getD i 0) := fun i hi => by
    rw [List.getD_eq_getElem?_getD, List.getElem?_eq_getElem hi]
    exact W.kinds _ (List.getElem_mem hi)
  have k1 := k t.1 (by omega)
  have k2 := k t.2.1 h2
  refine ⟨h3, ?_, ?_⟩
  · show Ltr (if w.1.getD t.2.1 0 < w.1.getD t.1 0 then w.1.getD t.2.1 0 else w.1.getD t.1 0)
    split <;> assumption
  · show Ltr (if w.1.getD t.1 0 < w.1.getD t.2.1 0 then w.1.getD t.2.1 0 else w.1.getD t.1 0)
    split <;> assumption
theorem tris_ok {w : Web} (W : WOk w) : ∀ t ∈ tris w, Ltr t.1 ∧ Ltr t.2.1 ∧ Ltr t.2.2 := fun t ht => by
  obtain ⟨z, hz, rfl⟩ := List.mem_map.mp ht
  exact tri_ok W hz
theorem ite_sg (a b c d : Nat) : (if (sg a).cps.toList < (sg b).cps.toList then V.str (sg c) else V.str (sg d)) = V.str (sg (if a < b then c else d)) := by
  have h : ((sg a).cps.toList < (sg b).cps.toList) = (a < b) := by
    have z := sg_lt a b
    rw [decide_eq_decide] at z
    exact propext z
  by_cases e : a < b
  · rw [if_pos e, if_pos (by rw [h]; exact e)]
  · rw [if_neg e, if_neg (by rw [h]; exact e)]
theorem ite_sgS (a b c d : Nat) : (if (sg a).cps.toList < (sg b).cps.toList then sg c else sg d) = sg (if a < b then c else d) := by
  have h : ((sg a).cps.toList < (sg b).cps.toList) = (a < b) := by
    have z := sg_lt a b
    rw [decide_eq_decide] at z
    exact propext z
  by_cases e : a < b
  · rw [if_pos e, if_pos (by rw [h]; exact e)]
  · rw [if_neg e, if_neg (by rw [h]; exact e)]
/-- the three letters as they come -/
theorem tri_V (u : Web) (t : Tie) : some (HO.tup [V.str (sg t.2.2), V.str (if (sg (u.1.getD t.2.1 0)).cps.toList < (sg (u.1.getD t.1 0)).cps.toList then sg (u.1.getD t.2.1 0) else sg (u.1.getD t.1 0)),
    V.str (if (sg (u.1.getD t.1 0)).cps.toList < (sg (u.1.getD t.2.1 0)).cps.toList then sg (u.1.getD t.2.1 0) else sg (u.1.getD t.1 0))]) = some (HO.tup (tr3V (tri u t))) := by
  rw [ite_sgS, ite_sgS]
  rfl
/-- a list of a web's letters of three, at another place than E -/
def TLs (H : Hp) (E : Addr) (o : V) (u : Web) : Prop := ∃ p xs, o = V.ref p ∧ p ≠ E ∧ H p = some (.lst xs) ∧ Paired (TriAt H) xs (tris u)
theorem TLs.same {H H' : Hp} {E : Addr} {o : V} {u : Web} (x : TLs H E o u) (s : Same H H') : TLs H' E o u := by
  obtain ⟨p, xs, e, n, h, q⟩ := x
  exact ⟨p, xs, e, n, s _ _ h, Paired.imp q fun _ _ z => z.same s⟩
theorem TLs.put {H : Hp} {E : Addr} {o : V} {u : Web} {ys ys' : List V} (x : TLs H E o u) (e : H E = some (.lst ys)) : TLs (upd H E (.lst ys')) E o u := by
  obtain ⟨p, xs, e1, n, h, q⟩ := x
  exact ⟨p, xs, e1, n, by rw [upd_ne n]; exact h, Paired.imp q fun _ _ z => z.put fun zs zz => by rw [e] at zz; cases zz⟩
theorem _root_.PySem.Paired.two {α β : Type} {F : α → β → Prop} {xs : List α} {a b : β} (h : Paired F xs [a, b]) : ∃ x y, xs = [x, y] ∧ F x a ∧ F y b := by
  cases h with
  | cons r t =>
    cases t with
    | cons r2 t2 =>
      cases t2
      exact ⟨_, _, rfl, r, r2⟩
end Cw

/-! sets of whole numbers: set(a list), {one}; a def's code told to its body -/
namespace Cw
open PySem PySem.Spec PySem.Calls PyProof.Rows L2
section
variable {P : Program} {w : World} {A : Around} {E : Value → Shared → Prop} {s : Shared}
abbrev noSet (w : World) : Obj := { cls := .type "set", dict := none, data := .set #[] 0 (.fresh 0 0 (!w.params.followText "set-order")) }
set_option maxHeartbeats 3200000 in
theorem call_set_lstI {l : Addr} {items : Array Value} (ns : List Int) {Q : Value → Shared → Prop} (hh : A.handled = none) (lst : s.heap.IsList l items) (nums : IntsAre items.toList ns) (room : ns.length + 1 < scanBound)
    (h : ∀ (h' : Heap) (tk c : Nat), SetR w h' s.heap.objs.size (fun j => decide (j ∈ ns)) c → c ≤ ns.length → (∀ b o, s.heap.get? b = some o → h'.get? b = some o) → Q (.ref s.heap.objs.size) { s with heap := h', toks := tk }) :
    wpAny (model P w) A (call (.type "set") [.ref l]) Q E s := by
  have many : items.size = ns.length := by
    have z := IntsAre.length nums
    rwa [Array.length_toList] at z
  obtain ⟨c, tl, hmro⟩ := F.called_set.mro
  have hmade := F.called_set.made
  have hsub := F.called_set.sub
  (refine wpAny_call (codeAny_of_tree ?_))
  show wpAny _ _ (callAny (.type "set") _) _ _ _
  (refine wpAny_pure ⟨Code.quiet_builtin _ (by decide +kernel), codeAny_builtin F.entry_type_call ?_⟩)
  (rw [Around.under_plain (weight_type_call_type "set" [.ref l] []) rfl])
  have h1 := F.called_set.notType
  have h2 := F.called_set.canCreate
  have hct := F.typeCall_set_1 (.ref l)
  (repeat (any_goals (first | assumption | wp_step)))
  refine codeAny_mono (code_set_led1 (.ref l) (E := E) (Q₁ := fun obj s₁ => obj = .ref s.heap.objs.size ∧ s₁ = { s with heap := s.heap.push (noSet w) }) ⟨rfl, rfl⟩) fun r s₁ hr => ?_
  match r, hr with
  | .error e, hr => exact hr
  | .ok (.next), hr => exact hr.elim
  | .ok (.brk), hr => exact hr.elim
  | .ok (.cont), hr => exact hr.elim
  | .ok (.ret obj), hr =>
    obtain ⟨rfl, rfl⟩ := hr
    have eS : (s.heap.push (noSet w)).get? s.heap.objs.size = some (noSet w) := Heap.get?_push_size _ rfl
    have tyS : Shared.TypeIs { s with heap := s.heap.push (noSet w) } (.ref s.heap.objs.size) "set" := ⟨_, eS, rfl⟩
    have hli := F.called_set.init.lookup
    have hbi := F.called_set.init.bind (.ref s.heap.objs.size)
    (repeat (any_goals (first | assumption | wp_step)))
    refine codeAny_mono (codeAny_call_builtin (R := wants (fun r s₂ => r = .none ∧ ∃ h' tk c, s₂ = { s with heap := h', toks := tk } ∧ SetR w h' s.heap.objs.size (fun j => decide (j ∈ ns)) c ∧ c ≤ ns.length ∧
        (∀ b o, s.heap.get? b = some o → h'.get? b = some o)) E) F.called_set.init.plain F.entry_set_init (check_set_init_1 tyS ?_)) fun r₂ s₂ hr₂ => ?_
    · obtain ⟨ol, eol, cl, nl, dl⟩ := lst
      obtain ⟨lcls, ldict, ldata, lslots⟩ := ol
      simp only at cl dl
      subst cl
      subst dl
      have eol' : (s.heap.push (noSet w)).get? l = some { cls := .type "list", dict := ldict, data := .seq items nl, slots := lslots } := Heap.get?_push_of_some _ eol
      have hsls := F.sub_list_set
      have hslf := F.sub_list_frozenset
      have hne : (Value.type "list" == Value.type "dict") = false := by decide
      have lst1 : (s.heap.push (noSet w)).IsList l items := ⟨_, eol', rfl, nl, rfl⟩
      (unfold Builtin.«set.__init__» noKeywords; unfold Builtin.Frozenset.updateFrom)
      generalize hPI : pyIter = PI
      wp_walk
      subst hPI
      refine wpAny_pyIter_list lst1 ?_
      refine wpAny_bind (wpAny_runValue ?_)
      have below : l < s.heap.objs.size := Heap.lt_size eol
      have hh3 : A.in1.in1.in1.handled = none := by simp [hh]
      have sz1 : (s.heap.push (noSet w)).objs.size = s.heap.objs.size + 1 := Heap.size_push ..
      have neI : l ≠ (s.heap.push (noSet w)).objs.size := by
        rw [sz1]
        exact Nat.ne_of_lt (Nat.lt_succ_of_lt below)
      have apart : s.heap.objs.size ∉ [(s.heap.push (noSet w)).objs.size, l] := by
        rw [sz1]
        intro z
        rcases List.mem_cons.mp z with z | z
        · exact absurd z (Nat.ne_of_lt (Nat.lt_succ_self _))
        · exact absurd (List.mem_singleton.mp z) (Nat.ne_of_gt below)
      have vals : ∀ (i : Nat) (v : Value), items[i]? = some v → ∃ k t, ns[i]? = some k ∧ v = .int k t := fun i v hv => by
        have hi : i < ns.length := by rw [← many]; exact (Array.getElem?_eq_some_iff.mp hv).1
        obtain ⟨t, e⟩ := PyProof.Rows.IntsAre.int_at nums i v (by rw [Array.getElem?_toList]; exact hv)
        exact ⟨ns[i], t, List.getElem?_eq_getElem hi, by rw [e, List.getD_eq_getElem?_getD, List.getElem?_eq_getElem hi]; rfl⟩
      refine set_update_ints ((Walks.list hh3 _ l neI items).toS) s.heap.objs.size apart ns many room vals (items.size - 0) 0 _ (by omega) (Nat.zero_le _) ⟨⟨_, Heap.get?_push_size _ rfl, rfl, rfl⟩, (lst1.push _)⟩ ⟨0, Nat.le_refl 0, setR_new_at (Heap.get?_push_of_some _ eS)⟩ ?_
      intro s' c' mv le' new
      obtain ⟨h', g2, d', tk', os'⟩ := s'
      have eg : g2 = s.gens := mv.gens
      have ed : d' = s.drawn := mv.drawn
      have eo : os' = s.os := mv.os
      subst eg
      subst ed
      subst eo
      show wpAny _ _ _ _ _ _
      refine wpAny_pure ?_
      show wpAny _ _ (ret Value.none) _ _ _
      rw [many] at le'
      refine wpAny_pure ⟨rfl, h', tk', c', rfl, new, le', fun b o e => ?_⟩
      have b0 : b < s.heap.objs.size := Heap.lt_size e
      refine mv.heap b o (fun z => ?_) (Heap.get?_push_of_some _ (Heap.get?_push_of_some _ e))
      rcases List.mem_cons.mp z with z | z
      · exact absurd z (Nat.ne_of_lt b0)
      · have z := List.mem_singleton.mp z
        rw [sz1] at z
        exact absurd z (Nat.ne_of_lt (Nat.lt_succ_of_lt b0))
    · match r₂, hr₂ with
      | .error e, hr₂ => exact hr₂
      | .ok (.next), hr₂ => exact hr₂.elim
      | .ok (.brk), hr₂ => exact hr₂.elim
      | .ok (.cont), hr₂ => exact hr₂.elim
      | .ok (.ret r), hr₂ =>
        obtain ⟨rfl, h', tk, c', rfl, new, le', kept⟩ := hr₂
        (repeat (any_goals (first | assumption | wp_step)))
        exact h _ _ _ new le' kept
end
section
variable {X : Cx}
/-- set(xs), xs a list of whole numbers -/
def rSetL (K : PySem.W.Frag) (w : World) : List V → Hp → VK → Prop := fun xs H Q => ∃ (a : Addr) (ns : List Int), xs = [.ref a] ∧ SqL K H a (ns.map V.int) ∧ ns.length ≤ 1000 ∧
  ∀ p c, c ≤ ns.length → H p = none → Q (.ref p) (upd H p (SetO w p (fun k => decide (k ∈ ns)) c))
theorem cr_setL (hc : X.calm = true) : CallR X (.type "set") (rSetL X.K X.w) := by
  intro pins s σ H xs us Q I r h
  obtain ⟨a, ns, rfl, hx, few, q⟩ := h
  obtain ⟨u, rfl, ru⟩ := vals1 r
  cases ru
  obtain ⟨its, rel, lst, _⟩ := I.list hx
  refine call_set_lstI ns (I.ok.hd hc) lst.isList (by simpa using intsAre_of rel) (by unfold scanBound; omega) fun h' tk c R le kept => ?_
  exact ⟨.ref _, _, I.laid (t' := tk) kept (Nat.le_refl _) (setO_new R), rfl, q _ c le (I.hok.fresh (Nat.le_refl _))⟩
end
/-! ### {one} -/
theorem codeIn_kds {K : PySem.W.Frag} {cd : Value} {q : Str} (h : PySem.W.codeIn K cd q = true) : PySem.W.kdsCode K cd = true := by
  unfold PySem.W.codeIn at h
  unfold PySem.W.kdsCode
  split at h
  · split at h
    · rename_i e
      simp only [e]
    · cases h
  · cases h
section
variable {P : Program} {w : World} {A : Around} {E : Value → Shared → Prop} {s : Shared}
theorem newSet_led {Q : Value → Shared → Prop} (h : Q (.ref s.heap.objs.size) { s with heap := s.heap.push (noSet w) }) : wpAny (model P w) A (newSet (.type "set")) Q E s := by
  unfold newSet
  refine wpAny_bind (wpAny_byText ?_)
  dsimp only
  exact wpAny_newObj_type h
theorem display_one {b : Bool} {T : Sem Value} {Q : Value → Shared → Prop}
    (h : wpAny (model P w) A T (fun v s1 => wpAny (model P w) A (setAdd s.heap.objs.size v) (fun _ s2 => Q (.ref s.heap.objs.size) s2) E s1) E { s with heap := s.heap.push (noSet w) }) :
    wpAny (model P w) A (setDisplay .oneByOne b [(false, T)]) Q E s := by
  unfold setDisplay
  dsimp only
  rw [if_neg (by decide)]
  refine wpAny_bind (newSet_led ?_)
  dsimp only
  refine wpAny_bind (wpAny_holding ?_)
  refine wpAny_bind ?_
  show wpAny _ _ (T >>= fun v => holding [v] (evalAll []) >>= fun r => pure (v :: r)) _ _ _
  refine wpAny_bind (wpAny_mono h (fun v s1 h1 => ?_) fun _ _ x => x)
  refine wpAny_bind (wpAny_holding (wpAny_pure ?_))
  refine wpAny_pure ?_
  refine wpAny_bind (wpAny_holding ?_)
  rw [List.forIn_cons]
  refine wpAny_bind (wpAny_bind (wpAny_bind (wpAny_mono h1 (fun _ s2 h2 => wpAny_pure ?_) fun _ _ x => x)))
  dsimp only
  rw [List.forIn_nil]
  refine wpAny_pure ?_
  rw [if_neg (by decide)]
  refine wpAny_pure ?_
  refine wpAny_bind ?_
  show wpAny _ _ (forIn ([] : List (Bool × Sem Value)) PUnit.unit _) _ _ s2
  rw [List.forIn_nil]
  exact wpAny_pure (wpAny_pure (wpAny_pure h2))
end
def tSet1 (w : World) (te : TE) : TE := fun σ H Q => ∀ p, H p = none → te σ (upd H p (SetO w p (fun _ => false) 0)) fun x H1 => ∃ k : Int, x = .int k ∧ H1 p = some (SetO w p (fun _ => false) 0) ∧ Q (.ref p) (upd H1 p (SetO w p (fun j => false || decide (j = k)) 1))
theorem pe_set1 {X : Cx} {e : Expr} {te : TE} {pos : Pos} {q : Str} {wd : World} (hw : X.w = wd) (hcd : PySem.W.codeIn X.K X.env.code q = true) (he : PE X e te) (hp : PySem.W.kdsPlain e = true := by rfl) : PE X (.Set [e] 0 pos) (tSet1 wd te) := by
  subst hw
  refine ⟨fun pins s σ H Q I h => ?_⟩
  rw [arm_eval_Set]
  refine wpAny_bind (wpAny_standAt ?_)
  refine wpAny_bind (PySem.W.kds_main I.kIn (codeIn_kds hcd) fun bm => ?_)
  rw [PySem.W.kds_star [e] (by simp [hp]), List.map_map, arm_evalEach_cons]
  refine (show wpAny (model X.prog X.w) X.A (setDisplay .oneByOne bm [(false, do let v ← eval e X.env; standAt pos; pure v)]) (EP X pins σ Q) X.xe s from display_one ?_)
  have R0 : SetR X.w (s.heap.push (noSet X.w)) s.heap.objs.size (fun _ => false) 0 := setR_fresh X.w
  have f0 : H s.heap.objs.size = none := I.hok.fresh (Nat.le_refl _)
  have I1 : Inv X pins σ (upd H s.heap.objs.size (SetO X.w s.heap.objs.size (fun _ => false) 0)) { s with heap := s.heap.push (noSet X.w) } := I.laid (t' := s.toks) (fun b u g => Heap.get?_push_of_some _ g) (Nat.le_refl _) (setO_new R0)
  refine wpAny_bind (thn (he.run pins _ σ _ _ I1 (h _ f0)) fun v s1 ⟨x, H1, I2, r1, k, ex, ep, q1⟩ => ?_)
  subst ex
  obtain ⟨tk, rfl⟩ := r1
  refine wpAny_bind (wpAny_standAt (wpAny_pure ?_))
  have R1 := setO_get I2 ep
  unfold setAdd
  refine wpAny_holding ?_
  refine wpAny_bind ((intKind X.prog X.w).pyHash (k := k) (intKind_is _ _ _ _) ?_)
  refine setR_add_hashed (s := { s1 with toks := s1.toks + 1 }) R1 (by decide) fun h' sb new => ?_
  have he' : ∃ u, h'.get? s.heap.objs.size = some u := let ⟨o, _, _, _, ho, _⟩ := new; ⟨o, ho⟩
  exact ⟨.ref _, _, I2.write (e := s.heap.objs.size) (t' := s1.toks + 1) (by rw [ep]; trivial) (.inl rfl) (fun b u hb hu => (sb.2 b hb).trans hu) he' (setO_new new), rfl, q1⟩
end Cw

/-! what hangs together -/
namespace Cw
open PySem PySem.Spec PyProof.Rows L2
noncomputable def dec (p : Prop) : Bool := @decide p (Classical.propDecidable p)
theorem dec_iff {p : Prop} : dec p = true ↔ p := by unfold dec; exact @decide_eq_true_iff p (Classical.propDecidable p)
theorem dec_true {p : Prop} (h : p) : dec p = true := dec_iff.mpr h
theorem dec_false {p : Prop} (h : ¬ p) : dec p = false := by
  cases e : dec p with
  | false => rfl
  | true => exact absurd (dec_iff.mp e) h
theorem dec_congr {p q : Prop} (h : p ↔ q) : dec p = dec q := by
  rw [Bool.eq_iff_iff, dec_iff, dec_iff]; exact h
theorem mem_nb {w : Web} (W : WOk w) {p q : Nat} : q ∈ nb w.2 p ↔ ∃ t ∈ w.2, at2 p q t = true := by
  unfold nb
  rw [List.mem_filterMap]
  constructor
  · rintro ⟨t, ht, h⟩
    exact ⟨t, ht, (beside_iff (W.ends t ht).1).mp h⟩
  · rintro ⟨t, ht, h⟩
    exact ⟨t, ht, (beside_iff (W.ends t ht).1).mpr h⟩
theorem nb_symm {w : Web} (W : WOk w) {p q : Nat} (h : q ∈ nb w.2 p) : p ∈ nb w.2 q := by
  obtain ⟨t, ht, e⟩ := (mem_nb W).mp h
  exact (mem_nb W).mpr ⟨t, ht, by rw [at2_swap]; exact e⟩
theorem nb_lt {w : Web} (W : WOk w) {p q : Nat} (h : q ∈ nb w.2 p) : p < w.1.length ∧ q < w.1.length := by
  obtain ⟨t, ht, e⟩ := (mem_nb W).mp h
  have r := W.ends t ht
  rcases at2_iff.mp e with ⟨a, b⟩ | ⟨a, b⟩ <;> omega
/-- from a one comes to it -/
inductive Rch (ts : List Tie) (a : Nat) : Nat → Prop
  | base : Rch ts a a
  | step {p q : Nat} : Rch ts a p → q ∈ nb ts p → Rch ts a q
theorem Rch.trans {ts : List Tie} {a b c : Nat} (h : Rch ts a b) (k : Rch ts b c) : Rch ts a c := by
  induction k with
  | base => exact h
  | step _ m ih => exact ih.step m
theorem Rch.symm {w : Web} (W : WOk w) {a b : Nat} (h : Rch w.2 a b) : Rch w.2 b a := by
  induction h with
  | base => exact .base
  | step _ m ih => exact Rch.trans (Rch.base.step (nb_symm W m)) ih
theorem Rch.lt {w : Web} (W : WOk w) {a b : Nat} (h : Rch w.2 a b) (ha : a < w.1.length) : b < w.1.length := by
  cases h with
  | base => exact ha
  | step _ m => exact (nb_lt W m).2
/-- the places that hang together with a -/
noncomputable def partL (w : Web) (a : Nat) : List Nat := (List.range w.1.length).filter fun k => dec (Rch w.2 a k)
theorem mem_partL {w : Web} (W : WOk w) {a k : Nat} (ha : a < w.1.length) : k ∈ partL w a ↔ Rch w.2 a k := by
  unfold partL
  rw [List.mem_filter, dec_iff, List.mem_range]
  exact ⟨fun h => h.2, fun h => ⟨h.lt W ha, h⟩⟩
theorem partL_rise (w : Web) (a : Nat) : (partL w a).Pairwise (· < ·) := List.Pairwise.filter _ List.pairwise_lt_range
theorem partL_len (w : Web) (a : Nat) : (partL w a).length ≤ w.1.length := Nat.le_trans (List.length_filter_le _ _) (by rw [List.length_range]; exact Nat.le_refl _)
/-- no lesser place hangs together with it -/
def Lst (w : Web) (a : Nat) : Prop := ∀ b, Rch w.2 a b → a ≤ b
noncomputable def leastsL (w : Web) (n : Nat) : List Nat := (List.range n).filter fun a => dec (Lst w a)
noncomputable def partsN (w : Web) (n : Nat) : List (List Nat) := (leastsL w n).map (partL w)
noncomputable def partsL (w : Web) : List (List Nat) := partsN w w.1.length
theorem leastsL_succ (w : Web) (n : Nat) : leastsL w (n + 1) = leastsL w n ++ if dec (Lst w n) = true then [n] else [] := by
  unfold leastsL
  rw [List.range_succ, List.filter_append]
  congr 1
  by_cases c : dec (Lst w n) = true
  · rw [if_pos c]; simp [c]
  · rw [if_neg c]; simp [c]
theorem partsN_succ (w : Web) (n : Nat) : partsN w (n + 1) = partsN w n ++ if dec (Lst w n) = true then [partL w n] else [] := by
  unfold partsN
  rw [leastsL_succ, List.map_append]
  congr 1
  split <;> rfl
theorem partsN_len (w : Web) (n : Nat) : (partsN w n).length ≤ n := by
  unfold partsN leastsL
  rw [List.length_map]
  exact Nat.le_trans (List.length_filter_le _ _) (by rw [List.length_range]; exact Nat.le_refl _)
/-- a place that none of the lesser ones comes to is least -/
theorem seen_iff {w : Web} (W : WOk w) {n : Nat} : (∃ a, a < n ∧ Rch w.2 a n) ↔ ¬ Lst w n := by
  constructor
  · rintro ⟨a, h1, h2⟩ l
    have := l a (h2.symm W)
    omega
  · intro h
    unfold Lst at h
    obtain ⟨b, hb⟩ := Classical.not_forall.mp h
    obtain ⟨h1, h2⟩ := Classical.not_imp.mp hb
    exact ⟨b, by omega, h1.symm W⟩
/-! ### the least place that one comes to, by turns -/
def Dn (ts : List Tie) : Nat → Nat → Nat → Prop
  | 0, p, q => p = q
  | k + 1, p, q => Dn ts k p q ∨ ∃ r, r ∈ nb ts p ∧ Dn ts k r q
theorem Dn.mono {ts : List Tie} {k p q : Nat} (h : Dn ts k p q) : ∀ m, Dn ts (k + m) p q
  | 0 => h
  | m + 1 => .inl (Dn.mono h m)
theorem filter_lt {α : Type} {P Q : α → Bool} : ∀ {l : List α}, (∀ x ∈ l, P x = true → Q x = true) → (∃ x ∈ l, Q x = true ∧ P x = false) → (l.filter P).length < (l.filter Q).length
  | [], _, ⟨x, h, _⟩ => absurd h (by simp)
  | y :: l, i, ⟨x, h, h1, h2⟩ => by
    have le : ∀ {l : List α}, (∀ x ∈ l, P x = true → Q x = true) → (l.filter P).length ≤ (l.filter Q).length := fun {l} i => by
      induction l with
      | nil => exact Nat.le_refl _
      | cons a r ih =>
        have ihr := ih fun x hx => i x (List.mem_cons_of_mem _ hx)
        by_cases c : P a = true
        · rw [List.filter_cons_of_pos c, List.filter_cons_of_pos (i a List.mem_cons_self c)]
          exact Nat.succ_le_succ ihr
        · rw [List.filter_cons_of_neg c]
          by_cases d : Q a = true
          · rw [List.filter_cons_of_pos d]; exact Nat.le_succ_of_le ihr
          · rw [List.filter_cons_of_neg d]; exact ihr
    have il : ∀ x ∈ l, P x = true → Q x = true := fun x hx => i x (List.mem_cons_of_mem _ hx)
    rcases List.mem_cons.mp h with z | z
    · subst z
      rw [List.filter_cons_of_neg (by rw [h2]; simp), List.filter_cons_of_pos h1]
      exact Nat.lt_succ_of_le (le il)
    · have ih := filter_lt il ⟨x, z, h1, h2⟩
      by_cases c : P y = true
      · rw [List.filter_cons_of_pos c, List.filter_cons_of_pos (i y List.mem_cons_self c)]
        exact Nat.succ_lt_succ ih
      · rw [List.filter_cons_of_neg c]
        by_cases d : Q y = true
        · rw [List.filter_cons_of_pos d]; exact Nat.lt_succ_of_lt ih
        · rw [List.filter_cons_of_neg d]; exact ih
/-- as many turns as there are places are enough -/
theorem dn_all {w : Web} (W : WOk w) {p q : Nat} (hq : q < w.1.length) (h : Rch w.2 p q) : Dn w.2 w.1.length p q := by
  have grow : ∀ k, (∀ a r, r ∈ nb w.2 a → Dn w.2 k r q → Dn w.2 k a q) ∨ k + 1 ≤ ((List.range w.1.length).filter fun a => dec (Dn w.2 k a q)).length := by
    intro k
    induction k with
    | zero =>
      right
      have : q ∈ (List.range w.1.length).filter fun a => dec (Dn w.2 0 a q) := List.mem_filter.mpr ⟨List.mem_range.mpr hq, dec_true rfl⟩
      exact List.length_pos_of_mem this
    | succ k ih =>
      rcases Classical.em (∀ a r, r ∈ nb w.2 a → Dn w.2 k r q → Dn w.2 k a q) with c | c
      · left
        have back : ∀ a, Dn w.2 (k + 1) a q → Dn w.2 k a q := fun a d => by
          rcases d with d | ⟨r, h1, h2⟩
          · exact d
          · exact c a r h1 h2
        intro a r h1 h2
        exact .inl (c a r h1 (back r h2))
      · right
        rcases ih with ih | ih
        · exact absurd ih c
        obtain ⟨a, ha⟩ := Classical.not_forall.mp c
        obtain ⟨r, hr⟩ := Classical.not_forall.mp ha
        obtain ⟨h1, hr⟩ := Classical.not_imp.mp hr
        obtain ⟨h2, h3⟩ := Classical.not_imp.mp hr
        have lt := filter_lt (l := List.range w.1.length) (P := fun a => dec (Dn w.2 k a q)) (Q := fun a => dec (Dn w.2 (k + 1) a q)) (fun x _ hx => dec_true (.inl (dec_iff.mp hx)))
          ⟨a, List.mem_range.mpr (nb_lt W h1).1, dec_true (.inr ⟨r, h1, h2⟩), dec_false h3⟩
        omega
  have closed : ∀ a r, r ∈ nb w.2 a → Dn w.2 w.1.length r q → Dn w.2 w.1.length a q := by
    rcases grow w.1.length with c | c
    · exact c
    · have := List.length_filter_le (fun a => dec (Dn w.2 w.1.length a q)) (List.range w.1.length)
      rw [List.length_range] at this
      omega
  have d0 : Dn w.2 w.1.length q q := by
    have z := Dn.mono (show Dn w.2 0 q q from rfl) w.1.length
    rw [Nat.zero_add] at z
    exact z
  have go : ∀ x, Rch w.2 p x → Dn w.2 w.1.length x q → Dn w.2 w.1.length p q := by
    intro x hx
    induction hx with
    | base => exact id
    | step _ m ih => exact fun d => ih (closed _ _ m d)
  exact go q h d0
/-- what the labels are while they sink: of its own part, and no greater than what k steps come to -/
structure Lab (w : Web) (k : Nat) (ls : List Nat) : Prop where
  len : ls.length = w.1.length
  own : ∀ (p l : Nat), ls[p]? = some l → Rch w.2 p l
  low : ∀ (p l q : Nat), ls[p]? = some l → Dn w.2 k p q → l ≤ q
/-- within a turn: i ties are done -/
structure LabT (w : Web) (k i : Nat) (old ls : List Nat) : Prop where
  len : ls.length = w.1.length
  own : ∀ (p l : Nat), ls[p]? = some l → Rch w.2 p l
  sink : ∀ (p l m : Nat), ls[p]? = some l → old[p]? = some m → l ≤ m
  done : ∀ t ∈ w.2.take i, ∀ (l m : Nat), (ls[t.1]? = some l → old[t.2.1]? = some m → l ≤ m) ∧ (ls[t.2.1]? = some l → old[t.1]? = some m → l ≤ m)
theorem Lab.start (w : Web) : Lab w 0 (List.range w.1.length) := by
  refine ⟨List.length_range, fun p l h => ?_, fun p l q h d => ?_⟩
  · obtain ⟨h1, h2⟩ := List.getElem?_eq_some_iff.mp h
    rw [List.getElem_range] at h2
    subst h2
    exact .base
  · obtain ⟨h1, h2⟩ := List.getElem?_eq_some_iff.mp h
    rw [List.getElem_range] at h2
    have : p = q := d
    omega
theorem LabT.start {w : Web} {k : Nat} {ls : List Nat} (L : Lab w k ls) : LabT w k 0 ls ls :=
  ⟨L.len, L.own, fun p l m h1 h2 => by rw [h1] at h2; cases h2; exact Nat.le_refl _, fun t ht => by simp at ht⟩
theorem LabT.tie {w : Web} (W : WOk w) {k i : Nat} {old ls : List Nat} (T : LabT w k i old ls) {t : Tie} (ht : w.2[i]? = some t) {l m : Nat} (hl : ls[t.1]? = some l) (hm : ls[t.2.1]? = some m) :
    LabT w k (i + 1) old ((ls.set t.1 (min l m)).set t.2.1 (min l m)) := by
  have r := W.ends t (List.mem_of_getElem? ht)
  have n1 : t.1 < ls.length := by rw [T.len]; omega
  have n2 : t.2.1 < ls.length := by rw [T.len]; omega
  have adj : t.2.1 ∈ nb w.2 t.1 := (mem_nb W).mpr ⟨t, List.mem_of_getElem? ht, at2_iff.mpr (.inl ⟨rfl, rfl⟩)⟩
  have at_ : ∀ p, ((ls.set t.1 (min l m)).set t.2.1 (min l m))[p]? = if p = t.1 ∨ p = t.2.1 then some (min l m) else ls[p]? := fun p => by
    by_cases c2 : t.2.1 = p
    · subst c2
      rw [List.getElem?_set_self (by rw [List.length_set]; exact n2), if_pos (.inr rfl)]
    · rw [List.getElem?_set_ne c2]
      by_cases c1 : t.1 = p
      · subst c1
        rw [List.getElem?_set_self n1, if_pos (.inl rfl)]
      · rw [List.getElem?_set_ne c1, if_neg (by intro z; rcases z with z | z; exact c1 z.symm; exact c2 z.symm)]
  have rl := T.own _ _ hl
  have rm := T.own _ _ hm
  have down : ∀ p x y, ((ls.set t.1 (min l m)).set t.2.1 (min l m))[p]? = some x → ls[p]? = some y → x ≤ y := fun p x y hx hy => by
    rw [at_] at hx
    split at hx
    · rename_i c
      have e := (Option.some.inj hx).symm
      subst e
      rcases c with c | c
      · subst c; rw [hl] at hy; cases hy; exact Nat.min_le_left _ _
      · subst c; rw [hm] at hy; cases hy; exact Nat.min_le_right _ _
    · rw [hx] at hy; cases hy; exact Nat.le_refl _
  have here : ∀ p x, ((ls.set t.1 (min l m)).set t.2.1 (min l m))[p]? = some x → ∃ y, ls[p]? = some y := fun p x hx => by
    have := (List.getElem?_eq_some_iff.mp hx).1
    rw [List.length_set, List.length_set] at this
    exact ⟨_, List.getElem?_eq_getElem this⟩
  refine ⟨by rw [List.length_set, List.length_set]; exact T.len, fun p x hx => ?_, fun p x y hx hy => ?_, fun u hu x y => ⟨fun hx hy => ?_, fun hx hy => ?_⟩⟩
  · rw [at_] at hx
    split at hx
    · rename_i c
      have e := (Option.some.inj hx).symm
      subst e
      have to1 : Rch w.2 t.1 (min l m) := by
        rcases Nat.le_total l m with z | z
        · rw [Nat.min_eq_left z]; exact rl
        · rw [Nat.min_eq_right z]; exact Rch.trans (Rch.base.step adj) rm
      rcases c with c | c
      · subst c; exact to1
      · subst c; exact Rch.trans (Rch.base.step (nb_symm W adj)) to1
    · exact T.own p x hx
  · obtain ⟨z, hz⟩ := here p x hx
    exact Nat.le_trans (down p x z hx hz) (T.sink p z y hz hy)
  · rw [take_snoc ht] at hu
    rcases List.mem_append.mp hu with hu | hu
    · obtain ⟨z, hz⟩ := here _ x hx
      exact Nat.le_trans (down _ x z hx hz) ((T.done u hu z y).1 hz hy)
    · rw [List.mem_singleton.mp hu] at hx hy
      rw [at_, if_pos (.inl rfl)] at hx
      cases hx
      exact Nat.le_trans (Nat.min_le_right _ _) (T.sink _ m y hm hy)
  · rw [take_snoc ht] at hu
    rcases List.mem_append.mp hu with hu | hu
    · obtain ⟨z, hz⟩ := here _ x hx
      exact Nat.le_trans (down _ x z hx hz) ((T.done u hu z y).2 hz hy)
    · rw [List.mem_singleton.mp hu] at hx hy
      rw [at_, if_pos (.inr rfl)] at hx
      cases hx
      exact Nat.le_trans (Nat.min_le_left _ _) (T.sink _ l y hl hy)
theorem LabT.turn {w : Web} (W : WOk w) {k : Nat} {old ls : List Nat} (L : Lab w k old) (T : LabT w k w.2.length old ls) : Lab w (k + 1) ls := by
  refine ⟨T.len, T.own, fun p l q hl d => ?_⟩
  have hp : p < old.length := by rw [L.len, ← T.len]; exact (List.getElem?_eq_some_iff.mp hl).1
  have ho := List.getElem?_eq_getElem hp
  rcases d with d | ⟨r, h1, h2⟩
  · exact Nat.le_trans (T.sink p l _ hl ho) (L.low p _ q ho d)
  · obtain ⟨t, ht, e⟩ := (mem_nb W).mp h1
    have hr : r < old.length := by rw [L.len]; exact (nb_lt W h1).2
    have hr' := List.getElem?_eq_getElem hr
    have tm : t ∈ w.2.take w.2.length := by rw [List.take_length]; exact ht
    have dn := T.done t tm l old[r]
    have le : l ≤ old[r] := by
      rcases at2_iff.mp e with ⟨a, b⟩ | ⟨a, b⟩
      · exact dn.1 (by rw [a]; exact hl) (by rw [b]; exact hr')
      · exact dn.2 (by rw [b]; exact hl) (by rw [a]; exact hr')
    exact Nat.le_trans le (L.low r _ q hr' h2)
/-- at the end: each label is the least place of its part -/
theorem Lab.end_ {w : Web} (W : WOk w) {ls : List Nat} (L : Lab w w.1.length ls) {p l : Nat} (h : ls[p]? = some l) : Rch w.2 p l ∧ Lst w l := by
  have hp : p < w.1.length := by rw [← L.len]; exact (List.getElem?_eq_some_iff.mp h).1
  have r := L.own p l h
  refine ⟨r, fun b hb => ?_⟩
  have rb := r.trans hb
  exact L.low p l b h (dn_all W (rb.lt W hp) rb)
theorem lst_uniq {w : Web} (W : WOk w) {a b : Nat} (ha : Lst w a) (hb : Lst w b) (h : Rch w.2 a b) : a = b := by
  have h1 := ha b h
  have h2 := hb a (h.symm W)
  omega
theorem Lab.is_ {w : Web} (W : WOk w) {ls : List Nat} (L : Lab w w.1.length ls) {p l a : Nat} (h : ls[p]? = some l) (ha : Lst w a) : l = a ↔ Rch w.2 a p := by
  obtain ⟨h1, h2⟩ := L.end_ W h
  constructor
  · rintro rfl
    exact h1.symm W
  · intro z
    exact (lst_uniq W ha h2 (z.trans h1)).symm
theorem labs_mem {w : Web} (W : WOk w) {ls : List Nat} (L : Lab w w.1.length ls) (x : Nat) : x ∈ ls ↔ x ∈ leastsL w w.1.length := by
  unfold leastsL
  rw [List.mem_filter, List.mem_range, dec_iff]
  constructor
  · intro h
    obtain ⟨p, hp⟩ := List.getElem?_of_mem h
    obtain ⟨h1, h2⟩ := L.end_ W hp
    have hp' : p < w.1.length := by rw [← L.len]; exact (List.getElem?_eq_some_iff.mp hp).1
    exact ⟨h1.lt W hp', h2⟩
  · rintro ⟨h1, h2⟩
    have hx : x < ls.length := by rw [L.len]; exact h1
    have g := List.getElem?_eq_getElem hx
    have e := (L.is_ W g h2).mpr .base
    rw [e] at g
    exact List.mem_of_getElem? g
theorem leasts_rise (w : Web) (n : Nat) : (leastsL w n).Pairwise (· < ·) := List.Pairwise.filter _ List.pairwise_lt_range
theorem mem_leasts {w : Web} {n x : Nat} (h : x ∈ leastsL w n) : x < n ∧ Lst w x := by
  unfold leastsL at h
  rw [List.mem_filter, List.mem_range, dec_iff] at h
  exact h
theorem labs_part {w : Web} (W : WOk w) {ls : List Nat} (L : Lab w w.1.length ls) {a : Nat} (ha : Lst w a) : ((List.range w.1.length).filter fun p => decide (ls[p]? = some a)) = partL w a := by
  unfold partL
  refine List.filter_congr fun p hp => ?_
  have hp' : p < ls.length := by rw [L.len]; exact List.mem_range.mp hp
  have g := List.getElem?_eq_getElem hp'
  rw [Bool.eq_iff_iff, dec_iff, decide_eq_true_eq, g, Option.some.injEq]
  exact L.is_ W g ha

/-! ### a def's code told to its body -/
section
variable {P : Program} {w : World} {K : PySem.W.Frag} {mg : Str → Option Value} {base : Heap}
theorem funOkC {x qual : Str} {st : Stmt} {f : Addr} {fd : FuncData} {N ps : List Str} {k : Nat} {sp : Sp} (F : Fun K x qual st f fd) (S : FnScope N ps (defScope st)) (len : ∀ vs H Q E, sp vs H Q E → vs.length = ps.length)
    (hbody : ∀ (cdv : Value), PySem.W.codeIn K cdv qual = true → ∀ (A : Around) (outer : List Env) (s : Shared) (H : Hp) (vs : List V) (Q : VK) (E : XK), Room k (A.deeper (envOfC qual (defScope st) s.heap.objs.size f cdv)) → sp vs H Q E →
      ∃ t, PSs (cxOf CX0 P w K mg base N qual (defScope st) f cdv A outer s H E).nox (defBody st) t ∧ t { nx := fun _ H' => Q .non H', rt := Q } (start N vs) H) : FnOk P w K mg base CX0 (k + 1) f fd ps sp := by
  obtain ⟨oc, od, kV, doc, pm, an, cdv, ct, osl, rfl, lk, hcd⟩ := F.ex
  refine fn_of lk hcd S len fun A outer s H vs Q E hr hsp => ?_
  obtain ⟨t, h, q⟩ := hbody cdv hcd A outer s H vs Q E hr hsp
  exact ⟨t, h.nox, q⟩
end
/-! ### a set of places -/
theorem cr_set0w {X : Cx} {wd : World} (hw : X.w = wd) : CallR X (.type "set") (rSet0 wd) := by
  subst hw
  exact cr_set0
def SetN (wd : World) (H : Hp) (S : Addr) (ms : List Nat) : Prop := ∃ Sx n, H S = some (SetO wd S Sx n) ∧ n ≤ ms.length ∧ (ms.Nodup → n = ms.length) ∧ ∀ k : Int, Sx k = true ↔ ∃ q : Nat, k = (q : Int) ∧ q ∈ ms
section
variable {wd : World} {K : PySem.W.Frag} {H H' : Hp} {S : Addr} {ms : List Nat} {q : Nat} {Q : VK}
theorem SetN.new (h : H S = some (SetO wd S (fun _ => false) 0)) : SetN wd H S [] := ⟨_, 0, h, Nat.le_refl _, fun _ => rfl, fun k => by simp⟩
theorem SetN.same (x : SetN wd H S ms) (s : Same H H') : SetN wd H' S ms := by
  obtain ⟨a, n, e, r⟩ := x
  exact ⟨a, n, s _ _ e, r⟩
theorem SetN.at_ (x : SetN wd H S ms) {b : Addr} {o : HO} (n : b ≠ S) : SetN wd (upd H b o) S ms := by
  obtain ⟨a, m, e, r⟩ := x
  exact ⟨a, m, by rw [upd_ne n.symm]; exact e, r⟩
theorem SetN.ne (x : SetN wd H S ms) {b : Addr} {ys : List V} (e : H b = some (.lst ys)) : b ≠ S := by
  obtain ⟨a, m, e', r⟩ := x
  exact ne_of e e' (by intro z; cases z)
theorem d_snotin (x : SetN wd H S ms) (k : Q (.bl (!decide (q ∈ ms))) H) : rSNotIn wd (.int (q : Nat)) (.ref S) H Q := by
  obtain ⟨Sx, n, e, l, l', m⟩ := x
  refine ⟨q, S, Sx, n, rfl, rfl, e, ?_⟩
  have : Sx (q : Nat) = decide (q ∈ ms) := by
    rw [Bool.eq_iff_iff, decide_eq_true_eq, m]
    constructor
    · rintro ⟨q', h1, h2⟩
      have : q = q' := by omega
      rw [this]; exact h2
    · intro h
      exact ⟨q, rfl, h⟩
  rw [this]
  exact k
theorem d_tsadd {to : TE} {t : TA} {σ : L2.St} (h : to σ H fun x H1 => (∃ a S n, x = V.ref a ∧ H1 a = some (SetO wd a S n)) ∧ t σ H1 fun xs H2 => rSAdd wd x xs H2 Q) : tSAdd wd to t σ H Q := h
theorem d_sadd0 (x : SetN wd H S ms) {C : Prop} (h : C) : (∃ a Sx n, V.ref S = V.ref a ∧ H a = some (SetO wd a Sx n)) ∧ C := by
  obtain ⟨a, n, e, r⟩ := x
  exact ⟨⟨S, a, n, rfl, e⟩, h⟩
theorem d_sadd (x : SetN wd H S ms) (few : ms.length ≤ 4000) (k : ∀ o ms', SetN wd (upd H S o) S ms' → (∀ y, y ∈ ms' ↔ y ∈ ms ∨ y = q) → ms'.length ≤ ms.length + 1 → (q ∉ ms → ms' = ms ++ [q]) → Q .non (upd H S o)) : rSAdd wd (.ref S) [.int (q : Nat)] H Q := by
  obtain ⟨Sx, n, e, l, l', m⟩ := x
  refine ⟨S, q, Sx, n, rfl, rfl, e, by unfold scanBound; omega, ?_⟩
  have mem : ∀ j : Int, (Sx j || decide (j = (q : Int))) = true ↔ ∃ y : Nat, j = (y : Int) ∧ (y ∈ ms ∨ y = q) := fun j => by
    rw [Bool.or_eq_true, m, decide_eq_true_eq]
    constructor
    · rintro (⟨y, h1, h2⟩ | h)
      · exact ⟨y, h1, .inl h2⟩
      · exact ⟨q, h, .inr rfl⟩
    · rintro ⟨y, h1, h2 | h2⟩
      · exact .inl ⟨y, h1, h2⟩
      · exact .inr (by rw [h1, h2])
  by_cases c : q ∈ ms
  · have c' : Sx (q : Nat) = true := (m _).mpr ⟨q, rfl, c⟩
    rw [if_pos c']
    refine k _ ms ⟨_, n, upd_same, l, l', fun j => ?_⟩ (fun y => ⟨.inl, fun h => h.elim id fun z => z ▸ c⟩) (by omega) fun z => absurd c z
    rw [mem]
    exact ⟨fun ⟨y, h1, h2⟩ => ⟨y, h1, h2.elim id fun z => z ▸ c⟩, fun ⟨y, h1, h2⟩ => ⟨y, h1, .inl h2⟩⟩
  · have c' : ¬ Sx (q : Nat) = true := fun z => by
      obtain ⟨y, h1, h2⟩ := (m _).mp z
      have : q = y := by omega
      exact c (this ▸ h2)
    rw [if_neg c']
    refine k _ (ms ++ [q]) ⟨_, n + 1, upd_same, by rw [List.length_append]; show n + 1 ≤ ms.length + 1; omega, fun nd => ?_, fun j => ?_⟩ (fun y => by rw [List.mem_append, List.mem_singleton]) (by rw [List.length_append]; exact Nat.le_refl _) fun _ => rfl
    · rw [List.length_append, l' (List.nodup_append.mp nd).1]; rfl
    · rw [mem]
      exact ⟨fun ⟨y, h1, h2⟩ => ⟨y, h1, by rw [List.mem_append, List.mem_singleton]; exact h2⟩, fun ⟨y, h1, h2⟩ => ⟨y, h1, by rw [List.mem_append, List.mem_singleton] at h2; exact h2⟩⟩
theorem nats_of {ns : List Int} {l : List Nat} (s : ns.Pairwise (· < ·)) (sl : l.Pairwise (· < ·)) (m : ∀ k, k ∈ ns ↔ ∃ q : Nat, k = (q : Int) ∧ q ∈ l) : ns = zs l := by
  have nn : ∀ k ∈ ns, 0 ≤ k := fun k hk => by
    obtain ⟨q, h, _⟩ := (m k).mp hk
    omega
  have e1 : zs (ns.map Int.toNat) = ns := by
    unfold zs
    rw [List.map_map]
    refine (List.map_congr_left fun k hk => ?_).trans (List.map_id _)
    show ((k.toNat : Nat) : Int) = k
    exact Int.toNat_of_nonneg (nn k hk)
  rw [← e1]
  congr 1
  refine sorted_ext ?_ sl fun x => ?_
  · rw [List.pairwise_map]
    refine s.imp_of_mem fun {x y} hx hy h => ?_
    have := nn x hx
    have := nn y hy
    omega
  · rw [List.mem_map]
    constructor
    · rintro ⟨k, h1, h2⟩
      obtain ⟨q, h3, h4⟩ := (m k).mp h1
      have : x = q := by omega
      rw [this]; exact h4
    · intro h
      exact ⟨(x : Int), (m _).mpr ⟨x, rfl, h⟩, by simp⟩
theorem d_ssort (x : SetN wd H S ms) {l : List Nat} (nd : ms.Nodup) (few : ms.length < 64) (sl : l.Pairwise (· < ·)) (m : ∀ y, y ∈ ms ↔ y ∈ l) (k : ∀ p, H p = none → Q (.ref p) (upd H p (.lst (l.map fun y => V.int (y : Nat))))) : rSortedSet wd [.ref S] H Q := by
  obtain ⟨Sx, n, e, l1, l2, m1⟩ := x
  refine ⟨S, Sx, n, rfl, e, by have := l2 nd; omega, fun ns p s mem len fp => ?_⟩
  have : ns = zs l := nats_of s sl fun j => by
    rw [mem, m1]
    exact ⟨fun ⟨y, h1, h2⟩ => ⟨y, h1, (m y).mp h2⟩, fun ⟨y, h1, h2⟩ => ⟨y, h1, (m y).mpr h2⟩⟩
  rw [this, ← ints_map]
  exact k p fp
end
/-! ### lists of lists of places -/
abbrev natsV (p : List Nat) : List V := p.map fun q => V.int (q : Nat)
def PartsAt (H : Hp) (rs : List Addr) (ps : List (List Nat)) : Prop := Paired (fun r p => H r = some (.lst (natsV p))) rs ps
def partsD (ps : List (List Nat)) : PyData := .list (ps.map fun p => .list ((zs p).map PyData.int))
section
variable {K : PySem.W.Frag} {H H' : Hp} {rs : List Addr} {ps : List (List Nat)}
theorem PartsAt.same (x : PartsAt H rs ps) (s : Same H H') : PartsAt H' rs ps := Paired.imp x fun _ _ e => s _ _ e
theorem PartsAt.keep {h : Addr} (x : PartsAt H rs ps) (k : Keep h H H') (n : h ∉ rs) : PartsAt H' rs ps := by
  induction x with
  | nil => exact .nil
  | cons e _ ih =>
    exact .cons (k _ _ (fun z => n (z ▸ List.mem_cons_self)) e) (ih fun z => n (List.mem_cons_of_mem _ z))
theorem PartsAt.dpa : ∀ {rs : List Addr} {ps : List (List Nat)}, PartsAt H rs ps → DpAll K H (rs.map V.ref) (ps.map fun p => PyData.list ((zs p).map PyData.int))
  | _, _, .nil => .nil
  | _, _, .cons e r => .cons (dp_nats e) (PartsAt.dpa r)
theorem PartsAt.dp {T : Addr} (x : PartsAt H rs ps) (e : H T = some (.lst (rs.map V.ref))) : Dp K H (.ref T) (partsD ps) := .lst (SqL.of e) x.dpa
theorem partsD_good (ps : List (List Nat)) : SeqAt.shaped (partsD ps) = true := by
  refine shaped_list (k := 1) (by decide) fun d hd => ?_
  obtain ⟨p, _, rfl⟩ := List.mem_map.mp hd
  have h := shaped_ints (zs p)
  refine ⟨SeqAt.canLay_of_shaped h, ?_⟩
  have : PyData.depthAll ((zs p).map PyData.int) ≤ 0 := by
    generalize zs p = l
    induction l with
    | nil => simp [PyData.depthAll]
    | cons a l ih => simp [PyData.depthAll, PyData.depth]; omega
  simp only [PyData.depth]; omega
end
theorem cr_setLw {X : Cx} {wd : World} (hw : X.w = wd) (hc : X.calm = true) : CallR X (.type "set") (rSetL X.K wd) := by
  subst hw
  exact cr_setL hc
/-! ### webs beside one another; a row -/
def shiftT (n : Nat) (t : Tie) : Tie := (t.1 + n, t.2.1 + n, t.2.2)
def joinW (u v : Web) : Web := (u.1 ++ v.1, u.2 ++ v.2.map (shiftT u.1.length))
def rowW (u : Web) : Web := (u.1, (List.range (u.1.length - 1)).map fun j => (j, j + 1, 115))
theorem ties_few {ts : List Tie} {n : Nat} (s : ts.Pairwise tlt) (e : ∀ t ∈ ts, t.1 < n ∧ t.2.1 < n) : ts.length ≤ n * n := by
  have h := nodup_len (n * n) (ts.map fun t => t.1 * n + t.2.1) ?_ ?_
  · rw [List.length_map] at h; exact h
  · unfold List.Nodup
    rw [List.pairwise_map]
    refine s.imp_of_mem fun {x y} hx hy h z => ?_
    obtain ⟨a1, a2⟩ := e x hx
    obtain ⟨b1, b2⟩ := e y hy
    unfold tlt at h
    have e1 : (x.1 * n + x.2.1) / n = x.1 := by rw [Nat.add_comm, Nat.add_mul_div_right _ _ (by omega), Nat.div_eq_of_lt a2, Nat.zero_add]
    have e2 : (y.1 * n + y.2.1) / n = y.1 := by rw [Nat.add_comm, Nat.add_mul_div_right _ _ (by omega), Nat.div_eq_of_lt b2, Nat.zero_add]
    have : x.1 = y.1 := by rw [← e1, ← e2, z]
    rw [this] at z
    omega
  · intro x hx
    obtain ⟨t, ht, rfl⟩ := List.mem_map.mp hx
    obtain ⟨a1, a2⟩ := e t ht
    calc t.1 * n + t.2.1 < t.1 * n + n := by omega
      _ = (t.1 + 1) * n := by rw [Nat.add_mul, Nat.one_mul]
      _ ≤ n * n := Nat.mul_le_mul_right _ a1
theorem few_most {n m : Nat} (h : n ≤ 40) (k : m ≤ n * n) : m ≤ 1600 := Nat.le_trans k (Nat.le_trans (Nat.mul_le_mul h h) (by decide))
theorem joinW_ok {u v : Web} (U : WOk u) (V : WOk v) (h : u.1.length + v.1.length ≤ 40) : WOk (joinW u v) := by
  have en : ∀ t ∈ (joinW u v).2, t.1 < t.2.1 ∧ t.2.1 < (joinW u v).1.length ∧ Ltr t.2.2 := fun t ht => by
    unfold joinW at ht ⊢
    dsimp only at ht ⊢
    rw [List.length_append]
    rcases List.mem_append.mp ht with ht | ht
    · obtain ⟨a, b, c⟩ := U.ends t ht
      exact ⟨a, by omega, c⟩
    · obtain ⟨s, hs, rfl⟩ := List.mem_map.mp ht
      obtain ⟨a, b, c⟩ := V.ends s hs
      unfold shiftT
      exact ⟨by dsimp only; omega, by dsimp only; omega, c⟩
  have ri : (joinW u v).2.Pairwise tlt := by
    unfold joinW
    refine List.pairwise_append.mpr ⟨U.rise, ?_, fun x hx y hy => ?_⟩
    · rw [List.pairwise_map]
      refine V.rise.imp fun {x y} h => ?_
      unfold tlt shiftT at *
      dsimp only
      omega
    · obtain ⟨s, hs, rfl⟩ := List.mem_map.mp hy
      obtain ⟨a, b, c⟩ := U.ends x hx
      unfold tlt shiftT
      left
      dsimp only
      omega
  have le : (joinW u v).1.length ≤ 40 := by unfold joinW; rw [List.length_append]; exact h
  refine ⟨le, few_most le (ties_few ri fun t ht => ?_), fun c hc => ?_, ri, en⟩
  · obtain ⟨a, b, _⟩ := en t ht
    omega
  · unfold joinW at hc
    rcases List.mem_append.mp hc with hc | hc
    · exact U.kinds c hc
    · exact V.kinds c hc
theorem rowW_ok {u : Web} (U : WOk u) : WOk (rowW u) := by
  refine ⟨U.few, ?_, U.kinds, ?_, fun t ht => ?_⟩
  · unfold rowW
    rw [List.length_map, List.length_range]
    have := U.few
    omega
  · unfold rowW
    rw [List.pairwise_map]
    refine List.pairwise_lt_range.imp fun {x y} h => ?_
    unfold tlt
    left
    exact h
  · unfold rowW at ht ⊢
    obtain ⟨j, hj, rfl⟩ := List.mem_map.mp ht
    rw [List.mem_range] at hj
    exact ⟨Nat.lt_succ_self _, by dsimp only; omega, by unfold Ltr; dsimp only; omega⟩
theorem wok_nil : WOk ([], []) := ⟨by decide, by decide, by simp, .nil, by simp⟩
theorem partsL_nil : partsL ([], []) = [] := rfl
end Cw

namespace Cw
open PySem PySem.Spec PyProof.Rows L2
theorem d_dc {σ : L2.St} {H : Hp} {Q : VK} {wi : TI} {g : TG} {tt : TT} {tk tv : TE} {vs : List Nat} (h : wi σ H fun J H1 => ∀ D, H1 D = none → ∃ W : Nat → Nat → Hp → Prop, (∃ m, W 0 m (upd H1 D (.dK []))) ∧ ∀ i m H, W i m H →
  (J.stop i H ∧ Q (.ref D) H) ∨ (J.go i H ∧ ∃ Nx : Hp → Prop, (∀ H', Nx H' → ∃ m', m' < m ∧ W (i + 1) m' H') ∧ ∀ x H', J.yld i H x H' → g x (wipe σ vs) H' fun σ2 H2 => wipe σ2 vs = wipe σ vs ∧ tt σ2 H2 fun b H3 =>
    if b = true then tk σ2 H3 fun y H4 => tv σ2 H4 fun z H5 => ∃ kvs k, y = kV k ∧ H5 D = some (.dK kvs) ∧ kvs.length < sizeLine ∧ Nx (upd H5 D (.dK (putK kvs k z))) else Nx H3)) : tDc wi g tt tk tv vs σ H Q := h
/-- the dict made over what is walked -/
theorem dc_it {J : It} {n : Nat} {G : Hp → Prop} {Y : Nat → Hp → V → Hp → Prop} (w : Walk J n G Y) {g : TG} {tt : TT} {tk tv : TE} {vs : List Nat} {σ : L2.St} {H1 : Hp} {D : Addr} {Qd : Hp → Prop} (Pv : Nat → Hp → Prop) (h0 : Pv 0 (upd H1 D (.dK []))) (hG : ∀ i H, i ≤ n → Pv i H → G H)
    (hs : ∀ i x H H', i < n → Pv i H → Y i H x H' → g x (wipe σ vs) H' fun σ2 H2 => wipe σ2 vs = wipe σ vs ∧ tt σ2 H2 fun b H3 =>
      if b = true then tk σ2 H3 fun y H4 => tv σ2 H4 fun z H5 => ∃ kvs k, y = kV k ∧ H5 D = some (.dK kvs) ∧ kvs.length < sizeLine ∧ Pv (i + 1) (upd H5 D (.dK (putK kvs k z))) else Pv (i + 1) H3) (hd : ∀ H, Pv n H → Qd H) :
    ∃ W : Nat → Nat → Hp → Prop, (∃ m, W 0 m (upd H1 D (.dK []))) ∧ ∀ i m H, W i m H →
      (J.stop i H ∧ Qd H) ∨ (J.go i H ∧ ∃ Nx : Hp → Prop, (∀ H', Nx H' → ∃ m', m' < m ∧ W (i + 1) m' H') ∧ ∀ x H', J.yld i H x H' → g x (wipe σ vs) H' fun σ2 H2 => wipe σ2 vs = wipe σ vs ∧ tt σ2 H2 fun b H3 =>
        if b = true then tk σ2 H3 fun y H4 => tv σ2 H4 fun z H5 => ∃ kvs k, y = kV k ∧ H5 D = some (.dK kvs) ∧ kvs.length < sizeLine ∧ Nx (upd H5 D (.dK (putK kvs k z))) else Nx H3) := by
  refine ⟨fun i m H => m = n - i ∧ i ≤ n ∧ Pv i H, ⟨n, by simp, Nat.zero_le _, h0⟩, ?_⟩
  rintro i m H ⟨rfl, hi, p⟩
  have q := hG i H hi p
  by_cases hlt : i < n
  · refine .inr ⟨w.goes i H hlt q, fun H' => Pv (i + 1) H', fun H' h' => ⟨n - (i + 1), by omega, rfl, by omega, h'⟩, fun x H' hy => ?_⟩
    exact hs i x H H' hlt p (w.yields i H x H' hlt q hy)
  · have e : i = n := by omega
    subst e
    exact .inl ⟨w.stops H q, hd H p⟩
/-- where p stands among some places -/
def posOf (os : List Nat) (p : Nat) : Option Nat := os.findIdx? (· == p)
theorem posOf_snoc (os : List Nat) (q p : Nat) (h : q ∉ os) : posOf (os ++ [q]) p = if p = q then some os.length else posOf os p := by
  unfold posOf
  rw [List.findIdx?_append]
  by_cases e : p = q
  · subst e
    rw [if_pos rfl]
    have n : os.findIdx? (· == p) = none := List.findIdx?_eq_none_iff.mpr fun x hx => by
      simp only [beq_eq_false_iff_ne]
      exact fun z => h (z ▸ hx)
    rw [n]; simp
  · rw [if_neg e]
    have : [q].findIdx? (· == p) = none := by
      rw [List.findIdx?_eq_none_iff]
      intro x hx
      rw [List.mem_singleton.mp hx]
      simp only [beq_eq_false_iff_ne]
      exact fun z => e z.symm
    rw [this]; simp
def cutTie (os : List Nat) (t : Tie) : Option Tie := (posOf os t.1).bind fun a => (posOf os t.2.1).map fun b => (a, b, t.2.2)
/-- the web of some places alone, called by their order -/
def cutL (w : Web) (os : List Nat) : Web := (os.map fun p => w.1.getD p 0, w.2.filterMap (cutTie os))
/-! ### name = {k: v for ..} on one line -/
section
variable {X : Cx}
theorem sw_dict {kx vx : Expr} {gs : List Comprehension} {scope : Scope} {pos py : Pos} {y : Str} {l : Nat} {env : Env} (hk : env.scope.kind = .function) (hy : env.scope.names.lookup y = some .local) (hl : (py.line == pos.line) = true)
    (ha : (scope.names.any fun (n, k) => n == y && (k == .local || k == .cell)) = false) : swapsWith (.DictComp kx vx gs scope pos) (some (.Name y py)) l env = pure true := by
  have e1 : env.blockKind = .function := by rw [Env.blockKind, hk]; rfl
  have e2 : env.kindOf y = some .local := hy
  simp only [swapsWith, e1, e2, ha, Expr.pos, hl]
  rfl
theorem ps_setDc {i : Nat} {y : Str} {py : Pos} {kx vx tg iter : Expr} {ifs : List Expr} {scope : Scope} {own : List (Str × Nat)} {pos spos : Pos} {wi : TI} {g : TG} {tt : TT} {tk tv : TE} (hc : X.calm = true) (hN : X.N.Nodup) (hy : X.N[i]? = some y)
    (hyl : X.env.scope.names.lookup y = some .local) (hsw : swapsWith (.DictComp kx vx [⟨tg, iter, ifs, 0⟩] scope pos) (some (.Name y py)) spos.line X.env = pure true) (hi : PI X tg iter wi) (ok : BlkOk X.N X.env.scope scope own)
    (hg : ∀ (s : Shared) (H : Hp) (C : Addr) (cl : List (Str × Addr)) (fp : List Addr), PG (X.blk s H scope (compEnvC scope cl C X.env) fp) tg g)
    (ht : ∀ (s : Shared) (H : Hp) (C : Addr) (cl : List (Str × Addr)) (fp : List Addr), PTs (X.blk s H scope (compEnvC scope cl C X.env) fp) ifs tt)
    (hkx : ∀ (s : Shared) (H : Hp) (C : Addr) (cl : List (Str × Addr)) (fp : List Addr), PE (X.blk s H scope (compEnvC scope cl C X.env) fp) kx tk)
    (hvx : ∀ (s : Shared) (H : Hp) (C : Addr) (cl : List (Str × Addr)) (fp : List Addr), PE (X.blk s H scope (compEnvC scope cl C X.env) fp) vx tv) (hs : ∀ x, foldedSetIterable iter X.env x = pure x := by intro _; rfl) :
    PS X (.Assign [.Name y py] (.DictComp kx vx [⟨tg, iter, ifs, 0⟩] scope pos) spos) (tAsg (tDc wi g tt tk tv (own.map (·.2))) (gName i)) := by
  refine ⟨fun pins s σ H D I h => ?_⟩
  have h : tDc wi g tt tk tv (own.map (·.2)) σ H (fun x H1 => gName i x σ H1 D.nx) := h
  rw [exec_Assign_Name_used _ _ _ _ hsw]
  refine wpAny_bind (wpAny_standAt (wpAny_bind ?_))
  refine wpAny_bind (thn (dc_core (Qf := fun _ s' => SP X pins D .next s') hc hN I hi ok hg ht hkx hvx hs h fun L C s' m H' I' q hn f => ?_) fun _ s' hq => wpAny_pure (wpAny_pure hq))
  refine wpAny_assign_Name (store_ok2 (v := V.ref L) I' hN hy (.inl hyl) rfl (fun s2 I2 ⟨a, sb, ha⟩ => ?_) (.inr hyl))
  obtain ⟨f0, f1, f2, f3, f4, f5⟩ := f
  have ne : C ≠ a := ha.elim (fun z => z ▸ f1) fun z e => f4 y a z e.symm
  exact ⟨m, hn.sameBut sb ne, fun h3 sb3 => ⟨_, H', I2.turned (t' := s2.toks) (fun b o hb e => (sb3.2 b hb).trans e) f0 f1 f3 f4 f5, q⟩⟩
end
theorem nat_list {ns : List Int} {qs : List Nat} (pm : ns.Perm (zs qs)) : ∃ os : List Nat, ns = zs os ∧ os.Perm qs := by
  have h : ∀ n ∈ ns, ((n.toNat : Nat) : Int) = n := fun n hn => by
    obtain ⟨q, _, rfl⟩ := List.mem_map.mp (pm.mem_iff.mp hn)
    rfl
  have e : ns = zs (ns.map Int.toNat) := by
    unfold zs
    rw [List.map_map]
    exact (List.map_id ns).symm.trans (List.map_congr_left fun n hn => (h n hn).symm)
  refine ⟨ns.map Int.toNat, e, ?_⟩
  have z := pm.map Int.toNat
  have e2 : (zs qs).map Int.toNat = qs := by
    unfold zs
    rw [List.map_map]
    exact (List.map_congr_left fun n _ => (rfl : (Int.toNat ∘ fun o : Nat => (o : Int)) n = id n)).trans (List.map_id qs)
  rwa [e2] at z
theorem cutTie_snoc {os : List Nat} {ts : List Tie} {i : Nat} {t : Tie} (h : ts[i]? = some t) : (ts.take (i + 1)).filterMap (cutTie os) = (ts.take i).filterMap (cutTie os) ++ (cutTie os t).toList := by
  rw [take_snoc h, List.filterMap_append]
  cases e : cutTie os t with
  | none => rw [List.filterMap_cons_none e]; rfl
  | some x => rw [List.filterMap_cons_some e]; rfl
end Cw

/-! cuts: their ties, their neighbours, cuts of cuts -/
namespace Cw
open PySem PySem.Spec PyProof.Rows L2
theorem posOf_iff {os : List Nat} (nd : os.Nodup) {p i : Nat} : posOf os p = some i ↔ os[i]? = some p := by
  unfold posOf
  rw [List.findIdx?_eq_some_iff_getElem]
  constructor
  · rintro ⟨h, e, _⟩
    rw [List.getElem?_eq_getElem h, beq_iff_eq.mp e]
  · intro h
    obtain ⟨h1, h2⟩ := List.getElem?_eq_some_iff.mp h
    refine ⟨h1, beq_iff_eq.mpr h2, fun j hj => ?_⟩
    have : os[j] ≠ p := fun z => by
      have z2 : os[j] = os[i] := z.trans h2.symm
      have := (List.getElem_inj nd).mp z2
      omega
    simpa using this
theorem posOf_none {os : List Nat} {p : Nat} : posOf os p = none ↔ p ∉ os := by
  unfold posOf
  rw [List.findIdx?_eq_none_iff]
  constructor
  · intro h z
    have := h p z
    simp at this
  · intro h x hx
    simp only [beq_eq_false_iff_ne]
    exact fun z => h (z ▸ hx)
theorem rise_nodup {os : List Nat} (s : os.Pairwise (· < ·)) : os.Nodup := s.imp fun h => Nat.ne_of_lt h
theorem cutTie_some {os : List Nat} (nd : os.Nodup) {t s : Tie} : cutTie os t = some s ↔ os[s.1]? = some t.1 ∧ os[s.2.1]? = some t.2.1 ∧ s.2.2 = t.2.2 := by
  unfold cutTie
  rw [Option.bind_eq_some_iff]
  constructor
  · rintro ⟨a, h1, h2⟩
    obtain ⟨b, h3, h4⟩ := Option.map_eq_some_iff.mp h2
    subst h4
    exact ⟨(posOf_iff nd).mp h1, (posOf_iff nd).mp h3, rfl⟩
  · rintro ⟨h1, h2, h3⟩
    refine ⟨s.1, (posOf_iff nd).mpr h1, ?_⟩
    rw [(posOf_iff nd).mpr h2]
    show some (s.1, s.2.1, t.2.2) = some s
    rw [← h3]
theorem cutTie_at {os : List Nat} (nd : os.Nodup) {i j p q : Nat} (hi : os[i]? = some p) (hj : os[j]? = some q) (t : Tie) : ((cutTie os t).any (at2 i j)) = at2 p q t := by
  rw [Bool.eq_iff_iff, at2_iff]
  constructor
  · intro h
    obtain ⟨s, h1, h2⟩ := (Option.any_eq_true _ _).mp h
    obtain ⟨a, b, _⟩ := (cutTie_some nd).mp h1
    rcases at2_iff.mp h2 with ⟨e1, e2⟩ | ⟨e1, e2⟩
    · rw [e1, hi] at a; rw [e2, hj] at b
      exact .inl ⟨(Option.some.inj a).symm, (Option.some.inj b).symm⟩
    · rw [e1, hj] at a; rw [e2, hi] at b
      exact .inr ⟨(Option.some.inj a).symm, (Option.some.inj b).symm⟩
  · rintro (⟨e1, e2⟩ | ⟨e1, e2⟩)
    · exact (Option.any_eq_true _ _).mpr ⟨(i, j, t.2.2), (cutTie_some nd).mpr ⟨by rw [e1]; exact hi, by rw [e2]; exact hj, rfl⟩, at2_iff.mpr (.inl ⟨rfl, rfl⟩)⟩
    · exact (Option.any_eq_true _ _).mpr ⟨(j, i, t.2.2), (cutTie_some nd).mpr ⟨by rw [e1]; exact hj, by rw [e2]; exact hi, rfl⟩, at2_iff.mpr (.inr ⟨rfl, rfl⟩)⟩
theorem tieL_cut {u : Web} {os : List Nat} (nd : os.Nodup) {i j p q : Nat} (hi : os[i]? = some p) (hj : os[j]? = some q) : tieL (cutL u os).2 i j = tieL u.2 p q := by
  unfold tieL cutL
  dsimp only
  rw [List.find?_filterMap]
  have e : (fun a => (cutTie os a).any (at2 i j)) = at2 p q := funext fun t => cutTie_at nd hi hj t
  rw [e]
  cases h : u.2.find? (at2 p q) with
  | none => rfl
  | some t =>
    have h1 : at2 p q t = true := List.find?_some h
    rw [← cutTie_at nd hi hj] at h1
    obtain ⟨s, h2, _⟩ := (Option.any_eq_true _ _).mp h1
    show (cutTie os t).map (·.2.2) = some t.2.2
    rw [h2]
    exact congrArg some ((cutTie_some nd).mp h2).2.2
theorem at_rise {os : List Nat} (s : os.Pairwise (· < ·)) {i j p q : Nat} (hi : os[i]? = some p) (hj : os[j]? = some q) : i < j ↔ p < q := by
  obtain ⟨h1, rfl⟩ := List.getElem?_eq_some_iff.mp hi
  obtain ⟨h2, rfl⟩ := List.getElem?_eq_some_iff.mp hj
  have s' := List.pairwise_iff_getElem.mp s
  constructor
  · intro h
    exact s' i j h1 h2 h
  · intro h
    rcases Nat.lt_trichotomy i j with c | c | c
    · exact c
    · subst c; omega
    · have := s' j i h2 h1 c; omega
theorem cutL_ok {u : Web} (U : WOk u) {os : List Nat} (s : os.Pairwise (· < ·)) (b : ∀ p ∈ os, p < u.1.length) : WOk (cutL u os) := by
  have nd := rise_nodup s
  have lo : os.length ≤ u.1.length := nodup_len _ _ nd b
  have l40 := U.few
  refine ⟨by unfold cutL; rw [List.length_map]; omega, ?_, fun c hc => ?_, ?_, fun t ht => ?_⟩
  · have := List.length_filterMap_le (cutTie os) u.2
    have := U.most
    unfold cutL
    dsimp only
    omega
  · unfold cutL at hc
    obtain ⟨p, hp, rfl⟩ := List.mem_map.mp hc
    have := b p hp
    rw [List.getD_eq_getElem?_getD, List.getElem?_eq_getElem this]
    exact U.kinds _ (List.getElem_mem _)
  · unfold cutL
    dsimp only
    refine List.Pairwise.filterMap (cutTie os) (fun a a' h x hx y hy => ?_) U.rise
    obtain ⟨x1, x2, _⟩ := (cutTie_some nd).mp (Option.mem_def.mp hx)
    obtain ⟨y1, y2, _⟩ := (cutTie_some nd).mp (Option.mem_def.mp hy)
    unfold tlt at *
    rcases h with h | ⟨h1, h2⟩
    · exact .inl ((at_rise s x1 y1).mpr h)
    · right
      refine ⟨?_, (at_rise s x2 y2).mpr h2⟩
      rw [h1] at x1
      have e1 := (posOf_iff nd).mpr x1
      have e2 := (posOf_iff nd).mpr y1
      rw [e1] at e2
      exact Option.some.inj e2
  · unfold cutL at ht ⊢
    dsimp only at ht ⊢
    obtain ⟨t0, h0, h1⟩ := List.mem_filterMap.mp ht
    obtain ⟨a, b', c⟩ := (cutTie_some nd).mp h1
    obtain ⟨d, e, f⟩ := U.ends t0 h0
    refine ⟨(at_rise s a b').mpr d, ?_, by rw [c]; exact f⟩
    rw [List.length_map]
    exact (List.getElem?_eq_some_iff.mp b').1
theorem nb_cut {u : Web} (U : WOk u) {os : List Nat} (s : os.Pairwise (· < ·)) (b : ∀ p ∈ os, p < u.1.length) {i p : Nat} (hi : os[i]? = some p) :
    (nb (cutL u os).2 i).map (fun j => os.getD j 0) = (nb u.2 p).filter fun q => decide (q ∈ os) := by
  have nd := rise_nodup s
  have C := cutL_ok U s b
  have lc : (cutL u os).1.length = os.length := by unfold cutL; rw [List.length_map]
  have mem : ∀ j, j ∈ nb (cutL u os).2 i ↔ ∃ q, os[j]? = some q ∧ q ∈ nb u.2 p := fun j => by
    rw [nb_eq C, nb_eq U, List.mem_filter, List.mem_range, lc]
    constructor
    · rintro ⟨h1, h2⟩
      have hj := List.getElem?_eq_getElem h1
      refine ⟨_, hj, List.mem_filter.mpr ⟨List.mem_range.mpr (b _ (List.getElem_mem h1)), ?_⟩⟩
      rw [← tieL_cut nd hi hj]
      exact h2
    · rintro ⟨q, h1, h2⟩
      refine ⟨(List.getElem?_eq_some_iff.mp h1).1, ?_⟩
      rw [tieL_cut nd hi h1]
      exact (List.mem_filter.mp h2).2
  have getD : ∀ {j q}, os[j]? = some q → os.getD j 0 = q := fun {j q} h => by rw [List.getD_eq_getElem?_getD, h]; rfl
  refine sorted_ext ?_ ((nb_rise U.rise (fun t ht => (U.ends t ht).1) p).filter _) fun x => ?_
  · rw [List.pairwise_map]
    refine (nb_rise C.rise (fun t ht => (C.ends t ht).1) i).imp_of_mem fun {x y} hx hy h => ?_
    obtain ⟨q1, h1, _⟩ := (mem x).mp hx
    obtain ⟨q2, h2, _⟩ := (mem y).mp hy
    rw [getD h1, getD h2]
    exact (at_rise s h1 h2).mp h
  · rw [List.mem_map, List.mem_filter, decide_eq_true_eq]
    constructor
    · rintro ⟨j, h1, rfl⟩
      obtain ⟨q, h2, h3⟩ := (mem j).mp h1
      rw [getD h2]
      exact ⟨h3, List.mem_of_getElem? h2⟩
    · rintro ⟨h1, h2⟩
      obtain ⟨j, hj⟩ := List.getElem?_of_mem h2
      exact ⟨j, (mem j).mpr ⟨x, hj, h1⟩, getD hj⟩
theorem posOf_comp {os ls : List Nat} (no : os.Nodup) (nl : ls.Nodup) (b : ∀ k ∈ ls, k < os.length) (x : Nat) : posOf (ls.map fun k => os.getD k 0) x = (posOf os x).bind (posOf ls) := by
  have getD : ∀ {j}, (h : j < os.length) → os.getD j 0 = os[j] := fun {j} h => by rw [List.getD_eq_getElem?_getD, List.getElem?_eq_getElem h]; rfl
  have nm : (ls.map fun k => os.getD k 0).Nodup := by
    unfold List.Nodup
    rw [List.pairwise_map]
    refine nl.imp_of_mem fun {x y} hx hy h z => h ?_
    rw [getD (b x hx), getD (b y hy)] at z
    exact (List.getElem_inj no).mp z
  refine Option.ext fun i => ?_
  rw [posOf_iff nm, Option.bind_eq_some_iff, List.getElem?_map, Option.map_eq_some_iff]
  constructor
  · rintro ⟨k, h1, h2⟩
    have hk := b k (List.mem_of_getElem? h1)
    rw [getD hk] at h2
    refine ⟨k, (posOf_iff no).mpr (by rw [List.getElem?_eq_getElem hk, h2]), (posOf_iff nl).mpr h1⟩
  · rintro ⟨k, h1, h2⟩
    have h1 := (posOf_iff no).mp h1
    refine ⟨k, (posOf_iff nl).mp h2, ?_⟩
    rw [List.getD_eq_getElem?_getD, h1]; rfl
theorem cut_cut (u : Web) {os ls : List Nat} (no : os.Nodup) (nl : ls.Nodup) (b : ∀ k ∈ ls, k < os.length) : cutL (cutL u os) ls = cutL u (ls.map fun k => os.getD k 0) := by
  unfold cutL
  refine Prod.ext ?_ ?_
  · dsimp only
    rw [List.map_map]
    refine List.map_congr_left fun k hk => ?_
    have := b k hk
    simp [List.getD_eq_getElem?_getD, this]
  · dsimp only
    rw [List.filterMap_filterMap]
    congr 1
    funext t
    unfold cutTie
    rw [posOf_comp no nl b, posOf_comp no nl b]
    cases posOf os t.1 <;> cases posOf os t.2.1 <;> simp
end Cw

/-! parts of webs with a tie more, of webs without ties, of cuts -/
namespace Cw
open PySem PySem.Spec PyProof.Rows L2
theorem rch_nil {a b : Nat} : Rch [] a b ↔ a = b := by
  constructor
  · intro h
    induction h with
    | base => rfl
    | step _ m _ => simp [nb] at m
  · rintro rfl
    exact .base
theorem partsL_none (cs : List Nat) : partsL (cs, []) = (List.range cs.length).map fun a => [a] := by
  have l : ∀ a, Lst (cs, []) a := fun a b h => by
    have := rch_nil.mp h
    omega
  have e : leastsL (cs, []) cs.length = List.range cs.length := by
    unfold leastsL
    exact List.filter_eq_self.mpr fun a _ => dec_true (l a)
  unfold partsL partsN
  dsimp only
  rw [e]
  refine List.map_congr_left fun a ha => ?_
  have ha' := List.mem_range.mp ha
  refine sorted_ext (partL_rise _ _) (by simp) fun x => ?_
  unfold partL
  rw [List.mem_filter, dec_iff, List.mem_range, List.mem_singleton]
  constructor
  · rintro ⟨_, h⟩
    exact (rch_nil.mp h).symm
  · rintro rfl
    exact ⟨ha', .base⟩
/-- a tie more, between x and y -/
structure More (u u' : Web) (x y : Nat) : Prop where
  lt : x ≠ y
  same : u'.1.length = u.1.length
  adj : ∀ p q, q ∈ nb u'.2 p ↔ q ∈ nb u.2 p ∨ (p = x ∧ q = y) ∨ (p = y ∧ q = x)
section
variable {u u' : Web} {x y : Nat}
theorem More.swap (M : More u u' x y) : More u u' y x := ⟨M.lt.symm, M.same, fun p q => by rw [M.adj]; exact ⟨fun h => h.elim .inl fun h => .inr h.symm, fun h => h.elim .inl fun h => .inr h.symm⟩⟩
theorem More.up (M : More u u' x y) {a b : Nat} (h : Rch u.2 a b) : Rch u'.2 a b := by
  induction h with
  | base => exact .base
  | step _ m ih => exact ih.step ((M.adj _ _).mpr (.inl m))
theorem More.iff (M : More u u' x y) {a b : Nat} : Rch u'.2 a b ↔ Rch u.2 a b ∨ (Rch u.2 a x ∧ Rch u.2 y b) ∨ (Rch u.2 a y ∧ Rch u.2 x b) := by
  constructor
  · intro h
    induction h with
    | base => exact .inl .base
    | step _ m ih =>
      rcases (M.adj _ _).mp m with m | ⟨rfl, rfl⟩ | ⟨rfl, rfl⟩
      · rcases ih with h | ⟨h1, h2⟩ | ⟨h1, h2⟩
        · exact .inl (h.step m)
        · exact .inr (.inl ⟨h1, h2.step m⟩)
        · exact .inr (.inr ⟨h1, h2.step m⟩)
      · rcases ih with h | ⟨h1, h2⟩ | ⟨h1, h2⟩
        · exact .inr (.inl ⟨h, .base⟩)
        · exact .inr (.inl ⟨h1, .base⟩)
        · exact .inl h1
      · rcases ih with h | ⟨h1, h2⟩ | ⟨h1, h2⟩
        · exact .inr (.inr ⟨h, .base⟩)
        · exact .inl h1
        · exact .inr (.inr ⟨h1, .base⟩)
  · have s1 : Rch u'.2 x y := Rch.base.step ((M.adj _ _).mpr (.inr (.inl ⟨rfl, rfl⟩)))
    have s2 : Rch u'.2 y x := Rch.base.step ((M.adj _ _).mpr (.inr (.inr ⟨rfl, rfl⟩)))
    rintro (h | ⟨h1, h2⟩ | ⟨h1, h2⟩)
    · exact M.up h
    · exact ((M.up h1).trans s1).trans (M.up h2)
    · exact ((M.up h1).trans s2).trans (M.up h2)
/-- it lies within a part: nothing changes -/
theorem More.within (U : WOk u) (M : More u u' x y) (r : Rch u.2 x y) {a b : Nat} : Rch u'.2 a b ↔ Rch u.2 a b := by
  rw [M.iff]
  constructor
  · rintro (h | ⟨h1, h2⟩ | ⟨h1, h2⟩)
    · exact h
    · exact (h1.trans r).trans h2
    · exact (h1.trans (r.symm U)).trans h2
  · exact .inl
end
/-- each place has a least one -/
theorem least_of {u : Web} (U : WOk u) (a : Nat) : ∃ l, Rch u.2 a l ∧ Lst u l := by
  have h : ∀ n a, a ≤ n → ∃ l, Rch u.2 a l ∧ Lst u l := by
    intro n
    induction n with
    | zero =>
      intro a h
      exact ⟨a, .base, fun b _ => by omega⟩
    | succ n ih =>
      intro a h
      rcases Classical.em (Lst u a) with c | c
      · exact ⟨a, .base, c⟩
      · obtain ⟨b, h1, h2⟩ := (seen_iff U).mpr c
        obtain ⟨l, h3, h4⟩ := ih b (by omega)
        exact ⟨l, (h2.symm U).trans h3, h4⟩
  exact h a a (Nat.le_refl _)
section
variable {u u' : Web} {x y lx ly : Nat}
/-- it joins two parts: the greater of the least places is least no more -/
theorem More.least (U : WOk u) (M : More u u' x y) (h1 : Rch u.2 x lx) (h2 : Lst u lx) (h3 : Rch u.2 y ly) (h4 : Lst u ly) (lt : lx < ly) (a : Nat) : Lst u' a ↔ Lst u a ∧ a ≠ ly := by
  constructor
  · intro h
    refine ⟨fun b hb => h b (M.up hb), ?_⟩
    rintro rfl
    have := h lx (M.iff.mpr (.inr (.inr ⟨h3.symm U, h1⟩)))
    omega
  · rintro ⟨h, ne⟩ b hb
    rcases M.iff.mp hb with hb | ⟨b1, b2⟩ | ⟨b1, b2⟩
    · exact h b hb
    · have e : a = lx := lst_uniq U h h2 (b1.trans h1)
      have := h4 b ((h3.symm U).trans b2)
      omega
    · exact absurd (lst_uniq U h h4 (b1.trans h3)) ne
theorem leasts_filter (U : WOk u) (M : More u u' x y) (h1 : Rch u.2 x lx) (h2 : Lst u lx) (h3 : Rch u.2 y ly) (h4 : Lst u ly) (lt : lx < ly) (n : Nat) : leastsL u' n = (leastsL u n).filter fun a => decide (a ≠ ly) := by
  unfold leastsL
  rw [List.filter_filter]
  refine List.filter_congr fun a _ => ?_
  rw [Bool.eq_iff_iff, dec_iff, Bool.and_eq_true, dec_iff, decide_eq_true_eq, M.least U h1 h2 h3 h4 lt a]
  exact And.comm
theorem filter_one {l : List Nat} (s : l.Pairwise (· < ·)) {a : Nat} (h : a ∈ l) : (l.filter fun b => decide (b ≠ a)).length + 1 = l.length := by
  induction l with
  | nil => cases h
  | cons b r ih =>
    have sr := (List.pairwise_cons.mp s)
    by_cases c : b = a
    · subst c
      rw [List.filter_cons_of_neg (by simp)]
      rw [List.filter_eq_self.mpr fun z hz => by
        have := sr.1 z hz
        simp; omega]
      rfl
    · rw [List.filter_cons_of_pos (by simpa using c)]
      have := ih sr.2 (by
        rcases List.mem_cons.mp h with h | h
        · exact absurd h.symm c
        · exact h)
      simp only [List.length_cons]
      omega
/-- a tie more: as many parts, or one fewer -/
theorem More.count (U : WOk u) (M : More u u' x y) (hx : x < u.1.length) (hy : y < u.1.length) : (partsL u').length ≤ (partsL u).length ∧ (partsL u).length ≤ (partsL u').length + 1 := by
  have len : ∀ w : Web, (partsL w).length = (leastsL w w.1.length).length := fun w => by unfold partsL partsN; rw [List.length_map]
  rw [len, len, M.same]
  obtain ⟨lx, h1, h2⟩ := least_of U x
  obtain ⟨ly, h3, h4⟩ := least_of U y
  have go : ∀ {x y lx ly}, More u u' x y → y < u.1.length → Rch u.2 x lx → Lst u lx → Rch u.2 y ly → Lst u ly → lx < ly → (leastsL u' u.1.length).length + 1 = (leastsL u u.1.length).length := fun {x y lx ly} M hy h1 h2 h3 h4 lt => by
    rw [leasts_filter U M h1 h2 h3 h4 lt]
    refine filter_one (leasts_rise u _) ?_
    unfold leastsL
    exact List.mem_filter.mpr ⟨List.mem_range.mpr (h3.lt U hy), dec_true h4⟩
  rcases Nat.lt_trichotomy lx ly with c | c | c
  · have := go M hy h1 h2 h3 h4 c
    omega
  · subst c
    have r : Rch u.2 x y := h1.trans (h3.symm U)
    have e : leastsL u' u.1.length = leastsL u u.1.length := by
      unfold leastsL
      refine List.filter_congr fun a _ => dec_congr ?_
      unfold Lst
      exact ⟨fun h b hb => h b ((M.within U r).mpr hb), fun h b hb => h b ((M.within U r).mp hb)⟩
    rw [e]
    omega
  · have := go M.swap hx h3 h4 h1 h2 c
    omega
end
/-! ### without one place -/
theorem rch_cut {u : Web} (U : WOk u) {os : List Nat} (s : os.Pairwise (· < ·)) (b : ∀ p ∈ os, p < u.1.length) {i p : Nat} (hi : os[i]? = some p) {j : Nat} (h : Rch (cutL u os).2 i j) : ∃ q, os[j]? = some q ∧ Rch u.2 p q := by
  induction h with
  | base => exact ⟨p, hi, .base⟩
  | step _ m ih =>
    obtain ⟨q, h1, h2⟩ := ih
    have e := nb_cut U s b h1
    have m' := List.mem_map_of_mem (f := fun j => os.getD j 0) m
    rw [e, List.mem_filter, decide_eq_true_eq] at m'
    have C := cutL_ok U s b
    have lt := (nb_lt C m).2
    have lc : (cutL u os).1.length = os.length := by unfold cutL; rw [List.length_map]
    rw [lc] at lt
    rename_i r _ _
    have hr := List.getElem?_eq_getElem lt
    refine ⟨_, hr, h2.step ?_⟩
    have z := m'.1
    rw [List.getD_eq_getElem?_getD, hr] at z
    exact z
theorem rch_cut' {u : Web} (U : WOk u) {os : List Nat} (s : os.Pairwise (· < ·)) (b : ∀ p ∈ os, p < u.1.length) {i p : Nat} (hi : os[i]? = some p) (all : ∀ q, Rch u.2 p q → q ∈ os) {q : Nat} (h : Rch u.2 p q) : ∃ j, os[j]? = some q ∧ Rch (cutL u os).2 i j := by
  induction h with
  | base => exact ⟨i, hi, .base⟩
  | step h0 m ih =>
    obtain ⟨j, h1, h2⟩ := ih
    rename_i r z
    have hz := all _ (h0.step m)
    have e := nb_cut U s b h1
    have mz : z ∈ (nb u.2 r).filter fun q => decide (q ∈ os) := List.mem_filter.mpr ⟨m, decide_eq_true hz⟩
    rw [← e] at mz
    obtain ⟨k, h3, h4⟩ := List.mem_map.mp mz
    have C := cutL_ok U s b
    have lt := (nb_lt C h3).2
    have lc : (cutL u os).1.length = os.length := by unfold cutL; rw [List.length_map]
    rw [lc] at lt
    have hk := List.getElem?_eq_getElem lt
    refine ⟨k, ?_, h2.step h3⟩
    have h4' : os.getD k 0 = z := h4
    rw [List.getD_eq_getElem?_getD, hk] at h4'
    rw [hk]
    exact congrArg some h4'
/-- a part all of whose places stay is a part of the cut -/
theorem part_cut {u : Web} (U : WOk u) {os : List Nat} (s : os.Pairwise (· < ·)) (b : ∀ p ∈ os, p < u.1.length) {l : Nat} (hl : Lst u l) (ll : l < u.1.length) (all : ∀ q, Rch u.2 l q → q ∈ os) : partL u l ∈ (partsL (cutL u os)).map fun p => p.map fun j => os.getD j 0 := by
  obtain ⟨i, hi⟩ := List.getElem?_of_mem (all l .base)
  have C := cutL_ok U s b
  have lc : (cutL u os).1.length = os.length := by unfold cutL; rw [List.length_map]
  have ii := (List.getElem?_eq_some_iff.mp hi).1
  have li : Lst (cutL u os) i := fun j hj => by
    obtain ⟨q, h1, h2⟩ := rch_cut U s b hi hj
    have := hl q h2
    rcases Nat.lt_or_ge j i with c | c
    · have := (at_rise s h1 hi).mp c
      omega
    · exact c
  have getD : ∀ {j q}, os[j]? = some q → os.getD j 0 = q := fun {j q} h => by rw [List.getD_eq_getElem?_getD, h]; rfl
  refine List.mem_map.mpr ⟨partL (cutL u os) i, ?_, ?_⟩
  · unfold partsL partsN
    refine List.mem_map.mpr ⟨i, ?_, rfl⟩
    unfold leastsL
    exact List.mem_filter.mpr ⟨List.mem_range.mpr (by omega), dec_true li⟩
  · have mem : ∀ j, j ∈ partL (cutL u os) i ↔ Rch (cutL u os).2 i j := fun j => mem_partL C (by omega)
    refine sorted_ext ?_ (partL_rise u l) fun x => ?_
    · rw [List.pairwise_map]
      refine (partL_rise _ _).imp_of_mem fun {x y} hx hy h => ?_
      obtain ⟨q1, h1, _⟩ := rch_cut U s b hi ((mem x).mp hx)
      obtain ⟨q2, h2, _⟩ := rch_cut U s b hi ((mem y).mp hy)
      rw [getD h1, getD h2]
      exact (at_rise s h1 h2).mp h
    · rw [List.mem_map, mem_partL U ll]
      constructor
      · rintro ⟨j, h1, rfl⟩
        obtain ⟨q, h2, h3⟩ := rch_cut U s b hi ((mem j).mp h1)
        rw [getD h2]
        exact h3
      · intro h
        obtain ⟨j, h1, h2⟩ := rch_cut' U s b hi all h
        exact ⟨j, (mem j).mpr h2, getD h1⟩
end Cw

/-! webs that hang together; what one comes to, as a list that grows -/
namespace Cw
open PySem PySem.Spec PyProof.Rows L2
def Joined (w : Web) : Prop := ∀ a b, a < w.1.length → b < w.1.length → Rch w.2 a b
theorem partsL_len (w : Web) : (partsL w).length = (leastsL w w.1.length).length := by
  unfold partsL partsN
  rw [List.length_map]
theorem joined_iff {w : Web} (W : WOk w) : (partsL w).length < 2 ↔ Joined w := by
  rw [partsL_len]
  constructor
  · intro h a b ha hb
    obtain ⟨x, r1, l1⟩ := least_of W a
    obtain ⟨y, r2, l2⟩ := least_of W b
    have m1 : x ∈ leastsL w w.1.length := List.mem_filter.mpr ⟨List.mem_range.mpr (Rch.lt W r1 ha), dec_true l1⟩
    have m2 : y ∈ leastsL w w.1.length := List.mem_filter.mpr ⟨List.mem_range.mpr (Rch.lt W r2 hb), dec_true l2⟩
    have e : x = y := by
      match hl : leastsL w w.1.length, h with
      | [], _ => rw [hl] at m1; cases m1
      | [z], _ =>
        rw [hl] at m1 m2
        rw [List.mem_singleton.mp m1, List.mem_singleton.mp m2]
      | _ :: _ :: _, h => simp at h; omega
    exact r1.trans (e ▸ Rch.symm W r2)
  · intro h
    refine Decidable.byContradiction fun c => ?_
    have s := leasts_rise w w.1.length
    match hl : leastsL w w.1.length, c with
    | [], c => simp at c
    | [z], c => simp at c
    | x :: y :: r, _ =>
      have m1 := mem_leasts (w := w) (n := w.1.length) (x := x) (by rw [hl]; exact List.mem_cons_self)
      have m2 := mem_leasts (w := w) (n := w.1.length) (x := y) (by rw [hl]; exact List.mem_cons_of_mem _ List.mem_cons_self)
      have e := lst_uniq W m1.2 m2.2 (h x y m1.1 m2.1)
      rw [hl] at s
      have := (List.pairwise_cons.mp s).1 y List.mem_cons_self
      omega
theorem rch_map {X Y : Web} {f : Nat → Nat} (adj : ∀ a b, b ∈ nb X.2 a → f b ∈ nb Y.2 (f a)) {a b : Nat} (h : Rch X.2 a b) : Rch Y.2 (f a) (f b) := by
  induction h with
  | base => exact .base
  | step _ k ih => exact .step ih (adj _ _ k)
theorem joined_map {X Y : Web} (f : Nat → Nat) (adj : ∀ a b, b ∈ nb X.2 a → f b ∈ nb Y.2 (f a)) (onto : ∀ b, b < Y.1.length → ∃ a, a < X.1.length ∧ f a = b) (h : Joined X) : Joined Y := fun a b ha hb => by
  obtain ⟨a', la, rfl⟩ := onto a ha
  obtain ⟨b', lb, rfl⟩ := onto b hb
  exact rch_map adj (h a' b' la lb)
end Cw

/-! sorted() of a tuple of triples -/
namespace Cw
open PySem PySem.Spec PyProof.Rows L2 Srt SrtO
section
variable {prog : Program} {w : World} {A : Around} {E : Value → Shared → Prop} {s : Shared}
theorem sorted_ordT {l : Addr} {o : Obj} {n : Nat} {vs : List Value} {ltv : Value → Value → Bool} {Q : Value → Shared → Prop} (O : SrtO.Swo ltv) (ho : s.heap.get? l = some o) (hc : o.cls = .type "tuple") (hd : o.data = .seq vs.toArray n) (hz : vs.length ≤ sizeLine)
    (hS : 2 ≤ vs.length → ∀ (h₁ : Heap) (a : Addr), h₁.get? a = some (seqObj "list" vs.toArray 0) → (∀ b o, s.heap.get? b = some o → b ≠ a ∧ h₁.get? b = some o) → SrtO.SortableO prog w A.in1.in1 { s with heap := h₁ } a vs ltv)
    (h : ∀ (h1 h' : Heap) (out : List Value), SrtO.Srtd ltv out → SrtO.Stb ltv out vs → (∀ b o, s.heap.get? b = some o → h1.get? b = some o) → (∀ b o, h1.get? b = some o → h'.get? b = some o) → (∃ n, h'.get? h1.objs.size = some (seqObj "list" out.toArray n)) → Q (.ref h1.objs.size) { s with heap := h' }) :
    wpAny (model prog w) A (call (.builtin "sorted") [.ref l]) Q E s := by
  refine Calls.call_function_entry kind_sorted plain_sorted entry_sorted (args_sorted1 _) ?_
  unfold Builtin.«sorted»
  refine wpAny_bind (m := checkCount "sorted" 1 1 _) (wpAny_pure ?_)
  refine wpAny_bind (PySem.wpAny_collect_seq l (.inr rfl) ho hc hd (fun h1 k1 => ?_) (by simpa using hz))
  rw [show vs.toArray.toList = vs by simp]
  refine wpAny_bind (wpAny_newList ?_ hz)
  have hoL : (h1.push (seqObj "list" vs.toArray 0)).get? h1.objs.size = some (seqObj "list" vs.toArray 0) := Heap.get?_push_size _ rfl
  have keep : ∀ b o, s.heap.get? b = some o → b ≠ h1.objs.size ∧ (h1.push (seqObj "list" vs.toArray 0)).get? b = some o := fun b o q =>
    ⟨Nat.ne_of_lt (Heap.lt_size (k1 _ _ q)), Heap.get?_push_of_some _ (k1 _ _ q)⟩
  show wpAny _ _ _ _ _ { s with heap := h1.push (seqObj "list" vs.toArray 0) }
  refine wpAny_bind (wpAny_holding (wpAny_call_entry slot_list_sort ⟨_, hoL, rfl⟩ entry_list_sort (SrtO.list_sort_ord O hoL hz (fun h2 => hS h2 _ _ hoL keep) fun out hs hb => ⟨_, rfl, ?_⟩) (args_list_sort _)))
  refine wpAny_pure ⟨_, rfl, h h1 _ out hs hb k1 (fun b o q => ?_) (sortedHeap_at hoL)⟩
  rw [sortedHeap_old (Nat.ne_of_lt (Heap.lt_size q)) (by rw [size_push']; exact Nat.lt_succ_of_lt (Heap.lt_size q))]
  exact Heap.get?_push_of_some _ q
theorem sorted_trisT {l : Addr} {o : Obj} {n : Nat} {vs : List Value} {k : Value → Tri} {Q : Value → Shared → Prop} (ho : s.heap.get? l = some o) (hc : o.cls = .type "tuple") (hd : o.data = .seq vs.toArray n) (hz : vs.length ≤ sizeLine) (hp : ∀ v ∈ vs, IsTri s.heap v (k v))
    (h : ∀ (h1 h' : Heap) (out : List Value), SrtO.Srtd (fun v u => lexT (k v) (k u)) out → out.Perm vs → (∀ b o, s.heap.get? b = some o → h1.get? b = some o) → (∀ b o, h1.get? b = some o → h'.get? b = some o) → (∃ n, h'.get? h1.objs.size = some (seqObj "list" out.toArray n)) → Q (.ref h1.objs.size) { s with heap := h' }) :
    wpAny (model prog w) A (call (.builtin "sorted") [.ref l]) Q E s := by
  refine sorted_ordT (swo_T k) ho hc hd hz (fun h2 h₁ a ha kk => tri_sortable (s := { s with heap := h₁ }) (by omega) (fun v hm => (hp v hm).keeps fun b o e _ => (kk b o e).2) fun o e c => ?_) fun h1 h' out hs hb k1 kp at_ => h h1 h' out hs hb.perm k1 kp at_
  have e' : some o = some (seqObj "list" vs.toArray 0) := e.symm.trans ha
  cases e'
  exact absurd (Value.type.inj c) (by decide)
end
theorem triV_inj {p q : Tri} (h : triV p = triV q) : p = q := by
  unfold triV at h
  simp only [List.cons.injEq, V.int.injEq, V.str.injEq] at h
  obtain ⟨h1, h2, h3, _⟩ := h
  exact Prod.ext h1 (Prod.ext h2 (sg_inj.mp h3))
/-- sorted(ties) of a tuple -/
def rSorted3T (K : PySem.W.Frag) : List V → Hp → VK → Prop := fun vs H Q => ∃ (a : Addr) (es : List (Addr × Tri)), vs = [V.ref a] ∧ SqT K H a (es.map fun e => V.ref e.1) ∧ (∀ e ∈ es, SqT K H e.1 (triV e.2)) ∧
  ∀ (es' : List (Addr × Tri)) p, es'.Perm es → (es'.map (·.2)).Pairwise (fun x y => lexT y x = false) → H p = none → Q (.ref p) (upd H p (.lst (es'.map fun e => V.ref e.1)))
section
variable {X : Cx}
theorem cr_sorted3T : CallR X (.builtin "sorted") (rSorted3T X.K) := by
  intro pins s σ H vs us Q I r h
  obtain ⟨a, es, rfl, hs, hx, q⟩ := h
  obtain ⟨its, rv, ⟨o0, g0, c0, n0, d0⟩, hz⟩ := I.tuple hs
  obtain ⟨u, rfl, ru⟩ := vals1 r
  obtain rfl : u = Value.ref a := ru
  -- the items, by their addresses
  have eits : its = es.map fun e => Value.ref e.1 := by
    have : ∀ {xs : List (Addr × Tri)} {us : List Value}, Vals (xs.map fun e => V.ref e.1) us → us = xs.map fun e => Value.ref e.1 := by
      intro xs
      induction xs with
      | nil => intro us r; cases r; rfl
      | cons x xs ih =>
        intro us r
        cases r with
        | cons r1 r2 => rw [ih r2, (show _ = Value.ref x.1 from r1)]; rfl
    exact this rv
  -- the key, read off the heap
  let kA : Addr → Tri := fun b => ((es.find? fun e => e.1 == b).map (·.2)).getD (0, 0, 0)
  have kA_eq : ∀ e ∈ es, kA e.1 = e.2 := fun e he => by
    show ((es.find? fun e' => e'.1 == e.1).map (·.2)).getD (0, 0, 0) = e.2
    cases hf : es.find? fun e' => e'.1 == e.1 with
    | none => exact absurd (beq_self_eq_true e.1) (by simpa using List.find?_eq_none.mp hf e he)
    | some e' =>
      have h1 : e'.1 = e.1 := by simpa using List.find?_some hf
      have h2 := hx e' (List.mem_of_find?_eq_some hf)
      rw [h1] at h2
      exact triV_inj (I.tuple_inj h2 (hx e he))
  let kV' : Value → Tri := fun v => match v with
    | .ref b => kA b
    | _ => (0, 0, 0)
  refine sorted_trisT (k := kV') g0 c0 d0 (by rw [← rv.length]; exact hz) (fun v hv => ?_) fun h0 h' out h1 h2 kp1 kp hn => ?_
  · rw [eits] at hv
    obtain ⟨e, he, rfl⟩ := List.mem_map.mp hv
    obtain ⟨its2, r2, ⟨o, ho, hc, n, hd⟩, _⟩ := I.tuple (hx e he)
    have ek : kV' (Value.ref e.1) = e.2 := kA_eq e he
    rw [ek]
    cases r2 with
    | cons ra rr =>
      cases rr with
      | cons rb rr =>
        cases rr with
        | cons rc rr =>
          cases rr
          obtain ⟨t1, rfl⟩ := ra
          obtain ⟨t2, rfl⟩ := rb
          obtain ⟨t3, rfl⟩ := rc
          exact ⟨e.1, o, t1, t2, t3, n, rfl, ho, hc, hd⟩
  · obtain ⟨n, hn⟩ := hn
    rw [eits] at h2
    have hmem : ∀ v ∈ out, ∃ e ∈ es, v = Value.ref e.1 := fun v hv => by
      obtain ⟨e, he, e'⟩ := List.mem_map.mp (h2.mem_iff.mp hv)
      exact ⟨e, he, e'.symm⟩
    -- back to pairs
    let back : Value → Addr × Tri := fun v => match v with
      | .ref b => (b, kA b)
      | _ => (0, (0, 0, 0))
    have p1 : (out.map back).Perm es := by
      have z := h2.map back
      rw [List.map_map] at z
      have e2 : es.map (back ∘ fun e => Value.ref e.1) = es := by
        conv => rhs; rw [← List.map_id es]
        refine List.map_congr_left fun e he => ?_
        show (e.1, kA e.1) = e
        rw [kA_eq e he]
      rw [e2] at z
      exact z
    have e3 : (out.map back).map (fun e => V.ref e.1) = out.map backV := by
      rw [List.map_map]
      refine List.map_congr_left fun v hv => ?_
      obtain ⟨e, he, rfl⟩ := hmem v hv
      rfl
    have srt : ((out.map back).map (·.2)).Pairwise (fun x y => lexT y x = false) := by
      rw [List.map_map, List.pairwise_map]
      refine h1.imp_of_mem fun {x y} hx' hy' hxy => ?_
      obtain ⟨e, he, rfl⟩ := hmem x hx'
      obtain ⟨e', he', rfl⟩ := hmem y hy'
      exact hxy
    have I1 : Inv X pins σ H { s with heap := h0 } := I.kept (t' := s.toks) kp1
    have g := q (out.map back) h0.objs.size p1 srt (I1.hok.fresh (Nat.le_refl _))
    rw [e3] at g
    have hzo : (out.map backV).length ≤ sizeLine := by
      rw [List.length_map, h2.length_eq, List.length_map]
      rw [List.length_map] at hz
      exact hz
    have hvb : Vals (out.map backV) out := vals_back fun u hu => by
      obtain ⟨e, he, rfl⟩ := hmem u hu
      exact ⟨_, rfl⟩
    exact ⟨.ref h0.objs.size, upd H h0.objs.size (.lst (out.map backV)), I1.laid (t' := s.toks) kp (Nat.le_refl _) (show ObjOk X.prog X.w _ _ _ (.lst (out.map backV)) from ⟨hzo, out, n, hvb, hn⟩), rfl, g⟩

end
end Cw

/-! sorted() of a list of ties as they lie -/
namespace Cw
open PySem PySem.Spec PyProof.Rows L2 Srt SrtO
/-- sorted(ties) of a list, the ties as they lie -/
def rSorted3S (K : PySem.W.Frag) : List V → Hp → VK → Prop := fun vs H Q => ∃ (a : Addr) (es : List (Addr × Tri)), vs = [V.ref a] ∧ SqL K H a (es.map fun e => V.ref e.1) ∧ (∀ e ∈ es, SqT K H e.1 (triV e.2)) ∧
  ∀ (es' : List (Addr × Tri)) p, es'.Perm es → (es'.map (·.2)).Pairwise (fun x y => lexT y x = false) → H p = none → Q (.ref p) (upd H p (.lst (es'.map fun e => V.ref e.1)))
section
variable {X : Cx}
theorem cr_sorted3S : CallR X (.builtin "sorted") (rSorted3S X.K) := by
  intro pins s σ H vs us Q I r h
  obtain ⟨a, es, rfl, hs, hx, q⟩ := h
  obtain ⟨its, rv, hl, hz⟩ := I.list hs
  obtain ⟨u, rfl, ru⟩ := vals1 r
  obtain rfl : u = Value.ref a := ru
  -- the items, by their addresses
  have eits : its = es.map fun e => Value.ref e.1 := by
    have : ∀ {xs : List (Addr × Tri)} {us : List Value}, Vals (xs.map fun e => V.ref e.1) us → us = xs.map fun e => Value.ref e.1 := by
      intro xs
      induction xs with
      | nil => intro us r; cases r; rfl
      | cons x xs ih =>
        intro us r
        cases r with
        | cons r1 r2 => rw [ih r2, (show _ = Value.ref x.1 from r1)]; rfl
    exact this rv
  -- the key, read off the heap
  let kA : Addr → Tri := fun b => ((es.find? fun e => e.1 == b).map (·.2)).getD (0, 0, 0)
  have kA_eq : ∀ e ∈ es, kA e.1 = e.2 := fun e he => by
    show ((es.find? fun e' => e'.1 == e.1).map (·.2)).getD (0, 0, 0) = e.2
    cases hf : es.find? fun e' => e'.1 == e.1 with
    | none => exact absurd (beq_self_eq_true e.1) (by simpa using List.find?_eq_none.mp hf e he)
    | some e' =>
      have h1 : e'.1 = e.1 := by simpa using List.find?_some hf
      have h2 := hx e' (List.mem_of_find?_eq_some hf)
      rw [h1] at h2
      exact triV_inj (I.tuple_inj h2 (hx e he))
  let kV' : Value → Tri := fun v => match v with
    | .ref b => kA b
    | _ => (0, 0, 0)
  refine sorted_tris (k := kV') hl.isList (by rw [← rv.length]; exact hz) (fun v hv => ?_) fun h' d out h1 h2 kp hd hn => ?_
  · rw [eits] at hv
    obtain ⟨e, he, rfl⟩ := List.mem_map.mp hv
    obtain ⟨its2, r2, ⟨o, ho, hc, n, hd⟩, _⟩ := I.tuple (hx e he)
    have ek : kV' (Value.ref e.1) = e.2 := kA_eq e he
    rw [ek]
    cases r2 with
    | cons ra rr =>
      cases rr with
      | cons rb rr =>
        cases rr with
        | cons rc rr =>
          cases rr
          obtain ⟨t1, rfl⟩ := ra
          obtain ⟨t2, rfl⟩ := rb
          obtain ⟨t3, rfl⟩ := rc
          exact ⟨e.1, o, t1, t2, t3, n, rfl, ho, hc, hd⟩
  · obtain ⟨n, hn⟩ := hn
    rw [eits] at h2
    have hmem : ∀ v ∈ out, ∃ e ∈ es, v = Value.ref e.1 := fun v hv => by
      obtain ⟨e, he, e'⟩ := List.mem_map.mp (h2.mem_iff.mp hv)
      exact ⟨e, he, e'.symm⟩
    -- back to pairs
    let back : Value → Addr × Tri := fun v => match v with
      | .ref b => (b, kA b)
      | _ => (0, (0, 0, 0))
    have p1 : (out.map back).Perm es := by
      have z := h2.map back
      rw [List.map_map] at z
      have e2 : es.map (back ∘ fun e => Value.ref e.1) = es := by
        conv => rhs; rw [← List.map_id es]
        refine List.map_congr_left fun e he => ?_
        show (e.1, kA e.1) = e
        rw [kA_eq e he]
      rw [e2] at z
      exact z
    have e3 : (out.map back).map (fun e => V.ref e.1) = out.map backV := by
      rw [List.map_map]
      refine List.map_congr_left fun v hv => ?_
      obtain ⟨e, he, rfl⟩ := hmem v hv
      rfl
    have srt : ((out.map back).map (·.2)).Pairwise (fun x y => lexT y x = false) := by
      rw [List.map_map, List.pairwise_map]
      refine h1.imp_of_mem fun {x y} hx' hy' hxy => ?_
      obtain ⟨e, he, rfl⟩ := hmem x hx'
      obtain ⟨e', he', rfl⟩ := hmem y hy'
      exact hxy
    have g := q (out.map back) d p1 srt (I.hok.fresh hd)
    rw [e3] at g
    have hzo : (out.map backV).length ≤ sizeLine := by
      rw [List.length_map, h2.length_eq, List.length_map]
      rw [List.length_map] at hz
      exact hz
    have hvb : Vals (out.map backV) out := vals_back fun u hu => by
      obtain ⟨e, he, rfl⟩ := hmem u hu
      exact ⟨_, rfl⟩
    exact ⟨.ref d, upd H d (.lst (out.map backV)), I.laid (t' := s.toks) kp hd (show ObjOk X.prog X.w _ _ _ (.lst (out.map backV)) from ⟨hzo, out, n, hvb, hn⟩), rfl, g⟩
end
end Cw

/-! zip of a text and a list, in a loop -/
namespace Cw
open PySem PySem.Spec PyProof.Rows L2
/-- a sign of the text and an item of the list, in a new pair -/
def Itzs (K : PySem.W.Frag) (x : Str) (b : Addr) : It :=
  ⟨fun i H => i < x.cps.size ∧ ∃ ys, SqL K H b ys ∧ i < ys.length,
    fun i H v H' => ∃ T y c, v = .ref T ∧ H T = none ∧ H' = upd H T (.tup [.str ⟨#[c]⟩, y]) ∧ x.cps[i]? = some c ∧ ∀ ys, SqL K H b ys → ys[i]? = some y,
    fun i H => ∃ ys, SqL K H b ys ∧ i ≤ x.cps.size ∧ i ≤ ys.length ∧ (i = x.cps.size ∨ i = ys.length)⟩
theorem sep_five {z TI TO i1 i2 c : Addr} : c ∈ [z, TI, TO, i1, i2] ↔ c = z ∨ c = TI ∨ c = TO ∨ c = i1 ∨ c = i2 := by simp
theorem turn_zipS {P : Program} {w : World} {K : PySem.W.Frag} {es : List Expr} {q : Nat} {ps : Pos} {b z TI TO i1 i2 : Addr} {x : Str} {t : Tok} (S : ZipSep2 z TI TO i1 i2 [i1] [i2, b]) :
    Turn P w K (.Tuple es q ps) (Itzs K x b) [z, TI, TO, i1, i2] z (fun i h => IsZip h z TI TO .none ∧ IsTupOf2 h TI (.ref i1) (.ref i2) ∧ (∃ u v, IsTupOf2 h TO u v) ∧ h.IsStrIter i1 (strIterType x) x t i ∧ h.IsListIter i2 b i) := by
  have i2z : i2 ≠ z := fun e => S.zf2 (by rw [e]; exact List.mem_cons_self)
  have i1z : i1 ≠ z := fun e => S.zf1 (by rw [e]; exact List.mem_cons_self)
  have i2b : b ≠ i2 → True := fun _ => trivial
  refine ⟨List.mem_cons_self, fun i h st c hc => ?_, fun i h h' st k => ?_, ?_, ?_, fun A i s Q E st h => wpAny_pyIter_zip st.1 h⟩
  · obtain ⟨a1, a2, ⟨u, v, a3⟩, ⟨o1, e1, _, d1⟩, ⟨o2, e2, _, d2⟩⟩ := st
    rcases sep_five.mp hc with rfl | rfl | rfl | rfl | rfl
    · exact ⟨_, a1, fun v z => nomatch z⟩
    · exact ⟨_, a2, fun v z => nomatch z⟩
    · exact ⟨_, a3, fun v z => nomatch z⟩
    · exact ⟨o1, e1, fun v z => by rw [d1] at z; cases z⟩
    · exact ⟨o2, e2, fun v z => by rw [d2] at z; cases z⟩
  · obtain ⟨a1, a2, ⟨u, v, a3⟩, ⟨o1, e1, r1⟩, a5⟩ := st
    exact ⟨k _ (sep_five.mpr (.inl rfl)) _ a1, k _ (sep_five.mpr (.inr (.inl rfl))) _ a2, ⟨u, v, k _ (sep_five.mpr (.inr (.inr (.inl rfl)))) _ a3⟩, ⟨o1, k _ (sep_five.mpr (.inr (.inr (.inr (.inl rfl))))) _ e1, r1⟩, a5.at fun o e => k _ (sep_five.mpr (.inr (.inr (.inr (.inr rfl))))) o e⟩
  · intro X hP hw hK hc i pins s σ H E I hf st hg
    subst hP hw hK
    obtain ⟨a1, a2, ⟨u0, v0, a3⟩, a4, a5⟩ := st
    obtain ⟨hi, ys, hq, hlt⟩ := hg
    obtain ⟨its, rv, p, _⟩ := I.list hq
    have lr := rv.length
    have hh : X.A.in1.handled = none := I.ok.hd hc
    have zl : z < s.heap.objs.size := Heap.lt_size a1
    have bi : b ≠ i2 := fun e => by
      obtain ⟨o2, e2, c2, _⟩ := a5
      obtain ⟨o3, e3, c3, _⟩ := p.isList
      rw [e, e2] at e3
      cases e3
      rw [c2] at c3
      exact absurd (Value.type.inj c3) (by decide)
    refine wpAny_pyNext_zipD2_item S (Draws.text hh i1 x t) (Draws.list hh i2 b bi its.toArray) a1 a2 a3 a4 ⟨a5, p.isList⟩ hi (by simp; omega) fun x1 x2 h' tk y1 y2 b1 b2 d1 d2 b5 b6 hk => ?_
    obtain ⟨c, u, hcx, rfl⟩ := y1
    obtain ⟨u2, hu2, ru2⟩ := rv.get (List.getElem?_eq_getElem hlt)
    have eu : u2 = x2 := by
      have y2' : its[i]? = some x2 := by simpa using y2
      rw [hu2] at y2'
      exact Option.some.inj y2'
    subst eu
    refine ⟨_, rfl, wpAny_letOwnedTupleGo_zip (s := { s with heap := h', toks := tk }) b1 fun h2 z2 sb => ?_⟩
    have off : ∀ c, c ≠ z → ∀ o, h'.get? c = some o → h2.get? c = some o := fun c n o e => (sb.2 c n).trans e
    have T2 := off _ (Nat.ne_of_gt zl) _ b5
    have new : ObjOk X.prog X.w (upd H s.heap.objs.size (.tup [.str ⟨#[c]⟩, ys[i]])) h2 s.heap.objs.size (.tup [.str ⟨#[c]⟩, ys[i]]) :=
      ⟨by show 2 ≤ sizeLine; decide, _, .cons ⟨u, rfl⟩ (.cons ru2 .nil), ⟨_, T2, rfl, _, rfl⟩⟩
    have I1 : Inv X pins σ (upd H s.heap.objs.size (.tup [.str ⟨#[c]⟩, ys[i]])) { s with heap := h2, toks := tk } :=
      I.turnedNew (t' := tk) (ch := [z, TI, TO, i1, i2]) (fun d o hd e => by
        have n := fun w => hd (sep_five.mpr w)
        exact off d (fun q => n (.inl q)) o (hk d o (fun q => n (.inl q)) (fun q => n (.inr (.inr (.inl q)))) (fun q => n (.inr (.inr (.inr (.inl q))))) (fun q => n (.inr (.inr (.inr (.inr q))))) e)) hf (Nat.le_refl _) new
    refine ⟨.ref s.heap.objs.size, _, I1, rfl, ⟨_, ys[i], c, rfl, I.hok.fresh (Nat.le_refl _), rfl, hcx, fun l hl => by rw [I.list_inj hl hq]; exact List.getElem?_eq_getElem hlt⟩, ⟨z2, ?_, ⟨_, _, off _ S.TOz _ b2⟩, ?_, ?_⟩, fun d hd => ?_⟩
    · exact off _ S.TIz _ (hk _ _ S.TIz S.TITO S.TIi1 S.TIi2 a2)
    · obtain ⟨o1, e1, r1⟩ := d1
      exact ⟨o1, off _ i1z _ e1, r1⟩
    · exact d2.1.at fun o e => off _ i2z o e
    · have dl : d < s.heap.objs.size := by
        rcases sep_five.mp hd with rfl | rfl | rfl | rfl | rfl
        · exact zl
        · exact Heap.lt_size a2
        · exact Heap.lt_size a3
        · obtain ⟨_, e, _⟩ := a4; exact Heap.lt_size e
        · obtain ⟨_, e, _⟩ := a5; exact Heap.lt_size e
      rw [upd_ne (Nat.ne_of_lt dl)]
      exact (hf d hd).1
  · intro X hP hw hK hc i pins s σ H E I hf st hg
    subst hP hw hK
    obtain ⟨a1, a2, ⟨u0, v0, a3⟩, a4, a5⟩ := st
    obtain ⟨ys, hq, l1, l2, he⟩ := hg
    obtain ⟨its, rv, p, _⟩ := I.list hq
    have lr := rv.length
    have hh : X.A.in1.handled = none := I.ok.hd hc
    have bi : b ≠ i2 := fun e => by
      obtain ⟨o2, e2, c2, _⟩ := a5
      obtain ⟨o3, e3, c3, _⟩ := p.isList
      rw [e, e2] at e3
      cases e3
      rw [c2] at c3
      exact absurd (Value.type.inj c3) (by decide)
    refine wpAny_pyNext_zipD2_end S (Draws.text hh i1 x t) (Draws.list hh i2 b bi its.toArray) a1 a2 a3 a4 ⟨a5, p.isList⟩ l1 (by simp; omega) (by simp; omega) fun h' tk hk => ⟨rfl, I.turnedL (t' := tk) (ch := [z, TI, TO, i1, i2]) (fun d o hd e => ?_) hf⟩
    have n := fun w => hd (sep_five.mpr w)
    exact hk d o (fun q => n (.inl q)) (fun q => n (.inr (.inr (.inl q)))) (fun q => n (.inr (.inr (.inr (.inl q))))) (fun q => n (.inr (.inr (.inr (.inr q))))) e
theorem nm1 {x y : Nat} (h : x ≠ y) : x ∉ [y] := by simp; omega
theorem nm2 {x y z : Nat} (h : x ≠ y) (h2 : x ≠ z) : x ∉ [y, z] := by simp; omega
theorem sep_mk (n b : Nat) (hb : b < n) : ZipSep2 (n + 4) (n + 2) (n + 3) n (n + 1) [n] [n + 1, b] :=
  { TIz := (by omega : n + 2 ≠ n + 4), TOz := (by omega : n + 3 ≠ n + 4), TITO := (by omega : n + 2 ≠ n + 3), TIi1 := (by omega : n + 2 ≠ n), mem1 := List.mem_cons_self, zf1 := nm1 (by omega), Tf1 := nm1 (by omega),
    TIi2 := (by omega : n + 2 ≠ n + 1), mem2 := List.mem_cons_self, zf2 := nm2 (by omega) (by omega), Tf2 := nm2 (by omega) (by omega), sep1_2 := nm2 (by omega) (by omega), sep2_1 := nm1 (by omega) }
def iZipS (K : PySem.W.Frag) (ta : TA) : TI := fun σ H R => ta σ H fun vs H1 => ∃ x b ys, vs = [.str x, .ref b] ∧ SqL K H1 b ys ∧ R (Itzs K x b) H1
theorem pi_zipS {X : Cx} {e e2 : Expr} {ta : TA} {p pos tpos : Pos} {elts : List Expr} {kk : Nat} (hg : Gl X "zip") (hm : X.mg "zip" = none) (ha : PA X [e, e2] ta)
    (h1 : starEach [e, e2] X.env = (false, eval e X.env) :: starEach [e2] X.env := by rfl) (h2 : (backTo pos (starEach [e2] X.env)).any (·.1) = false := by rfl) :
    PI X (.Tuple elts kk tpos) (.Call (.Name "zip" p) [e, e2] [] pos) (iZipS X.K ta) := by
  refine ⟨fun pins s σ H R I h => Call_ (ld_blt I hg hm PyProof.Rows.boot_zip (PyProof.Rows.callWith_type1 (thn (ha.run pos pins s σ H _ I h) fun us s1 ⟨vs, H1, I1, r1, x, b, ys, ex, hq, q⟩ => ?_) h1 h2))⟩
  subst ex
  cases r1 with
  | cons r rr =>
    cases rr with
    | cons r' rr =>
      cases rr
      obtain ⟨t, rfl⟩ := r
      cases r'
      obtain ⟨its, rv, pl, _⟩ := I1.list hq
      have bl : b < s1.heap.objs.size := pl.lt
      refine zip_begins2 (begins_text x t) (begins_list b its.toArray) trivial pl.isList fun h' hz hTI hTO g1 g2 hs hk => wpAny_pyIter_zip hz ?_
      have I2 : Inv X pins σ H1 { s1 with heap := h' } := I1.kept (t' := s1.toks) hk
      have fresh5 : ∀ c, c ∈ [s1.heap.objs.size + 4, s1.heap.objs.size + 2, s1.heap.objs.size + 3, s1.heap.objs.size, s1.heap.objs.size + 1] → FpOk X pins H1 c := fun c hc => by
        have hle : s1.heap.objs.size ≤ c := by
          rcases sep_five.mp hc with z | z | z | z | z
          · rw [z]; exact Nat.le_add_right _ _
          · rw [z]; exact Nat.le_add_right _ _
          · rw [z]; exact Nat.le_add_right _ _
          · rw [z]; exact Nat.le_refl _
          · rw [z]; exact Nat.le_add_right _ _
        exact I1.fpOk hle (I1.hok.fresh hle)
      have sep := sep_mk s1.heap.objs.size b bl
      exact ⟨s1.heap.objs.size + 4, [s1.heap.objs.size + 4, s1.heap.objs.size + 2, s1.heap.objs.size + 3, s1.heap.objs.size, s1.heap.objs.size + 1], _, _, H1, rfl, I2, turn_zipS sep, ⟨hz, hTI, ⟨_, _, hTO⟩, ⟨_, g1, rfl, rfl⟩, ⟨_, g2, rfl, rfl⟩⟩, fresh5, q⟩
theorem walk_zipS {K : PySem.W.Frag} {x : Str} {b : Addr} {ys : List V} (hl : ys.length = x.cps.size) : Walk (Itzs K x b) x.cps.size (fun H => SqL K H b ys) (fun i H v H' => ∃ T y c, v = .ref T ∧ H T = none ∧ H' = upd H T (.tup [.str ⟨#[c]⟩, y]) ∧ x.cps[i]? = some c ∧ ys[i]? = some y) :=
  ⟨fun i H hi q => ⟨hi, ys, q, by omega⟩, fun H q => ⟨ys, q, Nat.le_refl _, by omega, .inl rfl⟩, fun i H v H' hi q y => by
    obtain ⟨T, y', c, h1, h2, h3, h4, h5⟩ := y
    exact ⟨T, y', c, h1, h2, h3, h4, h5 ys q⟩⟩
/-- a text of one sign, so many times -/
def rRepS : R2 := fun x y H Q => ∃ (c n : Nat), x = .str ⟨#[c]⟩ ∧ y = .int (n : Nat) ∧ n ≤ 1000 ∧ Q (.str ⟨(List.replicate n c).toArray⟩) H
theorem fold_one (c : Nat) : ∀ (n : Nat) (a : Array Nat), (List.replicate n (#[c] : Array Nat)).foldl (· ++ ·) a = a ++ (List.replicate n c).toArray
  | 0, a => by simp
  | n + 1, a => by
    rw [List.replicate_succ, List.foldl_cons, fold_one c n, List.replicate_succ]
    apply Array.ext'
    simp
theorem op_repS {X : Cx} : OpR X (binaryOp .Mult) rRepS := by
  intro pins s σ H x y v u Q I rx ry h
  obtain ⟨c, n, rfl, rfl, hn, q⟩ := h
  obtain ⟨t, rfl⟩ := rx
  obtain ⟨t2, rfl⟩ := ry
  have lo : ¬ (n : Int) < -(2 ^ 63 : Int) := by omega
  have hi : ¬ (n : Int) ≥ 2 ^ 63 := by omega
  have l1 : (⟨#[c]⟩ : Str).length = 1 := rfl
  refine PySem.P.mul_str (by rw [decide_eq_false lo, decide_eq_false hi]; rfl) (fun h1 h2 => ?_) (fun h1 h2 => ?_) ?_
  · rw [l1]
    have z : (1 : Int) ≤ (2 ^ 63 - 1) / (n : Int) := Int.le_ediv_of_mul_le (by omega) (by omega)
    omega
  · rw [l1]
    refine decide_eq_false ?_
    have : (n : Int).toNat = n := rfl
    have : (100000 : Nat) ≤ sizeLine := by decide
    omega
  · by_cases h0 : (n : Int) < 1
    · have e : n = 0 := by omega
      subst e
      rw [if_pos h0]
      exact ⟨by decide, .str ⟨#[]⟩, H, I.tok _, ⟨_, rfl⟩, q⟩
    · rw [if_neg h0]
      by_cases h1 : n = 1
      · subst h1
        rw [if_pos (by rfl)]
        exact ⟨.str ⟨#[c]⟩, H, I, ⟨_, rfl⟩, q⟩
      · rw [if_neg (by rw [l1]; simp; omega), show (n : Int).toNat = n from rfl, fold_one]
        refine ⟨?_, .str ⟨#[] ++ (List.replicate n c).toArray⟩, H, I.tok _, ⟨_, rfl⟩, by simpa using q⟩
        show (#[] ++ (List.replicate n c).toArray).size ≤ sizeLine
        have : (100000 : Nat) ≤ sizeLine := by decide
        simp
        omega
/-- a text from behind -/
def tRevS (te : TE) : TE := fun σ H Q => te σ H fun x H1 => ∃ z : Str, x = .str z ∧ z.length ≤ sizeLine ∧ Q (.str ⟨z.cps.toList.reverse.toArray⟩) H1
theorem pe_revS {X : Cx} {e : Expr} {te : TE} {k : Nat} {p1 p2 p3 pos : Pos} (he : PE X e te) : PE X (.Subscript e (.Slice none none (some (.UnaryOp .USub (.Constant (.int 1) k p1) p2)) p3) pos) (tRevS te) := by
  refine ⟨fun pins s σ H Q I h => ?_⟩
  refine Subscript_ (thn (he.run pins s σ H _ I h) fun v s1 ⟨x, H1, I1, r1, q1⟩ => ?_)
  obtain ⟨z, ex, hz, q⟩ := q1
  subst ex
  obtain ⟨t, rfl⟩ := r1
  have hst : PO X (some (.UnaryOp .USub (.Constant (.int 1) k p1) p2)) (tPart (tUn (rU fun i => .int (-i)) (tC (.int 1)))) := po_some (pe_un un_neg pe_int)
  refine wpAny_Slice (thn (po_none.run pins s1 σ H1 (fun o H2 => o = none ∧ H2 = H1) I1 ⟨rfl, rfl⟩) fun vl s2 ⟨l, H2, I2, pl, el, e2⟩ => ?_)
  subst el e2
  refine thn (po_none.run pins s2 σ H2 (fun o H3 => o = none ∧ H3 = H2) I2 ⟨rfl, rfl⟩) fun vu s3 ⟨u, H3, I3, pu, eu, e3⟩ => ?_
  subst eu e3
  refine thn (hst.run pins s3 σ H3 (fun o H4 => o = some (-1) ∧ H4 = H3) I3 ⟨1, rfl, -1, rfl, rfl, rfl⟩) fun vs s4 ⟨o, H4, I4, ps, eo, e4⟩ => ?_
  subst eo e4
  have I5 : Inv X pins σ H4 { s4 with heap := s4.heap.push { cls := .type "slice", data := .fields #[vl, vu, vs] } } := I4.kept (t' := s4.toks) fun b ob q => Heap.get?_push_of_some _ q
  obtain ⟨l, rfl, el⟩ := IsPart.raw pl
  obtain ⟨u, rfl, eu⟩ := IsPart.raw pu
  obtain ⟨st, rfl, est⟩ := IsPart.raw ps
  show wpAny (model X.prog X.w) X.A (subscriptTail e (.Slice none none (some (.UnaryOp .USub (.Constant (.int 1) k p1) p2)) p3) (.str z t) (.ref s4.heap.objs.size)) (EP X pins σ Q) X.xe { s4 with heap := s4.heap.push { cls := .type "slice", data := .fields #[partValue l, partValue u, partValue st] } }
  refine tail_any (ops := [.str z t, .ref s4.heap.objs.size]) (typeIs_str _ z t) (PySem.F.slot_str_getitem.lookup) ?_ (by with_unfolding_all rfl)
  refine wpAny_getItem_str_slice (l := l) (u := u) (st := st) ⟨_, Heap.get?_push_size _ rfl, rfl, rfl⟩ (by rw [est]; rfl) ?_
  unfold sliceMade
  rw [est, if_neg (by simp)]
  have ep : slicePicked z l u st = (List.range z.cps.size).map fun k => z.cps.size - 1 - k := by
    unfold slicePicked
    rw [el, eu, est]
    show sliceRange ((z.cps.size : Int) - 1) (-1) (-1) = _
    exact PySem.W.krv_sliceRange _
  rw [ep, PySem.W.krv_range, List.filterMap_reverse, PySem.W.krv_all]
  refine ⟨?_, .str ⟨z.cps.toList.reverse.toArray⟩, H4, I5.tok _, ⟨_, rfl⟩, q⟩
  show (z.cps.toList.reverse.toArray).size ≤ sizeLine
  have : z.cps.size ≤ sizeLine := hz
  simpa using this
end Cw

/-! what two lists have in common, asked otherwise; sums; degrees by layers -/
namespace Cw
open PySem PySem.Spec PyProof.Rows L2
section
variable {α : Type} [DecidableEq α]
theorem csum_cons (x : α) (xs ys : List α) : csum (x :: xs) ys = if x ∈ ys then csum xs (ys.erase x) + 1 else csum xs (ys.erase x) := rfl
theorem csum_cons_r (y : α) : ∀ (xs ys : List α), csum xs (y :: ys) = if y ∈ xs then csum (xs.erase y) ys + 1 else csum xs ys
  | [], ys => by rw [if_neg (by simp)]; rfl
  | x :: xs, ys => by
    rw [csum_cons]
    by_cases e : x = y
    · subst e
      rw [if_pos List.mem_cons_self, if_pos List.mem_cons_self, List.erase_cons_head, List.erase_cons_head]
    · have e' : ¬ y = x := fun z => e z.symm
      rw [List.erase_cons_tail (by simpa using e'), csum_cons_r y xs (ys.erase x), List.erase_cons_tail (by simpa using e), csum_cons, csum_cons]
      have m1 : (x ∈ y :: ys) ↔ x ∈ ys := by simp [e]
      have m2 : (y ∈ x :: xs) ↔ y ∈ xs := by simp [e']
      by_cases h1 : x ∈ ys <;> by_cases h2 : y ∈ xs <;> simp [m1, m2, h1, h2]
theorem csum_comm : ∀ (xs ys : List α), csum xs ys = csum ys xs
  | [], ys => by
    induction ys with
    | nil => rfl
    | cons y ys ih => rw [csum_cons, if_neg (by simp)]; exact ih
  | x :: xs, ys => by
    rw [csum_cons, csum_cons_r]
    by_cases h : x ∈ ys
    · rw [if_pos h, if_pos h, csum_comm xs]
    · rw [if_neg h, if_neg h, List.erase_of_not_mem h, csum_comm xs]
theorem csum_perm {xs xs' : List α} (p : xs.Perm xs') : ∀ ys : List α, csum xs ys = csum xs' ys := by
  induction p with
  | nil => exact fun _ => rfl
  | cons x _ ih =>
    intro ys
    rw [csum_cons, csum_cons, ih]
  | swap x y l =>
    intro ys
    by_cases e : x = y
    · rw [e]
    · have e' : ¬ y = x := fun z => e z.symm
      rw [csum_cons, csum_cons, csum_cons, csum_cons, List.erase_comm]
      have m1 : (x ∈ ys.erase y) ↔ x ∈ ys := List.mem_erase_of_ne e
      have m2 : (y ∈ ys.erase x) ↔ y ∈ ys := List.mem_erase_of_ne e'
      by_cases h1 : x ∈ ys <;> by_cases h2 : y ∈ ys <;> simp [m1, m2, h1, h2]
  | trans _ _ h1 h2 => exact fun ys => (h1 ys).trans (h2 ys)
theorem csum_self : ∀ xs : List α, csum xs xs = xs.length
  | [] => rfl
  | x :: xs => by rw [csum_cons, if_pos List.mem_cons_self, List.erase_cons_head, csum_self xs]; rfl
theorem csum_le_r (xs ys : List α) : csum xs ys ≤ ys.length := by rw [csum_comm]; exact csum_le ys xs
theorem csum_rep (c : α) : ∀ m n : Nat, csum (List.replicate m c) (List.replicate n c) = min m n
  | 0, n => by show 0 = _; omega
  | m + 1, 0 => by rw [csum_comm]; show 0 = _; omega
  | m + 1, n + 1 => by
    rw [List.replicate_succ, List.replicate_succ, csum_cons, if_pos List.mem_cons_self, List.erase_cons_head, csum_rep c m n]
    omega
theorem csum_more (x : α) (xs ys : List α) : csum xs ys ≤ csum (xs ++ [x]) ys ∧ csum (xs ++ [x]) ys ≤ csum xs ys + 1 := by
  rw [csum_snoc]
  split <;> omega
theorem csum_less {xs : List α} {i : Nat} (h : i < xs.length) (ys : List α) : csum (xs.eraseIdx i) ys ≤ csum xs ys ∧ csum xs ys ≤ csum (xs.eraseIdx i) ys + 1 := by
  have p : xs.Perm (xs.eraseIdx i ++ [xs[i]]) := ((erase_perm xs i h).symm).trans (List.perm_append_comm (l₁ := [xs[i]]))
  rw [csum_perm p]
  exact csum_more _ _ _
end
/-! ### sums -/
section
variable {α β : Type}
def sumN (l : List α) (f : α → Nat) : Nat := (l.map f).sum
theorem sumN_nil (f : α → Nat) : sumN [] f = 0 := rfl
theorem sumN_cons (x : α) (l : List α) (f : α → Nat) : sumN (x :: l) f = f x + sumN l f := by unfold sumN; rw [List.map_cons, List.sum_cons]
theorem sumN_app (l m : List α) (f : α → Nat) : sumN (l ++ m) f = sumN l f + sumN m f := by unfold sumN; rw [List.map_append, List.sum_append]
theorem sumN_le {f g : α → Nat} : ∀ {l : List α}, (∀ x ∈ l, f x ≤ g x) → sumN l f ≤ sumN l g
  | [], _ => Nat.le_refl _
  | x :: l, h => by
    rw [sumN_cons, sumN_cons]
    have := h x List.mem_cons_self
    have := sumN_le (l := l) fun y hy => h y (List.mem_cons_of_mem _ hy)
    omega
theorem sumN_congr {f g : α → Nat} {l : List α} (h : ∀ x ∈ l, f x = g x) : sumN l f = sumN l g :=
  Nat.le_antisymm (sumN_le fun x hx => Nat.le_of_eq (h x hx)) (sumN_le fun x hx => Nat.le_of_eq (h x hx).symm)
theorem sumN_add (f g : α → Nat) : ∀ l : List α, sumN l (fun x => f x + g x) = sumN l f + sumN l g
  | [] => rfl
  | x :: l => by
    rw [sumN_cons, sumN_cons, sumN_cons, sumN_add f g l]
    omega
theorem sumN_zero {f : α → Nat} {l : List α} (h : ∀ x ∈ l, f x = 0) : sumN l f = 0 := by
  rw [sumN_congr h]
  induction l with
  | nil => rfl
  | cons x l ih => rw [sumN_cons, ih fun y hy => h y (List.mem_cons_of_mem _ hy)]
theorem sumN_swap (f : α → β → Nat) (m : List β) : ∀ l : List α, sumN l (fun x => sumN m (f x)) = sumN m (fun y => sumN l fun x => f x y)
  | [] => (sumN_zero fun _ _ => rfl).symm
  | x :: l => by
    rw [sumN_cons, sumN_swap f m l, ← sumN_add]
    exact sumN_congr fun y _ => (sumN_cons x l fun z => f z y).symm
theorem sumN_perm {l m : List α} (p : l.Perm m) (f : α → Nat) : sumN l f = sumN m f := by
  induction p with
  | nil => rfl
  | cons x _ ih => rw [sumN_cons, sumN_cons, ih]
  | swap x y l => rw [sumN_cons, sumN_cons, sumN_cons, sumN_cons]; omega
  | trans _ _ h1 h2 => exact h1.trans h2
theorem sumN_filter (p : α → Bool) (f : α → Nat) : ∀ l : List α, sumN l f = sumN (l.filter p) f + sumN (l.filter fun x => !p x) f
  | [] => rfl
  | x :: l => by
    rw [sumN_cons, sumN_filter p f l]
    cases h : p x with
    | true => rw [List.filter_cons_of_pos h, List.filter_cons_of_neg (by rw [h]; decide), sumN_cons]; omega
    | false => rw [List.filter_cons_of_neg (by rw [h]; decide), List.filter_cons_of_pos (by rw [h]; decide), sumN_cons]; omega
/-- over the keys that are there, or over all -/
theorem sumN_keys [DecidableEq α] {ks A : List α} (nk : ks.Nodup) (nA : A.Nodup) (sub : ∀ x ∈ ks, x ∈ A) {f : α → Nat} (z : ∀ x, x ∉ ks → f x = 0) : sumN ks f = sumN A f := by
  rw [sumN_filter (fun x => decide (x ∈ ks)) f A, sumN_zero (l := A.filter fun x => !decide (x ∈ ks)) fun x hx => z x (by simpa using (List.mem_filter.mp hx).2), Nat.add_zero]
  refine sumN_perm ((List.perm_ext_iff_of_nodup nk (nA.filter _)).mpr fun x => ?_) f
  rw [List.mem_filter, decide_eq_true_iff]
  exact ⟨fun h => ⟨sub x h, h⟩, fun h => h.2⟩
end
theorem sumN_one {A : List Nat} (nA : A.Nodup) {a : Nat} (ha : a ∈ A) : sumN A (fun x => if x = a then 1 else 0) = 1 := by
  rw [← sumN_keys (ks := [a]) (by simp) nA (by simpa using ha) fun x hx => if_neg (by simpa using hx), sumN_cons, sumN_nil, if_pos rfl]
theorem sumN_below (m : Nat) : ∀ T, m ≤ T → sumN (List.range T) (fun t => if t + 1 ≤ m then 1 else 0) = m := by
  intro T
  induction T with
  | zero => intro h; have : m = 0 := by omega
            subst this; rfl
  | succ T ih =>
    intro h
    rw [List.range_succ, sumN_app, sumN_cons, sumN_nil]
    by_cases e : T + 1 ≤ m
    · have em : m = T + 1 := by omega
      subst em
      rw [if_pos (by omega), sumN_congr (g := fun _ => 1) fun t ht => if_pos (by have := List.mem_range.mp ht; omega)]
      have : ∀ n, sumN (List.range n) (fun _ => 1) = n := fun n => by
        induction n with
        | zero => rfl
        | succ n ih => rw [List.range_succ, sumN_app, ih]; rfl
      rw [this]
    · rw [if_neg e, ih (by omega)]; rfl
/-! ### falling lists, layer by layer -/
def zmin (xs ys : List Nat) : Nat := sumN (xs.zip ys) fun p => min p.1 p.2
def above (xs : List Nat) (t : Nat) : Nat := xs.countP fun x => decide (t + 1 ≤ x)
theorem above_cons (x : Nat) (xs : List Nat) (t : Nat) : above (x :: xs) t = above xs t + if t + 1 ≤ x then 1 else 0 := by
  unfold above
  rw [List.countP_cons]
  simp
theorem above_none {xs : List Nat} {t : Nat} (h : ∀ x ∈ xs, x ≤ t) : above xs t = 0 := List.countP_eq_zero.mpr fun x hx => by have := h x hx; simp; omega
theorem zmin_layers {T : Nat} : ∀ {xs ys : List Nat}, xs.Pairwise (· ≥ ·) → ys.Pairwise (· ≥ ·) → (∀ x ∈ xs, x ≤ T) → zmin xs ys = sumN (List.range T) fun t => min (above xs t) (above ys t)
  | [], ys, _, _, _ => (sumN_zero fun t _ => by show min 0 _ = 0; omega).symm
  | x :: xs, [], _, _, _ => by
    rw [sumN_zero (l := List.range T) fun t _ => by show min _ 0 = 0; omega]
    rfl
  | x :: xs, y :: ys, hx, hy, hT => by
    have r := zmin_layers (List.pairwise_cons.mp hx).2 (List.pairwise_cons.mp hy).2 fun z hz => hT z (List.mem_cons_of_mem _ hz)
    have e : zmin (x :: xs) (y :: ys) = min x y + zmin xs ys := by unfold zmin; rw [List.zip_cons_cons, sumN_cons]
    have hm : min x y ≤ T := by have := hT x List.mem_cons_self; omega
    rw [e, r]
    refine (congrArg (· + _) (sumN_below (min x y) T hm).symm).trans ?_
    rw [← sumN_add]
    refine sumN_congr fun t _ => ?_
    rw [above_cons, above_cons]
    by_cases h1 : t + 1 ≤ x
    · by_cases h2 : t + 1 ≤ y
      · rw [if_pos h1, if_pos h2, if_pos (by omega)]; omega
      · have z : above ys t = 0 := above_none fun v hv => by have := (List.pairwise_cons.mp hy).1 v hv; omega
        rw [if_neg h2, if_neg (by omega), z]; omega
    · have z : above xs t = 0 := above_none fun v hv => by have := (List.pairwise_cons.mp hx).1 v hv; omega
      rw [if_neg h1, if_neg (by omega), z]; omega
/-! ### webs: how many neighbours the places of a kind have -/
def deg (w : Web) (p : Nat) : Nat := (nb w.2 p).length
/-- for each place its kind and how many neighbours it has -/
def kdL (w : Web) : List (Nat × Nat) := (List.range w.1.length).map fun p => (w.1.getD p 0, deg w p)
def dOf (ps : List (Nat × Nat)) (c : Nat) : List Nat := (ps.filter fun x => decide (x.1 = c)).map (·.2)
theorem dOf_snoc (ps : List (Nat × Nat)) (x : Nat × Nat) (c : Nat) : dOf (ps ++ [x]) c = dOf ps c ++ if x.1 = c then [x.2] else [] := by
  unfold dOf
  rw [List.filter_append, List.map_append]
  by_cases h : x.1 = c
  · rw [if_pos h, List.filter_cons_of_pos (by simpa using h)]; rfl
  · rw [if_neg h, List.filter_cons_of_neg (by simpa using h)]; rfl
def cnt (ps : List (Nat × Nat)) (c t : Nat) : Nat := ps.countP fun x => decide (x.1 = c ∧ t + 1 ≤ x.2)
theorem above_dOf (c t : Nat) : ∀ ps : List (Nat × Nat), above (dOf ps c) t = cnt ps c t
  | [] => rfl
  | x :: ps => by
    unfold cnt
    rw [List.countP_cons]
    have r := above_dOf c t ps
    unfold cnt at r
    unfold dOf at r ⊢
    by_cases h : x.1 = c
    · rw [List.filter_cons_of_pos (by simpa using h), List.map_cons, above_cons, r]
      by_cases h2 : t + 1 ≤ x.2 <;> simp [h, h2]
    · rw [List.filter_cons_of_neg (by simpa using h), r]
      simp [h]
theorem above_perm {xs ys : List Nat} (p : xs.Perm ys) (t : Nat) : above xs t = above ys t := p.countP_eq _
@[irreducible] def lets : List Nat := List.range 123
@[irreducible] def lays : List Nat := List.range 1600
theorem lets_mem {c : Nat} : c ∈ lets ↔ c < 123 := by unfold lets; exact List.mem_range
theorem lets_nodup : lets.Nodup := by unfold lets; exact List.nodup_range
theorem lays_below {m : Nat} (h : m ≤ 1600) : sumN lays (fun t => if t + 1 ≤ m then 1 else 0) = m := by unfold lays; exact sumN_below m 1600 h
theorem zmin_lays {xs ys : List Nat} (hx : xs.Pairwise (· ≥ ·)) (hy : ys.Pairwise (· ≥ ·)) (h : ∀ x ∈ xs, x ≤ 1600) : zmin xs ys = sumN lays fun t => min (above xs t) (above ys t) := by
  unfold lays; exact zmin_layers hx hy h
def degS (ps qs : List (Nat × Nat)) : Nat := sumN lets fun c => sumN lays fun t => min (cnt ps c t) (cnt qs c t)
def degB (u v : Web) : Nat := degS (kdL u) (kdL v) / 2
theorem degS_comm (ps qs : List (Nat × Nat)) : degS ps qs = degS qs ps := sumN_congr fun c _ => sumN_congr fun t _ => Nat.min_comm _ _
theorem degS_congr {ps ps' qs : List (Nat × Nat)} (h : ∀ c t, cnt ps c t = cnt ps' c t) : degS ps qs = degS ps' qs := sumN_congr fun c _ => sumN_congr fun t _ => by rw [h]
theorem degS_perm {ps ps' : List (Nat × Nat)} (p : ps.Perm ps') (qs : List (Nat × Nat)) : degS ps qs = degS ps' qs := degS_congr fun c t => p.countP_eq _
theorem degS_bare (ps qs : List (Nat × Nat)) (c : Nat) : degS (ps ++ [(c, 0)]) qs = degS ps qs := degS_congr fun d t => by
  unfold cnt
  rw [List.countP_append]
  simp
/-- all degrees together -/
def tot (ps : List (Nat × Nat)) : Nat := sumN ps (·.2)
theorem cnt_cons (x : Nat × Nat) (ps : List (Nat × Nat)) (c t : Nat) : cnt (x :: ps) c t = cnt ps c t + if x.1 = c ∧ t + 1 ≤ x.2 then 1 else 0 := by
  unfold cnt
  rw [List.countP_cons]
  simp
theorem cnt_tot : ∀ {ps : List (Nat × Nat)}, (∀ x ∈ ps, x.1 < 123 ∧ x.2 ≤ 1600) → sumN lets (fun c => sumN lays fun t => cnt ps c t) = tot ps
  | [], _ => sumN_zero fun c _ => sumN_zero fun t _ => rfl
  | x :: ps, h => by
    obtain ⟨h1, h2⟩ := h x List.mem_cons_self
    have r := cnt_tot (ps := ps) fun y hy => h y (List.mem_cons_of_mem _ hy)
    have e1 : ∀ c, sumN lays (fun t => cnt (x :: ps) c t) = (sumN lays fun t => cnt ps c t) + if c = x.1 then x.2 else 0 := fun c => by
      have e0 : sumN lays (fun t => cnt (x :: ps) c t) = sumN lays fun t => cnt ps c t + if x.1 = c ∧ t + 1 ≤ x.2 then 1 else 0 := sumN_congr fun t _ => cnt_cons x ps c t
      rw [e0, sumN_add (fun t => cnt ps c t) (fun t => if x.1 = c ∧ t + 1 ≤ x.2 then 1 else 0) lays]
      congr 1
      by_cases e : c = x.1
      · have e2 : sumN lays (fun t => if x.1 = c ∧ t + 1 ≤ x.2 then 1 else 0) = sumN lays fun t => if t + 1 ≤ x.2 then 1 else 0 := sumN_congr fun t _ => by simp [e]
        rw [if_pos e, e2]
        exact lays_below h2
      · rw [if_neg e]
        exact sumN_zero fun t _ => if_neg fun z => e z.1.symm
    have e2 : sumN lets (fun c => sumN lays fun t => cnt (x :: ps) c t) = sumN lets fun c => (sumN lays fun t => cnt ps c t) + if c = x.1 then x.2 else 0 := sumN_congr fun c _ => e1 c
    have e3 : sumN lets (fun c => if c = x.1 then x.2 else 0) = x.2 := by
      rw [← sumN_keys (ks := [x.1]) (A := lets) (f := fun c => if c = x.1 then x.2 else 0) (by simp) lets_nodup (fun c hc => by rw [List.mem_singleton.mp hc]; exact lets_mem.mpr h1) fun c hc => if_neg fun z => hc (List.mem_singleton.mpr z)]
      rw [sumN_cons, sumN_nil, if_pos rfl, Nat.add_zero]
    rw [e2, sumN_add (fun c => sumN lays fun t => cnt ps c t) (fun c => if c = x.1 then x.2 else 0) lets, e3, r]
    unfold tot
    rw [sumN_cons]
    omega
theorem degS_self {ps : List (Nat × Nat)} (h : ∀ x ∈ ps, x.1 < 123 ∧ x.2 ≤ 1600) : degS ps ps = tot ps := by
  rw [← cnt_tot h]
  unfold degS
  exact sumN_congr fun c _ => sumN_congr fun t _ => Nat.min_self _
/-- fewer at some places -/
theorem degS_less {ps ps' qs : List (Nat × Nat)} (h : ∀ x ∈ ps, x.1 < 123 ∧ x.2 ≤ 1600) (h' : ∀ x ∈ ps', x.1 < 123 ∧ x.2 ≤ 1600) (l : ∀ c t, cnt ps' c t ≤ cnt ps c t) : degS ps' qs ≤ degS ps qs ∧ degS ps qs + tot ps' ≤ degS ps' qs + tot ps := by
  refine ⟨sumN_le fun c _ => sumN_le fun t _ => by have := l c t; omega, ?_⟩
  have a := cnt_tot h
  have b := cnt_tot h'
  have e : sumN lets (fun c => sumN lays fun t => min (cnt ps c t) (cnt qs c t) + cnt ps' c t) = degS ps qs + tot ps' := by
    rw [← b]
    unfold degS
    rw [← sumN_add (fun c => sumN lays fun t => min (cnt ps c t) (cnt qs c t)) (fun c => sumN lays fun t => cnt ps' c t) lets]
    exact sumN_congr fun c _ => sumN_add _ _ _
  have e' : sumN lets (fun c => sumN lays fun t => min (cnt ps' c t) (cnt qs c t) + cnt ps c t) = degS ps' qs + tot ps := by
    rw [← a]
    unfold degS
    rw [← sumN_add (fun c => sumN lays fun t => min (cnt ps' c t) (cnt qs c t)) (fun c => sumN lays fun t => cnt ps c t) lets]
    exact sumN_congr fun c _ => sumN_add _ _ _
  rw [← e, ← e']
  exact sumN_le fun c _ => sumN_le fun t _ => by have := l c t; omega
/-- of one kind all -/
theorem cnt_alike (k t : Nat) : ∀ {ps : List (Nat × Nat)}, (∀ x ∈ ps, x.1 < 123 ∧ x.2 ≤ 1600) → cnt (ps.map fun x => (k, x.2)) k t = sumN lets fun c => cnt ps c t
  | [], _ => (sumN_zero fun _ _ => rfl).symm
  | x :: ps, h => by
    have r := cnt_alike k t (ps := ps) fun y hy => h y (List.mem_cons_of_mem _ hy)
    have e1 : sumN lets (fun c => cnt (x :: ps) c t) = sumN lets fun c => cnt ps c t + if x.1 = c ∧ t + 1 ≤ x.2 then 1 else 0 := sumN_congr fun c _ => cnt_cons x ps c t
    rw [List.map_cons, cnt_cons, r, e1, sumN_add (fun c => cnt ps c t) (fun c => if x.1 = c ∧ t + 1 ≤ x.2 then 1 else 0) lets]
    congr 1
    by_cases e : t + 1 ≤ x.2
    · have e2 : sumN lets (fun c => if x.1 = c ∧ t + 1 ≤ x.2 then 1 else 0) = sumN lets fun c => if c = x.1 then 1 else 0 := sumN_congr fun c _ => by simp [e, eq_comm]
      rw [if_pos ⟨rfl, e⟩, e2]
      exact (sumN_one lets_nodup (lets_mem.mpr (h x List.mem_cons_self).1)).symm
    · rw [if_neg fun z => e z.2]
      exact (sumN_zero fun c _ => if_neg fun z => e z.2).symm
theorem sum_min (f g : Nat → Nat) (l : List Nat) : sumN l (fun x => min (f x) (g x)) ≤ min (sumN l f) (sumN l g) := by
  have a : sumN l (fun x => min (f x) (g x)) ≤ sumN l f := sumN_le fun x _ => Nat.min_le_left _ _
  have b : sumN l (fun x => min (f x) (g x)) ≤ sumN l g := sumN_le fun x _ => Nat.min_le_right _ _
  omega
theorem degS_alike {ps qs : List (Nat × Nat)} (h : ∀ x ∈ ps, x.1 < 123 ∧ x.2 ≤ 1600) (h' : ∀ x ∈ qs, x.1 < 123 ∧ x.2 ≤ 1600) {k : Nat} (hk : k < 123) : degS ps qs ≤ degS (ps.map fun x => (k, x.2)) (qs.map fun x => (k, x.2)) := by
  have e : degS ps qs = sumN lays fun t => sumN lets fun c => min (cnt ps c t) (cnt qs c t) := sumN_swap (fun c t => min (cnt ps c t) (cnt qs c t)) lays lets
  have m : ∀ (f : Nat → Nat) {l : List Nat}, k ∈ l → f k ≤ sumN l f := fun f l hl => by
      induction l with
      | nil => cases hl
      | cons x l ih =>
        rw [sumN_cons]
        rcases List.mem_cons.mp hl with rfl | hl
        · omega
        · have := ih hl; omega
  have a : degS ps qs ≤ sumN lays fun t => min (cnt (ps.map fun x => (k, x.2)) k t) (cnt (qs.map fun x => (k, x.2)) k t) := by
    rw [e]
    refine sumN_le fun t _ => ?_
    rw [cnt_alike k t h, cnt_alike k t h']
    exact sum_min (fun c => cnt ps c t) (fun c => cnt qs c t) lets
  exact Nat.le_trans a (m (fun c => sumN lays fun t => min (cnt (ps.map fun x => (k, x.2)) c t) (cnt (qs.map fun x => (k, x.2)) c t)) (lets_mem.mpr hk))
end Cw

/-! sets of texts of any size: set(text), sorted of it -/
namespace Cw
open PySem PySem.Spec PySem.Calls PyProof.Rows L2
section
variable {P : Program} {w : World} {A : Around} {E : Value → Shared → Prop} {s : Shared} {a : Addr} {ms : List Str}
def txtOf (e : Int × Value) : Str := match e.2 with | .str x _ => x | _ => Str.empty
def TxtE (P : Program) (w : World) (e : Int × Value) : Prop := ∃ x tk, e.2 = Value.str x tk ∧ e.1 = (PySem.strKind P w).hash x
/-- a set of texts at a: its members in some order -/
def TxtSet (P : Program) (w : World) (h : Heap) (a : Addr) (ms : List Str) : Prop :=
  ∃ ob rows ep tab, h.get? a = some ob ∧ ob.ExactSet ∧ ob.data = .set rows ep tab ∧ (∀ e ∈ rows.toList, TxtE P w e) ∧ (rows.toList.map txtOf).Perm ms ∧ ms.Nodup ∧
    rows.size < scanBound ∧ tab.fits rows.size = true ∧ Ris tab.place.toList ∧ (w.params.followText "set-order" = true ∨ tab.led = true)
def addT (ms : List Str) (x : Str) : List Str := if x ∈ ms then ms else ms ++ [x]
theorem TxtSet.at {h h' : Heap} (z : TxtSet P w h a ms) (k : ∀ u, h.get? a = some u → h'.get? a = some u) : TxtSet P w h' a ms := by
  obtain ⟨ob, rows, ep, tab, e, r⟩ := z
  exact ⟨ob, rows, ep, tab, k ob e, r⟩
theorem txt_is {e : Int × Value} (g : TxtE P w e) (x : Str) : (PySem.strKind P w).is x e.2 = true ↔ txtOf e = x := by
  obtain ⟨y, tk, e1, _⟩ := g
  unfold txtOf
  rw [e1]
  show _ ↔ y = x
  exact ⟨fun h => (PySem.strKind P w).inj _ _ _ (PySem.strKind_is P w y tk) h, fun h => h ▸ PySem.strKind_is P w y tk⟩
theorem txt_elems {l : List (Int × Value)} (g : ∀ e ∈ l, TxtE P w e) : ElemsOf (PySem.strKind P w) l := fun e he => by
  obtain ⟨y, tk, e1, e2⟩ := g e he
  exact ⟨⟨y, by rw [e1]; exact PySem.strKind_is P w y tk, e2⟩, by rw [e1] <;> rfl⟩
/-- laid down, and anew where the table grows -/
theorem txt_tail {gw : Bool → Sem Unit} (hgw : ∀ (b : Bool) (s₂ : Shared) (Q' : Unit → Shared → Prop), Q' () s₂ → wpAny (model P w) A (gw b) Q' E s₂)
    {ob : Obj} {rows : Array (Int × Value)} {ep : Nat} {tab : SetTable} (e0 : s.heap.get? a = some ob) (ex : ob.ExactSet) (ed : ob.data = .set rows ep tab)
    {rows' : Array (Int × Value)} {tab' : SetTable} {ms' : List Str} (gd : ∀ e ∈ rows'.toList, TxtE P w e) (pm : (rows'.toList.map txtOf).Perm ms') (nd : ms'.Nodup)
    (few : rows'.size < scanBound) (ft : tab'.fits rows'.size = true) (ri : Ris tab'.place.toList) (ld : w.params.followText "set-order" = true ∨ tab'.led = true) {wasD : Bool} {R : Option Bool → Shared → Prop}
    (q : ∀ h', Heap.SameBut a s.heap h' → TxtSet P w h' a ms' → R (some true) { s with heap := h' }) :
    wpAny (model P w) A (do
        storeSet a rows' tab'
        if (!wasD && tab'.tooFull) = true then do
            gw (relayAll tab' rows' (SetTable.grown rows'.size)).2.2
            storeSet a (relayAll tab' rows' (SetTable.grown rows'.size)).1 (relayAll tab' rows' (SetTable.grown rows'.size)).2.1
            pure (some true)
          else pure (some true)) R E s := by
  have e1 := store_at (es' := rows') (t' := tab') e0 ed
  have b1 := Heap.SameBut.update s.heap a (Obj.putSet rows' tab')
  refine wpAny_bind (wpAny_storeSet_of e0 ed ?_ (fits_of_scanBound few))
  split
  · have p2 := relayAll_perm tab' rows' (SetTable.grown rows'.size)
    have f2 := relayAll_fits tab' rows' (SetTable.grown rows'.size)
    have r2 := relayAll_ris tab' rows' (SetTable.grown rows'.size)
    have l2 := relayAll_led tab' rows' (SetTable.grown rows'.size)
    generalize relayAll tab' rows' (SetTable.grown rows'.size) = Y at p2 f2 r2 l2 ⊢
    obtain ⟨rows2, tab2, gv⟩ := Y
    dsimp only at p2 f2 r2 l2 ⊢
    have z2 : rows2.size = rows'.size := by rw [← Array.length_toList, p2.length_eq, Array.length_toList]
    have few2 : rows2.size < scanBound := by rw [z2]; exact few
    refine wpAny_bind (hgw _ _ _ ?_)
    refine wpAny_bind (wpAny_storeSet_of e1 rfl ?_ (fits_of_scanBound few2))
    have e2 := store_at (es' := rows2) (t' := tab2) e1 rfl
    exact wpAny_pure (q _ (b1.trans (Heap.SameBut.update _ a _)) ⟨_, rows2, _, tab2, e2, ex, rfl, fun e he => gd e (p2.mem_iff.mp he), (p2.map txtOf).trans pm, nd, few2, f2, r2, ld.imp id fun y => by rw [l2]; exact y⟩)
  · exact wpAny_pure (q _ b1 ⟨_, rows', _, tab', e1, ex, rfl, gd, pm, nd, few, ft, ri, ld⟩)
theorem txt_add {x : Str} {tk : Tok} {Q : Bool → Shared → Prop} (z : TxtSet P w s.heap a ms) (room : ms.length + 1 < scanBound)
    (q : ∀ b h', Heap.SameBut a s.heap h' → TxtSet P w h' a (addT ms x) → Q b { s with heap := h' }) : wpAny (model P w) A (setAddHashed a (.str x tk) ((PySem.strKind P w).hash x)) Q E s := by
  obtain ⟨ob, rows, ep, tab, e0, ex, ed, gd, pm, nd, few, ft, ri, ld⟩ := z
  have key : (PySem.strKind P w).is x (.str x tk) = true := PySem.strKind_is P w x tk
  have sc : (Value.str x tk).scannable = true := rfl
  have els : ElemsOf (PySem.strKind P w) rows.toList := txt_elems gd
  have sz : rows.size = ms.length := by rw [← pm.length_eq, List.length_map, Array.length_toList]
  unfold setAddHashed setAddHashedIn
  refine wpAny_holding (wpAny_bind (wpAny_setState_of e0 ed ft ?_))
  dsimp only
  rw [byScan_of sc few els]
  simp only [↓reduceIte]
  unfold setAddByScan
  refine wpAny_bind ?_
  refine wpAny_bind (wpAny_rule ?_)
  refine wpAny_bind (wpAny_setScan_of key e0 ed ft els ?_)
  cases fi : List.findIdx? (fun e => (PySem.strKind P w).is x e.2) rows.toList with
  | some j =>
    dsimp only
    obtain ⟨hj, pj, _⟩ := List.findIdx?_eq_some_iff_getElem.mp fi
    have hm : x ∈ ms := pm.mem_iff.mp (List.mem_map.mpr ⟨_, List.getElem_mem hj, (txt_is (gd _ (List.getElem_mem hj)) x).mp pj⟩)
    refine wpAny_pure (wpAny_pure (q _ s.heap (Heap.SameBut.refl a s.heap) ⟨ob, rows, ep, tab, e0, ex, ed, gd, ?_, ?_, few, ft, ri, ld⟩))
    · unfold addT; rw [if_pos hm]; exact pm
    · unfold addT; rw [if_pos hm]; exact nd
  | none =>
    dsimp only
    have hm : x ∉ ms := fun y => by
      obtain ⟨e, he, e1⟩ := List.mem_map.mp (pm.mem_iff.mpr y)
      have c := List.findIdx?_eq_none_iff.mp fi e he
      rw [(txt_is (gd e he) x).mpr e1] at c
      cases c
    have eA : addT ms x = ms ++ [x] := by unfold addT; rw [if_neg hm]
    rw [eA] at q
    have gave : ∀ (b : Bool) {s₂ : Shared} {Q' : Unit → Shared → Prop}, Q' () s₂ → wpAny (model P w) A (match b with | true => rule "set.scan.the-table-gave-way" | false => pure ()) Q' E s₂ :=
      fun b s₂ Q' y => by cases b <;> first | exact wpAny_pure y | exact wpAny_rule y
    have p1 := layNew_perm tab rows ((PySem.strKind P w).hash x) (.str x tk)
    have f1 := layNew_fits tab rows ((PySem.strKind P w).hash x) (.str x tk)
    have r1 := layNew_ris tab rows ((PySem.strKind P w).hash x) (.str x tk) ri
    have l1 := layNew_led tab rows ((PySem.strKind P w).hash x) (.str x tk)
    generalize layNew tab rows ((PySem.strKind P w).hash x) (.str x tk) = Y at p1 f1 r1 l1 ⊢
    obtain ⟨rows1, tab1, wasD, gv⟩ := Y
    dsimp only at p1 f1 r1 l1 ⊢
    rw [Array.toList_push] at p1
    have gd1 : ∀ e ∈ rows1.toList, TxtE P w e := fun e he => by
      rcases List.mem_append.mp (p1.mem_iff.mp he) with y | y
      · exact gd e y
      · rw [List.mem_singleton.mp y]; exact ⟨x, tk, rfl, rfl⟩
    have pm1 : (rows1.toList.map txtOf).Perm (ms ++ [x]) := by
      refine (p1.map txtOf).trans ?_
      rw [List.map_append]
      exact pm.append_right _
    have nd1 : (ms ++ [x]).Nodup := List.nodup_append.mpr ⟨nd, by simp, fun u hu v hv => by rw [List.mem_singleton.mp hv]; exact fun y => hm (y ▸ hu)⟩
    have few1 : rows1.size < scanBound := by
      have y := p1.length_eq
      rw [Array.length_toList, List.length_append, Array.length_toList] at y
      rw [y, sz]
      exact room
    have ld1 : w.params.followText "set-order" = true ∨ tab1.led = true := ld.imp id fun y => by rw [l1]; exact y
    refine wpAny_bind (gave _ ?_)
    split
    · refine wpAny_bind ?_
      rw [hashByValue_scannable 8 sc]
      refine wpAny_pure ?_
      refine txt_tail ?_ e0 ex ed gd1 pm1 nd1 few1 ?_ ?_ ?_ ?_
      · intro b s₂ Q' y; cases b <;> first | exact wpAny_pure y | exact wpAny_rule y
      · first | (split <;> first | exact f1 | exact SetTable.fits_plain_off f1) | exact f1
      · first | (split <;> exact r1) | exact r1
      · first | (split <;> exact ld1) | exact ld1
      · intro h' sb r; dsimp only; exact wpAny_pure (q _ h' sb r)
    · refine wpAny_bind (wpAny_pure ?_)
      simp only [↓reduceIte]
      refine txt_tail ?_ e0 ex ed gd1 pm1 nd1 few1 f1 r1 ld1 ?_
      · intro b s₂ Q' y; cases b <;> first | exact wpAny_pure y | exact wpAny_rule y
      · intro h' sb r; dsimp only; exact wpAny_pure (q _ h' sb r)
def uniqT (xs : List Str) : List Str := xs.foldl addT []
theorem uniqT_snoc (xs : List Str) (x : Str) : uniqT (xs ++ [x]) = addT (uniqT xs) x := by unfold uniqT; rw [List.foldl_append]; rfl
theorem addT_len (l : List Str) (x : Str) : (addT l x).length ≤ l.length + 1 := by unfold addT; split <;> simp
theorem addT_mem {l : List Str} {x y : Str} : y ∈ addT l x ↔ y ∈ l ∨ y = x := by
  unfold addT
  split
  · rename_i h
    exact ⟨.inl, fun z => z.elim id fun e => e ▸ h⟩
  · simp
theorem uniqT_take {xs : List Str} {i : Nat} {x : Str} (h : xs[i]? = some x) : uniqT (xs.take (i + 1)) = addT (uniqT (xs.take i)) x := by
  rw [List.take_add_one, h]
  exact uniqT_snoc _ _
theorem uniqT_len (xs : List Str) : ∀ i, (uniqT (xs.take i)).length ≤ i
  | 0 => by simp [uniqT]
  | i + 1 => by
    cases h : xs[i]? with
    | none =>
      rw [List.take_add_one, h]
      have := uniqT_len xs i
      simp
      omega
    | some x =>
      rw [uniqT_take h]
      have := uniqT_len xs i
      have := addT_len (uniqT (xs.take i)) x
      omega
theorem uniqT_mem {y : Str} : ∀ {xs : List Str}, y ∈ uniqT xs ↔ y ∈ xs := by
  intro xs
  have go : ∀ i, y ∈ uniqT (xs.take i) ↔ y ∈ xs.take i := fun i => by
    induction i with
    | zero => simp [uniqT]
    | succ i ih =>
      cases h : xs[i]? with
      | none => rw [List.take_add_one, h]; simpa using ih
      | some x => rw [uniqT_take h, addT_mem, ih, List.take_add_one, h]; simp
  have := go xs.length
  rwa [List.take_length] at this
/-- what is walked goes in, text by text -/
theorem txt_update {I : Addr} {fp wr : List Addr} {G : Array GenState → Array GenState → Prop} {n : Nat} {Pv : Nat → Value → Prop} {St : Nat → Shared → Prop} {R : Result → Shared → Prop}
    (W : WalksS P w A.in1 I fp wr G n Pv St) (D : Addr) (out : D ∉ fp) (xs : List Str) (hn : n = xs.length) (few : xs.length + 1 < scanBound) (vals : ∀ i v, Pv i v → ∃ x t, xs[i]? = some x ∧ v = .str x t) :
    ∀ (k i : Nat) (s : Shared), n - i = k → i ≤ n → St i s → TxtSet P w s.heap D (uniqT (xs.take i)) →
      (∀ s', Moved (D :: wr) G s s' → TxtSet P w s'.heap D (uniqT xs) → R (.ok (.ret .none)) s') → codeAny (model P w) A (.builtin "set.update.loop" ⟨[.ref D, .ref I], []⟩) R s := by
  have offw : D ∉ wr := fun h => out (W.sub _ h)
  have wide : ∀ b ∈ wr, b ∈ D :: wr := fun b hb => List.mem_cons_of_mem _ hb
  intro k
  induction k with
  | zero =>
    intro i s e1 e2 st z q
    obtain rfl : i = n := by omega
    refine codeAny_builtin F.entry_set_update_loop ?_
    rw [Around.under_plainId F.plain_set_update_loop _]
    show wpAny _ A.in1 (pyNext (.ref I) >>= _) _ _ s
    refine wpAny_bind (W.done s _ _ st fun s2 mv => ?_)
    show wpAny _ A.in1 (ret Value.none) _ _ s2
    rw [List.take_of_length_le (by omega)] at z
    exact wpAny_pure (q s2 (mv.mono wide) (z.at fun u e => mv.heap D u offw e))
  | succ k ih =>
    intro i s e1 e2 st z q
    have lt : i < n := by omega
    refine codeAny_builtin F.entry_set_update_loop ?_
    rw [Around.under_plainId F.plain_set_update_loop _]
    show wpAny _ A.in1 (pyNext (.ref I) >>= _) _ _ s
    refine wpAny_bind (W.item i s _ _ lt st fun v s2 pv st2 mv => ?_)
    obtain ⟨x, t, hx, rfl⟩ := vals i v pv
    have z2 : TxtSet P w s2.heap D (uniqT (xs.take i)) := z.at fun u e => mv.heap D u offw e
    have lu := uniqT_len xs i
    show wpAny _ A.in1 (holding [Value.str x t] (setAdd D (.str x t)) >>= _) _ _ s2
    refine wpAny_bind (wpAny_holding ?_)
    unfold setAdd
    refine wpAny_holding ?_
    refine wpAny_bind ((PySem.strKind P w).pyHash (k := x) (PySem.strKind_is P w x t) ?_)
    refine txt_add (s := { s2 with toks := s2.toks + 1 }) z2 (by omega) fun b h' sb z3 => ?_
    rw [← uniqT_take hx] at z3
    refine wpAny_pure ⟨plainId_quiet F.plain_set_update_loop _, ih (i + 1) _ (by omega) lt (W.frame _ s2 _ _ st2 (Nat.le_succ _) fun b hb u e => ?_) z3 fun s3 mv3 z4 => ?_⟩
    · rw [sb.2 b (fun y : b = D => out (by rw [← y]; exact hb))]; exact e
    · refine q s3 (Moved.trans W.gtrans ((mv.mono wide).then_heap (Nat.le_succ _) fun b u hb e => ?_) mv3) z4
      rw [sb.2 b (fun y : b = D => hb (by rw [y]; exact List.mem_cons_self))]; exact e
def signsT (x : Str) : List Str := x.cps.toList.map fun c => (⟨#[c]⟩ : Str)
set_option maxHeartbeats 3200000 in
theorem call_set_text {x : Str} {t : Tok} {Q : Value → Shared → Prop} (hh : A.handled = none) (room : x.cps.size + 1 < scanBound)
    (h : ∀ (h' : Heap) (tk : Nat), TxtSet P w h' s.heap.objs.size (uniqT (signsT x)) → (∀ b o, s.heap.get? b = some o → h'.get? b = some o) → Q (.ref s.heap.objs.size) { s with heap := h', toks := tk }) :
    wpAny (model P w) A (call (.type "set") [.str x t]) Q E s := by
  obtain ⟨c, tl, hmro⟩ := F.called_set.mro
  have hmade := F.called_set.made
  have hsub := F.called_set.sub
  (refine wpAny_call (codeAny_of_tree ?_))
  show wpAny _ _ (callAny (.type "set") _) _ _ _
  (refine wpAny_pure ⟨Code.quiet_builtin _ (by decide +kernel), codeAny_builtin F.entry_type_call ?_⟩)
  (rw [Around.under_plain (weight_type_call_type "set" [.str x t] []) rfl])
  have h1 := F.called_set.notType
  have h2 := F.called_set.canCreate
  have hct := F.typeCall_set_1 (.str x t)
  (repeat (any_goals (first | assumption | wp_step)))
  refine codeAny_mono (code_set_led1 (.str x t) (E := E) (Q₁ := fun obj s₁ => obj = .ref s.heap.objs.size ∧ s₁ = { s with heap := s.heap.push (noSet w) }) ⟨rfl, rfl⟩) fun r s₁ hr => ?_
  match r, hr with
  | .error e, hr => exact hr
  | .ok (.next), hr => exact hr.elim
  | .ok (.brk), hr => exact hr.elim
  | .ok (.cont), hr => exact hr.elim
  | .ok (.ret obj), hr =>
    obtain ⟨rfl, rfl⟩ := hr
    have eS : (s.heap.push (noSet w)).get? s.heap.objs.size = some (noSet w) := Heap.get?_push_size _ rfl
    have tyS : Shared.TypeIs { s with heap := s.heap.push (noSet w) } (.ref s.heap.objs.size) "set" := ⟨_, eS, rfl⟩
    have hli := F.called_set.init.lookup
    have hbi := F.called_set.init.bind (.ref s.heap.objs.size)
    (repeat (any_goals (first | assumption | wp_step)))
    refine codeAny_mono (codeAny_call_builtin (R := wants (fun r s₂ => r = .none ∧ ∃ h' tk, s₂ = { s with heap := h', toks := tk } ∧ TxtSet P w h' s.heap.objs.size (uniqT (signsT x)) ∧
        (∀ b o, s.heap.get? b = some o → h'.get? b = some o)) E) F.called_set.init.plain F.entry_set_init (check_set_init_1 tyS ?_)) fun r₂ s₂ hr₂ => ?_
    · have hsls := PySem.F.sub_str_set
      have hslf := PySem.F.sub_str_frozenset
      have hne : (Value.type "str" == Value.type "dict") = false := by decide
      have tyx : ∀ s' : Shared, s'.TypeIs (.str x t) "str" := fun s' => typeIs_str s' x t
      (unfold Builtin.«set.__init__» noKeywords; unfold Builtin.Frozenset.updateFrom)
      generalize hPI : pyIter = PI
      wp_walk
      subst hPI
      refine wpAny_pyIter_str fun io St Wk st0 => ?_
      refine wpAny_bind (wpAny_runValue ?_)
      have hh3 : A.in1.in1.in1.handled = none := by simp [hh]
      have sz1 : (s.heap.push (noSet w)).objs.size = s.heap.objs.size + 1 := Heap.size_push ..
      have apart : s.heap.objs.size ∉ [(s.heap.push (noSet w)).objs.size] := by
        rw [sz1]
        exact fun z => absurd (List.mem_singleton.mp z) (Nat.ne_of_lt (Nat.lt_succ_self _))
      have lx : (signsT x).length = x.cps.size := by unfold signsT; rw [List.length_map, Array.length_toList]
      have vals : ∀ (i : Nat) (v : Value), SignAt x i v → ∃ y t, (signsT x)[i]? = some y ∧ v = .str y t := fun i v hv => by
        obtain ⟨c, u, hc, rfl⟩ := hv
        refine ⟨_, u, ?_, rfl⟩
        unfold signsT
        rw [List.getElem?_map, Array.getElem?_toList, hc]
        rfl
      have z0 : TxtSet P w ((s.heap.push (noSet w)).push io) s.heap.objs.size (uniqT ((signsT x).take 0)) :=
        ⟨noSet w, #[], 0, _, Heap.get?_push_of_some _ eS, ⟨rfl, rfl, rfl⟩, rfl, (fun e he => by simp at he), by simp [uniqT], by simp [uniqT], (by decide), (by rfl), List.Pairwise.nil, by
          show _ ∨ (!w.params.followText "set-order") = true
          cases w.params.followText "set-order"
          · exact .inr rfl
          · exact .inl rfl⟩
      refine txt_update ((Wk _ hh3).toS) s.heap.objs.size apart (signsT x) lx.symm (by rw [lx]; exact room) vals (x.cps.size - 0) 0 _ (by omega) (Nat.zero_le _) st0 z0 ?_
      intro s' mv new
      obtain ⟨h', g2, d', tk', os'⟩ := s'
      have eg : g2 = s.gens := mv.gens
      have ed : d' = s.drawn := mv.drawn
      have eo : os' = s.os := mv.os
      subst eg
      subst ed
      subst eo
      show wpAny _ _ _ _ _ _
      refine wpAny_pure ?_
      show wpAny _ _ (ret Value.none) _ _ _
      refine wpAny_pure ⟨rfl, h', tk', rfl, new, fun b o e => ?_⟩
      have b0 : b < s.heap.objs.size := Heap.lt_size e
      refine mv.heap b o (fun z => ?_) (Heap.get?_push_of_some _ (Heap.get?_push_of_some _ e))
      rcases List.mem_cons.mp z with z | z
      · exact absurd z (Nat.ne_of_lt b0)
      · have z := List.mem_singleton.mp z
        rw [sz1] at z
        exact absurd z (Nat.ne_of_lt (Nat.lt_succ_of_lt b0))
    · match r₂, hr₂ with
      | .error e, hr₂ => exact hr₂
      | .ok (.next), hr₂ => exact hr₂.elim
      | .ok (.brk), hr₂ => exact hr₂.elim
      | .ok (.cont), hr₂ => exact hr₂.elim
      | .ok (.ret r), hr₂ =>
        obtain ⟨rfl, h', tk, rfl, new, kept⟩ := hr₂
        (repeat (any_goals (first | assumption | wp_step)))
        exact h _ _ new kept
theorem strs_txt : ∀ (l : List Value), (∀ v ∈ l, ∃ y tk, v = Value.str y tk) → ∃ ys : List Str, StrsAre l ys ∧ ∀ g : Value → Str, (∀ y tk, g (.str y tk) = y) → ys = l.map g
  | [], _ => ⟨[], .nil, fun _ _ => rfl⟩
  | v :: l, h => by
    obtain ⟨y, tk, rfl⟩ := h v List.mem_cons_self
    obtain ⟨ys, e1, e2⟩ := strs_txt l fun u hu => h u (List.mem_cons_of_mem _ hu)
    exact ⟨y :: ys, .cons y tk e1, fun g hg => by rw [List.map_cons, hg, e2 g hg]⟩
def ofTxt (v : Value) : Str := match v with | .str x _ => x | _ => Str.empty
/-- sorted(texts) -/
theorem sorted_txt {Q : Value → Shared → Prop} (z : TxtSet P w s.heap a ms) (hh : A.handled = none) (few : ms.length ≤ sizeLine)
    (q : ∀ s' p (out : Array Value) (c : Nat) (ys : List Str), (∀ b o, s.heap.get? b = some o → s'.heap.get? b = some o) → s'.gens = s.gens → s'.os = s.os → s.heap.objs.size ≤ p →
      s'.heap.get? p = some (seqObj "list" out c) → StrsAre out.toList ys → ys.Perm ms → sortedS ys = true → Q (.ref p) s') :
    wpAny (model P w) A (call (.builtin "sorted") [.ref a]) Q E s := by
  obtain ⟨ob, rows, ep, tab, e0, ex, ed, gd, pm, nd, fw, ft, ri, ld⟩ := z
  refine call_function_entry kind_sorted plain_sorted entry_sorted (args_sorted1 _) ?_
  unfold Builtin.«sorted»
  refine wpAny_bind (m := checkCount "sorted" 1 1 _) (wpAny_pure ?_)
  refine wpAny_bind (collect_set (A := A.in1) hh ⟨ob, e0, ex.1, ed⟩ ft fw ri ld fun s1 vs k1 big g1 o1 pv => ?_)
  have hv : ∀ v ∈ vs, ∃ y tk, v = Value.str y tk := fun v hv => by
    obtain ⟨e, he, e1⟩ := List.mem_map.mp (pv.mem_iff.mp hv)
    obtain ⟨y, tk, e2, _⟩ := gd e he
    exact ⟨y, tk, by rw [← e1]; exact e2⟩
  obtain ⟨ys0, hS, hg⟩ := strs_txt vs hv
  have e3 := hg ofTxt fun _ _ => rfl
  have pp : ys0.Perm ms := by
    rw [e3]
    have y := pv.map ofTxt
    rw [List.map_map] at y
    exact y.trans pm
  have lv : vs.length = ms.length := by rw [← pp.length_eq, e3, List.length_map]
  have hL : vs.length ≤ sizeLine := by rw [lv]; exact few
  refine wpAny_bind (wpAny_newList ?_ hL)
  have oL : (s1.heap.push (seqObj "list" vs.toArray 0)).get? s1.heap.objs.size = some (seqObj "list" vs.toArray 0) := Heap.get?_push_size _ rfl
  refine wpAny_bind (wpAny_holding (wpAny_call_entry slot_list_sort ⟨_, oL, rfl⟩ entry_list_sort (list_sort_treeKAny strKind_oneLt oL hS.keysOf (fun v₁ v₂ rest e => keyKind_strs (by rw [← e]; exact hS)) hL fun st' hp hs => ⟨_, rfl, ?_⟩) (args_list_sort _)))
  obtain ⟨ys, h1, h2, h3⟩ := sorted_out_str hS hp hs
  obtain ⟨c, hc⟩ := sortedHeap_at (vs := vs) (out := (arrOf st').map (·.2)) oL
  refine wpAny_pure ⟨_, rfl, q _ s1.heap.objs.size _ c ys (fun b u e => ?_) g1 o1 big hc h1 (h2.trans pp) h3⟩
  have y := k1 b u e
  have lt := Heap.lt_size y
  show (sortedHeap (s1.heap.push (seqObj "list" vs.toArray 0)) s1.heap.objs.size vs _).get? b = some u
  rw [sortedHeap_old (Nat.ne_of_lt lt) (by rw [size_push']; exact Nat.lt_succ_of_lt lt)]
  exact Heap.get?_push_of_some _ y
end
/-- the set of texts at a -/
def TxtO (P : Program) (w : World) (a : Addr) (ms : List Str) : HO := .ext fun h => TxtSet P w h a ms
section
variable {X : Cx}
theorem txtO_new {w : World} {P : Program} {H : Hp} {h : Heap} {a : Addr} {ms : List Str} (z : TxtSet P w h a ms) : ObjOk P w H h a (TxtO P w a ms) := by
  have ⟨ob, _, _, _, e, _⟩ := z
  exact ⟨z, ⟨ob, e⟩, fun h1 h2 p k => TxtSet.at p k⟩
theorem txtO_get {pins : List (Addr × Obj)} {σ : L2.St} {H : Hp} {s : Shared} {a : Addr} {ms : List Str} (I : Inv X pins σ H s) (e : H a = some (TxtO X.prog X.w a ms)) : TxtSet X.prog X.w s.heap a ms := (I.hok a _ e).1
/-- set(text) -/
def rSetTxt (P : Program) (w : World) : List V → Hp → VK → Prop := fun xs H Q => ∃ x : Str, xs = [.str x] ∧ x.cps.size ≤ 1000 ∧ ∀ p, H p = none → Q (.ref p) (upd H p (TxtO P w p (uniqT (signsT x))))
theorem cr_setTxt (hc : X.calm = true) : CallR X (.type "set") (rSetTxt X.prog X.w) := by
  intro pins s σ H xs us Q I r h
  obtain ⟨x, rfl, few, q⟩ := h
  obtain ⟨u, rfl, ru⟩ := vals1 r
  obtain ⟨t, rfl⟩ := ru
  refine call_set_text (I.ok.hd hc) (by unfold scanBound; omega) fun h' tk z kept => ?_
  exact ⟨.ref _, _, I.laid (t' := tk) kept (Nat.le_refl _) (txtO_new z), rfl, q _ (I.hok.fresh (Nat.le_refl _))⟩
/-- sorted(found) -/
def rSortedTxt (P : Program) (w : World) : List V → Hp → VK → Prop := fun vs H Q => ∃ (a : Addr) (ms : List Str), vs = [V.ref a] ∧ H a = some (TxtO P w a ms) ∧ ms.length ≤ 1000 ∧
  ∀ (ys : List Str) p, ys.Perm ms → sortedS ys = true → H p = none → Q (.ref p) (upd H p (.lst (ys.map V.str)))
theorem cr_sortedTxt (hc : X.calm = true) : CallR X (.builtin "sorted") (rSortedTxt X.prog X.w) := by
  intro pins s σ H vs us Q I r h
  obtain ⟨a, ms, rfl, e, few, q⟩ := h
  have h1000 : (1000 : Nat) ≤ sizeLine := by decide
  rw [Vals.ref1 r]
  refine sorted_txt (txtO_get I e) (I.ok.hd hc) (by omega) fun s' p out c ys kept eg eo big hp hS pm so => ?_
  have fp : H p = none := I.hok.fresh big
  have hlen : (ys.map V.str).length ≤ sizeLine := by rw [List.length_map, pm.length_eq]; omega
  have J : Inv X pins σ (upd H p (.lst (ys.map V.str))) { s with heap := s'.heap, gens := s'.gens, drawn := s'.drawn, toks := s'.toks } :=
    I.call (ch := []) (Un.laid kept big fp) (I.hok.laid kept big ⟨hlen, out.toList, c, vals_of_strs hS, hp⟩) (by rw [eg]; exact I.bare) (fun _ y => nomatch y)
  have es : s' = { s with heap := s'.heap, gens := s'.gens, drawn := s'.drawn, toks := s'.toks } := by
    cases s'
    cases s
    cases eo
    rfl
  rw [es]
  exact ⟨.ref p, _, J, rfl, q ys p pm so fp⟩
end
theorem cr_setTxtw {X : Cx} {pd : Program} {wd : World} (hp : X.prog = pd) (hw : X.w = wd) (hc : X.calm = true) : CallR X (.type "set") (rSetTxt pd wd) := by
  subst hp hw
  exact cr_setTxt hc
theorem cr_sortedTxtw {X : Cx} {pd : Program} {wd : World} (hp : X.prog = pd) (hw : X.w = wd) (hc : X.calm = true) : CallR X (.builtin "sorted") (rSortedTxt pd wd) := by
  subst hp hw
  exact cr_sortedTxt hc
theorem uniqT_nodup (xs : List Str) : (uniqT xs).Nodup := by
  have go : ∀ i, (uniqT (xs.take i)).Nodup := fun i => by
    induction i with
    | zero => simp [uniqT]
    | succ i ih =>
      cases h : xs[i]? with
      | none => rw [List.take_add_one, h]; simpa using ih
      | some x =>
        rw [uniqT_take h]
        unfold addT
        split
        · exact ih
        · rename_i n
          exact List.nodup_append.mpr ⟨ih, by simp, fun u hu v hv => by rw [List.mem_singleton.mp hv]; exact fun y => n (y ▸ hu)⟩
  have := go xs.length
  rwa [List.take_length] at this
end Cw

/-! the bounds of two webs -/
namespace Cw
open PySem PySem.Spec PyProof.Rows L2
theorem kdL_ok {w : Web} (W : WOk w) : ∀ x ∈ kdL w, x.1 < 123 ∧ x.2 ≤ 1600 := fun x hx => by
  obtain ⟨p, hp, rfl⟩ := List.mem_map.mp hx
  have hp' := List.mem_range.mp hp
  have k : Ltr (w.1.getD p 0) := by
    rw [List.getD_eq_getElem?_getD, List.getElem?_eq_getElem hp']
    exact W.kinds _ (List.getElem_mem hp')
  have := nb_len w.2 p
  have := W.most
  unfold Ltr at k
  refine ⟨by show w.1.getD p 0 < 123; omega, by show (nb w.2 p).length ≤ 1600; omega⟩
def touch (p : Nat) (t : Tie) : Bool := decide (t.1 = p ∨ t.2.1 = p)
theorem deg_touch (w : Web) (p : Nat) : deg w p = w.2.countP (touch p) := by
  unfold deg nb
  rw [List.length_filterMap_eq_countP]
  congr 1
  funext t
  unfold beside touch
  by_cases h1 : t.1 = p
  · rw [if_pos h1]; simp [h1]
  · by_cases h2 : t.2.1 = p
    · rw [if_neg h1, if_pos h2]; simp [h2]
    · rw [if_neg h1, if_neg h2]; simp [h1, h2]
theorem kdL_fst (w : Web) : (kdL w).map (·.1) = w.1 := by
  refine List.ext_getElem? fun j => ?_
  unfold kdL
  rw [List.getElem?_map, List.getElem?_map]
  by_cases hj : j < w.1.length
  · rw [List.getElem?_range hj, List.getElem?_eq_getElem hj]
    show some (w.1.getD j 0) = _
    rw [List.getD_eq_getElem?_getD, List.getElem?_eq_getElem hj]; rfl
  · rw [List.getElem?_eq_none (by simp; omega), List.getElem?_eq_none (by omega)]; rfl
theorem touch_sum {n : Nat} : ∀ {ts : List Tie}, (∀ t ∈ ts, t.1 < t.2.1 ∧ t.2.1 < n) → sumN (List.range n) (fun p => ts.countP (touch p)) = 2 * ts.length
  | [], _ => sumN_zero fun _ _ => rfl
  | t :: ts, h => by
    obtain ⟨h1, h2⟩ := h t List.mem_cons_self
    have r := touch_sum (n := n) (ts := ts) fun s hs => h s (List.mem_cons_of_mem _ hs)
    have e : sumN (List.range n) (fun p => (t :: ts).countP (touch p)) = sumN (List.range n) fun p => ts.countP (touch p) + ((if p = t.1 then 1 else 0) + if p = t.2.1 then 1 else 0) := sumN_congr fun p _ => by
      rw [List.countP_cons]
      unfold touch
      by_cases a : t.1 = p
      · have b : ¬ t.2.1 = p := by omega
        simp [a, b]
        omega
      · by_cases b : t.2.1 = p
        · have a' : ¬ p = t.1 := fun z => a z.symm
          simp [a, b, a']
        · have a' : ¬ p = t.1 := fun z => a z.symm
          have b' : ¬ p = t.2.1 := fun z => b z.symm
          simp [a, b, a', b']
    rw [e, sumN_add (fun p => ts.countP (touch p)) (fun p => (if p = t.1 then 1 else 0) + if p = t.2.1 then 1 else 0), r, sumN_add (fun p => if p = t.1 then 1 else 0) (fun p => if p = t.2.1 then 1 else 0),
      sumN_one List.nodup_range (List.mem_range.mpr (by omega)), sumN_one List.nodup_range (List.mem_range.mpr h2), List.length_cons]
    omega
theorem tot_kdL {w : Web} (W : WOk w) : tot (kdL w) = 2 * w.2.length := by
  rw [← touch_sum fun t ht => ⟨(W.ends t ht).1, (W.ends t ht).2.1⟩]
  unfold tot kdL sumN
  rw [List.map_map]
  congr 1
  exact List.map_congr_left fun p _ => deg_touch w p
theorem ord_perm {qs : List Nat} {n : Nat} (o : Ord qs n) : qs.Perm (List.range n) := (List.perm_ext_iff_of_nodup o.nd List.nodup_range).mpr fun x => ⟨fun h => List.mem_range.mpr (o.lt x h), fun h => o.all x (List.mem_range.mp h)⟩
theorem map_qa {qs : List Nat} {n : Nat} (l : qs.length = n) : (List.range n).map (qa qs) = qs := by
  subst l
  refine List.ext_getElem? fun j => ?_
  rw [List.getElem?_map]
  by_cases hj : j < qs.length
  · rw [List.getElem?_range hj, qa_at hj]; rfl
  · rw [List.getElem?_eq_none (by simp; omega), List.getElem?_eq_none (by omega)]; rfl
theorem kdL_named {w w' : Web} {qs : List Nat} (W : WOk w) (o : Ord qs w.1.length) (N : Named w qs w') : (kdL w').Perm (kdL w) := by
  unfold kdL
  rw [N.len]
  refine (((ord_perm o).symm.map fun p => (w'.1.getD p 0, deg w' p))).trans ?_
  rw [← map_qa o.len, List.map_map]
  refine List.Perm.of_eq (List.map_congr_left fun p hp => ?_)
  have hp' := List.mem_range.mp hp
  show (w'.1.getD (qa qs p) 0, deg w' (qa qs p)) = _
  rw [List.getD_eq_getElem?_getD, N.kinds p hp', ← List.getD_eq_getElem?_getD, deg_touch, deg_touch, N.ties.countP_eq, List.countP_map]
  congr 1
  refine List.countP_congr fun t ht => ?_
  obtain ⟨h1, h2, _⟩ := W.ends t ht
  have i1 : qa qs t.1 = qa qs p ↔ t.1 = p := ⟨fun z => o.inj (by omega) hp' z, fun z => by rw [z]⟩
  have i2 : qa qs t.2.1 = qa qs p ↔ t.2.1 = p := ⟨fun z => o.inj (by omega) hp' z, fun z => by rw [z]⟩
  show touch (qa qs p) (mapTie qs t) = true ↔ touch p t = true
  unfold touch mapTie
  rw [decide_eq_true_iff, decide_eq_true_iff]
  dsimp only
  rw [← i1, ← i2]
  omega
theorem kinds_named {w w' : Web} {qs : List Nat} (W : WOk w) (o : Ord qs w.1.length) (N : Named w qs w') : w'.1.Perm w.1 := by
  rw [← kdL_fst w, ← kdL_fst w']
  exact (kdL_named W o N).map _
theorem tri_swap (k a b : Nat) : ((k, if b < a then b else a, if a < b then b else a) : Tr3) = (k, if a < b then a else b, if b < a then a else b) := by
  rcases Nat.lt_trichotomy a b with h | h | h
  · have n : ¬ b < a := by omega
    simp [h, n]
  · subst h; simp
  · have n : ¬ a < b := by omega
    simp [h, n]
theorem tris_named {w w' : Web} {qs : List Nat} (W : WOk w) (o : Ord qs w.1.length) (N : Named w qs w') : (tris w').Perm (tris w) := by
  unfold tris
  refine (N.ties.map (tri w')).trans ?_
  rw [List.map_map]
  refine List.Perm.of_eq (List.map_congr_left fun t ht => ?_)
  obtain ⟨h1, h2, _⟩ := W.ends t ht
  have k1 : w'.1.getD (qa qs t.1) 0 = w.1.getD t.1 0 := by rw [List.getD_eq_getElem?_getD, N.kinds t.1 (by omega), ← List.getD_eq_getElem?_getD]
  have k2 : w'.1.getD (qa qs t.2.1) 0 = w.1.getD t.2.1 0 := by rw [List.getD_eq_getElem?_getD, N.kinds t.2.1 h2, ← List.getD_eq_getElem?_getD]
  show tri w' (mapTie qs t) = tri w t
  unfold tri mapTie
  dsimp only
  by_cases c : qa qs t.1 ≤ qa qs t.2.1
  · rw [Nat.min_eq_left c, Nat.max_eq_right c, k1, k2]
  · rw [Nat.min_eq_right (by omega), Nat.max_eq_left (by omega), k1, k2]
    exact (tri_swap _ _ _).symm
/-! the four bounds -/
def bnds (u v : Web) : List Nat := [csum u.1 v.1, csum (tris u) (tris v), degB u v, min (csum (tris u) (tris v)) (degB u v)]
theorem bnds_comm (u v : Web) : bnds u v = bnds v u := by
  unfold bnds degB
  rw [csum_comm u.1, csum_comm (tris u), degS_comm]
theorem bnds_named {w w' : Web} {qs : List Nat} (W : WOk w) (o : Ord qs w.1.length) (N : Named w qs w') (v : Web) : bnds w' v = bnds w v := by
  unfold bnds degB
  rw [csum_perm (kinds_named W o N), csum_perm (tris_named W o N), degS_perm (kdL_named W o N)]
theorem bnds_self {w : Web} (W : WOk w) : bnds w w = [w.1.length, w.2.length, w.2.length, w.2.length] := by
  have e : degB w w = w.2.length := by
    unfold degB
    rw [degS_self (kdL_ok W), tot_kdL W]
    omega
  unfold bnds
  rw [e, csum_self, csum_self]
  unfold tris
  rw [List.length_map, Nat.min_self]
/-- a place more, without ties -/
def moreW (w : Web) : Web := (w.1 ++ [97], w.2)
theorem kdL_more {w : Web} (W : WOk w) : kdL (moreW w) = kdL w ++ [(97, 0)] := by
  unfold kdL moreW
  dsimp only
  rw [List.length_append, List.length_singleton, List.range_succ, List.map_append]
  congr 1
  · refine List.map_congr_left fun p hp => ?_
    have hp' := List.mem_range.mp hp
    rw [List.getD_eq_getElem?_getD, List.getElem?_append_left hp', ← List.getD_eq_getElem?_getD]; rfl
  · show [((w.1 ++ [97]).getD w.1.length 0, deg (w.1 ++ [97], w.2) w.1.length)] = _
    have d : deg (w.1 ++ [97], w.2) w.1.length = 0 := by
      rw [deg_touch]
      refine List.countP_eq_zero.mpr fun t ht => ?_
      obtain ⟨h1, h2, _⟩ := W.ends t ht
      unfold touch
      simp
      omega
    rw [d, List.getD_eq_getElem?_getD, List.getElem?_append_right (Nat.le_refl _), Nat.sub_self]; rfl
theorem tris_more {w : Web} (W : WOk w) : tris (moreW w) = tris w := by
  unfold tris moreW
  refine List.map_congr_left fun t ht => ?_
  obtain ⟨h1, h2, _⟩ := W.ends t ht
  have k : ∀ p, p < w.1.length → (w.1 ++ [97]).getD p 0 = w.1.getD p 0 := fun p hp => by
    rw [List.getD_eq_getElem?_getD, List.getElem?_append_left hp, ← List.getD_eq_getElem?_getD]
  unfold tri
  dsimp only
  rw [k _ h2, k _ (by omega)]
theorem bnds_more {w : Web} (W : WOk w) (v : Web) : ∃ m, bnds (moreW w) v = [m, csum (tris w) (tris v), degB w v, min (csum (tris w) (tris v)) (degB w v)] ∧ csum w.1 v.1 ≤ m ∧ m ≤ csum w.1 v.1 + 1 := by
  refine ⟨csum (w.1 ++ [97]) v.1, ?_, csum_more _ _ _⟩
  unfold bnds degB
  rw [kdL_more W, degS_bare, tris_more W]
  rfl
/-- a tie fewer -/
def lessW (w : Web) (i : Nat) : Web := (w.1, w.2.eraseIdx i)
theorem cnt_less (w : Web) (i c t : Nat) : cnt (kdL (lessW w i)) c t ≤ cnt (kdL w) c t := by
  unfold cnt kdL lessW
  rw [List.countP_map, List.countP_map]
  refine List.countP_mono_left fun p _ h => ?_
  have s : (nb (w.2.eraseIdx i) p).length ≤ (nb w.2 p).length := ((List.eraseIdx_sublist w.2 i).filterMap _).length_le
  have h' : w.1.getD p 0 = c ∧ t + 1 ≤ (nb (w.2.eraseIdx i) p).length := of_decide_eq_true h
  show decide (w.1.getD p 0 = c ∧ t + 1 ≤ (nb w.2 p).length) = true
  exact decide_eq_true ⟨h'.1, Nat.le_trans h'.2 s⟩
theorem bnds_less {w : Web} (W : WOk w) {i : Nat} (hi : i < w.2.length) (W' : WOk (lessW w i)) (v : Web) : ∃ a b, bnds (lessW w i) v = [csum w.1 v.1, a, b, min a b] ∧ a ≤ csum (tris w) (tris v) ∧ csum (tris w) (tris v) ≤ a + 1 ∧ b ≤ degB w v ∧ degB w v ≤ b + 1 := by
  refine ⟨csum (tris (lessW w i)) (tris v), degB (lessW w i) v, rfl, ?_⟩
  have e : tris (lessW w i) = (tris w).eraseIdx i := by
    unfold tris lessW
    exact (erase_map _ _ _).symm
  have l := csum_less (xs := tris w) (i := i) (by unfold tris; rw [List.length_map]; exact hi) (tris v)
  have d := degS_less (qs := kdL v) (kdL_ok W) (kdL_ok W') (cnt_less w i)
  rw [tot_kdL W, tot_kdL W'] at d
  have le : (lessW w i).2.length = w.2.length - 1 := by unfold lessW; rw [List.length_eraseIdx_of_lt hi]
  rw [le] at d
  rw [e]
  unfold degB
  omega
/-- of one kind all -/
def alikeW (w : Web) : Web := (List.replicate w.1.length 97, w.2.map fun t => (t.1, t.2.1, 116))
theorem kdL_alike (w : Web) : kdL (alikeW w) = (kdL w).map fun x => (97, x.2) := by
  unfold kdL
  rw [List.map_map]
  have l : (alikeW w).1.length = w.1.length := List.length_replicate
  rw [l]
  refine List.map_congr_left fun p hp => ?_
  have hp' := List.mem_range.mp hp
  show ((List.replicate w.1.length 97).getD p 0, deg (alikeW w) p) = (97, deg w p)
  rw [List.getD_eq_getElem?_getD, List.getElem?_replicate, if_pos hp', deg_touch, deg_touch]
  show (97, (w.2.map fun t => (t.1, t.2.1, 116)).countP (touch p)) = _
  rw [List.countP_map]
  rfl
theorem tris_alike {w : Web} (W : WOk w) : tris (alikeW w) = List.replicate w.2.length (116, 97, 97) := by
  refine List.eq_replicate_iff.mpr ⟨by unfold tris alikeW; rw [List.length_map, List.length_map], fun x hx => ?_⟩
  obtain ⟨s, hs, rfl⟩ := List.mem_map.mp hx
  obtain ⟨t, ht, rfl⟩ := List.mem_map.mp hs
  obtain ⟨h1, h2, _⟩ := W.ends t ht
  have k : ∀ p, p < w.1.length → (alikeW w).1.getD p 0 = 97 := fun p hp => by
    show (List.replicate w.1.length 97).getD p 0 = 97
    rw [List.getD_eq_getElem?_getD, List.getElem?_replicate, if_pos hp]; rfl
  unfold tri
  dsimp only
  rw [k _ h2, k _ (by omega)]
  rfl
theorem bnds_alike {u v : Web} (U : WOk u) (V : WOk v) : ∃ a b c, bnds (alikeW u) (alikeW v) = [a, b, c, min b c] ∧ csum u.1 v.1 ≤ a ∧ csum (tris u) (tris v) ≤ b ∧ degB u v ≤ c := by
  refine ⟨_, _, _, rfl, ?_, ?_, ?_⟩
  · show _ ≤ csum (List.replicate u.1.length 97) (List.replicate v.1.length 97)
    rw [csum_rep]
    have := csum_le u.1 v.1
    have := csum_le_r u.1 v.1
    omega
  · rw [tris_alike U, tris_alike V, csum_rep]
    have a := csum_le (tris u) (tris v)
    have b := csum_le_r (tris u) (tris v)
    have l : ∀ w : Web, (tris w).length = w.2.length := fun w => by unfold tris; rw [List.length_map]
    rw [l] at a b
    omega
  · unfold degB
    rw [kdL_alike, kdL_alike]
    exact Nat.div_le_div_right (degS_alike (kdL_ok U) (kdL_ok V) (by decide))
end Cw

/-! counts by keys; three letters in a text -/
namespace Cw
open PySem PySem.Spec PyProof.Rows L2
theorem sumN_hit {α : Type} [DecidableEq α] {A : List α} (nA : A.Nodup) {a : α} (ha : a ∈ A) : sumN A (fun x => if x = a then 1 else 0) = 1 := by
  rw [← sumN_keys (ks := [a]) (A := A) (by simp) nA (by simpa using ha) fun x hx => if_neg (by simpa using hx), sumN_cons, sumN_nil, if_pos rfl]
theorem csum_counts {α : Type} [DecidableEq α] {A : List α} (nA : A.Nodup) : ∀ {xs ys : List α}, (∀ x ∈ xs, x ∈ A) → csum xs ys = sumN A fun a => min (xs.count a) (ys.count a)
  | [], ys, _ => (sumN_zero fun a _ => by show min 0 _ = 0; omega).symm
  | x :: xs, ys, h => by
    have r := csum_counts nA (xs := xs) (ys := ys.erase x) fun y hy => h y (List.mem_cons_of_mem _ hy)
    rw [csum_cons]
    by_cases hx : x ∈ ys
    · rw [if_pos hx, r]
      have e : sumN A (fun a => min ((x :: xs).count a) (ys.count a)) = sumN A fun a => min (xs.count a) ((ys.erase x).count a) + if a = x then 1 else 0 := sumN_congr fun a _ => by
        have pos := List.count_pos_iff.mpr hx
        rw [List.count_cons, List.count_erase]
        by_cases q : a = x
        · subst q; simp; omega
        · have q' : ¬ x = a := fun z => q z.symm
          simp [q, q']
      rw [e, sumN_add (fun a => min (xs.count a) ((ys.erase x).count a)) (fun a => if a = x then 1 else 0) A, sumN_hit nA (h x List.mem_cons_self)]
    · rw [if_neg hx, r, List.erase_of_not_mem hx]
      refine sumN_congr fun a _ => ?_
      rw [List.count_cons]
      by_cases q : a = x
      · subst q
        rw [List.count_eq_zero.mpr hx]
        omega
      · have q' : ¬ x = a := fun z => q z.symm
        simp [q']
/-- three letters in a text of four -/
def k3 (t : Tr3) : Str := ⟨#[t.1, 45, t.2.1, t.2.2]⟩
def kS3 (t : Tr3) : Key := .inr (k3 t)
theorem kS3_inj : ∀ s t : Tr3, kS3 s = kS3 t → s = t := fun s t h => by
  have e := Sum.inr.inj h
  unfold k3 at e
  injection e with e
  have e' := congrArg Array.toList e
  simp at e'
  obtain ⟨a, b, c⟩ := e'
  exact Prod.ext a (Prod.ext b c)
theorem keys_put {κ : Type} [DecidableEq κ] (kvs : List (κ × V)) (k : κ) (v : V) : (putK kvs k v).map (·.1) = if k ∈ kvs.map (·.1) then kvs.map (·.1) else kvs.map (·.1) ++ [k] := by
  have e : (kvs.any fun kv => decide (kv.1 = k)) = decide (k ∈ kvs.map (·.1)) := by
    rw [Bool.eq_iff_iff, List.any_eq_true, decide_eq_true_iff, List.mem_map]
    exact ⟨fun ⟨x, hx, z⟩ => ⟨x, hx, of_decide_eq_true z⟩, fun ⟨x, hx, z⟩ => ⟨x, hx, decide_eq_true z⟩⟩
  unfold putK
  rw [e]
  by_cases h : k ∈ kvs.map (·.1)
  · rw [if_pos (decide_eq_true h), if_pos h, List.map_map]
    refine List.map_congr_left fun x _ => ?_
    show (if x.1 = k then (x.1, v) else x).1 = x.1
    split <;> rfl
  · rw [if_neg (by simpa using h), if_neg h, List.map_append]; rfl
def cntD {α : Type} [DecidableEq α] (x : α) (ys : List α) : Nat := ys.count x
/-- the keys, each once, those of the counted -/
structure Keyed (kvs : List (Key × V)) (xs ks : List Tr3) : Prop where
  keys : kvs.map (·.1) = ks.map kS3
  nd : ks.Nodup
  own : ∀ x, x ∈ ks ↔ x ∈ xs
  cnt : CntIs kS3 kvs xs
  few : ks.length ≤ xs.length
theorem Keyed.nil : Keyed [] [] [] := ⟨rfl, .nil, fun _ => Iff.rfl, CntIs.nil, Nat.le_refl _⟩
theorem Keyed.add {kvs : List (Key × V)} {xs ks : List Tr3} (h : Keyed kvs xs ks) (x : Tr3) : ∃ ks', Keyed (putK kvs (kS3 x) (.int ((cntD x xs : Nat) + 1))) (xs ++ [x]) ks' := by
  have m : kS3 x ∈ kvs.map (·.1) ↔ x ∈ ks := by
    rw [h.keys, List.mem_map]
    exact ⟨fun ⟨y, hy, e⟩ => kS3_inj _ _ e ▸ hy, fun hx => ⟨x, hx, rfl⟩⟩
  by_cases c : x ∈ ks
  · refine ⟨ks, ⟨by rw [keys_put, if_pos (m.mpr c)]; exact h.keys, h.nd, fun y => ?_, h.cnt.add kS3_inj x, by have := h.few; rw [List.length_append]; simp; omega⟩⟩
    rw [List.mem_append, List.mem_singleton, h.own]
    exact ⟨.inl, fun z => z.elim id fun e => e ▸ (h.own x).mp c⟩
  · refine ⟨ks ++ [x], ⟨by rw [keys_put, if_neg fun z => c (m.mp z), h.keys, List.map_append]; rfl, List.nodup_append.mpr ⟨h.nd, by simp, fun u hu v hv => by rw [List.mem_singleton.mp hv]; exact fun z => c (z ▸ hu)⟩, fun y => ?_, h.cnt.add kS3_inj x, by have := h.few; rw [List.length_append, List.length_append]; simp; omega⟩⟩
    rw [List.mem_append, List.mem_append, List.mem_singleton, h.own]
theorem Keyed.len {kvs : List (Key × V)} {xs ks : List Tr3} (h : Keyed kvs xs ks) : kvs.length = ks.length := by
  have := congrArg List.length h.keys
  rwa [List.length_map, List.length_map] at this
theorem sum_nats {α : Type} (f : α → Nat) : ∀ l : List α, ((l.map f).map fun n : Nat => (n : Int)).sum = (sumN l f : Nat)
  | [] => rfl
  | x :: l => by
    rw [List.map_cons, List.map_cons, List.sum_cons, sum_nats f l, sumN_cons]
    omega
end Cw

namespace Cw
open PySem PySem.Spec PyProof.Rows L2
local macro_rules | `(tactic| walk_at "rd1") => `(tactic| first
  | (with_reducible refine d_seq ?_) | (with_reducible refine d_asg ?_) | (with_reducible refine d_cons ?_) | (with_reducible refine d_nil ?_)
  | ((with_reducible refine' d_var ?e ?_); (case e => exact rfl))
  | (with_reducible refine d_c ?_) | (with_reducible refine d_op ?_) | (with_reducible refine d_un ?_) | (with_reducible refine d_cb ?_)
  | (with_reducible refine d_rI0 ?_) | (with_reducible refine d_rU ?_) | (with_reducible refine d_eqI ?_) | (with_reducible refine d_neI ?_)
  | ((with_reducible refine d_rI ?hc ?_); (case hc => first | assumption | decide | exact ⟨by decide, by decide⟩ | exact ⟨by omega, by omega⟩ | exact .inl ⟨by omega, by omega⟩ | exact .inr ⟨by omega, by omega⟩))
  | ((with_reducible refine' d_ixLm ?h ?e ?_); (case h => first | assumption | exact upd_same); (case e => rfl)) | ((with_reducible refine' d_ixTm ?h ?e ?_); (case h => first | assumption | exact upd_same); (case e => rfl))
  | (with_reducible refine d_test ?_) | (with_reducible refine d_tB ?_) | (with_reducible refine d_bl ?_) | (with_reducible refine d_not ?_) | (with_reducible refine d_notV ?_) | (with_reducible refine d_and ?_) | (with_reducible refine d_or ?_)
  | (with_reducible refine d_if ?_) | (with_reducible refine d_andV ?_) | (with_reducible refine d_ifS ?_) | (with_reducible refine iteT ?_) | (with_reducible refine iteF ?_) | (with_reducible refine iteNT ?_) | (with_reducible refine iteNF ?_)
  | (with_reducible refine d_ret ?_) | (with_reducible refine d_retN ?_) | (with_reducible refine d_drop ?_) | (with_reducible refine d_next ?_) | (with_reducible refine d_brk ?_) | (with_reducible refine d_ct ?_)
  | (with_reducible refine d_gname ?_) | (with_reducible refine d_gcons ?_) | (with_reducible refine d_gnil ?_) | (with_reducible refine d_gsub ?_)
  | (with_reducible refine d_call ?_) | (with_reducible refine d_tup ?_) | (with_reducible refine d_lst ?_)
  | (with_reducible refine d_sl ?_) | (with_reducible refine d_nop ?_) | (with_reducible refine d_part ?_) | (with_reducible refine d_in ?_)
  | (with_reducible refine d_bm ?_) | (with_reducible refine d_bm0 ?_) | (with_reducible refine d_m1 ?_) | (with_reducible refine d_exs ?_)
  | ((with_reducible refine' d_setL ?h ?e ?_); (case h => first | assumption | exact upd_same); (case e => rfl))
  | ((with_reducible refine' d_gtupm ?h ?e ?_); (case h => first | assumption | exact upd_same); (case e => rfl))
  | ((with_reducible refine' d_aug ?e ?_); (case e => exact rfl))
  | (with_reducible refine d_for ?_) | (with_reducible refine d_lc ?_) | (with_reducible refine d_dc ?_) | (with_reducible refine d_iR1 ?_) | (with_reducible refine d_iR2 ?_) | (with_reducible refine d_iL ?_) | (with_reducible refine d_iT ?_) | (with_reducible refine d_iS ?_) | (with_reducible refine d_iSe ?_) | (with_reducible refine d_yes ?_) | (with_reducible refine d_lsten ?_) | (with_reducible refine d_iEnS ?_) | (with_reducible refine d_iEnSe ?_) | (with_reducible refine d_iEn ?_) | (with_reducible refine d_dget1 ?_) | (with_reducible refine d_dget2 ?_) | (with_reducible refine d_iCmb ?_) | (with_reducible refine d_dget ?_) | (with_reducible refine d_dput ?_) | (with_reducible refine d_daug ?_) | (with_reducible refine d_par ?_) | (with_reducible refine d_par2 ?_) | (with_reducible refine d_din ?_) | (with_reducible refine d_dnewT ?_) | (with_reducible refine d_dnewK ?_) | ((with_reducible refine d_wipe ?e ?_); (case e => rfl)) | (with_reducible refine d_lrg ?_) | (with_reducible refine d_rg1 ?_)
  | ((with_reducible refine d_iR1e ?a ?b ?_); (case a => omega); (case b => omega)) | ((with_reducible refine d_iR2e ?a ?_); (case a => omega))
  | (with_reducible refine d_isN ?_))
local macro_rules | `(tactic| walk_at "rd") => `(tactic| (repeat walk_at "rd1"))

def topS (i : Nat) : Stmt := PySem.Challenge.pw_commonweb_k40_bounds_by_degrees.main.body.getD i (.Pass ⟨0, 0, 0, 0⟩)
abbrev s_common_count : Stmt := topS 1
abbrev s_three_letters : Stmt := topS 2
abbrev s_all_neighbours : Stmt := topS 4
abbrev s_by_tie_kinds : Stmt := topS 6
abbrev s_letters_of_ties : Stmt := topS 7
abbrev s_by_degrees : Stmt := topS 8
abbrev s_degrees_by_kind : Stmt := topS 9
abbrev s_ties_bound : Stmt := topS 10
abbrev s_draws : Stmt := topS 12
abbrev s_take : Stmt := topS 13
abbrev s_great_web : Stmt := topS 14
abbrev s_whole : Stmt := topS 15
abbrev s_degrees : Stmt := topS 16
abbrev s_threes : Stmt := topS 17
abbrev s_law : Stmt := topS 18
theorem sc_common_count : FnScope ["these", "those", "left", "thing", "told"] ["these", "those"] (defScope s_common_count) := ⟨rfl, rfl, rfl, by decide +kernel, rfl, by decide +kernel, by decide +kernel⟩
theorem sc_three_letters : FnScope ["kinds", "tie", "place", "other", "kind"] ["kinds", "tie"] (defScope s_three_letters) := ⟨rfl, rfl, rfl, by decide +kernel, rfl, by decide +kernel, by decide +kernel⟩
theorem sc_all_neighbours : FnScope ["web", "beside", "place", "other", "_"] ["web"] (defScope s_all_neighbours) := ⟨rfl, rfl, rfl, by decide +kernel, rfl, by decide +kernel, by decide +kernel⟩
theorem sc_by_tie_kinds : FnScope ["one", "other"] ["one", "other"] (defScope s_by_tie_kinds) := ⟨rfl, rfl, rfl, by decide +kernel, rfl, by decide +kernel, by decide +kernel⟩
theorem sc_letters_of_ties : FnScope ["web", "tie"] ["web"] (defScope s_letters_of_ties) := ⟨rfl, rfl, rfl, by decide +kernel, rfl, by decide +kernel, by decide +kernel⟩
theorem sc_by_degrees : FnScope ["one", "other", "here", "there", "told", "kind", "degree", "degree_there"] ["one", "other"] (defScope s_by_degrees) := ⟨rfl, rfl, rfl, by decide +kernel, rfl, by decide +kernel, by decide +kernel⟩
theorem sc_degrees_by_kind : FnScope ["web", "told", "kind", "beside"] ["web"] (defScope s_degrees_by_kind) := ⟨rfl, rfl, rfl, by decide +kernel, rfl, by decide +kernel, by decide +kernel⟩
theorem sc_ties_bound : FnScope ["one", "other"] ["one", "other"] (defScope s_ties_bound) := ⟨rfl, rfl, rfl, by decide +kernel, rfl, by decide +kernel, by decide +kernel⟩
theorem sc_draws : FnScope ["script", "draws", "k", "rest", "stir", "many"] ["script"] (defScope s_draws) := ⟨rfl, rfl, rfl, by decide +kernel, rfl, by decide +kernel, by decide +kernel⟩
theorem sc_take : FnScope ["draws", "many"] ["draws", "many"] (defScope s_take) := ⟨rfl, rfl, rfl, by decide +kernel, rfl, by decide +kernel, by decide +kernel⟩
theorem sc_great_web : FnScope ["draws", "many", "some", "tied", "full", "one", "other", "chosen", "kinds", "ties", "place", "beside", "mixed", "k", "at"] ["draws"] (defScope s_great_web) := ⟨rfl, rfl, rfl, by decide +kernel, rfl, by decide +kernel, by decide +kernel⟩
theorem sc_whole : FnScope ["thing"] ["thing"] (defScope s_whole) := ⟨rfl, rfl, rfl, by decide +kernel, rfl, by decide +kernel, by decide +kernel⟩
theorem sc_degrees : FnScope ["web", "kind", "found", "place", "low", "high", "tied", "degree"] ["web", "kind"] (defScope s_degrees) := ⟨rfl, rfl, rfl, by decide +kernel, rfl, by decide +kernel, by decide +kernel⟩
theorem sc_threes : FnScope ["web", "found", "place", "beside", "kind", "ends", "three"] ["web"] (defScope s_threes) := ⟨rfl, rfl, rfl, by decide +kernel, rfl, by decide +kernel, by decide +kernel⟩
theorem sc_law : FnScope ["script", "draws", "many", "one", "other", "total", "kind", "low", "high", "found", "first", "second", "due", "three"] ["script"] (defScope s_law) := ⟨rfl, rfl, rfl, by decide +kernel, rfl, by decide +kernel, by decide +kernel⟩
/-- what the top leaves -/
structure Tx (K : PySem.W.Frag) (mg : Str → Option Value) where
  common_count : Df K mg "common_count" s_common_count ["these", "those"]
  three_letters : Df K mg "three_letters" s_three_letters ["kinds", "tie"]
  all_neighbours : Df K mg "all_neighbours" s_all_neighbours ["web"]
  by_tie_kinds : Df K mg "by_tie_kinds" s_by_tie_kinds ["one", "other"]
  letters_of_ties : Df K mg "letters_of_ties" s_letters_of_ties ["web"]
  by_degrees : Df K mg "by_degrees" s_by_degrees ["one", "other"]
  degrees_by_kind : Df K mg "degrees_by_kind" s_degrees_by_kind ["web"]
  ties_bound : Df K mg "ties_bound" s_ties_bound ["one", "other"]
  draws : Df K mg "_law_draws" s_draws ["script"]
  take : Df K mg "_law_take" s_take ["draws", "many"]
  great_web : Df K mg "_law_great_web" s_great_web ["draws"]
  whole : Df K mg "_law_whole" s_whole ["thing"]
  degrees : Df K mg "_law_degrees" s_degrees ["web", "kind"]
  threes : Df K mg "_law_threes" s_threes ["web"]
  law : Df K mg "law" s_law ["script"]
  m_abs : mg "abs" = none
  m_bool : mg "bool" = none
  m_int : mg "int" = none
  m_isinstance : mg "isinstance" = none
  m_len : mg "len" = none
  m_max : mg "max" = none
  m_min : mg "min" = none
  m_range : mg "range" = none
  m_set : mg "set" = none
  m_sorted : mg "sorted" = none
  m_sum : mg "sum" = none
  m_tuple : mg "tuple" = none
  m_zip : mg "zip" = none
section
variable {P : Program} {w : World} {K : PySem.W.Frag} {mg : Str → Option Value} {base : Heap}
/-- what is drawn, in a list that shrinks -/
def Drs (H : Hp) (d : Addr) : Prop := ∃ ns : List Int, H d = some (.lst (ns.map V.int)) ∧ ns.length ≤ 10000
theorem Drs.same {H H' : Hp} {d : Addr} (x : Drs H d) (s : Same H H') : Drs H' d := by
  obtain ⟨ns, e, l⟩ := x
  exact ⟨ns, s _ _ e, l⟩
theorem Drs.ne {H : Hp} {d p : Addr} (x : Drs H d) (n : H p = none) : p ≠ d := by
  obtain ⟨ns, e, l⟩ := x
  exact (ne_of_none e n).symm
theorem Drs.put {H : Hp} {d p : Addr} {o : HO} (x : Drs H d) (n : p ≠ d) : Drs (upd H p o) d := by
  obtain ⟨ns, e, l⟩ := x
  exact ⟨ns, by rw [upd_ne n.symm]; exact e, l⟩
def IL (n : Nat) (xs : List V) : Prop := ∃ zs : List Int, xs = zs.map V.int ∧ zs.length ≤ n
theorem IL.app {n : Nat} {xs : List V} (x : IL n xs) (z : Int) : IL (n + 1) (xs ++ [V.int z]) := by
  obtain ⟨zs, rfl, l⟩ := x
  exact ⟨zs ++ [z], by rw [List.map_append]; rfl, by rw [List.length_append]; show zs.length + 1 ≤ _; omega⟩
theorem IL.len {n : Nat} {xs : List V} (x : IL n xs) : xs.length ≤ n := by
  obtain ⟨zs, rfl, l⟩ := x
  rw [List.length_map]; exact l
theorem IL.mono {n m : Nat} {xs : List V} (x : IL n xs) (h : n ≤ m) : IL m xs := by
  obtain ⟨zs, e, l⟩ := x
  exact ⟨zs, e, by omega⟩
def spDraws (K : PySem.W.Frag) : Sp := fun vs H Q _ => ∃ (a : Addr) (ns : List Int), vs = [.ref a] ∧ SqL K H a (ns.map V.int) ∧ ns.length ≤ 63 ∧ ∀ H' d, Same H H' → H d = none → Drs H' d → Q (.ref d) H'
theorem ok_draws (T : Tx K mg) : FnOk P w K mg base CX0 1 T.draws.f T.draws.fd ["script"] (spDraws K) := by
  refine T.draws.F.ok sc_draws (fun vs H Q E h => ?_) (fun cdv A outer s H vs Q E hr h => ?_)
  · obtain ⟨_, _, rfl, _⟩ := h; rfl
  · obtain ⟨a, ns, rfl, hS, hl, q⟩ := h
    refine ⟨_, (pss_cons (ps_set (i := 1) sc_draws.nd rfl (.inl rfl) (pe_lst pa_nil))
      (pss_cons (ps_for PassesOwn.never rfl (pi_range1 (by rfl) T.m_range (pa_cons (pe_callB (call_min2 rfl) (by rfl) T.m_min (by decide +kernel) (pa_cons (pe_callB call_len_seq (by rfl) T.m_len (by decide +kernel) (pa_cons (pv 0) pa_nil)) (pa_cons pe_int pa_nil))) pa_nil)) (pg_name (i := 2) sc_draws.nd rfl (.inl rfl))
        (pss_cons (ps_set (i := 3) sc_draws.nd rfl (.inl rfl) (pe_callB call_abs (by rfl) T.m_abs (by decide +kernel) (pa_cons (pe_ix ix_list (pv 0) (pv 2) (fun _ _ => rfl)) pa_nil)))
        (pss_one (ps_if (pt_cmpR op_lt (pv 3) (pe_op op_pow pe_int pe_int) (nomark _))
          (pss_cons (ps_set (i := 4) sc_draws.nd rfl (.inl rfl) (pe_op op_mod (pe_op op_mul (pe_op op_mod (pe_op op_add (pe_op op_add (pv 3) (pe_op op_mul pe_int (pv 2))) pe_int) pe_int) pe_int) pe_int))
          (pss_cons (ps_set (i := 4) sc_draws.nd rfl (.inl rfl) (pe_op op_mod (pe_op op_mul (pv 4) (pv 4)) pe_int))
          (pss_cons (ps_expr (pe_bm PySem.F.plainAttrs_list PySem.F.slot_list_append PySem.F.type_list_append mt_append (pv 1) (pa_cons (pe_op op_mod (pe_op op_fdiv (pv 4) pe_int) pe_int) pa_nil)))
          (pss_cons (ps_expr (pe_bm PySem.F.plainAttrs_list PySem.F.slot_list_append PySem.F.type_list_append mt_append (pv 1) (pa_cons (pe_op op_mod (pe_op op_fdiv (pv 4) pe_int) pe_int) pa_nil)))
          (pss_cons (ps_set (i := 4) sc_draws.nd rfl (.inl rfl) (pe_op op_mod (pe_op op_add (pv 4) (pe_op op_mul pe_int (pe_op op_add (pv 2) pe_int))) pe_int))
          (pss_one (ps_expr (pe_bm PySem.F.plainAttrs_list PySem.F.slot_list_append PySem.F.type_list_append mt_append (pv 1) (pa_cons (pe_op op_mod (pe_op op_fdiv (pe_op op_mod (pe_op op_mul (pv 4) (pv 4)) pe_int) pe_int) pe_int) pa_nil)))))))))
          (pss_cons (ps_set (i := 5) sc_draws.nd rfl (.inl rfl) pe_int)
          (pss_one (ps_while PassesOwn.never (PW.pt (pw_and (pt_cmpR op_ge (pv 3) pe_int (nomark _)) (pw_and1 (pt_cmpR op_lt (pv 5) pe_int (nomark _)))))
            (pss_cons (ps_expr (pe_bm PySem.F.plainAttrs_list PySem.F.slot_list_append PySem.F.type_list_append mt_append (pv 1) (pa_cons (pe_op op_mod (pv 3) pe_int) pa_nil)))
            (pss_cons (ps_set (i := 3) sc_draws.nd rfl (.inl rfl) (pe_op op_fdiv (pv 3) pe_int))
            (pss_one (ps_set (i := 5) sc_draws.nd rfl (.inl rfl) (pe_op op_add (pv 5) pe_int))))))))))))
      (pss_one (ps_ret (pe_slice sl_list (pv 1) po_none (po_some pe_int)))))), ?_⟩
    walk_at "rd"
    refine ⟨sz (by decide), fun D fD => ?_⟩
    walk_at "rd"
    have s0 := same_new (o := .lst []) fD
    refine d_lenL (Same.seq s0 hS) ?_
    rw [List.length_map]
    walk_at "rd"
    refine ⟨_, _, rfl, ?_⟩
    rw [if_neg (by omega)]
    walk_at "rd"
    refine for_range (fun i σ H' => ∃ y2 y3 y4 y5 xs, σ = [some (.ref a), some (.ref D), y2, y3, y4, y5] ∧ Same H H' ∧ H' D = some (.lst xs) ∧ IL (60 * i) xs)
      ⟨_, _, _, _, [], rfl, s0, upd_same, [], rfl, by simp⟩ (fun i σ H' hi hP => ?_) (fun σ H' hP => ?_)
    · obtain ⟨y2, y3, y4, y5, xs, rfl, sm, eD, il⟩ := hP
      have hi' : i < ns.length := by omega
      have lx := il.len
      walk_at "rd"
      simp only [Int.zero_add]
      refine d_ixL (Same.seq sm hS) (atI_nat (by rw [List.getElem?_map, List.getElem?_eq_getElem hi']; rfl)) ?_
      generalize ns[i] = c
      walk_at "rd"
      refine ⟨c, rfl, ?_⟩
      have r0 : 0 ≤ (if c < 0 then -c else c) := by split <;> omega
      generalize (if c < 0 then -c else c) = rest at r0
      walk_at "rd"
      refine ite2 (fun e => ?_) (fun e => ?_)
      · walk_at "rd"
        refine d_app eD ?_
        walk_at "rd"
        refine d_append eD (szl (by omega)) ?_
        walk_at "rd"
        refine d_app upd_same ?_
        walk_at "rd"
        refine d_append upd_same (szl (by rw [List.length_append]; show xs.length + 1 ≤ 100000; omega)) ?_
        walk_at "rd"
        refine d_app upd_same ?_
        walk_at "rd"
        refine d_append upd_same (szl (by rw [List.length_append, List.length_append]; show xs.length + 1 + 1 ≤ 100000; omega)) ?_
        exact ⟨_, _, _, _, _, rfl, same_upd (same_upd (same_upd sm fD) fD) fD, upd_same, (((il.app _).app _).app _).mono (by omega)⟩
      · walk_at "rd"
        refine ⟨fun m σ H2 => ∃ (r : Int) (k : Nat) (y4 : Option V) (ks : List V), m = 60 - k ∧ σ = [some (.ref a), some (.ref D), some (.int (i : Nat)), some (.int r), y4, some (.int (k : Nat))] ∧ 0 ≤ r ∧ k ≤ 60 ∧ Same H H2 ∧ H2 D = some (.lst ks) ∧ IL (60 * i + k) ks,
          ⟨_, rest, 0, _, xs, rfl, rfl, r0, by omega, sm, eD, il⟩, ?_⟩
        rintro m σ H2 ⟨r, k, y4', ks, rfl, rfl, rr, hk, sm2, eD2, lk⟩
        have lks := lk.len
        walk_at "rd"
        refine ite2 (fun e1 => ?_) (fun e1 => ?_)
        · walk_at "rd"
          refine ite2 (fun e2 => ?_) (fun e2 => ?_)
          · have e2' := of_decide_eq_true e2
            refine ⟨fun σ' H3 => ∃ (r : Int) (y4 : Option V) (ks : List V), σ' = [some (.ref a), some (.ref D), some (.int (i : Nat)), some (.int r), y4, some (.int ((k + 1 : Nat) : Int))] ∧ 0 ≤ r ∧ Same H H3 ∧ H3 D = some (.lst ks) ∧ IL (60 * i + (k + 1)) ks,
              fun σ' H3 ⟨r', y', ks', h1, h2, h3, h4, h5⟩ => ⟨60 - (k + 1), by omega, r', k + 1, y', ks', rfl, h1, h2, by omega, h3, h4, h5⟩, ?_⟩
            walk_at "rd"
            refine d_app eD2 ?_
            walk_at "rd"
            refine d_append eD2 (szl (by omega)) ?_
            walk_at "rd"
            exact ⟨_, _, _, rfl, Int.ediv_nonneg rr (by decide), same_upd sm2 fD, upd_same, lk.app _⟩
          · walk_at "rd"
            exact ⟨_, _, _, _, _, rfl, sm2, eD2, lk.mono (by omega)⟩
        · walk_at "rd"
          exact ⟨_, _, _, _, _, rfl, sm2, eD2, lk.mono (by omega)⟩
    · obtain ⟨y2, y3, y4, y5, xs, rfl, sm, eD, il⟩ := hP
      walk_at "rd"
      refine d_slL (SqL.of eD) fun p fp => ?_
      obtain ⟨zs', rfl, lz⟩ := il
      have l240 := cutV_length (zs'.map V.int) none (some 240)
      rw [List.length_map] at l240
      have hz : ∃ ws : List Int, cutV (zs'.map V.int) none (some 240) = ws.map V.int := by
        unfold cutV
        exact ⟨_, by rw [← List.map_drop, ← List.map_take]⟩
      obtain ⟨ws, ew⟩ := hz
      rw [ew] at l240 ⊢
      rw [List.length_map] at l240
      walk_at "rd"
      exact q _ p (same_upd sm (Same.free sm fp)) (Same.free sm fp) ⟨ws, upd_same, by omega⟩
def spTake : Sp := fun vs H Q _ => ∃ (d : Addr) (n : Int), vs = [.ref d, .int n] ∧ 0 < n ∧ Drs H d ∧ ∀ H' g, Keep d H H' → Drs H' d → 0 ≤ g → g < n → Q (.int g) H'
theorem ok_take (T : Tx K mg) : FnOk P w K mg base CX0 1 T.take.f T.take.fd ["draws", "many"] spTake := by
  refine T.take.F.ok sc_take (fun vs H Q E h => ?_) (fun cdv A outer s H vs Q E hr h => ?_)
  · obtain ⟨_, _, rfl, _⟩ := h; rfl
  · obtain ⟨d, n, rfl, n0, ⟨ns, e, l⟩, q⟩ := h
    refine ⟨_, (pss_cons (ps_if (pt_cmpR (op_eqD (hr.units)) (pv 0) (pe_lst pa_nil) (nomark _))
        (pss_one (ps_ret pe_int))
        pss_nil)
      (pss_one (ps_ret (pe_op op_mod (pe_bm PySem.F.plainAttrs_list PySem.F.slot_list_pop PySem.F.type_list_pop mt_popAt (pv 0) (pa_cons pe_int pa_nil)) (pv 1))))), ?_⟩
    walk_at "rd"
    refine ⟨sz (by decide), fun p fp => ?_⟩
    have s1 := same_new (o := .lst []) fp
    have e1 := s1 _ _ e
    refine ⟨.list (ns.map PyData.int), .list [], .lst (SqL.of e1) (dpa_ints ns), .lst (SqL.of upd_same) .nil, shaped_ints ns, by decide, ?_⟩
    cases ns with
    | nil =>
      rw [show PyData.eqv (.list (([] : List Int).map PyData.int)) (.list []) = true by decide]
      walk_at "rd"
      exact q _ 0 (Same.keep s1) ⟨[], e1, l⟩ (Int.le_refl _) n0
    | cons x r =>
      rw [show PyData.eqv (.list ((x :: r).map PyData.int)) (.list []) = false from rfl]
      walk_at "rd"
      refine ⟨.inl ⟨rfl, _, SqL.of e1⟩, ?_⟩
      walk_at "rd"
      refine ⟨d, _, 0, 0, .int x, rfl, rfl, e1, by omega, by omega, by simp [seqIndex?], rfl, ?_⟩
      walk_at "rd"
      exact q _ _ (Keep.trans (Same.keep s1) Keep.put) ⟨r, upd_same, by simp at l; omega⟩ (Int.emod_nonneg _ (by omega)) (Int.emod_lt_of_pos _ n0)
def Lts (z : Str) : Prop := (z.cps.toList.all fun c => decide (97 ≤ c) && decide (c ≤ 122)) = true ∧ 0 < z.length ∧ z.length ≤ 26
theorem Lts.at {z : Str} (l : Lts z) {g : Int} (h0 : 0 ≤ g) (h1 : g < z.length) : ∃ c, atI z.cps.toList g = some c ∧ Ltr c := by
  obtain ⟨n, rfl⟩ := Int.eq_ofNat_of_zero_le h0
  have hn : n < z.cps.toList.length := by
    have e : z.cps.toList.length = z.length := rfl
    omega
  refine ⟨z.cps.toList[n], atI_nat (List.getElem?_eq_getElem hn), ?_⟩
  have a := List.all_eq_true.mp l.1 _ (List.getElem_mem hn)
  simp only [Bool.and_eq_true, decide_eq_true_eq] at a
  exact a
theorem four {H : Hp} {p : Addr} {a b c e : Str} (hp : H p = some (.lst [.str a, .str b, .str c, .str e])) {g : Int} (h0 : 0 ≤ g) (h1 : g < 4) (ha : Lts a ∧ Lts b ∧ Lts c ∧ Lts e) : ∃ z, Lts z ∧ ∀ {Q : VK}, Q (.str z) H → rIxL K (.ref p) (.int g) H Q := by
  have h : g = 0 ∨ g = 1 ∨ g = 2 ∨ g = 3 := by omega
  rcases h with rfl | rfl | rfl | rfl
  · exact ⟨a, ha.1, fun q => d_ixLm hp rfl q⟩
  · exact ⟨b, ha.2.1, fun q => d_ixLm hp rfl q⟩
  · exact ⟨c, ha.2.2.1, fun q => d_ixLm hp rfl q⟩
  · exact ⟨e, ha.2.2.2, fun q => d_ixLm hp rfl q⟩
/-- a great web, from what is drawn -/
def spGW (K : PySem.W.Frag) : Sp := fun vs H Q _ => ∃ d : Addr, vs = [.ref d] ∧ Drs H d ∧ ∀ H' v u, Keep d H H' → Drs H' d → WebAt K H' v u → WOk u → Q v H'
theorem ok_great_web (T : Tx K mg) : FnOk P w K mg base CX0 2 T.great_web.f T.great_web.fd ["draws"] (spGW K) := by
  refine T.great_web.F.ok sc_great_web (fun vs H Q E h => ?_) (fun cdv A outer s H vs Q E hr h => ?_)
  · obtain ⟨_, rfl, _⟩ := h; rfl
  · obtain ⟨d, rfl, hd, q⟩ := h
    refine ⟨_, (pss_cons (ps_set (i := 1) sc_great_web.nd rfl (.inl rfl) (pe_call (ok_take T) (hr.mono (by decide)) (by rfl) T.take.g T.take.F.kp T.take.b .nil pass0 (pa_cons (pv 0) (pa_cons pe_int pa_nil))))
      (Evl.pss_cut (ps_if (pt_cmpR op_eq (pe_call (ok_take T) (hr.mono (by decide)) (by rfl) T.take.g T.take.F.kp T.take.b .nil pass0 (pa_cons (pv 0) (pa_cons pe_int pa_nil))) pe_int (nomark _))
        (pss_one (ps_set (i := 1) sc_great_web.nd rfl (.inl rfl) (pe_ix ix_list (pe_lst (pa_cons pe_int (pa_cons (pe_call (ok_take T) (hr.mono (by decide)) (by rfl) T.take.g T.take.F.kp T.take.b .nil pass0 (pa_cons (pv 0) (pa_cons pe_int pa_nil))) pa_nil))) (pe_call (ok_take T) (hr.mono (by decide)) (by rfl) T.take.g T.take.F.kp T.take.b .nil pass0 (pa_cons (pv 0) (pa_cons pe_int pa_nil))) (fun _ _ => rfl))))
        pss_nil)
      (pss_cons (ps_set (i := 2) sc_great_web.nd rfl (.inr rfl) (pe_ix ix_list (pe_lst (pa_cons pe_str (pa_cons pe_str (pa_cons pe_str (pa_cons pe_str pa_nil))))) (pe_call (ok_take T) (hr.mono (by decide)) (by rfl) T.take.g T.take.F.kp T.take.b .nil pass0 (pa_cons (pv 0) (pa_cons pe_int pa_nil))) (fun _ _ => rfl)))
      (pss_cons (ps_set (i := 3) sc_great_web.nd rfl (.inl rfl) (pe_ix ix_list (pe_lst (pa_cons pe_str (pa_cons pe_str (pa_cons pe_str (pa_cons pe_str pa_nil))))) (pe_call (ok_take T) (hr.mono (by decide)) (by rfl) T.take.g T.take.F.kp T.take.b .nil pass0 (pa_cons (pv 0) (pa_cons pe_int pa_nil))) (fun _ _ => rfl)))
      (pss_cons (ps_set (i := 4) sc_great_web.nd rfl (.inl rfl) (pe_call (ok_take T) (hr.mono (by decide)) (by rfl) T.take.g T.take.F.kp T.take.b .nil pass0 (pa_cons (pv 0) (pa_cons pe_int pa_nil))))
      (pss_cons (ps_set (i := 5) sc_great_web.nd rfl (.inr rfl) (pe_call (ok_take T) (hr.mono (by decide)) (by rfl) T.take.g T.take.F.kp T.take.b .nil pass0 (pa_cons (pv 0) (pa_cons pe_int pa_nil))))
      (pss_cons (ps_set (i := 6) sc_great_web.nd rfl (.inr rfl) (pe_op op_add pe_int (pe_call (ok_take T) (hr.mono (by decide)) (by rfl) T.take.g T.take.F.kp T.take.b .nil pass0 (pa_cons (pv 0) (pa_cons pe_int pa_nil)))))
      (pss_cons (ps_setLc (i := 7) (own := [("k", 13)]) (g := gName 13) (tt := tYes) rfl sc_great_web.nd rfl rfl (sw_true rfl rfl rfl (by decide +kernel)) (pi_range1 (by rfl) T.m_range (pa_cons (pv 1) pa_nil)) (blkOk_by (N := ["draws", "many", "some", "tied", "full", "one", "other", "chosen", "kinds", "ties", "place", "beside", "mixed", "k", "at"]) (sc := defScope s_great_web) (by decide +kernel)) (fun _ _ _ _ _ => (pg_name (i := 13) sc_great_web.nd rfl (.inl rfl))) (fun _ _ _ _ _ => pts_nil) (fun _ _ _ _ _ => (pe_op op_mod (pe_op op_mod (pe_op op_add (pe_op op_mul (pe_op op_mul (pv 13) (pv 13)) (pv 5)) (pe_op op_mul (pv 13) (pv 6))) pe_int) (pe_callB call_len_str (by rfl) T.m_len (by decide +kernel) (pa_cons (pv 2) pa_nil)))))
      (pss_cons (ps_set (i := 8) sc_great_web.nd rfl (.inl rfl) (pe_join pe_str (pe_lc (own := [("at", 14)]) (g := gName 14) (tt := tYes) rfl sc_great_web.nd (pi_list (pv 7)) (blkOk_by (N := ["draws", "many", "some", "tied", "full", "one", "other", "chosen", "kinds", "ties", "place", "beside", "mixed", "k", "at"]) (sc := defScope s_great_web) (by decide +kernel)) (fun _ _ _ _ _ => (pg_name (i := 14) sc_great_web.nd rfl (.inl rfl))) (fun _ _ _ _ _ => pts_nil) (fun _ _ _ _ _ => (pe_ix ix_str (pv 2) (pv 14) (fun _ _ => rfl))))))
      (pss_cons (ps_set (i := 9) sc_great_web.nd rfl (.inl rfl) (pe_lst pa_nil))
      (pss_cons (ps_for PassesOwn.never rfl (pi_range1 (by rfl) T.m_range (pa_cons (pv 1) pa_nil)) (pg_name (i := 10) sc_great_web.nd rfl (.inl rfl))
        (pss_one (ps_for PassesOwn.never rfl (pi_range2 (by rfl) T.m_range (pa_cons (pe_op op_add (pv 10) pe_int) (pa_cons (pv 1) pa_nil))) (pg_name (i := 11) sc_great_web.nd rfl (.inl rfl))
          (pss_cons (ps_set (i := 12) sc_great_web.nd rfl (.inl rfl) (pe_op op_add (pe_op op_mul (pe_op op_mul (pv 10) (pv 10)) (pv 5)) (pe_op op_mul (pv 11) (pv 6))))
          (pss_cons (ps_set (i := 12) sc_great_web.nd rfl (.inl rfl) (pe_op op_mod (pe_op op_add (pv 12) (pe_op op_mul (pe_op op_mul (pv 10) (pv 11)) pe_int)) pe_int))
          (pss_one (ps_if (pt_cmpR op_lt (pe_op op_mod (pv 12) pe_int) (pv 4) (nomark _))
            (pss_one (ps_expr (pe_bm PySem.F.plainAttrs_list PySem.F.slot_list_append PySem.F.type_list_append mt_append (pv 9) (pa_cons (pe_tup (pa_cons (pv 10) (pa_cons (pv 11) (pa_cons (pe_ix ix_str (pv 3) (pe_op op_mod (pe_op op_fdiv (pv 12) pe_int) (pe_callB call_len_str (by rfl) T.m_len (by decide +kernel) (pa_cons (pv 3) pa_nil))) (fun _ _ => rfl)) pa_nil)))) pa_nil))))
            pss_nil)))))))
      (pss_one (ps_ret (pe_tup (pa_cons (pv 8) (pa_cons (pe_callTy call_tuple_of (by rfl) T.m_tuple (by decide +kernel) (pa_cons (pv 9) pa_nil)) pa_nil)))))))))))))))), ?_⟩
    walk_at "rd"
    refine ⟨d, 13, rfl, by decide, hd, fun H1 m k1 hd1 m0 m1 => ?_⟩
    walk_at "rd"
    refine d_cut (fun σ' H' => ∃ n : Int, σ' = [some (.ref d), some (.int n), none, none, none, none, none, none, none, none, none, none, none, none, none] ∧ 0 ≤ n ∧ n ≤ 40 ∧ Keep d H H' ∧ Drs H' d) ?_ (fun σ' H' hM => ?_)
    · walk_at "rd"
      refine ⟨d, 4, rfl, by decide, hd1, fun H2 g k2 hd2 g0 g1 => ?_⟩
      walk_at "rd"
      refine ite2 (fun e => ?_) (fun e => ?_)
      · walk_at "rd"
        refine ⟨d, 41, rfl, by decide, hd2, fun H3 g3 k3 hd3 a3 b3 => ?_⟩
        walk_at "rd"
        refine ⟨sz (by show 2 ≤ 100000; decide), fun p fp => ?_⟩
        have np := hd3.ne fp
        walk_at "rd"
        refine ⟨d, 2, rfl, by decide, hd3.put np, fun H4 g4 k4 hd4 a4 b4 => ?_⟩
        have ep := k4 p _ np upd_same
        have kk : Keep d H H4 := Keep.trans (Keep.trans k1 (Keep.trans k2 k3)) (Keep.trans (Same.keep (same_new fp)) k4)
        have e4 : g4 = 0 ∨ g4 = 1 := by omega
        rcases e4 with rfl | rfl
        · exact d_ixLm ep rfl ⟨40, rfl, by decide, by decide, kk, hd4⟩
        · exact d_ixLm ep rfl ⟨g3, rfl, a3, by omega, kk, hd4⟩
      · walk_at "rd"
        exact ⟨m, rfl, m0, by omega, Keep.trans k1 k2, hd2⟩
    obtain ⟨n, rfl, n0, n40, kM, hdM⟩ := hM
    walk_at "rd"
    refine ⟨sz (by show 4 ≤ 100000; decide), fun p1 f1 => ?_⟩
    have np1 := hdM.ne f1
    walk_at "rd"
    refine ⟨d, 4, rfl, by decide, hdM.put np1, fun H1 g1 k1' hd1' a1 b1 => ?_⟩
    obtain ⟨some_, ls, e1⟩ := four (K := K) (k1' p1 _ np1 upd_same) a1 b1 (by unfold Lts; decide +kernel)
    refine e1 ?_
    have kM1 : Keep d H H1 := Keep.trans kM (Keep.trans (Same.keep (same_new f1)) k1')
    walk_at "rd"
    refine ⟨sz (by show 4 ≤ 100000; decide), fun p2 f2 => ?_⟩
    have np2 := hd1'.ne f2
    walk_at "rd"
    refine ⟨d, 4, rfl, by decide, hd1'.put np2, fun H2 g2 k2 hd2 a2 b2 => ?_⟩
    obtain ⟨tk, lt, e2⟩ := four (K := K) (k2 p2 _ np2 upd_same) a2 b2 (by unfold Lts; decide +kernel)
    refine e2 ?_
    have kM2 : Keep d H H2 := Keep.trans kM1 (Keep.trans (Same.keep (same_new f2)) k2)
    walk_at "rd"
    refine ⟨d, 10, rfl, by decide, hd2, fun H3 full k3 hd3 a3 b3 => ?_⟩
    walk_at "rd"
    refine ⟨d, 1000, rfl, by decide, hd3, fun H4 one k4 hd4 a4 b4 => ?_⟩
    walk_at "rd"
    refine ⟨d, 1000, rfl, by decide, hd4, fun H5 oth k5 hd5 a5 b5 => ?_⟩
    walk_at "rd"
    have kM5 : Keep d H H5 := Keep.trans kM2 (Keep.trans k3 (Keep.trans k4 k5))
    have lsp : (0 : Int) < some_.length := by have := ls.2.1; omega
    have ltp : (0 : Int) < tk.length := by have := lt.2.1; omega
    intro D fD
    refine lc_range (fun i H' => ∃ cs : List Int, cs.length = i ∧ (∀ c ∈ cs, 0 ≤ c ∧ c < some_.length) ∧ H' D = some (.lst (cs.map V.int)) ∧ Same H5 H') ⟨[], rfl, by simp, upd_same, same_new fD⟩ (fun i H' hi hP => ?_) (fun H' hP => ?_)
    · obtain ⟨cs, lc, bc, eD, sm⟩ := hP
      have hi' : i < 40 := by omega
      walk_at "rd"
      refine ⟨sz (by have := ls.2.2; omega), ?_⟩
      walk_at "rd"
      refine ⟨_, eD, szl (by rw [List.length_map]; omega), cs ++ [_], by rw [List.length_append, lc]; rfl, fun c hc => ?_, by rw [upd_same, List.map_append]; rfl, same_upd sm fD⟩
      rcases List.mem_append.mp hc with hc | hc
      · exact bc c hc
      · rw [List.mem_singleton.mp hc]
        exact ⟨Int.emod_nonneg _ (by omega), Int.emod_lt_of_pos _ lsp⟩
    obtain ⟨cs, lc, bc, eD, sm⟩ := hP
    have lcn : cs.length = n.toNat := lc
    have hdJ := hd5.same sm
    have kMJ := Keep.same kM5 sm
    walk_at "rd"
    refine d_iLe (SqL.of eD) ?_
    intro J fJ
    refine lc_list (K := K) (a := D) (xs := cs.map V.int) (fun i H6 => ∃ ds : List Nat, ds.length = i ∧ (∀ c ∈ ds, Ltr c) ∧ H6 J = some (.lst (ds.map fun c => V.str (sg c))) ∧ Same H' H6) ⟨[], rfl, by simp, upd_same, same_new fJ⟩ (fun i H6 _ hP => ?_) (fun i x H6 hx hP => ?_) (fun H6 hP => ?_)
    · obtain ⟨_, _, _, _, s6⟩ := hP
      exact SqL.of (s6 _ _ eD)
    · obtain ⟨ds, ld, bd, eJ, s6⟩ := hP
      rw [List.getElem?_map] at hx
      obtain ⟨z, hz, rfl⟩ := Option.map_eq_some_iff.mp hx
      have hi' := (List.getElem?_eq_some_iff.mp hz).1
      obtain ⟨z0, z1⟩ := bc z (List.mem_of_getElem? hz)
      obtain ⟨c, ec, lc'⟩ := ls.at z0 z1
      walk_at "rd"
      refine ⟨some_, z, c, rfl, rfl, sz (by have := ls.2.2; omega), ec, ?_⟩
      refine ⟨_, eJ, szl (by rw [List.length_map]; omega), ds ++ [c], by rw [List.length_append, ld]; rfl, fun x hx => ?_, by rw [upd_same, List.map_append]; rfl, same_upd s6 fJ⟩
      rcases List.mem_append.mp hx with hx | hx
      · exact bd x hx
      · rw [List.mem_singleton.mp hx]; exact lc'
    obtain ⟨ds, ld, bd, eJ, s6⟩ := hP
    rw [List.length_map] at ld
    have hd6 := hdJ.same s6
    have kM6 := Keep.same kMJ s6
    refine ⟨_, J, ds.map sg, rfl, rfl, .inl (SqL.of (by rw [List.map_map]; exact eJ)), ?_, ?_⟩
    · rw [sum_const _ 1 _ (by intro x hx; obtain ⟨c, _, rfl⟩ := List.mem_map.mp hx; rfl), List.length_map]
      have e0 : (Str.ofString "").length = 0 := by decide +kernel
      rw [e0]; omega
    rw [join_signs]
    walk_at "rd"
    refine ⟨sz (by decide), fun l fl => ?_⟩
    walk_at "rd"
    have nl := hd6.ne fl
    refine for_range (fun i σ H7 => ∃ y10 y11 y12 ts tvs, σ = [some (.ref d), some (.int n), some (.str some_), some (.str tk), some (.int full), some (.int one), some (.int (1 + oth)), some (.ref D), some (.str ⟨ds.toArray⟩), some (.ref l), y10, y11, y12, none, none] ∧ H7 l = some (.lst tvs) ∧ Paired (TieAt K H7) tvs ts ∧ ts.Pairwise tlt ∧
      (∀ t ∈ ts, t.1 < i ∧ t.1 < t.2.1 ∧ t.2.1 < n.toNat ∧ Ltr t.2.2) ∧ ts.length ≤ 40 * i ∧ Same H6 H7) ⟨_, _, _, [], [], rfl, upd_same, .nil, .nil, by simp, by simp, same_new fl⟩ (fun i σ H7 hi hP => ?_) (fun σ H7 hP => ?_)
    · obtain ⟨y10, y11, y12, ts, tvs, rfl, eL, pT, sT, bT, lT, s7⟩ := hP
      have hi' : i < 40 := by omega
      walk_at "rd"
      refine for_range (fun j σ H8 => ∃ y11 y12 ts tvs, σ = [some (.ref d), some (.int n), some (.str some_), some (.str tk), some (.int full), some (.int one), some (.int (1 + oth)), some (.ref D), some (.str ⟨ds.toArray⟩), some (.ref l), some (.int (0 + (i : Nat))), y11, y12, none, none] ∧ H8 l = some (.lst tvs) ∧ Paired (TieAt K H8) tvs ts ∧ ts.Pairwise tlt ∧
        (∀ t ∈ ts, (t.1 < i ∨ (t.1 = i ∧ t.2.1 < i + 1 + j)) ∧ t.1 < t.2.1 ∧ t.2.1 < n.toNat ∧ Ltr t.2.2) ∧ ts.length ≤ 40 * i + j ∧ Same H6 H8) ⟨_, _, ts, tvs, rfl, eL, pT, sT, fun t ht => ⟨.inl (bT t ht).1, (bT t ht).2⟩, lT, s7⟩ (fun j σ H8 hj hP => ?_) (fun σ H8 hP => ?_)
      · obtain ⟨z11, z12, us, uvs, rfl, eL8, pU, sU, bU, lU, s8⟩ := hP
        have hj' : j < 40 := by omega
        walk_at "rd"
        refine ite2 (fun e => ?_) (fun e => ?_)
        · walk_at "rd"
          refine d_app eL8 ?_
          walk_at "rd"
          first | (refine d_lenS (z := tk) (sz (by have := lt.2.2; omega)) ?_) | (refine ⟨sz (by have := lt.2.2; omega), ?_⟩)
          walk_at "rd"
          obtain ⟨c, ec, lc⟩ := lt.at (Int.emod_nonneg _ (by omega)) (Int.emod_lt_of_pos _ ltp)
          refine ⟨tk, _, c, rfl, rfl, sz (by have := lt.2.2; omega), ec, ?_⟩
          walk_at "rd"
          refine ⟨sz (by show 3 ≤ 100000; decide), fun p fp => ?_⟩
          walk_at "rd"
          have npl : l ≠ p := ne_of_none eL8 fp
          have eL9 : (upd H8 p (.tup [V.int (0 + (i : Nat)), V.int (0 + (i : Nat) + 1 + (j : Nat)), V.str (sg c)])) l = some (.lst uvs) := by rw [upd_ne npl]; exact eL8
          have luv : uvs.length = us.length := Paired.length pU
          refine d_append eL9 (szl (by omega)) ?_
          refine ⟨_, _, us ++ [(i, i + 1 + j, c)], uvs ++ [.ref p], rfl, upd_same, ?_, ?_, ?_, ?_, ?_⟩
          · have lst9 : ∃ ys, (upd H8 p (.tup [V.int (0 + (i : Nat)), V.int (0 + (i : Nat) + 1 + (j : Nat)), V.str (sg c)])) l = some (.lst ys) := ⟨_, eL9⟩
            refine Paired.snoc (Paired.imp pU fun _ _ z => (z.put (.inl fp)).put (.inr lst9)) ⟨p, rfl, ?_⟩
            refine sqt_upd (.inr lst9) (SqT.of ?_)
            rw [upd_same]
            simp only [Int.zero_add]
            rfl
          · refine List.pairwise_append.mpr ⟨sU, List.pairwise_singleton _ _, fun a ha b hb => ?_⟩
            rw [List.mem_singleton.mp hb]
            rcases (bU a ha).1 with z | ⟨z1, z2⟩
            · exact .inl z
            · exact .inr ⟨z1, z2⟩
          · intro t ht
            rcases List.mem_append.mp ht with ht | ht
            · obtain ⟨z1, z2⟩ := bU t ht
              refine ⟨?_, z2⟩
              rcases z1 with z | ⟨z3, z4⟩
              · exact .inl z
              · exact .inr ⟨z3, by omega⟩
            · rw [List.mem_singleton.mp ht]
              exact ⟨.inr ⟨rfl, by show i + 1 + j < i + 1 + (j + 1); omega⟩, by show i < i + 1 + j; omega, by show i + 1 + j < n.toNat; omega, lc⟩
          · rw [List.length_append]; show us.length + 1 ≤ _; omega
          · exact same_upd (same_upd s8 (Same.free s8 fp)) fl
        · walk_at "rd"
          exact ⟨_, _, us, uvs, rfl, eL8, pU, sU, fun t ht => ⟨(bU t ht).1.elim .inl fun z => .inr ⟨z.1, by omega⟩, (bU t ht).2⟩, by omega, s8⟩
      · obtain ⟨z11, z12, us, uvs, rfl, eL8, pU, sU, bU, lU, s8⟩ := hP
        walk_at "rd"
        exact ⟨_, _, _, us, uvs, rfl, eL8, pU, sU, fun t ht => ⟨(bU t ht).1.elim (fun z => by omega) fun z => by omega, (bU t ht).2⟩, by omega, s8⟩
    · obtain ⟨y10, y11, y12, ts, tvs, rfl, eL, pT, sT, bT, lT, s7⟩ := hP
      walk_at "rd"
      refine ⟨l, tvs, rfl, .inl ⟨SqL.of eL, fun R fR => ?_⟩⟩
      walk_at "rd"
      refine ⟨sz (by show 2 ≤ 100000; decide), fun W' fW => ?_⟩
      have sR := same_new (o := .tup tvs) fR
      have sW := same_new (o := .tup [V.str ⟨ds.toArray⟩, V.ref R]) fW
      have sf := Same.trans s7 (Same.trans sR sW)
      refine q _ _ (ds, ts) (Keep.same kM6 sf) (hd6.same sf) ⟨W', R, tvs, rfl, SqT.of upd_same, SqT.of (sW _ _ upd_same), Paired.imp pT fun _ _ z => z.same (Same.trans sR sW)⟩ ⟨by show ds.length ≤ 40; omega, by show ts.length ≤ 1600; omega, bd, sT, fun t ht => ?_⟩
      obtain ⟨z1, z2, z3, z4⟩ := bT t ht
      exact ⟨z2, by show _ < ds.length; omega, z4⟩
def spCCS : Sp := fun vs H Q _ => ∃ x y : List Nat, vs = [.str ⟨x.toArray⟩, .str ⟨y.toArray⟩] ∧ x.length ≤ 1600 ∧ y.length ≤ 1600 ∧ ∀ H', Same H H' → Q (.int (csum x y : Nat)) H'
def spCCT (K : PySem.W.Frag) : Sp := fun vs H Q _ => ∃ (a b : Addr) (xs ys : List V) (x y : List Tr3), vs = [.ref a, .ref b] ∧ SqL K H a xs ∧ SqL K H b ys ∧ Paired (TriAt H) xs x ∧ Paired (TriAt H) ys y ∧ x.length ≤ 1600 ∧ y.length ≤ 1600 ∧ ∀ H', Same H H' → Q (.int (csum x y : Nat)) H'
theorem ok_common_countT (T : Tx K mg) : FnOk P w K mg base CX0 1 T.common_count.f T.common_count.fd ["these", "those"] (spCCT K) := by
  refine T.common_count.F.ok sc_common_count (fun vs H Q E h => ?_) (fun cdv A outer s H vs Q E hr h => ?_)
  · obtain ⟨_, _, _, _, _, _, rfl, _⟩ := h; rfl
  · obtain ⟨a, b, xs, ys, x, y, rfl, ha, hb, px, py, lx, ly, q⟩ := h
    have lxs := px.length
    have lys := py.length
    refine ⟨_, (pss_cons (ps_set (i := 2) sc_common_count.nd rfl (.inl rfl) pe_dnewT)
      (pss_cons (ps_for PassesOwn.never rfl (pi_list (pv 1)) (pg_name (i := 3) sc_common_count.nd rfl (.inl rfl))
        (pss_one (ps_dput (hu_of hr) (pv 2) (pv 3) (pe_op op_add (pe_dget2 (hu_of hr) (pv 2) (pv 3) pe_int ⟨rfl, rfl, rfl, rfl⟩) pe_int) rfl)))
      (pss_cons (ps_set (i := 4) sc_common_count.nd rfl (.inl rfl) pe_int)
      (pss_cons (ps_for PassesOwn.never rfl (pi_list (pv 0)) (pg_name (i := 3) sc_common_count.nd rfl (.inl rfl))
        (pss_one (ps_if (pt_cmpR op_gt (pe_dget2 (hu_of hr) (pv 2) (pv 3) pe_int ⟨rfl, rfl, rfl, rfl⟩) pe_int (nomark _))
          (pss_cons (ps_daug (hu_of hr) (pv 2) (pv 3) pe_int in_sub (fun _ _ _ => rfl))
          (pss_one (ps_aug (i := 4) sc_common_count.nd rfl (.inl rfl) pe_int ip_add)))
          pss_nil)))
      (pss_one (ps_ret (pv 4))))))), ?_⟩
    walk_at "rd"
    intro d fd
    walk_at "rd"
    have s0 := same_new (o := .dT []) fd
    refine d_iLe (Same.seq s0 hb) ?_
    refine for_list (K := K) (a := b) (xs := ys) (fun i σ H' => ∃ y3 y4 kvs, σ = [some (.ref a), some (.ref b), some (.ref d), y3, y4] ∧ Same H H' ∧ H' d = some (.dT kvs) ∧ CntIs kT kvs (y.take i) ∧ kvs.length ≤ i) ⟨_, _, [], rfl, s0, upd_same, CntIs.nil, Nat.le_refl _⟩ (fun i σ H' _ hP => ?_) (fun i v σ H2 hi hP => ?_) (fun σ H' hP => ?_)
    · obtain ⟨_, _, _, _, sm, _⟩ := hP
      exact Same.seq sm hb
    · obtain ⟨y3, y4, kvs, rfl, sm, ed, cn, lk⟩ := hP
      obtain ⟨c, hc, p, rfl, ep⟩ := Paired.at py hi
      have hi' := (List.getElem?_eq_some_iff.mp hc).1
      have ep2 : H2 p = some (.tup ((kT c).map kV)) := sm _ _ ep
      walk_at "rd"
      refine ⟨d, rfl, .inr ⟨_, .of ed⟩, ?_⟩
      walk_at "rd"
      refine ⟨_, DGet.t (k := kT c) ed ep2, ?_⟩
      rw [cn c]
      walk_at "rd"
      refine ⟨d, _, rfl, DPut.t (k := kT c) ed ep2 (szl (by omega)), ?_⟩
      refine ⟨_, _, _, rfl, same_upd sm fd, upd_same, ?_, Nat.le_trans (putK_few _ _) (by omega)⟩
      rw [take_snoc hc]
      exact cn.add kT_inj c
    · obtain ⟨y3, y4, kvs, rfl, sm, ed, cn, lk⟩ := hP
      rw [lys, List.take_length] at cn
      rw [lys] at lk
      walk_at "rd"
      refine d_iLe (Same.seq sm ha) ?_
      refine for_list (K := K) (a := a) (xs := xs) (fun i σ H' => ∃ y3 kvs, σ = [some (.ref a), some (.ref b), some (.ref d), y3, some (.int (csum (x.take i) y : Nat))] ∧ Same H H' ∧ H' d = some (.dT kvs) ∧ CntIs kT kvs (cleft (x.take i) y) ∧ kvs.length ≤ y.length) ⟨_, kvs, rfl, sm, ed, cn, lk⟩ (fun i σ H' _ hP => ?_) (fun i v σ H2 hi hP => ?_) (fun σ H' hP => ?_)
      · obtain ⟨_, _, _, sm, _⟩ := hP
        exact Same.seq sm ha
      · obtain ⟨y3, kvs, rfl, sm, ed, cn, lk⟩ := hP
        obtain ⟨c, hc, p, rfl, ep⟩ := Paired.at px hi
        have ep2 : H2 p = some (.tup ((kT c).map kV)) := sm _ _ ep
        walk_at "rd"
        refine ⟨d, rfl, .inr ⟨_, .of ed⟩, ?_⟩
        walk_at "rd"
        refine ⟨_, DGet.t (k := kT c) ed ep2, ?_⟩
        rw [cn c]
        walk_at "rd"
        refine ite2 (fun e => ?_) (fun e => ?_)
        · have e' := of_decide_eq_true e
          have hm := cnt_in e'
          walk_at "rd"
          refine ⟨d, _, rfl, by rw [← cn.there hm]; exact DGet.t (k := kT c) ed ep2, ?_⟩
          walk_at "rd"
          refine ⟨_, _, rfl, rfl, _, DPut.t (k := kT c) ed ep2 (szl (by omega)), ?_⟩
          walk_at "rd"
          refine ⟨_, _, rfl, rfl, ?_⟩
          walk_at "rd"
          rw [csum_in hc hm]
          exact ⟨_, _, rfl, same_upd sm fd, upd_same, cn.turn kT_inj hc hm, by rw [putK_same (cn.there hm)]; exact lk⟩
        · have hm := cnt_out (i := i) (c := c) (x := x) (y := y) fun z => e (decide_eq_true z)
          walk_at "rd"
          rw [csum_out hc hm, cleft_out hc hm]
          exact ⟨_, kvs, rfl, sm, ed, cn, lk⟩
      · obtain ⟨y3, kvs, rfl, sm, ed, cn, lk⟩ := hP
        rw [lxs, List.take_length]
        walk_at "rd"
        exact q _ sm
/-- a tie's three letters -/
def spThree (K : PySem.W.Frag) : Sp := fun vs H Q _ => ∃ (v : V) (u : Web) (t : Tie), vs = [.str ⟨u.1.toArray⟩, v] ∧ WOk u ∧ t ∈ u.2 ∧ TieAt K H v t ∧ ∀ H' p, Same H H' → H p = none → H' p = some (.tup (tr3V (tri u t))) → Q (.ref p) H'
theorem getD_at {u : Web} {i : Nat} (h : i < u.1.length) : atI (⟨u.1.toArray⟩ : Str).cps.toList (i : Int) = some (u.1.getD i 0) := by
  refine atI_nat ?_
  rw [List.getD_eq_getElem?_getD]
  simp [h]
theorem ok_three_letters (T : Tx K mg) : FnOk P w K mg base CX0 1 T.three_letters.f T.three_letters.fd ["kinds", "tie"] (spThree K) := by
  refine T.three_letters.F.ok sc_three_letters (fun vs H Q E h => ?_) (fun cdv A outer s H vs Q E hr h => ?_)
  · obtain ⟨_, _, _, rfl, _⟩ := h; rfl
  · obtain ⟨v, u, t, rfl, W, ht, ⟨a, rfl, ha⟩, q⟩ := h
    obtain ⟨h1, h2, h3⟩ := W.ends t ht
    have l40 := W.few
    have lz : (⟨u.1.toArray⟩ : Str).length ≤ sizeLine := sz (by show u.1.toArray.size ≤ _; simp; omega)
    refine ⟨_, (pss_cons (ps_asg (pv 1) (pg_tup rfl (pgs_cons (pg_name (i := 2) sc_three_letters.nd rfl (.inl rfl)) (pgs_cons (pg_name (i := 3) sc_three_letters.nd rfl (.inl rfl)) (pgs_cons (pg_name (i := 4) sc_three_letters.nd rfl (.inl rfl)) pgs_nil)))))
      (pss_one (ps_ret (pe_tup (pa_cons (pv 4) (pa_cons (pe_callB (cr_min2S rfl) (by rfl) T.m_min (by decide +kernel) (pa_cons (pe_ix ix_str (pv 0) (pv 2) (fun _ _ => rfl)) (pa_cons (pe_ix ix_str (pv 0) (pv 3) (fun _ _ => rfl)) pa_nil))) (pa_cons (pe_callB (cr_max2S rfl) (by rfl) T.m_max (by decide +kernel) (pa_cons (pe_ix ix_str (pv 0) (pv 2) (fun _ _ => rfl)) (pa_cons (pe_ix ix_str (pv 0) (pv 3) (fun _ _ => rfl)) pa_nil))) pa_nil))))))), ?_⟩
    walk_at "rd"
    refine d_gtup ha rfl ?_
    walk_at "rd"
    refine ⟨_, _, _, rfl, rfl, lz, getD_at (by omega), ?_⟩
    walk_at "rd"
    refine ⟨_, _, _, rfl, rfl, lz, getD_at h2, ?_⟩
    walk_at "rd"
    refine ⟨_, _, rfl, ?_⟩
    walk_at "rd"
    refine ⟨_, _, _, rfl, rfl, lz, getD_at (by omega), ?_⟩
    walk_at "rd"
    refine ⟨_, _, _, rfl, rfl, lz, getD_at h2, ?_⟩
    walk_at "rd"
    refine ⟨_, _, rfl, ?_⟩
    walk_at "rd"
    refine ⟨sz (by show 3 ≤ 100000; decide), fun p fp => ?_⟩
    refine q _ p (same_new fp) fp ?_
    rw [upd_same, tri_V]
def spLetters3 (K : PySem.W.Frag) : Sp := fun vs H Q _ => ∃ (v : V) (u : Web), vs = [v] ∧ WebAt K H v u ∧ WOk u ∧ ∀ H' p xs, Same H H' → H p = none → H' p = some (.lst xs) → Paired (TriAt H') xs (tris u) → Q (.ref p) H'
theorem ok_letters_of_ties (T : Tx K mg) : FnOk P w K mg base CX0 2 T.letters_of_ties.f T.letters_of_ties.fd ["web"] (spLetters3 K) := by
  refine T.letters_of_ties.F.ok sc_letters_of_ties (fun vs H Q E h => ?_) (fun cdv A outer s H vs Q E hr h => ?_)
  · obtain ⟨_, _, rfl, _⟩ := h; rfl
  · obtain ⟨v, u, rfl, ⟨a, b, tvs, rfl, qa, qb, pt⟩, W, q⟩ := h
    have l16 := W.most
    have lpt := pt.length
    refine ⟨_, (pss_one (ps_ret (pe_lc (own := [("tie", 1)]) (g := gName 1) (tt := tYes) (te := tCall (spThree K) [] E0 (tCons (tOp (rIxT K) (tVar 0) (tC (.int 0))) (tCons (tVar 1) tNil))) rfl sc_letters_of_ties.nd (pi_tup (pe_ix ix_tup (pv 0) pe_int (fun _ _ => rfl))) (blkOk_by (N := ["web", "tie"]) (sc := defScope s_letters_of_ties) (by decide +kernel)) (fun _ _ _ _ _ => (pg_name (i := 1) sc_letters_of_ties.nd rfl (.inl rfl))) (fun _ _ _ _ _ => pts_nil) (fun _ _ _ _ _ => (pe_call (ok_three_letters T) (hr.mono (by decide)) (by rfl) T.three_letters.g T.three_letters.F.kp T.three_letters.b .nil pass0 (pa_cons (pe_ix ix_tup (pv 0) pe_int (fun _ _ => rfl)) (pa_cons (pv 1) pa_nil))))))), ?_⟩
    walk_at "rd"
    refine d_ixT qa rfl ?_
    walk_at "rd"
    refine d_iTe qb ?_
    intro D fD
    refine lc_tup (K := K) (a := b) (xs := tvs) (fun i H' => ∃ xs, H' D = some (.lst xs) ∧ Paired (TriAt H') xs ((tris u).take i) ∧ Same H H') ⟨[], upd_same, .nil, same_new fD⟩ (fun i H' _ hP => ?_) (fun i x H' hx hP => ?_) (fun H' hP => ?_)
    · obtain ⟨_, _, _, sm⟩ := hP
      exact Same.sqt sm qb
    · obtain ⟨xs, eD, pp, sm⟩ := hP
      obtain ⟨t, ht, zt⟩ := Paired.at pt hx
      have lxs := pp.length
      have lt := (List.getElem?_eq_some_iff.mp ht).1
      rw [List.length_take] at lxs
      walk_at "rd"
      refine d_ixT (Same.sqt sm qa) rfl ?_
      walk_at "rd"
      refine ⟨x, u, t, rfl, W, List.mem_of_getElem? ht, zt.same sm, fun H1 p s1 f1 e1 => ?_⟩
      have eD1 := s1 _ _ eD
      refine ⟨xs, eD1, szl (by omega), xs ++ [.ref p], upd_same, ?_, same_upd (Same.trans sm s1) fD⟩
      have ht' : (tris u)[i]? = some (tri u t) := by unfold tris; rw [List.getElem?_map, ht]; rfl
      rw [take_snoc ht']
      have nD : ∀ ys, H1 D ≠ some (.tup ys) := fun ys z => by rw [eD1] at z; cases z
      exact Paired.snoc (Paired.imp pp fun _ _ z => (z.same s1).put nD) (TriAt.put ⟨p, rfl, e1⟩ nD)
    · obtain ⟨xs, eD, pp, sm⟩ := hP
      have e : (tris u).take tvs.length = tris u := List.take_of_length_le (by unfold tris; rw [List.length_map, lpt]; exact Nat.le_refl _)
      rw [e] at pp
      walk_at "rd"
      exact q H' D xs sm fD eD pp
def spByK (K : PySem.W.Frag) (f : Web → Web → Nat) : Sp := fun vs H Q _ => ∃ (v v' : V) (u u' : Web), vs = [v, v'] ∧ WebAt K H v u ∧ WOk u ∧ WebAt K H v' u' ∧ WOk u' ∧ ∀ H', Same H H' → Q (.int (f u u' : Nat)) H'
theorem ok_by_tie_kinds (T : Tx K mg) : FnOk P w K mg base CX0 3 T.by_tie_kinds.f T.by_tie_kinds.fd ["one", "other"] (spByK K fun u u' => csum (tris u) (tris u')) := by
  refine T.by_tie_kinds.F.ok sc_by_tie_kinds (fun vs H Q E h => ?_) (fun cdv A outer s H vs Q E hr h => ?_)
  · obtain ⟨_, _, _, _, rfl, _⟩ := h; rfl
  · obtain ⟨v, v', u, u', rfl, hw, W, hw', W', q⟩ := h
    refine ⟨_, (pss_one (ps_ret (pe_call (ok_common_countT T) (hr.mono (by decide)) (by rfl) T.common_count.g T.common_count.F.kp T.common_count.b .nil pass0 (pa_cons (pe_call (ok_letters_of_ties T) (hr.mono (by decide)) (by rfl) T.letters_of_ties.g T.letters_of_ties.F.kp T.letters_of_ties.b .nil pass0 (pa_cons (pv 0) pa_nil)) (pa_cons (pe_call (ok_letters_of_ties T) (hr.mono (by decide)) (by rfl) T.letters_of_ties.g T.letters_of_ties.F.kp T.letters_of_ties.b .nil pass0 (pa_cons (pv 1) pa_nil)) pa_nil))))), ?_⟩
    walk_at "rd"
    refine ⟨v, u, rfl, hw, W, fun H1 p xs s1 f1 e1 p1 => ?_⟩
    walk_at "rd"
    refine ⟨v', u', rfl, hw'.same s1, W', fun H2 p' xs' s2 f2 e2 p2 => ?_⟩
    walk_at "rd"
    have l1 := W.most
    have l2 := W'.most
    exact ⟨p, p', xs, xs', tris u, tris u', rfl, SqL.of (s2 _ _ e1), SqL.of e2, Paired.imp p1 (fun _ _ z => z.same s2), p2, by unfold tris; rw [List.length_map]; omega, by unfold tris; rw [List.length_map]; omega, fun H' s3 => q H' (Same.trans s1 (Same.trans s2 s3))⟩
/-- for each place the list of its neighbours -/
def spAllN (K : PySem.W.Frag) : Sp := fun vs H Q _ => ∃ v w, vs = [v] ∧ WebAt K H v w ∧ WOk w ∧ ∀ H' (D : Addr) (as : List Addr), Same H H' → H D = none → H' D = some (.lst (as.map V.ref)) → as.length = w.1.length → as.Nodup → D ∉ as → (∀ a ∈ as, H a = none) →
  (∀ (j : Nat) (a : Addr), as[j]? = some a → H' a = some (.lst ((nb w.2 j).map fun o => V.int (o : Nat)))) → Q (.ref D) H'
theorem ok_all_neighbours (T : Tx K mg) : FnOk P w K mg base CX0 1 T.all_neighbours.f T.all_neighbours.fd ["web"] (spAllN K) := by
  refine T.all_neighbours.F.ok sc_all_neighbours (fun vs H Q E h => ?_) (fun cdv A outer s H vs Q E hr h => ?_)
  · obtain ⟨v, w, rfl, _⟩ := h; rfl
  · obtain ⟨v, w, rfl, ⟨a, b, tvs, rfl, q1, q2, pT⟩, W, q⟩ := h
    have lt : tvs.length = w.2.length := Paired.length pT
    have l16 := W.most
    have l40 := W.few
    refine ⟨_, (pss_cons (ps_setLc (i := 1) (own := [("_", 4)]) (g := gName 4) (tt := tYes) rfl sc_all_neighbours.nd rfl rfl (sw_true rfl rfl rfl (by decide +kernel)) (pi_str (pe_ix ix_tup (pv 0) pe_int (fun _ _ => rfl))) (blkOk_by (N := ["web", "beside", "place", "other", "_"]) (sc := defScope s_all_neighbours) (by decide +kernel)) (fun _ _ _ _ _ => (pg_name (i := 4) sc_all_neighbours.nd rfl (.inl rfl))) (fun _ _ _ _ _ => pts_nil) (fun _ _ _ _ _ => (pe_lst pa_nil)))
      (pss_cons (ps_for PassesOwn.never rfl (pi_tup (pe_ix ix_tup (pv 0) pe_int (fun _ _ => rfl))) (pg_tup rfl (pgs_cons (pg_name (i := 2) sc_all_neighbours.nd rfl (.inl rfl)) (pgs_cons (pg_name (i := 3) sc_all_neighbours.nd rfl (.inl rfl)) (pgs_cons (pg_name (i := 4) sc_all_neighbours.nd rfl (.inl rfl)) pgs_nil))))
        (pss_cons (ps_expr (pe_bm PySem.F.plainAttrs_list PySem.F.slot_list_append PySem.F.type_list_append mt_append (pe_ix ix_list (pv 1) (pv 2) (fun _ _ => rfl)) (pa_cons (pv 3) pa_nil)))
        (pss_one (ps_expr (pe_bm PySem.F.plainAttrs_list PySem.F.slot_list_append PySem.F.type_list_append mt_append (pe_ix ix_list (pv 1) (pv 3) (fun _ _ => rfl)) (pa_cons (pv 2) pa_nil))))))
      (pss_one (ps_ret (pv 1))))), ?_⟩
    walk_at "rd"
    refine d_ixT q1 rfl ?_
    walk_at "rd"
    intro D fD
    refine lc_it (walk_str (z := ⟨w.1.toArray⟩)) (fun i H1 => ∃ as : List Addr, as.length = i ∧ as.Nodup ∧ D ∉ as ∧ H1 D = some (.lst (as.map V.ref)) ∧ (∀ a ∈ as, H a = none) ∧ (∀ a ∈ as, H1 a = some (.lst [])) ∧ Same H H1)
      ⟨[], rfl, .nil, by simp, upd_same, by simp, by simp, same_new fD⟩ (fun _ _ _ _ => trivial) (fun i x H0 H1 hi hP hy => ?_) (fun H1 hP => ?_)
    · obtain ⟨as, la, nd, nD, eD, fa, ea, sm⟩ := hP
      obtain ⟨rfl, c, hc, rfl⟩ := hy
      have hi' : i < 40 := by
        have : i < w.1.length := by simpa using hi
        omega
      walk_at "rd"
      refine ⟨sz (by decide), fun p fp => ?_⟩
      have pD : p ≠ D := fun z => by rw [z, eD] at fp; cases fp
      have pas : p ∉ as := fun z => by rw [ea p z] at fp; cases fp
      refine ⟨_, at_upd eD fp, szl (by rw [List.length_map]; omega), as ++ [p], by rw [List.length_append, la]; rfl, ?_, ?_, ?_, ?_, ?_, ?_⟩
      · exact List.nodup_append.mpr ⟨nd, by simp, fun x hx y hy => by rw [List.mem_singleton.mp hy]; exact fun z => pas (z ▸ hx)⟩
      · intro z
        rcases List.mem_append.mp z with z | z
        · exact nD z
        · exact pD (List.mem_singleton.mp z).symm
      · rw [upd_same, List.map_append]; rfl
      · intro x hx
        rcases List.mem_append.mp hx with hx | hx
        · exact fa x hx
        · rw [List.mem_singleton.mp hx]; exact Same.free sm fp
      · intro x hx
        have xD : x ≠ D := fun z => by
          rcases List.mem_append.mp hx with hx | hx
          · exact nD (z ▸ hx)
          · exact pD ((List.mem_singleton.mp hx).symm.trans z)
        rw [upd_ne xD]
        rcases List.mem_append.mp hx with hx | hx
        · exact at_upd (ea x hx) fp
        · rw [List.mem_singleton.mp hx, upd_same]
      · exact same_upd (same_upd sm (Same.free sm fp)) fD
    obtain ⟨as, la, nd, nD, eD, fa, ea, sm⟩ := hP
    have la' : as.length = w.1.length := by simpa using la
    walk_at "rd"
    refine d_ixT (Same.sqt sm q1) rfl ?_
    refine d_iTe (Same.sqt sm q2) ?_
    refine for_it (walk_tup (xs := tvs)) (fun i σ H2 => ∃ y2 y3 y4, σ = [some (.ref a), some (.ref D), y2, y3, y4] ∧ H2 D = some (.lst (as.map V.ref)) ∧ Same H H2 ∧ ∀ (j : Nat) (x : Addr), as[j]? = some x → H2 x = some (.lst ((nb (w.2.take i) j).map fun o => V.int (o : Nat))))
      ⟨_, _, _, rfl, eD, sm, fun j x hx => ea x (List.mem_of_getElem? hx)⟩ (fun i σ H2 hi hP => ?_) (fun i x σ H0 H2 hi hP hy => ?_) (fun σ H2 hP => ?_)
    · obtain ⟨_, _, _, _, _, sm2, _⟩ := hP
      exact Same.sqt sm2 q2
    · obtain ⟨y2, y3, y4, rfl, eD2, sm2, hN⟩ := hP
      obtain ⟨rfl, hx⟩ := hy
      obtain ⟨t, ht, a', rfl, qt⟩ := Paired.at pT hx
      have et := W.ends t (List.mem_of_getElem? ht)
      have lti : (w.2.take i).length ≤ 1600 := Nat.le_trans (List.length_take_le _ _) (by omega)
      refine d_gtup (Same.sqt sm2 qt) rfl ?_
      walk_at "rd"
      have h1 : t.1 < as.length := by omega
      have h2 : t.2.1 < as.length := by omega
      have g1 : as[t.1]? = some as[t.1] := List.getElem?_eq_getElem h1
      have g2 : as[t.2.1]? = some as[t.2.1] := List.getElem?_eq_getElem h2
      have n12 : as[t.1] ≠ as[t.2.1] := fun z => by
        have := (List.getElem_inj nd).mp z
        omega
      have nd1 : as[t.1] ≠ D := fun z => nD (z ▸ List.getElem_mem h1)
      have nd2 : as[t.2.1] ≠ D := fun z => nD (z ▸ List.getElem_mem h2)
      refine d_ixLm eD2 (atI_nat (by rw [List.getElem?_map, g1]; rfl)) ?_
      have e1 := hN _ _ g1
      refine d_app e1 ?_
      walk_at "rd"
      have b1 := nb_len (w.2.take i) t.1
      have b2 := nb_len (w.2.take i) t.2.1
      refine d_append e1 (szl (by rw [List.length_map]; omega)) ?_
      walk_at "rd"
      refine d_ixLm (by rw [upd_ne nd1.symm]; exact eD2) (atI_nat (by rw [List.getElem?_map, g2]; rfl)) ?_
      have e2 := hN _ _ g2
      have e2' : (upd H2 as[t.1] (.lst (((nb (w.2.take i) t.1).map fun o => V.int (o : Nat)) ++ [V.int (t.2.1 : Nat)]))) as[t.2.1] = some (.lst ((nb (w.2.take i) t.2.1).map fun o => V.int (o : Nat))) := by rw [upd_ne n12.symm]; exact e2
      refine d_app e2' ?_
      walk_at "rd"
      refine d_append e2' (szl (by rw [List.length_map]; omega)) ?_
      refine ⟨_, _, _, rfl, by rw [upd_ne nd2.symm, upd_ne nd1.symm]; exact eD2, same_upd (same_upd sm2 (fa _ (List.getElem_mem h1))) (fa _ (List.getElem_mem h2)), fun j x hx => ?_⟩
      rw [take_snoc ht, nb_snoc]
      have inj : ∀ {m : Nat} (hm : m < as.length), x = as[m] → j = m := fun {m} hm z => by
        obtain ⟨hj, ej⟩ := List.getElem?_eq_some_iff.mp hx
        exact (List.getElem_inj nd).mp (ej.trans z)
      by_cases c2 : x = as[t.2.1]
      · have := inj h2 c2
        subst this
        rw [c2, upd_same, if_neg (by omega), if_pos rfl, List.map_append]; rfl
      · rw [upd_ne c2]
        by_cases c1 : x = as[t.1]
        · have := inj h1 c1
          subst this
          rw [c1, upd_same, if_pos rfl, List.map_append]; rfl
        · have f1 : ¬ t.1 = j := fun z => c1 (by
            subst z
            exact Option.some.inj (hx.symm.trans g1))
          have f2 : ¬ t.2.1 = j := fun z => c2 (by
            subst z
            exact Option.some.inj (hx.symm.trans g2))
          rw [upd_ne c1, if_neg f1, if_neg f2, List.append_nil]
          exact hN j x hx
    · obtain ⟨y2, y3, y4, rfl, eD2, sm2, hN⟩ := hP
      walk_at "rd"
      rw [lt, List.take_length] at hN
      exact q _ D as sm2 fD eD2 la' nd nD fa hN
theorem d_dsetd {td ty tx : TE} {σ : L2.St} {H : Hp} {Q : VK} (h : td σ H fun x H1 => ∃ a, x = .ref a ∧ IsD H1 a ∧ ty σ H1 fun y H2 => tx σ H2 fun z H3 => ∃ (kvs : List (Key × V)) (k : Key), H3 a = some (.dK kvs) ∧ y = kV k ∧ kvs.length < sizeLine ∧
  (∀ v, valV kvs k = some v → Q v H3) ∧ (valV kvs k = none → Q z (upd H3 a (.dK (putK kvs k z))))) : tDSetd td ty tx σ H Q := h
theorem d_iK {td : TE} {σ : L2.St} {H : Hp} {R : It → Hp → Prop} (h : td σ H fun x H1 => ∃ d o, x = .ref d ∧ ((∃ kvs, H1 d = some (.frz o (.dK kvs)) ∧ R (Itk d o kvs) H1) ∨ ∃ kvs, H1 d = some (.frz o (.dT kvs)) ∧ R (Itkt d o kvs) H1)) : iKeys td σ H R := h
theorem d_iZS {ta : TA} {σ : L2.St} {H : Hp} {R : It → Hp → Prop} (h : ta σ H fun vs H1 => ∃ x b ys, vs = [.str x, .ref b] ∧ SqL K H1 b ys ∧ R (Itzs K x b) H1) : iZipS K ta σ H R := h
theorem d_ckw {r : List V → List V → Hp → VK → Prop} {t tk : TA} {σ : L2.St} {H : Hp} {Q : VK} (h : t σ H fun vs H1 => tk σ H1 fun zs H2 => r vs zs H2 Q) : tCKw r t tk σ H Q := h
theorem snd_inj : ∀ {l : List (Nat × Addr)}, (l.map (·.2)).Nodup → ∀ {x y : Nat × Addr}, x ∈ l → y ∈ l → x.2 = y.2 → x = y
  | [], _, _, _, h, _, _ => nomatch h
  | z :: l, nd, x, y, hx, hy, h => by
    rw [List.map_cons] at nd
    obtain ⟨n1, n2⟩ := List.nodup_cons.mp nd
    rcases List.mem_cons.mp hx with hx1 | hx1 <;> rcases List.mem_cons.mp hy with hy1 | hy1
    · rw [hx1, hy1]
    · subst hx1
      exact (n1 (List.mem_map.mpr ⟨y, hy1, h.symm⟩)).elim
    · subst hy1
      exact (n1 (List.mem_map.mpr ⟨x, hx1, h⟩)).elim
    · exact snd_inj n2 hx1 hy1 h
/-- a dict by letters, of lists -/
def kv2 (es : List (Nat × Addr)) : List (Key × V) := es.map fun e => (kS e.1, V.ref e.2)
theorem kv2_len (es : List (Nat × Addr)) : (kv2 es).length = es.length := List.length_map _
theorem kv2_none {es : List (Nat × Addr)} {c : Nat} (h : c ∉ es.map (·.1)) : valV (kv2 es) (kS c) = none := by
  unfold valV kv2
  rw [Option.map_eq_none_iff, List.find?_eq_none]
  intro x hx
  obtain ⟨e, he, rfl⟩ := List.mem_map.mp hx
  simp only [decide_eq_true_iff]
  exact fun z => h (List.mem_map.mpr ⟨e, he, kS_inj _ _ z⟩)
theorem kv2_at : ∀ {es : List (Nat × Addr)}, (es.map (·.1)).Nodup → ∀ {c : Nat} {a : Addr}, (c, a) ∈ es → valV (kv2 es) (kS c) = some (.ref a)
  | [], _, _, _, h => nomatch h
  | e :: es, nd, c, a, h => by
    unfold kv2
    rw [List.map_cons] at nd ⊢
    obtain ⟨n1, n2⟩ := List.nodup_cons.mp nd
    by_cases q : e.1 = c
    · rcases List.mem_cons.mp h with z | z
      · rw [valV_pos (by rw [q]), ← z]
      · exact absurd (List.mem_map.mpr ⟨_, z, q.symm⟩) n1
    · rcases List.mem_cons.mp h with z | z
      · exact absurd (by rw [← z]) q
      · have r := kv2_at n2 z
        unfold kv2 at r
        unfold valV at r ⊢
        rw [List.find?_cons_of_neg (by simp only [decide_eq_true_iff]; exact fun z => q (kS_inj _ _ z))]
        exact r
theorem kv2_put {es : List (Nat × Addr)} {c : Nat} (h : c ∉ es.map (·.1)) (a : Addr) : putK (kv2 es) (kS c) (.ref a) = kv2 (es ++ [(c, a)]) := by
  unfold putK
  rw [if_neg]
  · unfold kv2; rw [List.map_append]; rfl
  · rw [List.any_eq_true]
    rintro ⟨x, hx, e⟩
    unfold kv2 at hx
    obtain ⟨e', he, rfl⟩ := List.mem_map.mp hx
    exact h (List.mem_map.mpr ⟨e', he, kS_inj _ _ (of_decide_eq_true e)⟩)
theorem kv2_i {es : List (Nat × Addr)} {i : Nat} {k : Key} {v : V} (h : (kv2 es)[i]? = some (k, v)) : ∃ e, es[i]? = some e ∧ k = kS e.1 ∧ v = .ref e.2 := by
  unfold kv2 at h
  rw [List.getElem?_map] at h
  obtain ⟨e, he, z⟩ := Option.map_eq_some_iff.mp h
  injection z with z1 z2
  exact ⟨e, he, z1.symm, z2.symm⟩
/-- for each kind how many neighbours its places have, from the greatest on -/
def DgAt (H : Hp) (D : Addr) (u : Web) : Prop := ∃ es : List (Nat × Addr), H D = some (.dK (kv2 es)) ∧ (es.map (·.1)).Nodup ∧ (∀ c, c ∈ es.map (·.1) ↔ c ∈ u.1) ∧ ∀ e ∈ es, ∃ ns, H e.2 = some (.lst (natsV ns)) ∧ ns.Perm (dOf (kdL u) e.1) ∧ ns.Pairwise (· ≥ ·)
theorem falls {ns : List Nat} {zs' : List Int} (p : zs'.Perm (ns.map fun n : Nat => (n : Int))) (o : OrdB true zs') : ∃ ms : List Nat, zs'.map V.int = natsV ms ∧ ms.Perm ns ∧ ms.Pairwise (· ≥ ·) := by
  have all : ∀ z ∈ zs', ∃ n : Nat, z = n := fun z hz => by
    obtain ⟨n, _, e⟩ := List.mem_map.mp (p.mem_iff.mp hz)
    exact ⟨n, e.symm⟩
  have o' : zs'.Pairwise (· ≥ ·) := o
  refine ⟨zs'.map Int.toNat, ?_, ?_, ?_⟩
  · unfold natsV
    rw [List.map_map]
    refine List.map_congr_left fun z hz => ?_
    obtain ⟨n, rfl⟩ := all z hz
    rfl
  · have q := p.map Int.toNat
    rw [List.map_map] at q
    have e : ns.map (Int.toNat ∘ fun n : Nat => (n : Int)) = ns := by
      conv => rhs; rw [← List.map_id ns]
      exact List.map_congr_left fun n _ => rfl
    rw [e] at q
    exact q
  · rw [List.pairwise_map]
    exact o'.imp fun h => by omega
theorem kdL_get {u : Web} {i : Nat} {c : Nat} (h : u.1[i]? = some c) : (kdL u)[i]? = some (c, deg u i) := by
  have hi := (List.getElem?_eq_some_iff.mp h).1
  unfold kdL
  rw [List.getElem?_map, List.getElem?_range hi]
  show some (u.1.getD i 0, deg u i) = _
  rw [List.getD_eq_getElem?_getD, h]; rfl
def spDeg (K : PySem.W.Frag) : Sp := fun vs H Q _ => ∃ (v : V) (u : Web), vs = [v] ∧ WebAt K H v u ∧ WOk u ∧ ∀ H' D, Same H H' → H D = none → DgAt H' D u → Q (.ref D) H'
theorem ok_degrees_by_kind (T : Tx K mg) : FnOk P w K mg base CX0 2 T.degrees_by_kind.f T.degrees_by_kind.fd ["web"] (spDeg K) := by
  refine T.degrees_by_kind.F.ok sc_degrees_by_kind (fun vs H Q E h => ?_) (fun cdv A outer s H vs Q E hr h => ?_)
  · obtain ⟨_, _, rfl, _⟩ := h; rfl
  · obtain ⟨v, u, rfl, hw, W, q⟩ := h
    obtain ⟨a, b, tvs, rfl, qa, qb, pt⟩ := id hw
    have l40 := W.few
    have l16 := W.most
    refine ⟨_, (pss_cons (ps_set (i := 1) sc_degrees_by_kind.nd rfl (.inr rfl) pe_dnewK)
      (pss_cons (ps_for PassesOwn.never rfl (pi_zipS (by rfl) T.m_zip (pa_cons (pe_ix ix_tup (pv 0) pe_int (fun _ _ => rfl)) (pa_cons (pe_call (ok_all_neighbours T) (hr.mono (by decide)) (by rfl) T.all_neighbours.g T.all_neighbours.F.kp T.all_neighbours.b .nil pass0 (pa_cons (pv 0) pa_nil)) pa_nil))) (pg_tup rfl (pgs_cons (pg_name (i := 2) sc_degrees_by_kind.nd rfl (.inl rfl)) (pgs_cons (pg_name (i := 3) sc_degrees_by_kind.nd rfl (.inl rfl)) pgs_nil)))
        (pss_one (ps_expr (pe_bm PySem.F.plainAttrs_list PySem.F.slot_list_append PySem.F.type_list_append mt_append (pe_dsetd (pv 1) (pv 2) (pe_lst pa_nil) ⟨rfl, rfl, rfl, rfl⟩) (pa_cons (pe_callB call_len_seq (by rfl) T.m_len (by decide +kernel) (pa_cons (pv 3) pa_nil)) pa_nil)))))
      (pss_one (ps_ret (pe_lock (pe_dc (own := [("kind", 2)]) (tt := tYes) rfl sc_degrees_by_kind.nd (pi_keys (pv 1)) (blkOk_by (N := ["web", "told", "kind", "beside"]) (sc := defScope s_degrees_by_kind) (by decide +kernel)) (fun _ _ _ _ _ => (pg_name (i := 2) sc_degrees_by_kind.nd rfl (.inl rfl))) (fun _ _ _ _ _ => pts_nil) (fun _ _ _ _ _ => (pv 2)) (fun _ _ _ _ _ => (pe_callBK (id := "sorted") (ks := [Str.ofString "reverse"]) (r := rSortedKw K true [.bl true]) cr_sortedRev (by rfl) T.m_sorted (by decide +kernel) (pa_cons (pe_dget (hu_of hr) (pv 1) (pv 2) (fun _ _ => rfl)) pa_nil) (pk_cons pe_bl pk_nil))))))))), ?_⟩
    walk_at "rd"
    intro D fD
    have s0 := same_new (o := .dK []) fD
    have eD0 := upd_same (H := H) (a := D) (o := .dK [])
    generalize upd H D (.dK []) = H0 at s0 eD0 ⊢
    walk_at "rd"
    refine d_iZS ?_
    walk_at "rd"
    refine d_ixT (Same.sqt s0 qa) rfl ?_
    walk_at "rd"
    refine ⟨_, u, rfl, hw.same s0, W, fun Hb N as sb fN eN la nd nN fa hN => ?_⟩
    have eDb := sb _ _ eD0
    have szk : (⟨u.1.toArray⟩ : Str).cps.size = u.1.length := by simp
    refine ⟨_, N, as.map V.ref, rfl, SqL.of eN, ?_⟩
    refine for_it (walk_zipS (ys := as.map V.ref) (by rw [List.length_map, la, szk])) (fun i σ H1 => ∃ y2 y3, ∃ es : List (Nat × Addr), σ = [some (.ref a), some (.ref D), y2, y3] ∧ H1 D = some (.dK (kv2 es)) ∧ (es.map (·.1)).Nodup ∧ (es.map (·.2)).Nodup ∧ (∀ c, c ∈ es.map (·.1) ↔ c ∈ u.1.take i) ∧ (∀ b o, b ≠ D → Hb b = some o → H1 b = some o) ∧
        ∀ e ∈ es, Hb e.2 = none ∧ H1 e.2 = some (.lst (natsV (dOf ((kdL u).take i) e.1))))
      ⟨_, _, [], rfl, eDb, by simp, by simp, by simp, fun b o _ e => e, by simp⟩ (fun i σ H1 hi hP => ?_) (fun i x σ H1 H1' hi hP hy => ?_) (fun σ H1 hP => ?_)
    · obtain ⟨_, _, _, _, _, _, _, _, sm, _⟩ := hP
      exact SqL.of (sm _ _ (ne_of eN eDb (by intro z; cases z)) eN)
    · obtain ⟨y2, y3, es, rfl, eD, nf, ns, hk, sm, hes⟩ := hP
      obtain ⟨T', y', c, rfl, fT, rfl, hc, hy'⟩ := hy
      rw [szk] at hi
      have hc' : u.1[i]? = some c := by simpa using hc
      have gi : as[i]? = some as[i] := List.getElem?_eq_getElem (by omega)
      rw [List.getElem?_map, gi] at hy'
      cases hy'
      have eI := hN i _ gi
      have nID : as[i] ≠ D := ne_of eI eDb (by intro z; cases z)
      have eI1 := sm _ _ nID eI
      have kg := kdL_get hc'
      have les : es.length ≤ 123 := by
        have := nodup_len 123 _ nf fun z hz => by
          have := W.kinds z (List.mem_of_mem_take ((hk z).mp hz))
          unfold Ltr at this
          omega
        rw [List.length_map] at this
        exact this
      refine d_gtupm upd_same rfl ?_
      have eD2 := at_upd (u := .tup [V.str (sg c), V.ref as[i]]) eD fT
      have eI2 := at_upd (u := .tup [V.str (sg c), V.ref as[i]]) eI1 fT
      have es2 : ∀ e ∈ es, (upd H1 T' (.tup [V.str (sg c), V.ref as[i]])) e.2 = some (.lst (natsV (dOf ((kdL u).take i) e.1))) := fun e he => at_upd (hes e he).2 fT
      have sm2 : ∀ b o, b ≠ D → Hb b = some o → (upd H1 T' (.tup [V.str (sg c), V.ref as[i]])) b = some o := fun b o n e => at_upd (sm b o n e) fT
      show _
      generalize upd H1 T' _ = H2 at eD2 eI2 es2 sm2 ⊢
      walk_at "rd"
      refine d_dsetd ?_
      walk_at "rd"
      refine ⟨D, rfl, .inl ⟨_, .inl eD2⟩, ?_⟩
      walk_at "rd"
      refine ⟨sz (by decide), fun p fp => ?_⟩
      have fpb : Hb p = none := by
        cases z : Hb p with
        | none => rfl
        | some o =>
          by_cases n : p = D
          · rw [n, eD2] at fp; cases fp
          · rw [sm2 _ _ n z] at fp; cases fp
      have npD : p ≠ D := (ne_of_none eD2 fp).symm
      refine ⟨kv2 es, kS c, at_upd eD2 fp, rfl, szl (by rw [kv2_len]; omega), fun v hv => ?_, fun hn => ?_⟩
      · have hcm : c ∈ es.map (·.1) := by
          cases z : decide (c ∈ es.map (·.1)) with
          | true => exact of_decide_eq_true z
          | false => rw [kv2_none (of_decide_eq_false z)] at hv; cases hv
        obtain ⟨e, he, ec⟩ := List.mem_map.mp hcm
        subst ec
        rw [kv2_at nf (show (e.1, e.2) ∈ es from he)] at hv
        cases hv
        have ee := at_upd (u := .lst []) (es2 e he) fp
        refine d_app ee ?_
        walk_at "rd"
        refine d_lenL (SqL.of (at_upd eI2 fp)) ?_
        rw [List.length_map]
        walk_at "rd"
        have ld : (dOf ((kdL u).take i) e.1).length ≤ 40 := by
          unfold dOf
          rw [List.length_map]
          have z1 := List.length_filter_le (fun x : Nat × Nat => decide (x.1 = e.1)) ((kdL u).take i)
          have z2 := List.length_take_le i (kdL u)
          omega
        refine d_append ee (szl (by rw [List.length_map]; omega)) ?_
        have neD : e.2 ≠ D := fun z => by
          have := (hes e he).1
          rw [z, eDb] at this
          cases this
        refine ⟨_, _, es, rfl, by rw [upd_ne neD.symm]; exact at_upd eD2 fp, nf, ns, fun d => ?_, fun o x n ex => ?_, fun f hf => ⟨(hes f hf).1, ?_⟩⟩
        · rw [hk, take_snoc hc', List.mem_append, List.mem_singleton]
          exact ⟨.inl, fun z => z.elim id fun z => z ▸ (hk _).mp hcm⟩
        · rw [upd_ne fun z => by rw [z, (hes e he).1] at ex; cases ex]
          exact at_upd (sm2 o x n ex) fp
        · rw [take_snoc kg, dOf_snoc]
          by_cases q2 : f.2 = e.2
          · have ef : f = e := by
              exact snd_inj ns hf he q2
            subst ef
            rw [upd_same, if_pos rfl]
            unfold natsV deg
            rw [List.map_append]; rfl
          · have nc : ¬ e.1 = f.1 := fun z => q2 (by
              have a1 := kv2_at nf (show (e.1, e.2) ∈ es from he)
              have a2 := kv2_at nf (show (f.1, f.2) ∈ es from hf)
              rw [z, a2] at a1
              injection a1 with a1
              injection a1)
            rw [upd_ne q2, if_neg nc, List.append_nil]
            exact at_upd (es2 f hf) fp
      · have hcm : c ∉ es.map (·.1) := fun z => by
          obtain ⟨e, he, ec⟩ := List.mem_map.mp z
          subst ec
          rw [kv2_at nf (show (e.1, e.2) ∈ es from he)] at hn
          cases hn
        have ep : (upd (upd H2 p (.lst [])) D (.dK (putK (kv2 es) (kS c) (.ref p)))) p = some (.lst []) := by rw [upd_ne npD, upd_same]
        refine d_app ep ?_
        walk_at "rd"
        refine d_lenL (SqL.of (by rw [upd_ne nID]; exact at_upd eI2 fp)) ?_
        rw [List.length_map]
        walk_at "rd"
        refine d_append ep (szl (by simp)) ?_
        have d0 : dOf ((kdL u).take i) c = [] := by
          unfold dOf
          rw [List.map_eq_nil_iff, List.filter_eq_nil_iff]
          intro x hx
          simp only [decide_eq_true_iff]
          intro z
          have m : x.1 ∈ ((kdL u).map (·.1)).take i := by rw [← List.map_take]; exact List.mem_map.mpr ⟨x, hx, rfl⟩
          rw [kdL_fst] at m
          exact hcm ((hk c).mpr (z ▸ m))
        refine ⟨_, _, es ++ [(c, p)], rfl, by rw [upd_ne npD.symm, upd_same, kv2_put hcm], ?_, ?_, fun d => ?_, fun o x n ex => ?_, fun f hf => ?_⟩
        · rw [List.map_append]
          exact List.nodup_append.mpr ⟨nf, by simp, fun x hx y hy z => by
            rw [show y = c by simpa using hy] at z
            exact hcm (z ▸ hx)⟩
        · rw [List.map_append]
          exact List.nodup_append.mpr ⟨ns, by simp, fun x hx y hy z => by
            rw [show y = p by simpa using hy] at z
            obtain ⟨e, he, ee⟩ := List.mem_map.mp hx
            have := es2 e he
            rw [ee, z, fp] at this
            cases this⟩
        · rw [List.map_append, List.mem_append, hk, take_snoc hc', List.mem_append]
          simp
        · have nop : o ≠ p := fun z => by rw [z, fpb] at ex; cases ex
          rw [upd_ne nop, upd_ne n]
          exact at_upd (sm2 o x n ex) fp
        · rw [take_snoc kg, dOf_snoc]
          rcases List.mem_append.mp hf with hf | hf
          · have nfp : f.2 ≠ p := fun z => by have := es2 f hf; rw [z, fp] at this; cases this
            have nfD : f.2 ≠ D := fun z => by have := (hes f hf).1; rw [z, eDb] at this; cases this
            have nc : ¬ c = f.1 := fun z => hcm (List.mem_map.mpr ⟨f, hf, z.symm⟩)
            rw [upd_ne nfp, upd_ne nfD, if_neg nc, List.append_nil]
            exact ⟨(hes f hf).1, at_upd (es2 f hf) fp⟩
          · rw [List.mem_singleton.mp hf]
            refine ⟨fpb, ?_⟩
            show (upd _ p _) p = _
            rw [upd_same, if_pos rfl, d0]
            rfl
    · obtain ⟨y2, y3, es, rfl, eD, nf, ns, hk, sm, hes⟩ := hP
      rw [szk, List.take_length] at hk
      have lk : (kdL u).length = u.1.length := by unfold kdL; rw [List.length_map, List.length_range]
      rw [szk, ← lk, List.take_length] at hes
      walk_at "rd"
      refine ⟨D, _, eD, trivial, fun od => ?_⟩
      have exF := upd_same (H := H1) (a := D) (o := .frz od (.dK (kv2 es)))
      have smF : ∀ b o, b ≠ D → Hb b = some o → (upd H1 D (.frz od (.dK (kv2 es)))) b = some o := fun b o n e => by rw [upd_ne n]; exact sm b o n e
      have neD : ∀ e ∈ es, e.2 ≠ D := fun e he z => by
        have := (hes e he).1
        rw [z, eDb] at this
        cases this
      have hesF : ∀ e ∈ es, (upd H1 D (.frz od (.dK (kv2 es)))) e.2 = some (.lst (natsV (dOf (kdL u) e.1))) := fun e he => by rw [upd_ne (neD e he)]; exact (hes e he).2
      generalize upd H1 D (.frz od (.dK (kv2 es))) = HF at exF smF hesF ⊢
      refine d_dc ?_
      refine d_iK ?_
      walk_at "rd"
      refine ⟨D, od, rfl, .inl ⟨kv2 es, exF, ?_⟩⟩
      intro D2 f2
      have nD2 : D2 ≠ D := (ne_of_none exF f2).symm
      have f2b : Hb D2 = none := by
        cases z : Hb D2 with
        | none => rfl
        | some o => rw [smF _ _ nD2 z] at f2; cases f2
      have les : es.length ≤ 123 := by
        have := nodup_len 123 _ nf fun z hz => by
          have := W.kinds z ((hk z).mp hz)
          unfold Ltr at this
          omega
        rw [List.length_map] at this
        exact this
      refine dc_it (walk_keys (d := D) (o := od) (kvs := kv2 es)) (fun i H2 => ∃ fs : List (Nat × Addr), H2 D2 = some (.dK (kv2 fs)) ∧ fs.map (·.1) = (es.map (·.1)).take i ∧ (∀ b o, HF b = some o → H2 b = some o) ∧ ∀ f ∈ fs, ∃ ns, H2 f.2 = some (.lst (natsV ns)) ∧ ns.Perm (dOf (kdL u) f.1) ∧ ns.Pairwise (· ≥ ·))
        ⟨[], upd_same, rfl, fun b o e => at_upd e f2, by simp⟩ (fun i H2 hi hP => ?_) (fun i x H2 H2' hi hP hy => ?_) (fun H2 hP => ?_)
      · obtain ⟨_, _, _, s2, _⟩ := hP
        exact s2 _ _ exF
      · obtain ⟨fs, eD2, ef, s2, hfs⟩ := hP
        obtain ⟨rfl, k, v, hkv, rfl⟩ := hy
        obtain ⟨e, he, rfl, rfl⟩ := kv2_i hkv
        have hem := List.mem_of_getElem? he
        have hi' := (List.getElem?_eq_some_iff.mp he).1
        have lfs : fs.length ≤ 123 := by
          have z := congrArg List.length ef
          rw [List.length_map, List.length_take, List.length_map] at z
          omega
        walk_at "rd"
        refine d_ckw ?_
        walk_at "rd"
        refine ⟨D, .ref e.2, rfl, .inl ⟨kv2 es, kS e.1, .inr ⟨od, s2 _ _ exF⟩, rfl, (kv2_at nf (show (e.1, e.2) ∈ es from hem)).symm⟩, ?_⟩
        walk_at "rd"
        refine ⟨e.2, (dOf (kdL u) e.1).map fun n : Nat => (n : Int), rfl, rfl, SqL.of (by rw [s2 _ _ (hesF e hem)]; unfold natsV; rw [List.map_map]; rfl), fun ns' p pm od' fp => ?_⟩
        obtain ⟨ms, em, mp, mf⟩ := falls pm od'
        rw [em]
        have nfc : e.1 ∉ fs.map (·.1) := fun z => by
          rw [ef] at z
          obtain ⟨j, hj, ej⟩ := List.getElem_of_mem z
          rw [List.length_take] at hj
          rw [List.getElem_take] at ej
          have := nodup_at nf (i := j) (j := i) (x := e.1) (by rw [List.getElem?_eq_getElem (by omega), ej]) (by rw [List.getElem?_map, he]; rfl)
          omega
        have npD2 : p ≠ D2 := (ne_of_none eD2 fp).symm
        refine ⟨kv2 fs, kS e.1, rfl, at_upd eD2 fp, szl (by rw [kv2_len]; omega), fs ++ [(e.1, p)], by rw [upd_same, kv2_put nfc], ?_, fun b o ex => ?_, fun f hf => ?_⟩
        · rw [List.map_append, ef, take_snoc (x := e.1) (by rw [List.getElem?_map, he]; rfl)]
          rfl
        · rw [upd_ne fun z => by rw [z, f2] at ex; cases ex]
          exact at_upd (s2 _ _ ex) fp
        · rcases List.mem_append.mp hf with hf | hf
          · obtain ⟨ns, h1, h2, h3⟩ := hfs f hf
            have nfD : f.2 ≠ D2 := ne_of h1 eD2 (by intro z; cases z)
            exact ⟨ns, by rw [upd_ne nfD]; exact at_upd h1 fp, h2, h3⟩
          · rw [List.mem_singleton.mp hf]
            exact ⟨ms, by rw [upd_ne npD2, upd_same], mp, mf⟩
      · obtain ⟨fs, eD2, ef, s2, hfs⟩ := hP
        rw [kv2_len, List.take_of_length_le (by rw [List.length_map]; exact Nat.le_refl _)] at ef
        refine ⟨s2 _ _ exF, ?_⟩
        have nn : ∀ b o, H b = some o → b ≠ D := fun b o e => ne_of_none e fD
        refine q _ D2 (fun b o e => ?_) ?_ ⟨fs, by rw [upd_ne nD2]; exact eD2, by rw [ef]; exact nf, fun c => by rw [ef]; exact hk c, fun f hf => ?_⟩
        · rw [upd_ne (nn b o e)]
          exact s2 _ _ (smF _ _ (nn b o e) (sb _ _ (s0 _ _ e)))
        · cases z : H D2 with
          | none => rfl
          | some o => rw [sb _ _ (s0 _ _ z)] at f2b; cases f2b
        · obtain ⟨ns, h1, h2, h3⟩ := hfs f hf
          refine ⟨ns, ?_, h2, h3⟩
          rw [upd_ne (ne_of h1 (s2 _ _ exF) (by intro z; cases z))]
          exact h1
theorem d_iZip {ta : TA} {σ : L2.St} {H : Hp} {R : It → Hp → Prop} (h : ta σ H fun vs H1 => ∃ a b xs ys, vs = [.ref a, .ref b] ∧ SqL K H1 a xs ∧ SqL K H1 b ys ∧ R (Itz K a b) H1) : iZip K ta σ H R := h
def layS (u v : Web) (c : Nat) : Nat := sumN lays fun t => min (cnt (kdL u) c t) (cnt (kdL v) c t)
theorem layS_of {u v : Web} (U : WOk u) {c : Nat} {ns ms : List Nat} (p1 : ns.Perm (dOf (kdL u) c)) (f1 : ns.Pairwise (· ≥ ·)) (p2 : ms.Perm (dOf (kdL v) c)) (f2 : ms.Pairwise (· ≥ ·)) : zmin ns ms = layS u v c := by
  rw [zmin_lays f1 f2 fun x hx => ?_]
  · unfold layS
    exact sumN_congr fun t _ => by rw [above_perm p1, above_perm p2, above_dOf, above_dOf]
  · obtain ⟨y, hy, rfl⟩ := List.mem_map.mp (p1.mem_iff.mp hx)
    exact (kdL_ok U y (List.mem_filter.mp hy).1).2
theorem dOf_none {u : Web} {c : Nat} (h : c ∉ u.1) : dOf (kdL u) c = [] := by
  unfold dOf
  rw [List.map_eq_nil_iff, List.filter_eq_nil_iff]
  intro x hx
  simp only [decide_eq_true_iff]
  intro z
  have m : x.1 ∈ (kdL u).map (·.1) := List.mem_map.mpr ⟨x, hx, rfl⟩
  rw [kdL_fst] at m
  exact h (z ▸ m)
theorem lay_total {u v : Web} (U : WOk u) {ks : List Nat} (nd : ks.Nodup) (hk : ∀ c, c ∈ ks ↔ c ∈ u.1) : sumN ks (layS u v) = degS (kdL u) (kdL v) := by
  unfold degS
  show _ = sumN lets (layS u v)
  refine sumN_keys nd lets_nodup (fun c hc => ?_) fun c hc => ?_
  · have := U.kinds c ((hk c).mp hc)
    unfold Ltr at this
    exact lets_mem.mpr (by omega)
  · have z : ∀ t, cnt (kdL u) c t = 0 := fun t => by
      rw [← above_dOf, dOf_none fun h => hc ((hk c).mpr h)]; rfl
    unfold layS
    exact sumN_zero fun t _ => by rw [z t]; omega
theorem min_nat (a b : Nat) : (if (b : Int) < (a : Int) then (b : Int) else (a : Int)) = ((min a b : Nat) : Int) := by split <;> omega
theorem zip_at {xs ys : List Nat} {j : Nat} {x y : V} (hx : (natsV xs)[j]? = some x) (hy : (natsV ys)[j]? = some y) : ∃ a b : Nat, x = .int (a : Nat) ∧ y = .int (b : Nat) ∧ (xs.zip ys)[j]? = some (a, b) := by
  unfold natsV at hx hy
  rw [List.getElem?_map] at hx hy
  obtain ⟨a, ha, rfl⟩ := Option.map_eq_some_iff.mp hx
  obtain ⟨b, hb, rfl⟩ := Option.map_eq_some_iff.mp hy
  refine ⟨a, b, rfl, rfl, ?_⟩
  rw [List.getElem?_zip_eq_some]
  exact ⟨ha, hb⟩
theorem ok_by_degrees (T : Tx K mg) : FnOk P w K mg base CX0 3 T.by_degrees.f T.by_degrees.fd ["one", "other"] (spByK K degB) := by
  refine T.by_degrees.F.ok sc_by_degrees (fun vs H Q E h => ?_) (fun cdv A outer s H vs Q E hr h => ?_)
  · obtain ⟨_, _, _, _, rfl, _⟩ := h; rfl
  · obtain ⟨v, v', u, u', rfl, hw, W, hw', W', q⟩ := h
    refine ⟨_, (pss_cons (ps_set (i := 2) sc_by_degrees.nd rfl (.inl rfl) (pe_call (ok_degrees_by_kind T) (hr.mono (by decide)) (by rfl) T.degrees_by_kind.g T.degrees_by_kind.F.kp T.degrees_by_kind.b .nil pass0 (pa_cons (pv 0) pa_nil)))
      (pss_cons (ps_set (i := 3) sc_by_degrees.nd rfl (.inl rfl) (pe_call (ok_degrees_by_kind T) (hr.mono (by decide)) (by rfl) T.degrees_by_kind.g T.degrees_by_kind.F.kp T.degrees_by_kind.b .nil pass0 (pa_cons (pv 1) pa_nil)))
      (pss_cons (ps_set (i := 4) sc_by_degrees.nd rfl (.inl rfl) pe_int)
      (pss_cons (ps_lock (ps_for PassesOwn.never rfl (pi_keys (pv 2)) (pg_name (i := 5) sc_by_degrees.nd rfl (.inl rfl))
        (pss_one (ps_for PassesOwn.never rfl (pi_zip (by rfl) T.m_zip (pa_cons (pe_dget (hu_of hr) (pv 2) (pv 5) (fun _ _ => rfl)) (pa_cons (pe_dget2 (hu_of hr) (pv 3) (pv 5) (pe_lst pa_nil) ⟨rfl, rfl, rfl, rfl⟩) pa_nil))) (pg_tup rfl (pgs_cons (pg_name (i := 6) sc_by_degrees.nd rfl (.inl rfl)) (pgs_cons (pg_name (i := 7) sc_by_degrees.nd rfl (.inl rfl)) pgs_nil)))
          (pss_one (ps_aug (i := 4) sc_by_degrees.nd rfl (.inl rfl) (pe_callB (call_min2 rfl) (by rfl) T.m_min (by decide +kernel) (pa_cons (pv 6) (pa_cons (pv 7) pa_nil))) ip_add))))))
      (pss_one (ps_ret (pe_op op_fdiv (pv 4) pe_int))))))), ?_⟩
    walk_at "rd"
    refine ⟨v, u, rfl, hw, W, fun H1 D1 s1 f1 g1 => ?_⟩
    obtain ⟨es, eD, nf, hk, hes⟩ := g1
    walk_at "rd"
    refine ⟨v', u', rfl, hw'.same s1, W', fun H2 D2 s2 f2 g2 => ?_⟩
    obtain ⟨es', eD', nf', hk', hes'⟩ := g2
    have n12 : D1 ≠ D2 := ne_of_none eD f2
    walk_at "rd"
    have eD2 := s2 _ _ eD
    refine ⟨D1, _, eD2, trivial, fun od => ?_⟩
    have exF := upd_same (H := H2) (a := D1) (o := .frz od (.dK (kv2 es)))
    have eDF : (upd H2 D1 (.frz od (.dK (kv2 es)))) D2 = some (.dK (kv2 es')) := by rw [upd_ne n12.symm]; exact eD'
    have hesF : ∀ e ∈ es, ∃ ns, (upd H2 D1 (.frz od (.dK (kv2 es)))) e.2 = some (.lst (natsV ns)) ∧ ns.Perm (dOf (kdL u) e.1) ∧ ns.Pairwise (· ≥ ·) := fun e he => by
      obtain ⟨ns, h1, h2, h3⟩ := hes e he
      exact ⟨ns, by rw [upd_ne (ne_of h1 eD (by intro z; cases z))]; exact s2 _ _ h1, h2, h3⟩
    have hesF' : ∀ e ∈ es', ∃ ns, (upd H2 D1 (.frz od (.dK (kv2 es)))) e.2 = some (.lst (natsV ns)) ∧ ns.Perm (dOf (kdL u') e.1) ∧ ns.Pairwise (· ≥ ·) := fun e he => by
      obtain ⟨ns, h1, h2, h3⟩ := hes' e he
      exact ⟨ns, by rw [upd_ne (ne_of h1 eD2 (by intro z; cases z))]; exact h1, h2, h3⟩
    have smF : ∀ b o, b ≠ D1 → H2 b = some o → (upd H2 D1 (.frz od (.dK (kv2 es)))) b = some o := fun b o n e => by rw [upd_ne n]; exact e
    generalize upd H2 D1 (.frz od (.dK (kv2 es))) = HF at exF eDF hesF hesF' smF ⊢
    refine d_iK ?_
    walk_at "rd"
    refine ⟨D1, od, rfl, .inl ⟨kv2 es, exF, ?_⟩⟩
    refine for_it (walk_keys (d := D1) (o := od) (kvs := kv2 es)) (fun i σ H3 => ∃ y5 y6 y7, σ = [some v, some v', some (.ref D1), some (.ref D2), some (.int (sumN ((es.map (·.1)).take i) (layS u u') : Nat)), y5, y6, y7] ∧ Same HF H3)
      ⟨_, _, _, rfl, Same.refl _⟩ (fun i σ H3 hi hP => ?_) (fun i x σ H3' H3 hi hP hy => ?_) (fun σ H3 hP => ?_)
    · obtain ⟨_, _, _, _, sm⟩ := hP
      exact sm _ _ exF
    · obtain ⟨y5, y6, y7, rfl, sm⟩ := hP
      obtain ⟨rfl, k, z, hkv, rfl⟩ := hy
      obtain ⟨e, he, rfl, rfl⟩ := kv2_i hkv
      have hem := List.mem_of_getElem? he
      obtain ⟨ns, h1, h2, h3⟩ := hesF e hem
      have lst : ∀ {ns : List Nat} {x : Web}, WOk x → ns.Perm (dOf (kdL x) e.1) → ns.length ≤ 40 := fun {ns x} X p => by
        rw [p.length_eq]
        unfold dOf
        rw [List.length_map]
        have z1 := List.length_filter_le (fun y : Nat × Nat => decide (y.1 = e.1)) (kdL x)
        have z2 : (kdL x).length = x.1.length := by unfold kdL; rw [List.length_map, List.length_range]
        have := X.few
        omega
      walk_at "rd"
      refine d_iZip ?_
      walk_at "rd"
      refine ⟨D1, .ref e.2, rfl, .inl ⟨kv2 es, kS e.1, .inr ⟨od, sm _ _ exF⟩, rfl, (kv2_at nf (show (e.1, e.2) ∈ es from hem)).symm⟩, ?_⟩
      walk_at "rd"
      refine ⟨D2, rfl, .inl ⟨_, .inl (sm _ _ eDF)⟩, ?_⟩
      walk_at "rd"
      refine ⟨sz (by decide), fun p fp => ?_⟩
      have sp := same_upd (o := .lst []) sm (Same.free sm fp)
      have get : ∃ (o : Option V) (a : Addr) (ms : List Nat), valV (kv2 es') (kS e.1) = o ∧ o.getD (V.ref p) = .ref a ∧ (upd H3 p (.lst [])) a = some (.lst (natsV ms)) ∧ ms.Perm (dOf (kdL u') e.1) ∧ ms.Pairwise (· ≥ ·) := by
        by_cases c : e.1 ∈ es'.map (·.1)
        · obtain ⟨e', he', ee⟩ := List.mem_map.mp c
          obtain ⟨ms, m1, m2, m3⟩ := hesF' e' he'
          exact ⟨_, e'.2, ms, kv2_at nf' (show (e.1, e'.2) ∈ es' from ee ▸ he'), rfl, sp _ _ m1, ee ▸ m2, m3⟩
        · exact ⟨_, p, [], kv2_none c, rfl, upd_same, by rw [dOf_none fun h => c ((hk' _).mpr h)], .nil⟩
      obtain ⟨o, a, ms, go, ga, m1, m2, m3⟩ := get
      refine ⟨o, .inl ⟨kv2 es', kS e.1, .inl (at_upd (sm _ _ eDF) fp), rfl, go.symm⟩, ?_⟩
      rw [ga]
      walk_at "rd"
      have n1 := at_upd (u := .lst []) (sm _ _ h1) fp
      generalize upd H3 p (.lst []) = H4 at sp m1 n1 ⊢
      refine ⟨e.2, a, _, _, rfl, SqL.of n1, SqL.of m1, ?_⟩
      refine for_it (walk_zip (K := K) (a := e.2) (b := a) (xs := natsV ns) (ys := natsV ms) rfl) (fun j σ H5 => ∃ y6 y7, σ = [some v, some v', some (.ref D1), some (.ref D2), some (.int (sumN ((es.map (·.1)).take i) (layS u u') + sumN ((ns.zip ms).take j) (fun p => min p.1 p.2) : Nat)), some (.str (sg e.1)), y6, y7] ∧ Same H4 H5)
        ⟨_, _, rfl, Same.refl _⟩ (fun j σ H5 hj hP => ?_) (fun j x σ H5 H5' hj hP hy => ?_) (fun σ H5 hP => ?_)
      · obtain ⟨_, _, _, s5⟩ := hP
        exact ⟨SqL.of (s5 _ _ n1), SqL.of (s5 _ _ m1)⟩
      · obtain ⟨y6, y7, rfl, s5⟩ := hP
        obtain ⟨T', x', y', rfl, fT, rfl, ex, ey⟩ := hy
        obtain ⟨g, g', rfl, rfl, hz⟩ := zip_at ex ey
        refine d_gtupm upd_same rfl ?_
        walk_at "rd"
        refine ⟨_, _, rfl, ?_⟩
        rw [min_nat]
        walk_at "rd"
        refine ⟨_, _, rfl, rfl, ?_⟩
        have ez : sumN ((es.map (·.1)).take i) (layS u u') + sumN ((ns.zip ms).take j) (fun p => min p.1 p.2) + min g g' = sumN ((es.map (·.1)).take i) (layS u u') + sumN ((ns.zip ms).take (j + 1)) (fun p => min p.1 p.2) := by
          rw [take_snoc hz, sumN_app, sumN_cons, sumN_nil]
          omega
        exact ⟨some (.int (g : Nat)), some (.int (g' : Nat)), by rw [← ez]; rfl, same_upd s5 (Same.free s5 fT)⟩
      · obtain ⟨y6, y7, rfl, s5⟩ := hP
        have lz : min (natsV ns).length (natsV ms).length = (ns.zip ms).length := by unfold natsV; rw [List.length_zip, List.length_map, List.length_map]
        rw [lz, List.take_length]
        have ez : sumN ((es.map (·.1)).take i) (layS u u') + sumN (ns.zip ms) (fun p => min p.1 p.2) = sumN ((es.map (·.1)).take (i + 1)) (layS u u') := by
          rw [take_snoc (x := e.1) (by rw [List.getElem?_map, he]; rfl), sumN_app, sumN_cons, sumN_nil, ← layS_of W h2 h3 m2 m3]
          rfl
        rw [ez]
        exact ⟨_, _, _, rfl, Same.trans sp s5⟩
    · obtain ⟨y5, y6, y7, rfl, sm⟩ := hP
      rw [kv2_len, List.take_of_length_le (by rw [List.length_map]; exact Nat.le_refl _), lay_total W nf hk]
      refine ⟨sm _ _ exF, ?_⟩
      walk_at "rd"
      rw [show ((degS (kdL u) (kdL u') : Nat) : Int) / 2 = ((degB u u' : Nat) : Int) from rfl]
      refine q _ fun b o e => ?_
      have nb : b ≠ D1 := ne_of_none e f1
      rw [upd_ne nb]
      exact sm _ _ (smF _ _ nb (s2 _ _ (s1 _ _ e)))
theorem ok_ties_bound (T : Tx K mg) : FnOk P w K mg base CX0 4 T.ties_bound.f T.ties_bound.fd ["one", "other"] (spByK K fun u u' => min (csum (tris u) (tris u')) (degB u u')) := by
  refine T.ties_bound.F.ok sc_ties_bound (fun vs H Q E h => ?_) (fun cdv A outer s H vs Q E hr h => ?_)
  · obtain ⟨_, _, _, _, rfl, _⟩ := h; rfl
  · obtain ⟨v, v', u, u', rfl, hw, W, hw', W', q⟩ := h
    refine ⟨_, (pss_one (ps_ret (pe_callB (call_min2 rfl) (by rfl) T.m_min (by decide +kernel) (pa_cons (pe_call (ok_by_tie_kinds T) (hr.mono (by decide)) (by rfl) T.by_tie_kinds.g T.by_tie_kinds.F.kp T.by_tie_kinds.b .nil pass0 (pa_cons (pv 0) (pa_cons (pv 1) pa_nil))) (pa_cons (pe_call (ok_by_degrees T) (hr.mono (by decide)) (by rfl) T.by_degrees.g T.by_degrees.F.kp T.by_degrees.b .nil pass0 (pa_cons (pv 0) (pa_cons (pv 1) pa_nil))) pa_nil))))), ?_⟩
    walk_at "rd"
    refine ⟨v, v', u, u', rfl, hw, W, hw', W', fun H1 s1 => ?_⟩
    walk_at "rd"
    refine ⟨v, v', u, u', rfl, hw.same s1, W, hw'.same s1, W', fun H2 s2 => ?_⟩
    walk_at "rd"
    refine ⟨_, _, rfl, ?_⟩
    rw [min_nat]
    exact q _ (Same.trans s1 s2)
def spWhole : Sp := fun vs H Q _ => ∃ n : Int, vs = [.int n] ∧ ∀ H', Same H H' → Q (.bl true) H'
theorem ok_whole (T : Tx K mg) : FnOk P w K mg base CX0 1 T.whole.f T.whole.fd ["thing"] spWhole := by
  refine T.whole.F.ok sc_whole (fun vs H Q E h => ?_) (fun cdv A outer s H vs Q E hr h => ?_)
  · obtain ⟨_, rfl, _⟩ := h; rfl
  · obtain ⟨n, rfl, q⟩ := h
    refine ⟨_, (pss_one (ps_ret (pe_and (pe_callB call_isi (by rfl) T.m_isinstance (by decide +kernel) (pa_cons (pv 0) (pa_cons (pe_bltn (by rfl) T.m_int (by decide +kernel) (v := .ty "int") rfl) pa_nil))) (pe_one (pe_not (pe_callB call_isi (by rfl) T.m_isinstance (by decide +kernel) (pa_cons (pv 0) (pa_cons (pe_bltn (by rfl) T.m_bool (by decide +kernel) (v := .ty "bool") rfl) pa_nil)))))))), ?_⟩
    walk_at "rd"
    refine ⟨_, _, _, _, true, rfl, .ty "int", .base (.int _), kit_ty (by decide +kernel), ?_⟩
    walk_at "rd"
    refine ⟨_, _, _, _, false, rfl, .ty "bool", .base (.int _), kit_ty (by decide +kernel), ?_⟩
    walk_at "rd"
    exact q _ (Same.refl _)
theorem touch_any (place low high : Nat) (t : Tie) (h1 : t.1 = low) (h2 : t.2.1 = high) : (([PyData.int (low : Nat), PyData.int (high : Nat)]).any fun z => PyData.eqv z (.int (place : Nat))) = touch place t := by
  subst h1 h2
  unfold touch
  rw [Bool.eq_iff_iff, decide_eq_true_iff]
  simp [PyData.eqv]
  omega
theorem back_neg {ds : List Nat} {ns : List Int} (pm : ns.Perm (ds.map fun d : Nat => (0 : Int) - d)) (so : ns.Pairwise (· ≤ ·)) : ∃ ms : List Nat, (ns.map fun z => V.int (0 - z)) = natsV ms ∧ ms.Perm ds ∧ ms.Pairwise (· ≥ ·) := by
  have all : ∀ z ∈ ns, ∃ d : Nat, z = (0 : Int) - d := fun z hz => by
    obtain ⟨d, _, e⟩ := List.mem_map.mp (pm.mem_iff.mp hz)
    exact ⟨d, e.symm⟩
  refine ⟨ns.map fun z => (0 - z).toNat, ?_, ?_, ?_⟩
  · unfold natsV
    rw [List.map_map]
    refine List.map_congr_left fun z hz => ?_
    obtain ⟨d, rfl⟩ := all z hz
    show V.int (0 - (0 - (d : Int))) = V.int (((0 - (0 - (d : Int))).toNat : Nat) : Int)
    congr 1
    omega
  · have q := pm.map fun z => (0 - z).toNat
    rw [List.map_map] at q
    have e : ds.map ((fun z : Int => (0 - z).toNat) ∘ fun d : Nat => (0 : Int) - d) = ds := by
      conv => rhs; rw [← List.map_id ds]
      refine List.map_congr_left fun d _ => ?_
      show (0 - (0 - (d : Int))).toNat = d
      omega
    rw [e] at q
    exact q
  · rw [List.pairwise_map]
    exact so.imp fun h => by omega
def spDgs (K : PySem.W.Frag) : Sp := fun vs H Q _ => ∃ (v : V) (u : Web) (c : Nat), vs = [v, .str (sg c)] ∧ WebAt K H v u ∧ WOk u ∧ ∀ H' p ns, Same H H' → H p = none → H' p = some (.lst (natsV ns)) → ns.Perm (dOf (kdL u) c) → ns.Pairwise (· ≥ ·) → Q (.ref p) H'
theorem ok_degrees (T : Tx K mg) : FnOk P w K mg base CX0 1 T.degrees.f T.degrees.fd ["web", "kind"] (spDgs K) := by
  refine T.degrees.F.ok sc_degrees (fun vs H Q E h => ?_) (fun cdv A outer s H vs Q E hr h => ?_)
  · obtain ⟨_, _, _, rfl, _⟩ := h; rfl
  · obtain ⟨v, u, c, rfl, ⟨a, b, tvs, rfl, qa, qb, pt⟩, W, q⟩ := h
    have l40 := W.few
    have l16 := W.most
    have lt : tvs.length = u.2.length := Paired.length pt
    have ls : ∀ l : List Nat, (⟨l.toArray⟩ : Str).length = l.length := fun l => by show l.toArray.size = _; simp
    have lk : (kdL u).length = u.1.length := by unfold kdL; rw [List.length_map, List.length_range]
    refine ⟨_, (pss_cons (ps_set (i := 2) sc_degrees.nd rfl (.inl rfl) (pe_lst pa_nil))
      (pss_cons (ps_for PassesOwn.never rfl (pi_range1 (by rfl) T.m_range (pa_cons (pe_callB call_len_str (by rfl) T.m_len (by decide +kernel) (pa_cons (pe_ix ix_tup (pv 0) pe_int (fun _ _ => rfl)) pa_nil)) pa_nil)) (pg_name (i := 3) sc_degrees.nd rfl (.inr rfl))
        (pss_one (ps_if (pt_cmpR op_eq (pe_ix ix_str (pe_ix ix_tup (pv 0) pe_int (fun _ _ => rfl)) (pv 3) (fun _ _ => rfl)) (pv 1) (nomark _))
          (pss_one (ps_expr (pe_bm PySem.F.plainAttrs_list PySem.F.slot_list_append PySem.F.type_list_append mt_append (pv 2) (pa_cons (pe_op op_sub pe_int (pe_callB call_len_seq (by rfl) T.m_len (by decide +kernel) (pa_cons (pe_lc (own := [("low", 4), ("high", 5), ("tied", 6)]) (g := gTup K 3 (gCons (gName 4) (gCons (gName 5) (gCons (gName 6) gNil)))) (tt := tTest (tOp (rInT K false) (tVar 3) (tTup (tCons (tVar 4) (tCons (tVar 5) tNil))))) (te := tC (.int 1)) rfl sc_degrees.nd (pi_tup (pe_ix ix_tup (pv 0) pe_int (fun _ _ => rfl))) (blkOk_by (N := ["web", "kind", "found", "place", "low", "high", "tied", "degree"]) (sc := defScope s_degrees) (by decide +kernel)) (fun _ _ _ _ _ => (pg_tup rfl (pgs_cons (pg_name (i := 4) sc_degrees.nd rfl (.inl rfl)) (pgs_cons (pg_name (i := 5) sc_degrees.nd rfl (.inl rfl)) (pgs_cons (pg_name (i := 6) sc_degrees.nd rfl (.inl rfl)) pgs_nil))))) (fun _ _ _ _ _ => pts_one (pt_cmpR (op_inT (units1 hr)) (pv 3) (pe_tup (pa_cons (pv 4) (pa_cons (pv 5) pa_nil))) (by rfl))) (fun _ _ _ _ _ => pe_int)) pa_nil))) pa_nil))))
          pss_nil)))
      (pss_one (ps_ret (pe_lc (own := [("degree", 7)]) (g := gName 7) (tt := tYes) rfl sc_degrees.nd (pi_list (pe_callB cr_sortedI (by rfl) T.m_sorted (by decide +kernel) (pa_cons (pv 2) pa_nil))) (blkOk_by (N := ["web", "kind", "found", "place", "low", "high", "tied", "degree"]) (sc := defScope s_degrees) (by decide +kernel)) (fun _ _ _ _ _ => (pg_name (i := 7) sc_degrees.nd rfl (.inl rfl))) (fun _ _ _ _ _ => pts_nil) (fun _ _ _ _ _ => (pe_op op_sub pe_int (pv 7)))))))), ?_⟩
    walk_at "rd"
    refine ⟨sz (by decide), fun F fF => ?_⟩
    have s0 := same_new (o := .lst []) fF
    have eF0 := upd_same (H := H) (a := F) (o := .lst [])
    generalize upd H F (.lst []) = H0 at s0 eF0 ⊢
    walk_at "rd"
    refine d_ixT (Same.sqt s0 qa) rfl ?_
    refine d_lenS (z := ⟨u.1.toArray⟩) (sz (by rw [ls]; omega)) ?_
    rw [ls]
    walk_at "rd"
    refine for_range (fun i σ H3 => ∃ y3 y4 y5 y6 y7, σ = [some (.ref a), some (.str (sg c)), some (.ref F), y3, y4, y5, y6, y7] ∧ H3 F = some (.lst (((dOf ((kdL u).take i) c).map fun d : Nat => (0 : Int) - d).map V.int)) ∧ Same H H3)
      ⟨_, _, _, _, _, rfl, eF0, s0⟩ (fun i σ H3 hi hP => ?_) (fun σ H3 hP => ?_)
    · obtain ⟨y3, y4, y5, y6, y7, rfl, eF, sm⟩ := hP
      have hi' : i < u.1.length := by omega
      have kg := kdL_get (u := u) (i := i) (List.getElem?_eq_getElem hi')
      have gd : u.1.getD i 0 = u.1[i] := by rw [List.getD_eq_getElem?_getD, List.getElem?_eq_getElem hi']; rfl
      have ld : (dOf ((kdL u).take i) c).length ≤ 40 := by
        unfold dOf
        rw [List.length_map]
        have z1 := List.length_filter_le (fun x : Nat × Nat => decide (x.1 = c)) ((kdL u).take i)
        have z2 := List.length_take_le i (kdL u)
        omega
      rw [Int.zero_add]
      walk_at "rd"
      refine d_ixT (Same.sqt sm qa) rfl ?_
      walk_at "rd"
      refine ⟨_, _, _, rfl, rfl, sz (by rw [ls]; omega), getD_at hi', ?_⟩
      rw [gd]
      walk_at "rd"
      refine ⟨rfl, ?_⟩
      walk_at "rd"
      refine ite2 (fun e => ?_) (fun e => ?_)
      · have ec : u.1[i] = c := sg_inj.mp (V.str.inj (of_decide_eq_true e))
        walk_at "rd"
        refine d_app eF ?_
        walk_at "rd"
        refine d_ixT (Same.sqt sm qa) rfl ?_
        refine d_iTe (Same.sqt sm qb) ?_
        intro D fD
        refine lc_it (walk_tup (xs := tvs)) (fun j H1 => H1 D = some (.lst ((List.replicate ((u.2.take j).countP (touch i)) (1 : Int)).map V.int)) ∧ Same H3 H1) ⟨upd_same, same_new fD⟩ (fun j H1 hj hP => ?_) (fun j x H1' H1 hj hP hy => ?_) (fun H1 hP => ?_)
        · exact Same.sqt (Same.trans sm hP.2) qb
        · obtain ⟨eD, s1⟩ := hP
          obtain ⟨rfl, hx⟩ := hy
          obtain ⟨t, ht, a', rfl, qt⟩ := Paired.at pt hx
          have qt1 := Same.sqt (Same.trans sm s1) qt
          have lc := List.countP_le_length (p := touch i) (l := u.2.take j)
          have lj := List.length_take_le j u.2
          refine d_gtup qt1 rfl ?_
          walk_at "rd"
          refine ⟨sz (by show 2 ≤ 100000; decide), fun p fp => ?_⟩
          refine ⟨.int (i : Nat), [.int (t.1 : Nat), .int (t.2.1 : Nat)], .int _, .tup (SqT.of upd_same) (.cons (.int _) (.cons (.int _) .nil)), by simp [SeqAt.shaped, PyData.canLay0, PyData.depth], by simp [SeqAt.shaped, PyData.canLay0, PyData.canLayAll0, PyData.depth, PyData.depthAll], ?_⟩
          rw [touch_any i t.1 t.2.1 t rfl rfl]
          simp only [Bool.false_eq_true, if_false]
          have eD1 := at_upd (u := .tup [V.int (t.1 : Nat), V.int (t.2.1 : Nat)]) eD fp
          have s2 := Same.trans s1 (same_new (o := .tup [V.int (t.1 : Nat), V.int (t.2.1 : Nat)]) fp)
          generalize upd H1 p _ = H2 at eD1 s2 ⊢
          walk_at "rd"
          have e1 : (u.2.take (j + 1)).countP (touch i) = (u.2.take j).countP (touch i) + if touch i t = true then 1 else 0 := by
            rw [take_snoc ht, List.countP_append, List.countP_cons, List.countP_nil]
            omega
          rw [e1]
          refine ite2 (fun ct => ?_) (fun ct => ?_)
          · walk_at "rd"
            rw [if_pos ct]
            refine ⟨_, eD1, szl (by rw [List.length_map, List.length_replicate]; omega), ?_, same_upd s2 fD⟩
            rw [upd_same, List.replicate_succ', List.map_append]
            rfl
          · rw [if_neg ct, Nat.add_zero]
            exact ⟨eD1, s2⟩
        · obtain ⟨eD, s1⟩ := hP
          rw [lt, List.take_length, ← deg_touch] at eD
          have eF1 := s1 _ _ eF
          have nFD : F ≠ D := ne_of_none eF fD
          walk_at "rd"
          refine d_lenL (SqL.of eD) ?_
          rw [List.length_map, List.length_replicate]
          walk_at "rd"
          refine d_append eF1 (szl (by rw [List.length_map, List.length_map]; omega)) ?_
          refine ⟨_, _, _, _, _, rfl, ?_, same_upd (Same.trans sm s1) fF⟩
          rw [upd_same, take_snoc kg, dOf_snoc, if_pos ec, List.map_append, List.map_append]
          rfl
      · have ec : ¬ u.1[i] = c := fun z => e (decide_eq_true (by rw [z]))
        walk_at "rd"
        refine ⟨_, _, _, _, _, rfl, ?_, sm⟩
        rw [take_snoc kg, dOf_snoc, if_neg ec, List.append_nil]
        exact eF
    · obtain ⟨y3, y4, y5, y6, y7, rfl, eF, sm⟩ := hP
      rw [show ((u.1.length : Nat) : Int).toNat = (kdL u).length by rw [lk]; omega, List.take_length] at eF
      walk_at "rd"
      refine ⟨F, _, rfl, SqL.of eF, fun ns' p pm so fp => ?_⟩
      obtain ⟨ms, em, mp, mf⟩ := back_neg pm so
      have s2 := same_upd (o := .lst (ns'.map V.int)) sm (Same.free sm fp)
      have eL := upd_same (H := H3) (a := p) (o := .lst (ns'.map V.int))
      generalize upd H3 p (.lst (ns'.map V.int)) = H4 at s2 eL ⊢
      have ln : ns'.length ≤ 40 := by
        rw [pm.length_eq, List.length_map]
        unfold dOf
        rw [List.length_map]
        have z1 := List.length_filter_le (fun x : Nat × Nat => decide (x.1 = c)) (kdL u)
        omega
      walk_at "rd"
      refine d_iLe (SqL.of eL) ?_
      intro D fD
      refine lc_it (walk_list (K := K) (a := p) (xs := ns'.map V.int)) (fun j H1 => H1 D = some (.lst ((ns'.take j).map fun z => V.int (0 - z))) ∧ Same H4 H1) ⟨upd_same, same_new fD⟩ (fun j H1 hj hP => ?_) (fun j x H1' H1 hj hP hy => ?_) (fun H1 hP => ?_)
      · exact SqL.of (hP.2 _ _ eL)
      · obtain ⟨eD, s1⟩ := hP
        obtain ⟨rfl, hx⟩ := hy
        rw [List.getElem?_map] at hx
        obtain ⟨z, hz, rfl⟩ := Option.map_eq_some_iff.mp hx
        have lj := List.length_take_le j ns'
        walk_at "rd"
        refine ⟨_, eD, szl (by rw [List.length_map]; have := List.length_take (i := j) (l := ns'); omega), ?_, same_upd s1 fD⟩
        rw [upd_same, take_snoc hz, List.map_append]
        rfl
      · obtain ⟨eD, s1⟩ := hP
        rw [List.length_map, List.take_length, em] at eD
        have s3 := Same.trans s2 s1
        exact q _ D ms s3 (by
          cases z : H D with
          | none => rfl
          | some o => rw [s2 _ _ z] at fD; cases fD) eD mp mf
theorem two_texts {ys : List Str} {a b : Nat} (pm : ys.Perm [sg a, sg b]) (so : PyProof.Rows.sortedS ys = true) : ys = [if b < a then b else a, if a < b then b else a].map sg := by
  have lt : ∀ x y : Nat, ltCps (sg x).cps.toList (sg y).cps.toList = decide (x < y) := fun x y => by
    rw [PyProof.Rows.ltCps_eq]
    exact sg_lt x y
  have l2 := pm.length_eq
  match ys, l2 with
  | [p, q], _ =>
    have so' : ltCps q.cps.toList p.cps.toList = false := by
      have z : (!ltCps q.cps.toList p.cps.toList && true) = true := so
      simpa using z
    have mp := pm.mem_iff.mp (List.mem_cons_self (a := p) (l := [q]))
    have h : (p = sg a ∧ q = sg b) ∨ (p = sg b ∧ q = sg a) := by
      rcases List.mem_cons.mp mp with e | e
      · subst e
        have z := (List.perm_cons _).mp pm
        exact .inl ⟨rfl, by simpa using z⟩
      · have e := List.mem_singleton.mp e
        subst e
        have z := (List.perm_cons _).mp (pm.trans (List.Perm.swap _ _ _))
        exact .inr ⟨rfl, by simpa using z⟩
    rcases h with ⟨rfl, rfl⟩ | ⟨rfl, rfl⟩
    · rw [lt] at so'
      have n : ¬ b < a := of_decide_eq_false so'
      rcases Nat.lt_or_ge a b with h | h
      · simp [n, h]
      · have e : a = b := by omega
        subst e; simp
    · rw [lt] at so'
      have n : ¬ a < b := of_decide_eq_false so'
      rcases Nat.lt_or_ge b a with h | h
      · simp [n, h]
      · have e : a = b := by omega
        subst e; simp
theorem three_text (k m M : Nat) : (sg k ++ Str.ofString "-" ++ ⟨[m, M].toArray⟩ : Str) = k3 (k, m, M) := by
  have e : Str.ofString "-" = (⟨#[45]⟩ : Str) := by decide +kernel
  rw [e]
  rfl
def spThr (K : PySem.W.Frag) : Sp := fun vs H Q _ => ∃ (v : V) (u : Web), vs = [v] ∧ WebAt K H v u ∧ WOk u ∧ ∀ H' D kvs ks, Same H H' → H D = none → H' D = some (.dK kvs) → Keyed kvs (tris u) ks → Q (.ref D) H'
theorem ok_threes (T : Tx K mg) : FnOk P w K mg base CX0 1 T.threes.f T.threes.fd ["web"] (spThr K) := by
  refine T.threes.F.ok sc_threes (fun vs H Q E h => ?_) (fun cdv A outer s H vs Q E hr h => ?_)
  · obtain ⟨_, _, rfl, _⟩ := h; rfl
  · obtain ⟨v, u, rfl, ⟨a, b, tvs, rfl, qa, qb, pt⟩, W, q⟩ := h
    have l40 := W.few
    have l16 := W.most
    have lt : tvs.length = u.2.length := Paired.length pt
    have ls : ∀ l : List Nat, (⟨l.toArray⟩ : Str).length = l.length := fun l => by show l.toArray.size = _; simp
    refine ⟨_, (pss_cons (ps_set (i := 1) sc_threes.nd rfl (.inl rfl) pe_dnewK)
      (pss_cons (ps_for PassesOwn.never rfl (pi_tup (pe_ix ix_tup (pv 0) pe_int (fun _ _ => rfl))) (pg_tup rfl (pgs_cons (pg_name (i := 2) sc_threes.nd rfl (.inl rfl)) (pgs_cons (pg_name (i := 3) sc_threes.nd rfl (.inl rfl)) (pgs_cons (pg_name (i := 4) sc_threes.nd rfl (.inl rfl)) pgs_nil))))
        (pss_cons (ps_set (i := 5) sc_threes.nd rfl (.inl rfl) (pe_callB cr_sortedS (by rfl) T.m_sorted (by decide +kernel) (pa_cons (pe_lst (pa_cons (pe_ix ix_str (pe_ix ix_tup (pv 0) pe_int (fun _ _ => rfl)) (pv 2) (fun _ _ => rfl)) (pa_cons (pe_ix ix_str (pe_ix ix_tup (pv 0) pe_int (fun _ _ => rfl)) (pv 3) (fun _ _ => rfl)) pa_nil))) pa_nil)))
        (pss_cons (ps_set (i := 6) sc_threes.nd rfl (.inl rfl) (pe_op op_add_str (pe_op op_add_str (pv 4) pe_str) (pe_join pe_str (pv 5))))
        (pss_one (ps_dput (hu_of hr) (pv 1) (pv 6) (pe_op op_add (pe_dget2 (hu_of hr) (pv 1) (pv 6) pe_int ⟨rfl, rfl, rfl, rfl⟩) pe_int) rfl)))))
      (pss_one (ps_ret (pv 1))))), ?_⟩
    walk_at "rd"
    intro D fD
    walk_at "rd"
    have s0 := same_new (o := .dK []) fD
    refine d_ixT (Same.sqt s0 qa) rfl ?_
    refine d_iTe (Same.sqt s0 qb) ?_
    refine for_it (walk_tup (xs := tvs)) (fun i σ H' => ∃ y2 y3 y4 y5 y6 kvs ks, σ = [some (.ref a), some (.ref D), y2, y3, y4, y5, y6] ∧ Same H H' ∧ H' D = some (.dK kvs) ∧ Keyed kvs ((tris u).take i) ks)
      ⟨_, _, _, _, _, [], [], rfl, s0, upd_same, Keyed.nil⟩ (fun i σ H' hi hP => ?_) (fun i x σ H2' H2 hi hP hy => ?_) (fun σ H' hP => ?_)
    · obtain ⟨_, _, _, _, _, _, _, _, sm, _⟩ := hP
      exact Same.sqt sm qb
    · obtain ⟨y2, y3, y4, y5, y6, kvs, ks, rfl, sm, eD, hk⟩ := hP
      obtain ⟨rfl, hx⟩ := hy
      obtain ⟨t, ht, a', rfl, qt⟩ := Paired.at pt hx
      obtain ⟨h1, h2, h3⟩ := W.ends t (List.mem_of_getElem? ht)
      have lk := hk.len
      have lf := hk.few
      have l3 : (tris u).length = u.2.length := by unfold tris; rw [List.length_map]
      have lj := List.length_take_le i (tris u)
      refine d_gtup (Same.sqt sm qt) rfl ?_
      walk_at "rd"
      refine d_ixT (Same.sqt sm qa) rfl ?_
      walk_at "rd"
      refine ⟨_, _, _, rfl, rfl, sz (by rw [ls]; omega), getD_at (by omega), ?_⟩
      walk_at "rd"
      refine d_ixT (Same.sqt sm qa) rfl ?_
      walk_at "rd"
      refine ⟨_, _, _, rfl, rfl, sz (by rw [ls]; omega), getD_at h2, ?_⟩
      walk_at "rd"
      refine ⟨sz (by show 2 ≤ 100000; decide), fun p1 f1 => ?_⟩
      walk_at "rd"
      refine ⟨p1, [sg (u.1.getD t.1 0), sg (u.1.getD t.2.1 0)], rfl, SqL.of upd_same, by simp, fun ys p2 pm so f2 => ?_⟩
      have ey := two_texts pm so
      subst ey
      have eD2 := at_upd (u := .lst ([if u.1.getD t.2.1 0 < u.1.getD t.1 0 then u.1.getD t.2.1 0 else u.1.getD t.1 0, if u.1.getD t.1 0 < u.1.getD t.2.1 0 then u.1.getD t.2.1 0 else u.1.getD t.1 0].map sg |>.map V.str)) (at_upd (u := .lst [V.str (sg (u.1.getD t.1 0)), V.str (sg (u.1.getD t.2.1 0))]) eD f1) f2
      walk_at "rd"
      refine ⟨_, _, rfl, rfl, by rw [show (Str.ofString "-").length = 1 from by decide +kernel]; exact sz (by show 1 + 1 ≤ 100000; decide), ?_⟩
      walk_at "rd"
      refine ⟨_, p2, _, rfl, rfl, .inl (SqL.of upd_same), ?_, ?_⟩
      · rw [show (Str.ofString "").length = 0 from by decide +kernel]
        exact sz (by show (1 + (1 + 0)) + 2 * 0 ≤ 100000; decide)
      rw [join_signs]
      walk_at "rd"
      refine ⟨_, _, rfl, rfl, ?_, ?_⟩
      · rw [show (sg t.2.2 ++ Str.ofString "-" : Str) = ⟨#[t.2.2, 45]⟩ from by rw [show Str.ofString "-" = (⟨#[45]⟩ : Str) from by decide +kernel]; rfl]
        exact sz (by show 2 + 2 ≤ 100000; decide)
      rw [three_text]
      have eT : (t.2.2, if u.1.getD t.2.1 0 < u.1.getD t.1 0 then u.1.getD t.2.1 0 else u.1.getD t.1 0, if u.1.getD t.1 0 < u.1.getD t.2.1 0 then u.1.getD t.2.1 0 else u.1.getD t.1 0) = tri u t := rfl
      rw [eT]
      have htr : (tris u)[i]? = some (tri u t) := by unfold tris; rw [List.getElem?_map, ht]; rfl
      walk_at "rd"
      refine ⟨D, rfl, .inl ⟨_, .inl eD2⟩, ?_⟩
      walk_at "rd"
      refine ⟨_, DGet.k (k := kS3 (tri u t)) eD2, ?_⟩
      rw [hk.cnt (tri u t)]
      walk_at "rd"
      obtain ⟨ks', hk'⟩ := hk.add (tri u t)
      refine ⟨D, _, rfl, DPut.k (k := kS3 (tri u t)) eD2 (szl (by omega)), ?_⟩
      refine ⟨_, _, _, _, _, _, ks', rfl, same_upd (same_upd (same_upd sm (Same.free sm f1)) (Same.free (same_upd sm (Same.free sm f1)) f2)) fD, upd_same, ?_⟩
      rw [take_snoc htr]
      exact hk'
    · obtain ⟨y2, y3, y4, y5, y6, kvs, ks, rfl, sm, eD, hk⟩ := hP
      have e : (tris u).take tvs.length = tris u := List.take_of_length_le (by unfold tris; rw [List.length_map, lt]; exact Nat.le_refl _)
      rw [e] at hk
      walk_at "rd"
      exact q _ D kvs ks sm fD eD hk
theorem or_dup {σ : L2.St} {H : Hp} {QT : Bool → Hp → Prop} {c : Bool} {tu : TT} (B : Hp → Prop) (body : ∀ H2, B H2 → QT true H2) (h1 : c = true → B H) (h2 : (∀ H2, B H2 → QT true H2) → c = false → tu σ H QT) : if c = true then QT true H else tu σ H QT := by
  cases c with
  | true => exact iteT (body H (h1 rfl))
  | false => exact iteF (h2 body rfl)
theorem signs_sg (l : List Nat) : signsT ⟨l.toArray⟩ = l.map sg := rfl
theorem keys_of {l : List Nat} {ys : List Str} (pm : ys.Perm (uniqT (signsT ⟨l.toArray⟩))) : ∃ ks : List Nat, ys = ks.map sg ∧ ks.Nodup ∧ ∀ c, c ∈ ks ↔ c ∈ l := by
  rw [signs_sg] at pm
  have mem : ∀ y, y ∈ ys ↔ ∃ c ∈ l, sg c = y := fun y => by rw [pm.mem_iff, uniqT_mem, List.mem_map]
  have eq : ys = (ys.map fun y => y.cps.toList.headD 0).map sg := by
    rw [List.map_map]
    conv => lhs; rw [← List.map_id ys]
    refine List.map_congr_left fun y hy => ?_
    obtain ⟨c, _, rfl⟩ := (mem y).mp hy
    rfl
  refine ⟨_, eq, ?_, fun c => ?_⟩
  · have nd : ys.Nodup := pm.nodup_iff.mpr (uniqT_nodup _)
    rw [eq] at nd
    exact (List.pairwise_map.mp nd).imp fun h e => h (by rw [e])
  · rw [List.mem_map]
    constructor
    · rintro ⟨y, hy, rfl⟩
      obtain ⟨c, hc, rfl⟩ := (mem y).mp hy
      exact hc
    · intro hc
      exact ⟨sg c, (mem _).mpr ⟨c, hc, rfl⟩, rfl⟩
theorem uniqT_few (xs : List Str) : (uniqT xs).length ≤ xs.length := by
  have := uniqT_len xs xs.length
  rwa [List.take_length] at this
def spLaw (K : PySem.W.Frag) : Sp := fun vs H Q _ => ∃ (a : Addr) (ns : List Int), vs = [.ref a] ∧ SqL K H a (ns.map V.int) ∧ ns.length ≤ 63 ∧ ∀ H', Q (.bl true) H'
theorem ok_law (T : Tx K mg) : FnOk P w K mg base CX0 5 T.law.f T.law.fd ["script"] (spLaw K) := by
  refine T.law.F.ok sc_law (fun vs H Q E h => ?_) (fun cdv A outer s H vs Q E hr h => ?_)
  · obtain ⟨_, _, rfl, _⟩ := h; rfl
  · obtain ⟨a, ns, rfl, hS, hl, q⟩ := h
    refine ⟨_, (pss_cons (ps_set (i := 1) sc_law.nd rfl (.inl rfl) (pe_call (ok_draws T) (hr.mono (by decide)) (by rfl) T.draws.g T.draws.F.kp T.draws.b .nil pass0 (pa_cons (pv 0) pa_nil)))
      (pss_cons (ps_set (i := 2) sc_law.nd rfl (.inl rfl) pe_int)
      (pss_cons (ps_while PassesOwn.never (PW.pt (pw_or (pt_cmpR op_lt (pv 2) pe_int (nomark _)) (pw_or1 (PW.pt (pw_and (pt_cmpR (op_neD (hr.units)) (pv 1) (pe_lst pa_nil) (nomark _)) (pw_and1 (pt_cmpR op_lt (pv 2) pe_int (nomark _))))))))
        (pss_cons (ps_par (i := 3) (j := 4) rfl sc_law.nd rfl rfl (by decide) rfl rfl (pa_cons (pe_call (ok_great_web T) (hr.mono (by decide)) (by rfl) T.great_web.g T.great_web.F.kp T.great_web.b .nil pass0 (pa_cons (pv 1) pa_nil)) (pa_cons (pe_call (ok_great_web T) (hr.mono (by decide)) (by rfl) T.great_web.g T.great_web.F.kp T.great_web.b .nil pass0 (pa_cons (pv 1) pa_nil)) pa_nil)) (by rfl))
        (pss_cons (ps_set (i := 5) sc_law.nd rfl (.inl rfl) pe_int)
        (pss_cons (ps_for PassesOwn.never rfl (pi_list (pe_callB (cr_sortedTxtw (pd := P) (wd := w) rfl rfl rfl) (by rfl) T.m_sorted (by decide +kernel) (pa_cons (pe_callTy (cr_setTxtw (pd := P) (wd := w) rfl rfl rfl) (by rfl) T.m_set (by decide +kernel) (pa_cons (pe_ix ix_tup (pv 3) pe_int (fun _ _ => rfl)) pa_nil)) pa_nil))) (pg_name (i := 6) sc_law.nd rfl (.inl rfl))
          (pss_one (ps_for PassesOwn.never rfl (pi_zip (by rfl) T.m_zip (pa_cons (pe_call (ok_degrees T) (hr.mono (by decide)) (by rfl) T.degrees.g T.degrees.F.kp T.degrees.b .nil pass0 (pa_cons (pv 3) (pa_cons (pv 6) pa_nil))) (pa_cons (pe_call (ok_degrees T) (hr.mono (by decide)) (by rfl) T.degrees.g T.degrees.F.kp T.degrees.b .nil pass0 (pa_cons (pv 4) (pa_cons (pv 6) pa_nil))) pa_nil))) (pg_tup rfl (pgs_cons (pg_name (i := 7) sc_law.nd rfl (.inl rfl)) (pgs_cons (pg_name (i := 8) sc_law.nd rfl (.inl rfl)) pgs_nil)))
            (pss_one (ps_set (i := 5) sc_law.nd rfl (.inl rfl) (pe_op op_add (pv 5) (pe_callB (call_min2 rfl) (by rfl) T.m_min (by decide +kernel) (pa_cons (pv 7) (pa_cons (pv 8) pa_nil)))))))))
        (pss_cons (ps_set (i := 9) sc_law.nd rfl (.inl rfl) (pe_call (ok_by_degrees T) (hr.mono (by decide)) (by rfl) T.by_degrees.g T.by_degrees.F.kp T.by_degrees.b .nil pass0 (pa_cons (pv 3) (pa_cons (pv 4) pa_nil))))
        (pss_cons (ps_if (PW.pt (pw_or (pt_not (pt_val (pe_call (ok_whole T) (hr.mono (by decide)) (by rfl) T.whole.g T.whole.F.kp T.whole.b .nil pass0 (pa_cons (pv 9) pa_nil)))) (pw_or1 (pt_cmpR op_ne (pv 9) (pe_op op_fdiv (pv 5) pe_int) (nomark _)))))
          (pss_one (ps_ret pe_bl))
          pss_nil)
        (pss_cons (ps_asg (pe_tup (pa_cons (pe_call (ok_threes T) (hr.mono (by decide)) (by rfl) T.threes.g T.threes.F.kp T.threes.b .nil pass0 (pa_cons (pv 3) pa_nil)) (pa_cons (pe_call (ok_threes T) (hr.mono (by decide)) (by rfl) T.threes.g T.threes.F.kp T.threes.b .nil pass0 (pa_cons (pv 4) pa_nil)) pa_nil))) (pg_tup rfl (pgs_cons (pg_name (i := 10) sc_law.nd rfl (.inr rfl)) (pgs_cons (pg_name (i := 11) sc_law.nd rfl (.inr rfl)) pgs_nil))))
        (pss_cons (ps_set (i := 12) sc_law.nd rfl (.inl rfl) (pe_callB (call_min2 rfl) (by rfl) T.m_min (by decide +kernel) (pa_cons (pe_op op_fdiv (pv 5) pe_int) (pa_cons (pe_callB (cr_sum rfl) (by rfl) T.m_sum (by decide +kernel) (pa_cons (pe_lock (pe_lc (own := [("three", 13)]) (g := gName 13) (tt := tYes) rfl sc_law.nd (pi_keys (pv 10)) (blkOk_by (N := ["script", "draws", "many", "one", "other", "total", "kind", "low", "high", "found", "first", "second", "due", "three"]) (sc := defScope s_law) (by decide +kernel)) (fun _ _ _ _ _ => (pg_name (i := 13) sc_law.nd rfl (.inl rfl))) (fun _ _ _ _ _ => pts_nil) (fun _ _ _ _ _ => (pe_callB (call_min2 rfl) (by rfl) T.m_min (by decide +kernel) (pa_cons (pe_dget (hu_of hr) (pv 10) (pv 13) (fun _ _ => rfl)) (pa_cons (pe_dget2 (hu_of hr) (pv 11) (pv 13) pe_int ⟨rfl, rfl, rfl, rfl⟩) pa_nil)))))) pa_nil)) pa_nil))))
        (pss_cons (ps_set (i := 9) sc_law.nd rfl (.inl rfl) (pe_call (ok_ties_bound T) (hr.mono (by decide)) (by rfl) T.ties_bound.g T.ties_bound.F.kp T.ties_bound.b .nil pass0 (pa_cons (pv 3) (pa_cons (pv 4) pa_nil))))
        (pss_cons (ps_if (PW.pt (pw_or (pt_not (pt_val (pe_call (ok_whole T) (hr.mono (by decide)) (by rfl) T.whole.g T.whole.F.kp T.whole.b .nil pass0 (pa_cons (pv 9) pa_nil)))) (pw_or1 (pt_cmpR op_ne (pv 9) (pv 12) (nomark _)))))
          (pss_one (ps_ret pe_bl))
          pss_nil)
        (pss_one (ps_set (i := 2) sc_law.nd rfl (.inl rfl) (pe_op op_add (pv 2) pe_int)))))))))))))
      (pss_one (ps_ret pe_bl))))), ?_⟩
    walk_at "rd"
    refine ⟨a, ns, rfl, hS, hl, fun H1 D s1 f1 d1 => ?_⟩
    walk_at "rd"
    refine ⟨fun m σ H' => ∃ (n : Nat) (y3 y4 y5 y6 y7 y8 y9 y10 y11 y12 y13 : Option V), m = 6 - n ∧ σ = [some (.ref a), some (.ref D), some (.int (n : Nat)), y3, y4, y5, y6, y7, y8, y9, y10, y11, y12, y13] ∧ n ≤ 6 ∧ Drs H' D, ⟨_, 0, _, _, _, _, _, _, _, _, _, _, _, rfl, rfl, by omega, d1⟩, ?_⟩
    rintro m σ H' ⟨n, y3, y4, y5, y6, y7, y8, y9, y10, y11, y12, y13, rfl, rfl, hn, hd⟩
    walk_at "rd"
    refine or_dup (fun H2 => Drs H2 D ∧ n < 6) (fun H2 hB => ?_) (fun e => ⟨hd, by have := of_decide_eq_true e; omega⟩) (fun body e => ?_)
    · obtain ⟨hd, hn6⟩ := hB
      walk_at "rd"
      refine ⟨fun σ' H3 => ∃ (y3 y4 y5 y6 y7 y8 y9 y10 y11 y12 y13 : Option V), σ' = [some (.ref a), some (.ref D), some (.int ((n + 1 : Nat) : Int)), y3, y4, y5, y6, y7, y8, y9, y10, y11, y12, y13] ∧ Drs H3 D,
              fun σ' H3 ⟨y3, y4, y5, y6, y7, y8, y9, y10, y11, y12, y13, h1, h2⟩ => ⟨6 - (n + 1), by omega, n + 1, y3, y4, y5, y6, y7, y8, y9, y10, y11, y12, y13, rfl, h1, by omega, h2⟩, ?_⟩
      walk_at "rd"
      refine ⟨D, rfl, hd, fun H3 v u k3 hd3 hw W => ?_⟩
      walk_at "rd"
      refine ⟨D, rfl, hd3, fun H4 v' u' k4 hd4 hw' W' => ?_⟩
      obtain ⟨zs, eD3, _⟩ := id hd3
      have hw4 := hw.keep k4 eD3
      obtain ⟨a1, b1, tv1, rfl, qa, qb, pt⟩ := id hw4
      have l40 := W.few
      have ls : ∀ l : List Nat, (⟨l.toArray⟩ : Str).length = l.length := fun l => by show l.toArray.size = _; simp
      walk_at "rd"
      refine d_ixT qa rfl ?_
      walk_at "rd"
      refine ⟨⟨u.1.toArray⟩, rfl, by show u.1.toArray.size ≤ 1000; simp; omega, fun p fp => ?_⟩
      have s5 := same_new (o := TxtO P w p (uniqT (signsT ⟨u.1.toArray⟩))) fp
      have ep := upd_same (H := H4) (a := p) (o := TxtO P w p (uniqT (signsT ⟨u.1.toArray⟩)))
      generalize upd H4 p _ = H5 at s5 ep ⊢
      walk_at "rd"
      have lu := uniqT_few (signsT ⟨u.1.toArray⟩)
      rw [signs_sg, List.length_map] at lu
      refine ⟨p, _, rfl, ep, by rw [signs_sg]; omega, fun ys L pm so fL => ?_⟩
      obtain ⟨ks, rfl, ndk, hk⟩ := keys_of pm
      have s6 := Same.trans s5 (same_new (o := .lst ((ks.map sg).map V.str)) fL)
      have eL := upd_same (H := H5) (a := L) (o := .lst ((ks.map sg).map V.str))
      generalize upd H5 L _ = H6 at s6 eL ⊢
      refine d_iLe (SqL.of eL) ?_
      refine for_list (K := K) (a := L) (xs := (ks.map sg).map V.str) (fun i σ H' => ∃ y6 y7 y8, σ = [some (.ref a), some (.ref D), some (.int (n : Nat)), some (.ref a1), some v', some (.int (sumN (ks.take i) (layS u u') : Nat)), y6, y7, y8, y9, y10, y11, y12, y13] ∧ Same H6 H')
        ⟨_, _, _, rfl, Same.refl _⟩ (fun i σ H' _ hP => ?_) (fun i x σ H7 hi hP => ?_) (fun σ H7 hP => ?_)
      · obtain ⟨_, _, _, _, sm⟩ := hP
        exact SqL.of (sm _ _ eL)
      · obtain ⟨z6, z7, z8, rfl, sm⟩ := hP
        rw [List.map_map, List.getElem?_map] at hi
        obtain ⟨c, hc, rfl⟩ := Option.map_eq_some_iff.mp hi
        have s47 := Same.trans s6 sm
        walk_at "rd"
        refine d_iZip ?_
        walk_at "rd"
        refine ⟨.ref a1, u, c, rfl, hw4.same s47, W, fun H8 p8 n8 s8 f8 e8 m8 r8 => ?_⟩
        walk_at "rd"
        refine ⟨v', u', c, rfl, hw'.same (Same.trans s47 s8), W', fun H9 p9 n9 s9 f9 e9 m9 r9 => ?_⟩
        have e89 := s9 _ _ e8
        refine ⟨p8, p9, _, _, rfl, SqL.of e89, SqL.of e9, ?_⟩
        refine for_it (walk_zip (K := K) (a := p8) (b := p9) (xs := natsV n8) (ys := natsV n9) rfl) (fun j σ H5 => ∃ y7 y8, σ = [some (.ref a), some (.ref D), some (.int (n : Nat)), some (.ref a1), some v', some (.int (sumN (ks.take i) (layS u u') + sumN ((n8.zip n9).take j) (fun p => min p.1 p.2) : Nat)), some (.str (sg c)), y7, y8, y9, y10, y11, y12, y13] ∧ Same H9 H5)
          ⟨_, _, rfl, Same.refl _⟩ (fun j σ H5 hj hP => ?_) (fun j x σ H5 H5' hj hP hy => ?_) (fun σ H5 hP => ?_)
        · obtain ⟨_, _, _, s5⟩ := hP
          exact ⟨SqL.of (s5 _ _ e89), SqL.of (s5 _ _ e9)⟩
        · obtain ⟨y6, y7, rfl, s5⟩ := hP
          obtain ⟨T', x', y', rfl, fT, rfl, ex, ey⟩ := hy
          obtain ⟨g, g', rfl, rfl, hz⟩ := zip_at ex ey
          refine d_gtupm upd_same rfl ?_
          walk_at "rd"
          refine ⟨_, _, rfl, ?_⟩
          rw [min_nat]
          walk_at "rd"
          have ez : sumN (ks.take i) (layS u u') + sumN ((n8.zip n9).take j) (fun p => min p.1 p.2) + min g g' = sumN (ks.take i) (layS u u') + sumN ((n8.zip n9).take (j + 1)) (fun p => min p.1 p.2) := by
            rw [take_snoc hz, sumN_app, sumN_cons, sumN_nil]
            omega
          exact ⟨some (.int (g : Nat)), some (.int (g' : Nat)), by rw [← ez]; rfl, same_upd s5 (Same.free s5 fT)⟩
        · obtain ⟨y6, y7, rfl, s5⟩ := hP
          have lz : min (natsV n8).length (natsV n9).length = (n8.zip n9).length := by unfold natsV; rw [List.length_zip, List.length_map, List.length_map]
          rw [lz, List.take_length]
          have ez : sumN (ks.take i) (layS u u') + sumN (n8.zip n9) (fun p => min p.1 p.2) = sumN (ks.take (i + 1)) (layS u u') := by
            rw [take_snoc hc, sumN_app, sumN_cons, sumN_nil, ← layS_of W m8 r8 m9 r9]
            rfl
          rw [ez]
          exact ⟨_, _, _, rfl, Same.trans sm (Same.trans s8 (Same.trans s9 s5))⟩
      · obtain ⟨z6, z7, z8, rfl, sm⟩ := hP
        rw [List.length_map, List.length_map, List.take_length, lay_total W ndk hk]
        have s47 := Same.trans s6 sm
        have hw7 := hw4.same s47
        have hw7' := hw'.same s47
        have hd7 := hd4.same s47
        walk_at "rd"
        refine ⟨.ref a1, v', u, u', rfl, hw7, W, hw7', W', fun H8 s8 => ?_⟩
        walk_at "rd"
        refine ⟨_, rfl, fun H9 s9 => ?_⟩
        refine ⟨true, rfl, ?_⟩
        walk_at "rd"
        rw [decide_eq_true (show ((degB u u' : Nat) : Int) = ((degS (kdL u) (kdL u') : Nat) : Int) / 2 from rfl)]
        walk_at "rd"
        have s79 := Same.trans s8 s9
        refine ⟨.ref a1, u, rfl, hw7.same s79, W, fun Ha D1 kvs1 ks1 sa fa ea k1 => ?_⟩
        walk_at "rd"
        have s7a := Same.trans s79 sa
        refine ⟨v', u', rfl, hw7'.same s7a, W', fun Hb D2 kvs2 ks2 sb fb eb k2 => ?_⟩
        have s7b := Same.trans s7a sb
        have ea1 := sb _ _ ea
        walk_at "rd"
        refine ⟨sz (by show 2 ≤ 100000; decide), fun p fp2 => ?_⟩
        have sc := same_new (o := .tup [V.ref D1, V.ref D2]) fp2
        refine d_gtupm upd_same rfl ?_
        have ea2 := sc _ _ ea1
        have eb2 := sc _ _ eb
        have s7c := Same.trans s7b sc
        generalize upd Hb p _ = Hc at sc ea2 eb2 s7c ⊢
        walk_at "rd"
        refine ⟨D1, _, ea2, trivial, fun od => ?_⟩
        have n12 : D2 ≠ D1 := (ne_of_none ea fb).symm
        have exF := upd_same (H := Hc) (a := D1) (o := .frz od (.dK kvs1))
        have ebF : (upd Hc D1 (.frz od (.dK kvs1))) D2 = some (.dK kvs2) := by rw [upd_ne n12]; exact eb2
        have smF : ∀ b o, b ≠ D1 → Hc b = some o → (upd Hc D1 (.frz od (.dK kvs1))) b = some o := fun b o n e => by rw [upd_ne n]; exact e
        generalize upd Hc D1 (.frz od (.dK kvs1)) = HF at exF ebF smF ⊢
        walk_at "rd"
        refine d_iK ?_
        walk_at "rd"
        refine ⟨D1, od, rfl, .inl ⟨kvs1, exF, ?_⟩⟩
        intro E1 fE
        have nE1 : E1 ≠ D1 := (ne_of_none exF fE).symm
        have l1 := k1.len
        have few1 := k1.few
        have ltr : (tris u).length ≤ 1600 := by unfold tris; rw [List.length_map]; exact W.most
        refine lc_it (walk_keys (d := D1) (o := od) (kvs := kvs1)) (fun i Hq => Hq E1 = some (.lst (((ks1.take i).map fun x => min (cntD x (tris u)) (cntD x (tris u'))).map fun n : Nat => V.int (n : Nat))) ∧ Same HF Hq) ⟨upd_same, same_new fE⟩ (fun i Hq hi hP => ?_) (fun i x Hq' Hq hi hP hy => ?_) (fun Hq hP => ?_)
        · exact hP.2 _ _ exF
        · obtain ⟨eE, smq⟩ := hP
          obtain ⟨rfl, k, z, hkv, rfl⟩ := hy
          have hk1 : ∃ x, ks1[i]? = some x ∧ k = kS3 x := by
            have m : (kvs1.map (·.1))[i]? = some k := by rw [List.getElem?_map, hkv]; rfl
            rw [k1.keys, List.getElem?_map] at m
            obtain ⟨x, hx, e⟩ := Option.map_eq_some_iff.mp m
            exact ⟨x, hx, e.symm⟩
          obtain ⟨x, hx, rfl⟩ := hk1
          have hxm := (k1.own x).mp (List.mem_of_getElem? hx)
          have c1 : valV kvs1 (kS3 x) = some (.int (cntD x (tris u) : Nat)) := k1.cnt.there hxm
          have c2 : (valV kvs2 (kS3 x)).getD (.int 0) = .int (cntD x (tris u') : Nat) := k2.cnt x
          walk_at "rd"
          refine ⟨D1, .int (cntD x (tris u) : Nat), rfl, .inl ⟨kvs1, kS3 x, .inr ⟨od, smq _ _ exF⟩, rfl, c1.symm⟩, ?_⟩
          walk_at "rd"
          refine ⟨D2, rfl, .inl ⟨_, .inl (smq _ _ ebF)⟩, ?_⟩
          walk_at "rd"
          refine ⟨valV kvs2 (kS3 x), .inl ⟨kvs2, kS3 x, .inl (smq _ _ ebF), rfl, rfl⟩, ?_⟩
          rw [c2]
          walk_at "rd"
          refine ⟨_, _, rfl, ?_⟩
          rw [min_nat]
          have lj := List.length_take_le i ks1
          refine ⟨_, eE, szl (by rw [List.length_map, List.length_map]; omega), ?_, same_upd smq fE⟩
          rw [upd_same, take_snoc hx, List.map_append, List.map_append]
          rfl
        · obtain ⟨eE, smq⟩ := hP
          rw [l1, List.take_length] at eE
          refine ⟨smq _ _ exF, ?_⟩
          have sG : Same Hc (upd Hq D1 (.dK kvs1)) := fun b o e => by
            by_cases n : b = D1
            · subst n
              rw [ea2] at e
              cases e
              exact upd_same
            · rw [upd_ne n]; exact smq _ _ (smF _ _ n e)
          have eEG : (upd Hq D1 (.dK kvs1)) E1 = some (.lst ((ks1.map fun x => min (cntD x (tris u)) (cntD x (tris u'))).map fun n : Nat => V.int (n : Nat))) := by rw [upd_ne nE1]; exact eE
          generalize upd Hq D1 (.dK kvs1) = HG at sG eEG ⊢
          have s7G := Same.trans s7c sG
          walk_at "rd"
          refine ⟨E1, (ks1.map fun x => min (cntD x (tris u)) (cntD x (tris u'))).map fun n : Nat => (n : Int), rfl, SqL.of (by rw [eEG, List.map_map (g := V.int)]; rfl), ?_⟩
          have e3 : sumN ks1 (fun x => min (cntD x (tris u)) (cntD x (tris u'))) = csum (tris u) (tris u') := (csum_counts k1.nd fun x hx => (k1.own x).mpr hx).symm
          rw [sum_nats, e3]
          walk_at "rd"
          refine ⟨_, _, rfl, ?_⟩
          rw [show ((degS (kdL u) (kdL u') : Nat) : Int) / 2 = ((degB u u' : Nat) : Int) from rfl, min_nat]
          walk_at "rd"
          refine ⟨.ref a1, v', u, u', rfl, hw7.same s7G, W, hw7'.same s7G, W', fun Hx sx => ?_⟩
          walk_at "rd"
          refine ⟨_, rfl, fun Hy sy => ?_⟩
          refine ⟨true, rfl, ?_⟩
          walk_at "rd"
          rw [decide_eq_true (show ((min (csum (tris u) (tris u')) (degB u u') : Nat) : Int) = ((min (degB u u') (csum (tris u) (tris u')) : Nat) : Int) by rw [Nat.min_comm])]
          walk_at "rd"
          exact ⟨_, _, _, _, _, _, _, _, _, _, _, rfl, hd7.same (Same.trans s7G (Same.trans sx sy))⟩
    · walk_at "rd"
      obtain ⟨zs, eD, lz⟩ := id hd
      refine ⟨sz (by decide), fun p fp => ?_⟩
      have s1 := same_new (o := .lst []) fp
      refine ⟨_, _, .lst (SqL.of (s1 _ _ eD)) (dpa_ints zs), .lst (SqL.of upd_same) .nil, shaped_ints zs, by decide, ?_⟩
      generalize PyData.eqv _ _ = b
      walk_at "rd"
      cases b with
      | true =>
        walk_at "rd"
        exact q _
      | false =>
        walk_at "rd"
        by_cases e2 : n < 6
        · rw [decide_eq_true (by omega : ((n : Nat) : Int) < 6)]
          exact body _ ⟨hd.same s1, e2⟩
        · rw [decide_eq_false (by omega : ¬ ((n : Nat) : Int) < 6)]
          walk_at "rd"
          exact q _

end
theorem all_mk {l : PySem.W.OpenLaw} {w : World} {K : PySem.W.Frag} {h : Heap} {mg : Str → Option Value} {fa f_1 f_2 f_4 f_6 f_7 f_8 f_9 f_10 f_12 f_13 f_14 f_15 f_16 f_17 f_18 : Addr} (X : K.In h) (G : h.Ns mainGlobals mg) (hfa : mg "law" = some (.ref fa))
    {od1 an1 od2 an2 od4 an4 od6 an6 od7 an7 od8 an8 od9 an9 od10 an10 od12 an12 od13 an13 od14 an14 od15 an15 od16 an16 od17 an17 od18 an18 : Option Addr} {sl1 sl2 sl4 sl6 sl7 sl8 sl9 sl10 sl12 sl13 sl14 sl15 sl16 sl17 sl18 : Array (Option Value)} {oc1 kV1 dc1 pm1 ct1 cd1 oc2 kV2 dc2 pm2 ct2 cd2 oc4 kV4 dc4 pm4 ct4 cd4 oc6 kV6 dc6 pm6 ct6 cd6 oc7 kV7 dc7 pm7 ct7 cd7 oc8 kV8 dc8 pm8 ct8 cd8 oc9 kV9 dc9 pm9 ct9 cd9 oc10 kV10 dc10 pm10 ct10 cd10 oc12 kV12 dc12 pm12 ct12 cd12 oc13 kV13 dc13 pm13 ct13 cd13 oc14 kV14 dc14 pm14 ct14 cd14 oc15 kV15 dc15 pm15 ct15 cd15 oc16 kV16 dc16 pm16 ct16 cd16 oc17 kV17 dc17 pm17 ct17 cd17 oc18 kV18 dc18 pm18 ct18 cd18 : Value}
    (a1 : PySem.W.nsIn K mainGlobals "common_count" = some (some (.ref f_1))) (l1 : K.lookup f_1 = some ⟨oc1, od1, .func (PySem.W.fnOf "common_count" "common_count" (defArgs s_common_count) (defBody s_common_count) (defScope s_common_count) .none kV1 dc1 pm1 an1 cd1 ct1), sl1⟩) (c1 : PySem.W.codeIn K cd1 "common_count" = true) (k1 : PySem.W.keepIn K (.ref f_1) = true)
    (a2 : PySem.W.nsIn K mainGlobals "three_letters" = some (some (.ref f_2))) (l2 : K.lookup f_2 = some ⟨oc2, od2, .func (PySem.W.fnOf "three_letters" "three_letters" (defArgs s_three_letters) (defBody s_three_letters) (defScope s_three_letters) .none kV2 dc2 pm2 an2 cd2 ct2), sl2⟩) (c2 : PySem.W.codeIn K cd2 "three_letters" = true) (k2 : PySem.W.keepIn K (.ref f_2) = true)
    (a4 : PySem.W.nsIn K mainGlobals "all_neighbours" = some (some (.ref f_4))) (l4 : K.lookup f_4 = some ⟨oc4, od4, .func (PySem.W.fnOf "all_neighbours" "all_neighbours" (defArgs s_all_neighbours) (defBody s_all_neighbours) (defScope s_all_neighbours) .none kV4 dc4 pm4 an4 cd4 ct4), sl4⟩) (c4 : PySem.W.codeIn K cd4 "all_neighbours" = true) (k4 : PySem.W.keepIn K (.ref f_4) = true)
    (a6 : PySem.W.nsIn K mainGlobals "by_tie_kinds" = some (some (.ref f_6))) (l6 : K.lookup f_6 = some ⟨oc6, od6, .func (PySem.W.fnOf "by_tie_kinds" "by_tie_kinds" (defArgs s_by_tie_kinds) (defBody s_by_tie_kinds) (defScope s_by_tie_kinds) .none kV6 dc6 pm6 an6 cd6 ct6), sl6⟩) (c6 : PySem.W.codeIn K cd6 "by_tie_kinds" = true) (k6 : PySem.W.keepIn K (.ref f_6) = true)
    (a7 : PySem.W.nsIn K mainGlobals "letters_of_ties" = some (some (.ref f_7))) (l7 : K.lookup f_7 = some ⟨oc7, od7, .func (PySem.W.fnOf "letters_of_ties" "letters_of_ties" (defArgs s_letters_of_ties) (defBody s_letters_of_ties) (defScope s_letters_of_ties) .none kV7 dc7 pm7 an7 cd7 ct7), sl7⟩) (c7 : PySem.W.codeIn K cd7 "letters_of_ties" = true) (k7 : PySem.W.keepIn K (.ref f_7) = true)
    (a8 : PySem.W.nsIn K mainGlobals "by_degrees" = some (some (.ref f_8))) (l8 : K.lookup f_8 = some ⟨oc8, od8, .func (PySem.W.fnOf "by_degrees" "by_degrees" (defArgs s_by_degrees) (defBody s_by_degrees) (defScope s_by_degrees) .none kV8 dc8 pm8 an8 cd8 ct8), sl8⟩) (c8 : PySem.W.codeIn K cd8 "by_degrees" = true) (k8 : PySem.W.keepIn K (.ref f_8) = true)
    (a9 : PySem.W.nsIn K mainGlobals "degrees_by_kind" = some (some (.ref f_9))) (l9 : K.lookup f_9 = some ⟨oc9, od9, .func (PySem.W.fnOf "degrees_by_kind" "degrees_by_kind" (defArgs s_degrees_by_kind) (defBody s_degrees_by_kind) (defScope s_degrees_by_kind) .none kV9 dc9 pm9 an9 cd9 ct9), sl9⟩) (c9 : PySem.W.codeIn K cd9 "degrees_by_kind" = true) (k9 : PySem.W.keepIn K (.ref f_9) = true)
    (a10 : PySem.W.nsIn K mainGlobals "ties_bound" = some (some (.ref f_10))) (l10 : K.lookup f_10 = some ⟨oc10, od10, .func (PySem.W.fnOf "ties_bound" "ties_bound" (defArgs s_ties_bound) (defBody s_ties_bound) (defScope s_ties_bound) .none kV10 dc10 pm10 an10 cd10 ct10), sl10⟩) (c10 : PySem.W.codeIn K cd10 "ties_bound" = true) (k10 : PySem.W.keepIn K (.ref f_10) = true)
    (a12 : PySem.W.nsIn K mainGlobals "_law_draws" = some (some (.ref f_12))) (l12 : K.lookup f_12 = some ⟨oc12, od12, .func (PySem.W.fnOf "_law_draws" "_law_draws" (defArgs s_draws) (defBody s_draws) (defScope s_draws) .none kV12 dc12 pm12 an12 cd12 ct12), sl12⟩) (c12 : PySem.W.codeIn K cd12 "_law_draws" = true) (k12 : PySem.W.keepIn K (.ref f_12) = true)
    (a13 : PySem.W.nsIn K mainGlobals "_law_take" = some (some (.ref f_13))) (l13 : K.lookup f_13 = some ⟨oc13, od13, .func (PySem.W.fnOf "_law_take" "_law_take" (defArgs s_take) (defBody s_take) (defScope s_take) .none kV13 dc13 pm13 an13 cd13 ct13), sl13⟩) (c13 : PySem.W.codeIn K cd13 "_law_take" = true) (k13 : PySem.W.keepIn K (.ref f_13) = true)
    (a14 : PySem.W.nsIn K mainGlobals "_law_great_web" = some (some (.ref f_14))) (l14 : K.lookup f_14 = some ⟨oc14, od14, .func (PySem.W.fnOf "_law_great_web" "_law_great_web" (defArgs s_great_web) (defBody s_great_web) (defScope s_great_web) .none kV14 dc14 pm14 an14 cd14 ct14), sl14⟩) (c14 : PySem.W.codeIn K cd14 "_law_great_web" = true) (k14 : PySem.W.keepIn K (.ref f_14) = true)
    (a15 : PySem.W.nsIn K mainGlobals "_law_whole" = some (some (.ref f_15))) (l15 : K.lookup f_15 = some ⟨oc15, od15, .func (PySem.W.fnOf "_law_whole" "_law_whole" (defArgs s_whole) (defBody s_whole) (defScope s_whole) .none kV15 dc15 pm15 an15 cd15 ct15), sl15⟩) (c15 : PySem.W.codeIn K cd15 "_law_whole" = true) (k15 : PySem.W.keepIn K (.ref f_15) = true)
    (a16 : PySem.W.nsIn K mainGlobals "_law_degrees" = some (some (.ref f_16))) (l16 : K.lookup f_16 = some ⟨oc16, od16, .func (PySem.W.fnOf "_law_degrees" "_law_degrees" (defArgs s_degrees) (defBody s_degrees) (defScope s_degrees) .none kV16 dc16 pm16 an16 cd16 ct16), sl16⟩) (c16 : PySem.W.codeIn K cd16 "_law_degrees" = true) (k16 : PySem.W.keepIn K (.ref f_16) = true)
    (a17 : PySem.W.nsIn K mainGlobals "_law_threes" = some (some (.ref f_17))) (l17 : K.lookup f_17 = some ⟨oc17, od17, .func (PySem.W.fnOf "_law_threes" "_law_threes" (defArgs s_threes) (defBody s_threes) (defScope s_threes) .none kV17 dc17 pm17 an17 cd17 ct17), sl17⟩) (c17 : PySem.W.codeIn K cd17 "_law_threes" = true) (k17 : PySem.W.keepIn K (.ref f_17) = true)
    (a18 : PySem.W.nsIn K mainGlobals "law" = some (some (.ref f_18))) (l18 : K.lookup f_18 = some ⟨oc18, od18, .func (PySem.W.fnOf "law" "law" (defArgs s_law) (defBody s_law) (defScope s_law) .none kV18 dc18 pm18 an18 cd18 ct18), sl18⟩) (c18 : PySem.W.codeIn K cd18 "law" = true) (k18 : PySem.W.keepIn K (.ref f_18) = true)
    (z0 : PySem.W.nsIn K mainGlobals "abs" = some none)
    (z1 : PySem.W.nsIn K mainGlobals "bool" = some none)
    (z2 : PySem.W.nsIn K mainGlobals "int" = some none)
    (z3 : PySem.W.nsIn K mainGlobals "isinstance" = some none)
    (z4 : PySem.W.nsIn K mainGlobals "len" = some none)
    (z5 : PySem.W.nsIn K mainGlobals "max" = some none)
    (z6 : PySem.W.nsIn K mainGlobals "min" = some none)
    (z7 : PySem.W.nsIn K mainGlobals "range" = some none)
    (z8 : PySem.W.nsIn K mainGlobals "set" = some none)
    (z9 : PySem.W.nsIn K mainGlobals "sorted" = some none)
    (z10 : PySem.W.nsIn K mainGlobals "sum" = some none)
    (z11 : PySem.W.nsIn K mainGlobals "tuple" = some none)
    (z12 : PySem.W.nsIn K mainGlobals "zip" = some none) :
    ∃ fd : FuncData, (∀ (s : Shared) (v : Value), BindsTo s fd ⟨[v], []⟩ [("script", v)]) ∧ ∀ base : Heap, K.In base → base.Ns mainGlobals mg → FnOk l.prog w K mg base CX0 5 fa fd ["script"] (spLaw K) := by
  have e := hfa.symm.trans (PySem.W.mg_of X G a18)
  cases e
  have F1 := fun_mk (st := s_common_count) l1 c1 k1
  have b1 := F1.binds (ps := ["these", "those"]) fun _ _ _ _ _ _ us hl => match us, hl with | [_, _], _ => rfl
  have F2 := fun_mk (st := s_three_letters) l2 c2 k2
  have b2 := F2.binds (ps := ["kinds", "tie"]) fun _ _ _ _ _ _ us hl => match us, hl with | [_, _], _ => rfl
  have F4 := fun_mk (st := s_all_neighbours) l4 c4 k4
  have b4 := F4.binds (ps := ["web"]) fun _ _ _ _ _ _ us hl => match us, hl with | [_], _ => rfl
  have F6 := fun_mk (st := s_by_tie_kinds) l6 c6 k6
  have b6 := F6.binds (ps := ["one", "other"]) fun _ _ _ _ _ _ us hl => match us, hl with | [_, _], _ => rfl
  have F7 := fun_mk (st := s_letters_of_ties) l7 c7 k7
  have b7 := F7.binds (ps := ["web"]) fun _ _ _ _ _ _ us hl => match us, hl with | [_], _ => rfl
  have F8 := fun_mk (st := s_by_degrees) l8 c8 k8
  have b8 := F8.binds (ps := ["one", "other"]) fun _ _ _ _ _ _ us hl => match us, hl with | [_, _], _ => rfl
  have F9 := fun_mk (st := s_degrees_by_kind) l9 c9 k9
  have b9 := F9.binds (ps := ["web"]) fun _ _ _ _ _ _ us hl => match us, hl with | [_], _ => rfl
  have F10 := fun_mk (st := s_ties_bound) l10 c10 k10
  have b10 := F10.binds (ps := ["one", "other"]) fun _ _ _ _ _ _ us hl => match us, hl with | [_, _], _ => rfl
  have F12 := fun_mk (st := s_draws) l12 c12 k12
  have b12 := F12.binds (ps := ["script"]) fun _ _ _ _ _ _ us hl => match us, hl with | [_], _ => rfl
  have F13 := fun_mk (st := s_take) l13 c13 k13
  have b13 := F13.binds (ps := ["draws", "many"]) fun _ _ _ _ _ _ us hl => match us, hl with | [_, _], _ => rfl
  have F14 := fun_mk (st := s_great_web) l14 c14 k14
  have b14 := F14.binds (ps := ["draws"]) fun _ _ _ _ _ _ us hl => match us, hl with | [_], _ => rfl
  have F15 := fun_mk (st := s_whole) l15 c15 k15
  have b15 := F15.binds (ps := ["thing"]) fun _ _ _ _ _ _ us hl => match us, hl with | [_], _ => rfl
  have F16 := fun_mk (st := s_degrees) l16 c16 k16
  have b16 := F16.binds (ps := ["web", "kind"]) fun _ _ _ _ _ _ us hl => match us, hl with | [_, _], _ => rfl
  have F17 := fun_mk (st := s_threes) l17 c17 k17
  have b17 := F17.binds (ps := ["web"]) fun _ _ _ _ _ _ us hl => match us, hl with | [_], _ => rfl
  have F18 := fun_mk (st := s_law) l18 c18 k18
  have b18 := F18.binds (ps := ["script"]) fun _ _ _ _ _ _ us hl => match us, hl with | [_], _ => rfl
  let T : Tx K mg := ⟨⟨_, _, F1, b1, PySem.W.mg_of X G a1⟩, ⟨_, _, F2, b2, PySem.W.mg_of X G a2⟩, ⟨_, _, F4, b4, PySem.W.mg_of X G a4⟩, ⟨_, _, F6, b6, PySem.W.mg_of X G a6⟩, ⟨_, _, F7, b7, PySem.W.mg_of X G a7⟩, ⟨_, _, F8, b8, PySem.W.mg_of X G a8⟩, ⟨_, _, F9, b9, PySem.W.mg_of X G a9⟩, ⟨_, _, F10, b10, PySem.W.mg_of X G a10⟩, ⟨_, _, F12, b12, PySem.W.mg_of X G a12⟩, ⟨_, _, F13, b13, PySem.W.mg_of X G a13⟩, ⟨_, _, F14, b14, PySem.W.mg_of X G a14⟩, ⟨_, _, F15, b15, PySem.W.mg_of X G a15⟩, ⟨_, _, F16, b16, PySem.W.mg_of X G a16⟩, ⟨_, _, F17, b17, PySem.W.mg_of X G a17⟩, ⟨_, _, F18, b18, PySem.W.mg_of X G a18⟩, PySem.W.mg_none_of X G z0, PySem.W.mg_none_of X G z1, PySem.W.mg_none_of X G z2, PySem.W.mg_none_of X G z3, PySem.W.mg_none_of X G z4, PySem.W.mg_none_of X G z5, PySem.W.mg_none_of X G z6, PySem.W.mg_none_of X G z7, PySem.W.mg_none_of X G z8, PySem.W.mg_none_of X G z9, PySem.W.mg_none_of X G z10, PySem.W.mg_none_of X G z11, PySem.W.mg_none_of X G z12⟩
  exact ⟨T.law.fd, fun s v => .of_eq rfl, fun base _ _ => ok_law T⟩
end Cw
open PySem PySem.W PyProof.Rows
set_option maxHeartbeats 0 in
theorem PySem.Challenge.cw_commonweb_k40_bounds_by_degrees_holds : PySem.Challenge.rw_commonweb_k40_bounds_by_degrees.Holds := by
  w_on; o_law; k_head; (case hw => w_witness2)
  k_fill
  refine L2.walk_of (l := PySem.Challenge.rw_commonweb_k40_bounds_by_degrees) (n := 63) (k := 5) (x := "script") (CX := fun _ => L2.CX0) (sp := fun w => Cw.spLaw _) rfl (by decide) rfl ⟨rfl, by decide, by decide⟩ (fun w h Y => PySem.W.kIn_of Y) ?F (fun _ _ a ns hl _ hS => ⟨a, ns, rfl, hS, hl, fun _ => rfl⟩) (fun _ _ _ _ _ h => h)
  case F =>
    intro w mg fa h KX G hmg
    refine' Cw.all_mk KX G hmg ?a1 ?l1 ?c1 ?k1 ?a2 ?l2 ?c2 ?k2 ?a4 ?l4 ?c4 ?k4 ?a6 ?l6 ?c6 ?k6 ?a7 ?l7 ?c7 ?k7 ?a8 ?l8 ?c8 ?k8 ?a9 ?l9 ?c9 ?k9 ?a10 ?l10 ?c10 ?k10 ?a12 ?l12 ?c12 ?k12 ?a13 ?l13 ?c13 ?k13 ?a14 ?l14 ?c14 ?k14 ?a15 ?l15 ?c15 ?k15 ?a16 ?l16 ?c16 ?k16 ?a17 ?l17 ?c17 ?k17 ?a18 ?l18 ?c18 ?k18 ?z0 ?z1 ?z2 ?z3 ?z4 ?z5 ?z6 ?z7 ?z8 ?z9 ?z10 ?z11 ?z12
    (case a1 => k_is); (case l1 => k_is); (case c1 => k_is); (case k1 => k_is); (case a2 => k_is); (case l2 => k_is); (case c2 => k_is); (case k2 => k_is); (case a4 => k_is); (case l4 => k_is); (case c4 => k_is); (case k4 => k_is); (case a6 => k_is); (case l6 => k_is); (case c6 => k_is); (case k6 => k_is); (case a7 => k_is); (case l7 => k_is); (case c7 => k_is); (case k7 => k_is); (case a8 => k_is); (case l8 => k_is); (case c8 => k_is); (case k8 => k_is); (case a9 => k_is); (case l9 => k_is); (case c9 => k_is); (case k9 => k_is); (case a10 => k_is); (case l10 => k_is); (case c10 => k_is); (case k10 => k_is); (case a12 => k_is); (case l12 => k_is); (case c12 => k_is); (case k12 => k_is); (case a13 => k_is); (case l13 => k_is); (case c13 => k_is); (case k13 => k_is); (case a14 => k_is); (case l14 => k_is); (case c14 => k_is); (case k14 => k_is); (case a15 => k_is); (case l15 => k_is); (case c15 => k_is); (case k15 => k_is); (case a16 => k_is); (case l16 => k_is); (case c16 => k_is); (case k16 => k_is); (case a17 => k_is); (case l17 => k_is); (case c17 => k_is); (case k17 => k_is); (case a18 => k_is); (case l18 => k_is); (case c18 => k_is); (case k18 => k_is); (case z0 => k_is); (case z1 => k_is); (case z2 => k_is); (case z3 => k_is); (case z4 => k_is); (case z5 => k_is); (case z6 => k_is); (case z7 => k_is); (case z8 => k_is); (case z9 => k_is); (case z10 => k_is); (case z11 => k_is); (case z12 => k_is)
