/-
  Several texts in one: Plain mathematics for layer 6: what is read may be. · The walk of the reference's Copy.
-/
import Derived.Test.YtpfoclpgcbjjoaaGreatDoorJ27
import Derived.Test.YtpfoclpgcbjjoaaGreatDoorJ01
import Derived.Test.YtpfoclpgcbjjoaaGreatDoorJ02
import Derived.Deep.RegionLaw
import Derived.Deep.DeepCutAuto
import Derived.Deep.CutBlock
import Derived.Maps.AppendAt
/- Plain mathematics for layer 6: what is read may be. -/
namespace Go.Proofs.YtpfoclpgcbjjoaaGreatDoor
open Go
open M

theorem deepL_bd {n : Nat} : ∀ {l : List Ty}, (∀ s ∈ l, deep s ≤ n) → deepL l ≤ n
  | [], _ => by simp [deepL]
  | t :: r, h => by
    have h1 := h t (by simp)
    have h2 := deepL_bd (l := r) (fun s hs => h s (by simp [hs]))
    unfold deepL; omega
theorem manyL_perm {l m : List Ty} (h : l.Perm m) : manyL l = manyL m := by
  induction h with
  | nil => rfl
  | cons x _ ih => simp only [manyL, ih]
  | swap x y l => simp only [manyL]; omega
  | trans _ _ ih1 ih2 => rw [ih1, ih2]

/-- Fields, or cases, that have been read. -/
structure Good (k : Int) (d : Nat) (P : List FdT) : Prop where
  len : P.length ≤ 20
  nm : ∀ p ∈ P, nmOk k p.1 = true
  ok : ∀ p ∈ P, allOk p.2 = true
  dp : ∀ p ∈ P, d + 1 + deep p.2 ≤ 33
  dup : (P.map (·.1)).Nodup
theorem name_nmOk {S : Toks} {k : Int} {i : Nat} (h : S.nameOk k i = true) : nmOk k (S.T i) = true := by
  unfold Toks.nameOk at h
  unfold nmOk
  by_cases e : k = 5
  · rw [if_pos e] at h ⊢
    unfold Toks.small at h
    simp only [Bool.and_eq_true] at h
    exact h.2
  · rw [if_neg e] at h ⊢
    unfold Toks.great at h
    simp only [Bool.and_eq_true] at h
    exact h.2
theorem Good.more {k : Int} {d : Nat} {P : List FdT} {x : FdT} (h : Good k d P) (hl : P.length < 20) (hn : nmOk k x.1 = true) (ho : allOk x.2 = true) (hd : d + 1 + deep x.2 ≤ 33) (ht : twice x.1 (insN P) = false) : Good k d (P ++ [x]) := by
  refine ⟨by simp; omega, fun p hp => ?_, fun p hp => ?_, fun p hp => ?_, ?_⟩
  · rcases List.mem_append.1 hp with hp | hp
    · exact h.nm p hp
    · rw [List.mem_singleton.1 hp]; exact hn
  · rcases List.mem_append.1 hp with hp | hp
    · exact h.ok p hp
    · rw [List.mem_singleton.1 hp]; exact ho
  · rcases List.mem_append.1 hp with hp | hp
    · exact h.dp p hp
    · rw [List.mem_singleton.1 hp]; exact hd
  · rw [twice_ins, List.any_eq_false] at ht
    rw [List.map_append, List.nodup_append]
    refine ⟨h.dup, by simp, fun a ha b hb e => ?_⟩
    obtain ⟨p, hp, rfl⟩ := List.mem_map.1 ha
    simp only [List.map_cons, List.map_nil, List.mem_singleton] at hb
    exact ht p hp (by rw [e, hb]; simp)

theorem ins_good {k : Int} {d : Nat} {P : List FdT} (hk : k = 5 ∨ k = 6) (h : Good k d P) (hne : P ≠ []) (hd : d ≤ 32) :
    allOk (.mk k ⟨#[]⟩ 0 ⟨#[]⟩ ⟨#[]⟩ (insN P) (insS P)) = true ∧ many (.mk k ⟨#[]⟩ 0 ⟨#[]⟩ ⟨#[]⟩ (insN P) (insS P)) = 1 + manyL (P.map (·.2)) ∧ d + deep (.mk k ⟨#[]⟩ 0 ⟨#[]⟩ ⟨#[]⟩ (insN P) (insS P)) ≤ 33 := by
  obtain ⟨h1, h2, h3, h4⟩ := ins_all P
  have eN : ((insN P).zip (insS P)).map (·.1) = insN P := List.map_fst_zip (by omega)
  have eS : ((insN P).zip (insS P)).map (·.2) = insS P := List.map_snd_zip (by omega)
  have pN : (insN P).Perm (P.map (·.1)) := by rw [← eN]; exact h3.map _
  have pS : (insS P).Perm (P.map (·.2)) := by rw [← eS]; exact h3.map _
  have hsub : ∀ s ∈ insS P, allOk s = true ∧ d + 1 + deep s ≤ 33 := fun s hs => by
    obtain ⟨p, hp, rfl⟩ := List.mem_map.1 (pS.subset hs)
    exact ⟨h.ok p hp, h.dp p hp⟩
  have hnm : ∀ s ∈ insN P, nmOk k s = true := fun s hs => by
    obtain ⟨p, hp, rfl⟩ := List.mem_map.1 (pN.subset hs)
    exact h.nm p hp
  have hdup : (insN P).Nodup := pN.nodup_iff.2 h.dup
  have hord : (insN P).Pairwise fun x y => Op.bytesLess y.toList x.toList = false := by
    rw [← eN, List.pairwise_map]
    exact h4
  have hpos : 0 < P.length := List.length_pos_iff.2 hne
  have hlen := h.len
  refine ⟨?_, by rw [many, manyL_perm pS], ?_⟩
  · rw [allOk_eq]
    simp only [Bool.and_eq_true]
    refine ⟨?_, (allOkL_mem _).2 fun s hs => (hsub s hs).1⟩
    unfold ownOk
    simp only [Bool.and_eq_true, decide_eq_true_eq, Ty.subs, Ty.kind, Ty.names]
    refine ⟨⟨by first | omega | exact decide_eq_true (by omega), (namesOk_iff _ _).2 fun i hi => ?_⟩, ?_⟩
    · have hmem : nameAt (insN P) i ∈ insN P := by rw [nameAt_get hi]; exact List.getElem_mem hi
      have hok := hnm _ hmem
      unfold badName
      simp only [Bool.or_eq_false_iff]
      refine ⟨⟨?_, ?_⟩, ?_⟩
      · unfold nmOk at hok
        rcases hk with rfl | rfl
        · rw [if_pos rfl] at hok; rw [hok]; rfl
        · rfl
      · unfold nmOk at hok
        rcases hk with rfl | rfl
        · rfl
        · rw [if_neg (by decide)] at hok; rw [hok]; rfl
      · rcases Nat.eq_zero_or_pos i with hz | hz
        · subst hz; rfl
        · rw [leS_eq]
          have hlt := (List.pairwise_iff_getElem.1 hord) (i - 1) i (by omega) hi (by omega)
          have hne := (List.pairwise_iff_getElem.1 hdup) (i - 1) i (by omega) hi (by omega)
          rw [nameAt_get hi, nameAt_get (show i - 1 < (insN P).length by omega)]
          cases hb : Op.bytesLess (insN P)[i - 1].toList (insN P)[i].toList with
          | true => simp
          | false =>
            have e := bl_tri _ _ hb hlt
            exact absurd (bytes_list.1 (by rw [← Lib.toList_data, ← Lib.toList_data]; exact e)) hne
    · unfold shapeOk
      rcases hk with rfl | rfl
      · simp [Ty.kind, Ty.subs, Ty.names, noMore, emptyB, empty_is, Ty.pkg, Ty.major, Ty.mod, Ty.name, h1, h2]
      · simp [Ty.kind, Ty.subs, Ty.names, noMore, emptyB, empty_is, Ty.pkg, Ty.major, Ty.mod, Ty.name, h1, h2, hpos]
  · have := deepL_bd (n := 32 - d) (l := insS P) (fun s hs => by have := (hsub s hs).2; omega)
    rw [deep]; omega
theorem func_good {d : Nat} {ss : List Ty} (h0 : 0 < ss.length) (h20 : ss.length ≤ 20) (hs : ∀ s ∈ ss, allOk s = true ∧ d + 1 + deep s ≤ 33) (hd : d ≤ 32) :
    allOk (.mk 7 ⟨#[]⟩ 0 ⟨#[]⟩ ⟨#[]⟩ [] ss) = true ∧ d + deep (.mk 7 ⟨#[]⟩ 0 ⟨#[]⟩ ⟨#[]⟩ [] ss) ≤ 33 := by
  refine ⟨?_, ?_⟩
  · rw [allOk_eq]
    simp only [Bool.and_eq_true]
    refine ⟨?_, (allOkL_mem _).2 fun s h => (hs s h).1⟩
    unfold ownOk shapeOk
    simp [Ty.kind, Ty.subs, Ty.names, noMore, emptyB, empty_is, Ty.pkg, Ty.major, Ty.mod, Ty.name, namesOk, h20, h0]
  · have := deepL_bd (n := 32 - d) (l := ss) (fun s h => by have := (hs s h).2; omega)
    rw [deep]; omega
theorem leaf_ok {k : Int} (h : k = 1 ∨ k = 2 ∨ k = 3 ∨ k = 5) : allOk (leafK k) = true := by
  rcases h with rfl | rfl | rfl | rfl <;> decide
theorem local_ok {d n : ByteArray} (hn : greatB n.data.toList = true) (hd : smallB d.data.toList = true ∨ d = ⟨#[]⟩) : allOk (localT d n) = true := by
  unfold localT
  rw [allOk_eq]
  unfold ownOk shapeOk
  rcases hd with hd | rfl
  · simp [Ty.kind, Ty.subs, Ty.names, emptyB, empty_is, Ty.pkg, Ty.major, Ty.mod, Ty.name, namesOk, allOkL, hn, hd]
  · simp [Ty.kind, Ty.subs, Ty.names, emptyB, empty_is, Ty.pkg, Ty.major, Ty.mod, Ty.name, namesOk, allOkL, hn]
theorem open_ok {p d n : ByteArray} {m : Int} (hp : smallB p.data.toList = true) (hd : smallB d.data.toList = true) (hn : greatB n.data.toList = true) (h1 : 1 ≤ m) (h2 : m ≤ 999999999) : allOk (.mk 9 p m d n [] []) = true := by
  rw [allOk_eq]
  unfold ownOk shapeOk
  simp [Ty.kind, Ty.subs, Ty.names, Ty.pkg, Ty.major, Ty.mod, Ty.name, namesOk, allOkL, hn, hd, hp, h1, h2]
theorem small_is {S : Toks} {i : Nat} (h : S.small i = true) : smallB (S.T i).data.toList = true := by
  unfold Toks.small at h; simp only [Bool.and_eq_true] at h; exact h.2
theorem great_is {S : Toks} {i : Nat} (h : S.great i = true) : greatB (S.T i).data.toList = true := by
  unfold Toks.great at h; simp only [Bool.and_eq_true] at h; exact h.2
theorem major_is {S : Toks} {i : Nat} (h : S.major i = true) : 1 ≤ digs (S.T i).data.toList 0 ∧ digs (S.T i).data.toList 0 ≤ 999999999 := by
  unfold Toks.major at h
  simp only [Bool.and_eq_true] at h
  have := num_yes h.2
  exact ⟨this.2.1, this.2.2.1⟩
theorem not_false {b : Bool} (h : ¬ b = false) : b = true := by simpa using h
theorem base_cases (l : List UInt8) : baseT l = 1 ∨ baseT l = 2 ∨ baseT l = 3 ∨ baseT l = 4 ∨ baseT l = 0 := by
  unfold baseT
  (repeat' split) <;> simp

/-- What reading a type comes to. -/
def TOk (d c : Nat) : Res Ty → Prop
  | .err _ _ => True
  | .ok t _ c' => allOk t = true ∧ c' = c + many t ∧ c' ≤ 500 ∧ d + deep t ≤ 33
def POk (k : Int) (d c : Nat) (P : List FdT) : Res Ty → Prop
  | .err _ _ => True
  | .ok t _ c' => ∃ P', t = .mk k ⟨#[]⟩ 0 ⟨#[]⟩ ⟨#[]⟩ (insN P') (insS P') ∧ P' ≠ [] ∧ Good k d P' ∧ c' + manyL (P.map (·.2)) = c + manyL (P'.map (·.2)) ∧ c' ≤ 500
def SOk (d c : Nat) (ss : List Ty) : Res Ty → Prop
  | .err _ _ => True
  | .ok t _ c' => ∃ ss', t = .mk 7 ⟨#[]⟩ 0 ⟨#[]⟩ ⟨#[]⟩ [] ss' ∧ 0 < ss'.length ∧ ss'.length ≤ 20 ∧ (∀ s ∈ ss', allOk s = true ∧ d + 1 + deep s ≤ 33) ∧ c' + manyL ss = c + manyL ss' ∧ c' ≤ 500
theorem ok_begins {S : Toks} {f d i c j c' : Nat} {t : Ty} (h : pT S f d i c = .ok t j c') : S.begins i = true := by
  cases f with
  | zero => unfold pT at h; cases h
  | succ f =>
    unfold pT at h
    by_cases hb : S.begins i = false
    · rw [if_pos hb] at h; cases h
    · exact not_false hb
theorem pOpen_ok {S : Toks} {d i c : Nat} (hd : d ≤ 32) (hc : c + 1 ≤ 500) : TOk d c (pOpen S i (c + 1)) := by
  unfold pOpen
  split
  · trivial
  rename_i h0
  split
  · trivial
  rename_i h1
  split
  · trivial
  rename_i h2
  split
  · trivial
  rename_i h3
  split
  · trivial
  · obtain ⟨m1, m2⟩ := major_is (not_false h1)
    exact ⟨open_ok (small_is (not_false h0)) (small_is (not_false h2)) (great_is (not_false h3)) m1 m2, by simp [many, manyL], hc, by simp [deep, deepL]; omega⟩
theorem pLocal_ok {S : Toks} {s : ByteArray} {d i c : Nat} (hs : smallB s.data.toList = true) (hd : d ≤ 32) (hc : c + 1 ≤ 500) : TOk d c (pLocal S s i (c + 1)) := by
  unfold pLocal
  split
  · trivial
  split
  · trivial
  · rename_i h1
    exact ⟨local_ok (great_is (not_false h1)) (.inl hs), by simp [localT, many, manyL], hc, by simp [localT, deep, deepL]; omega⟩
theorem begins_word {S : Toks} {i : Nat} (h : S.begins i = true) (hk : S.K i = 1) : smallB (S.T i).data.toList = true := by
  unfold Toks.begins Toks.small Toks.great at h
  rw [hk] at h
  simp at h
  exact h.2
theorem begins_great' {S : Toks} {i : Nat} (h : S.begins i = true) (hk : S.K i = 2) : greatB (S.T i).data.toList = true ∨ 0 < baseT (S.T i).data.toList := by
  unfold Toks.begins Toks.small Toks.great at h
  rw [hk] at h
  simp at h
  rcases h.2 with h | h
  · exact .inl h.2
  · exact .inr h

theorem res_all (S : Toks) : ∀ f, (∀ d i c, TOk d c (pT S f d i c)) ∧ (∀ k z d i c P, (k = 5 ∨ k = 6) → Good k d P → POk k d c P (pParts S k z f d i c (insN P) (insS P))) ∧
    (∀ d i c ss, ss.length ≤ 20 → (∀ s ∈ ss, allOk s = true ∧ d + 1 + deep s ≤ 33) → SOk d c ss (pSubs S f d i c ss)) ∧ (∀ d i c ss, ss.length ≤ 20 → (∀ s ∈ ss, allOk s = true ∧ d + 1 + deep s ≤ 33) → SOk d c ss (pEnd S f d i c ss)) := by
  intro f
  induction f with
  | zero =>
    refine ⟨fun d i c => ?_, fun k z d i c P _ _ => ?_, fun d i c ss _ _ => ?_, fun d i c ss _ _ => ?_⟩
    · unfold pT; trivial
    · unfold pParts; trivial
    · unfold pSubs; trivial
    · unfold pEnd; trivial
  | succ f ih =>
    obtain ⟨iT, iP, iS, iE⟩ := ih
    have hparts : ∀ (k : Int) (z : List UInt8) (d i c : Nat), (k = 5 ∨ k = 6) → d ≤ 32 → TOk d c (pParts S k z f d i (c + 1) [] []) := fun k z d i c hk hd => by
      have h1 := iP k z d i (c + 1) [] hk ⟨by simp, fun p hp => by simp at hp, fun p hp => by simp at hp, fun p hp => by simp at hp, by simp⟩
      have h2 : POk k d (c + 1) [] (pParts S k z f d i (c + 1) [] []) := h1
      cases e : pParts S k z f d i (c + 1) [] [] with
      | err b j => trivial
      | ok t j c' =>
        rw [e] at h2
        obtain ⟨P', rfl, hne, hg, hc, h500⟩ := h2
        obtain ⟨g1, g2, g3⟩ := ins_good hk hg hne hd
        simp [manyL] at hc
        exact ⟨g1, by rw [g2]; omega, h500, g3⟩
    have hfun : ∀ (r : Res Ty) (d c : Nat), SOk d (c + 1) [] r → d ≤ 32 → TOk d c r := fun r d c h2 hd => by
      cases r with
      | err b j => trivial
      | ok t j c' =>
        obtain ⟨ss', rfl, h0, h20, hs, hc, h500⟩ := h2
        obtain ⟨g1, g2⟩ := func_good h0 h20 hs hd
        simp [manyL] at hc
        exact ⟨g1, by rw [many]; omega, h500, g2⟩
    have one : ∀ {d c : Nat} {ss : List Ty} {s : Ty} {i j c' : Nat}, pT S f (d + 1) i c = .ok s j c' → ¬ (S.begins i = true ∧ 20 ≤ ss.length) → (∀ s ∈ ss, allOk s = true ∧ d + 1 + deep s ≤ 33) →
        c' = c + many s ∧ c' ≤ 500 ∧ (ss ++ [s]).length ≤ 20 ∧ ∀ x ∈ ss ++ [s], allOk x = true ∧ d + 1 + deep x ≤ 33 := fun {d c ss s i j c'} e hn hs => by
      have h1 := iT (d + 1) i c
      rw [e] at h1
      obtain ⟨a1, a2, a3, a4⟩ := h1
      have hb := ok_begins e
      have hlen : ss.length < 20 := by
        rcases Nat.lt_or_ge ss.length 20 with h | h
        · exact h
        · exact absurd ⟨hb, h⟩ hn
      refine ⟨a2, a3, by simp; omega, fun x hx => ?_⟩
      rcases List.mem_append.1 hx with hx | hx
      · exact hs x hx
      · rw [List.mem_singleton.1 hx]; exact ⟨a1, by omega⟩
    refine ⟨fun d i c => ?_, fun k z d i c P hk hG => ?_, fun d i c ss h20 hs => ?_, fun d i c ss h20 hs => ?_⟩
    · unfold pT
      split
      · trivial
      rename_i hb
      have hb := not_false hb
      split
      · trivial
      rename_i hdc
      have hd : d ≤ 32 := by omega
      have hc : c + 1 ≤ 500 := by omega
      split
      · rename_i hk
        exact pLocal_ok (begins_word hb hk) hd hc
      split
      · rename_i hk
        split
        · split
          · trivial
          · have h1 := iT (d + 1) (i + 2) (c + 1)
            cases e : pT S f (d + 1) (i + 2) (c + 1) with
            | err b j => trivial
            | ok s j c' =>
              rw [e] at h1
              obtain ⟨a1, a2, a3, a4⟩ := h1
              dsimp only
              split
              · trivial
              · refine ⟨?_, by simp only [many, manyL]; omega, a3, by simp only [deep, deepL]; omega⟩
                rw [allOk_eq]
                unfold ownOk shapeOk
                simp [Ty.kind, Ty.subs, Ty.names, noMore, emptyB, empty_is, Ty.pkg, Ty.major, Ty.mod, Ty.name, namesOk, allOkL, a1]
        · rename_i hb4
          split
          · rename_i hb0
            have := base_cases (S.T i).data.toList
            exact ⟨leaf_ok (by omega), by simp [leafK, many, manyL], hc, by simp [leafK, deep, deepL]; omega⟩
          · rename_i hb0
            have hg : greatB (S.T i).data.toList = true := by
              rcases begins_great' hb hk with h | h
              · exact h
              · exact absurd h hb0
            exact ⟨local_ok hg (.inr rfl), by simp [localT, many, manyL], hc, by simp [localT, deep, deepL]; omega⟩
      split
      · split
        · exact ⟨leaf_ok (by simp), by simp [leafK, many, manyL], hc, by simp [leafK, deep, deepL]; omega⟩
        · exact hparts 5 _ d (i + 1) c (.inl rfl) hd
      split
      · exact hparts 6 _ d (i + 1) c (.inr rfl) hd
      split
      · exact pOpen_ok hd hc
      split
      · exact hfun _ d c (iE d (i + 2) (c + 1) [] (by simp) (fun s hs => by simp at hs)) hd
      · exact hfun _ d c (iS d (i + 1) (c + 1) [] (by simp) (fun s hs => by simp at hs)) hd
    · unfold pParts
      split
      · trivial
      rename_i hn
      split
      · trivial
      rename_i hl
      split
      · trivial
      rename_i ht
      split
      · trivial
      have h1 := iT (d + 1) (i + 2) c
      cases e : pT S f (d + 1) (i + 2) c with
      | err b j => trivial
      | ok s j c' =>
        rw [e] at h1
        obtain ⟨a1, a2, a3, a4⟩ := h1
        rw [insN_len] at hl
        have hG' := hG.more (x := (S.T i, s)) (by omega) (name_nmOk (not_false hn)) a1 (by show d + 1 + deep s ≤ 33; omega) (by simpa using ht)
        have eM : manyL ((P ++ [(S.T i, s)]).map (·.2)) = manyL (P.map (·.2)) + many s := by rw [List.map_append, manyL_append]; simp [manyL]
        have e1 : putAt (posOf (S.T i) (insN P) (insN P).length) (S.T i) (insN P) = insN (P ++ [(S.T i, s)]) := (insN_snoc P (S.T i, s)).symm
        have e2 : putAt (posOf (S.T i) (insN P) (insN P).length) s (insS P) = insS (P ++ [(S.T i, s)]) := (insS_snoc P (S.T i, s)).symm
        dsimp only
        rw [e1, e2]
        split
        · exact ⟨P ++ [(S.T i, s)], rfl, by simp, hG', by omega, a3⟩
        split
        · trivial
        · have h2 := iP k z d (j + 1) c' (P ++ [(S.T i, s)]) hk hG'
          cases e3 : pParts S k z f d (j + 1) c' (insN (P ++ [(S.T i, s)])) (insS (P ++ [(S.T i, s)])) with
          | err b j => trivial
          | ok t j2 c2 =>
            rw [e3] at h2
            obtain ⟨P', r1, r2, r3, r4, r5⟩ := h2
            exact ⟨P', r1, r2, r3, by omega, r5⟩
    · unfold pSubs
      split
      · trivial
      rename_i hn
      cases e : pT S f (d + 1) i c with
      | err b j => trivial
      | ok s j c' =>
        obtain ⟨b1, b2, b3, b4⟩ := one e hn hs
        have eM : manyL (ss ++ [s]) = manyL ss + many s := by rw [manyL_append]; simp [manyL]
        have fin : ∀ r, SOk d c' (ss ++ [s]) r → SOk d c ss r := fun r h2 => by
          cases r with
          | err b j => trivial
          | ok t j2 c2 =>
            obtain ⟨ss', r1, r2, r3, r4, r5, r6⟩ := h2
            exact ⟨ss', r1, r2, r3, r4, by omega, r6⟩
        dsimp only
        split
        · exact fin _ (iE d (j + 1) c' _ b3 b4)
        split
        · trivial
        · exact fin _ (iS d (j + 1) c' _ b3 b4)
    · unfold pEnd
      split
      · trivial
      split
      · trivial
      rename_i hn
      cases e : pT S f (d + 1) (i + 1) c with
      | err b j => trivial
      | ok s j c' =>
        obtain ⟨b1, b2, b3, b4⟩ := one e hn hs
        have eM : manyL (ss ++ [s]) = manyL ss + many s := by rw [manyL_append]; simp [manyL]
        exact ⟨ss ++ [s], rfl, by simp, b3, b4, by omega, b2⟩

theorem atR_may {S : Toks} {i j c : Nat} {t : Ty} (h : atR S i = .ok t j c) : mayT t = true := by
  have := (res_all S (2 * S.n + 3)).1 1 i 0
  unfold atR at h
  rw [h] at this
  obtain ⟨a1, a2, a3, a4⟩ := this
  unfold mayT
  rw [a1]
  simp
  omega
theorem impR_may {S : Toks} {i j c : Nat} {x : Im} (h : impR S i = .ok x j c) : mayI x = true := by
  unfold impR at h
  split at h
  · cases h
  rename_i h0
  split at h
  · cases h
  rename_i h1
  split at h
  · cases h
  rename_i h2
  split at h
  · cases h
  split at h
  · cases h
  rename_i h4
  cases h
  obtain ⟨m1, m2⟩ := major_is (not_false h1)
  unfold mayI
  rw [small_is (not_false h0), small_is (not_false h2), small_is (not_false h4)]
  simp [m1, m2]
theorem impsR_may {S : Toks} : ∀ {f i : Nat} {l l' : List Im} {j c : Nat}, (∀ x ∈ l, mayI x = true) → l.length ≤ 20 → impsR S f i l = .ok l' j c → (∀ x ∈ l', mayI x = true) ∧ l'.length ≤ 20
  | 0, _, _, _, _, _, _, _, h => by unfold impsR at h; cases h
  | f + 1, i, l, l', j, c, hl, h20, h => by
    unfold impsR at h
    split at h
    · cases h; exact ⟨hl, h20⟩
    split at h
    · cases h
    rename_i hn
    cases e : impR S (i + 1) with
    | err b k => rw [e] at h; cases h
    | ok x k c' =>
      rw [e] at h
      refine impsR_may (fun y hy => ?_) (by simp; omega) h
      rcases List.mem_append.1 hy with hy | hy
      · exact hl y hy
      · rw [List.mem_singleton.1 hy]; exact impR_may e
theorem typD_may {k : Int} {s : ByteArray} {S : Toks} {i j c : Nat} {x : De} (h : typD k s (atR S i) = .ok x j c) : x.kind = k ∧ x.name = s ∧ mayT x.typ = true := by
  cases e : atR S i with
  | err b k => rw [e] at h; cases h
  | ok t j' c' =>
    rw [e] at h
    cases h
    exact ⟨rfl, rfl, atR_may e⟩
theorem oneD_may {S : Toks} {i n j c : Nat} {x : De} (h : oneD S i n = .ok x j c) : mayD x = true ∧ n < 60 := by
  unfold oneD at h
  split at h
  · cases h
  split at h
  · cases h
  rename_i h0 hn
  refine ⟨?_, by omega⟩
  unfold decR at h
  split at h
  · rename_i hk
    split at h
    · cases h
    rename_i hg
    cases h
    unfold mayD
    dsimp only
    rw [if_pos hk, great_is (not_false hg), (sameT_iff _ _).2 rfl]; rfl
  rename_i hk
  split at h
  · rename_i hk3
    split at h
    · cases h
    rename_i hg
    split at h
    · cases h
    obtain ⟨e1, e2, e3⟩ := typD_may h
    unfold mayD
    rw [e1, e2, if_neg (by decide), if_pos rfl, great_is (not_false hg), e3]; rfl
  · split at h
    · cases h
    rename_i hg
    split at h
    · cases h
    obtain ⟨e1, e2, e3⟩ := typD_may h
    unfold mayD
    rw [e1, e2, if_neg (by decide), if_neg (by decide), if_pos rfl, small_is (not_false hg), e3]; rfl
theorem decsR_may {S : Toks} : ∀ {f i : Nat} {l l' : List De} {j c : Nat}, (∀ x ∈ l, mayD x = true) → l.length ≤ 60 → decsR S f i l = .ok l' j c → (∀ x ∈ l', mayD x = true) ∧ l'.length ≤ 60
  | 0, _, _, _, _, _, _, _, h => by unfold decsR at h; cases h
  | f + 1, i, l, l', j, c, hl, h60, h => by
    unfold decsR at h
    split at h
    · cases h; exact ⟨hl, h60⟩
    cases e : oneD S i l.length with
    | err b k => rw [e] at h; cases h
    | ok x k c' =>
      rw [e] at h
      obtain ⟨h1, h2⟩ := oneD_may e
      refine decsR_may (fun y hy => ?_) (by simp; omega) h
      rcases List.mem_append.1 hy with hy | hy
      · exact hl y hy
      · rw [List.mem_singleton.1 hy]; exact h1
theorem modR_may {S : Toks} {m : Mo} {j c : Nat} (h : modR S = .ok m j c) : mayM m = true := by
  unfold modR at h
  split at h
  · cases h
  split at h
  · cases h
  rename_i hs
  unfold restM at h
  cases e : impsR S 21 2 [] with
  | err b k => rw [e] at h; cases h
  | ok l k c' =>
    rw [e] at h
    dsimp only at h
    cases e2 : decsR S 61 k [] with
    | err b k => rw [e2] at h; cases h
    | ok ds k2 c2 =>
      rw [e2] at h
      cases h
      obtain ⟨i1, i2⟩ := impsR_may (fun x hx => by simp at hx) (by simp) e
      obtain ⟨d1, d2⟩ := decsR_may (fun x hx => by simp at hx) (by simp) e2
      unfold mayM
      simp only [Bool.and_eq_true, decide_eq_true_eq, List.all_eq_true]
      exact ⟨small_is (not_false hs), i2, d2, i1, d1⟩
/-- What is read may be. -/
theorem parM_may {s : ByteArray} {m : Mo} {j c : Nat} (h : parM s = .ok m j c) : mayM m = true := by
  unfold parM at h
  split at h
  · exact modR_may h
  · cases h

end Go.Proofs.YtpfoclpgcbjjoaaGreatDoor

/- The walk of the reference's Copy. -/
namespace Go.Proofs.YtpfoclpgcbjjoaaGreatDoor
open Go.RowKit
open M

/-- What stands when the names have been copied. -/
structure Cp1 (w : World) (t : Ty) (As : Option Addr) (n cs : Nat) (A5 : Option Addr) (c5 : Nat) (wr : World) : Prop where
  below : Below w.heap.size w wr
  box : wr.heap[w.heap.size]? = some (.cells #[.int .i64 t.kind, .string t.pkg, .int .i64 t.major, .string t.mod, .string t.name, .slice A5 t.names.length c5, .slice As n cs] 42 (0, 0))
  res : wr.heap[w.heap.size + 1]? = some (.cells #[.int .i64 0, .string ⟨#[]⟩, .int .i64 0, .string ⟨#[]⟩, .string ⟨#[]⟩, .slice none 0 0, .slice none 0 0] 42 (0, 0))
  own : wr.ownsRow (w.heap.size + 2) 9 1 (.slice A5 t.names.length c5) t.names.length (t.names.map Value.string)

theorem Cp1.start {w wr : World} {t : Ty} {As : Option Addr} {n cs : Nat} {A5 : Option Addr} {c5 : Nat} (h : Cp1 w t As n cs A5 c5 wr) (hs : ∀ (i : Nat) (s : ByteArray), t.names[i]? = some s → s.size ≤ 9223372036854775807) :
    Cp w t A5 c5 0 none 0 (wr.setCell ⟨w.heap.size, 6, none⟩ (.slice none 0 0)) := by
  have hown := ownsRow_setCell_below h.own (a := ⟨w.heap.size, 6, none⟩) (by show w.heap.size < w.heap.size + 2; omega) (.slice none 0 0)
  obtain ⟨-, A, c, e, hN⟩ := own_names hown hs
  simp at e
  obtain ⟨rfl, rfl⟩ := e
  refine ⟨h.below.setCell (Nat.le_refl _) _, ?_, ?_, hN _ (fun b hb e => ?_), fun _ => [.nilIface, .nilIface, .nilIface, .nilIface, .nilIface, .nilIface, .nilIface], fun _ => rfl, World.ownsRow_nil _ _ _ _, fun i s hi => by omega⟩
  · have := Joins.block_setCell (i := 6) h.box (.slice none 0 0)
    simpa using this
  · rw [Below.heap_setCell _ _ _ _ (by show w.heap.size + 1 ≠ w.heap.size; omega)]
    exact h.res
  · rcases e with e | e
    · omega
    · simp [Value.ownBlock] at e

/-- Behind the names' append, and the store. -/
theorem Cp1.made {w w4 : World} {t : Ty} {An As : Option Addr} {cn n cs : Nat} {A5 : Option Addr} {c5 : Nat}
    (hb : Below w.heap.size w w4) (hbox : w4.heap[w.heap.size]? = some (.cells #[.int .i64 t.kind, .string t.pkg, .int .i64 t.major, .string t.mod, .string t.name, .slice An t.names.length cn, .slice As n cs] 42 (0, 0)))
    (hres : w4.heap[w.heap.size + 1]? = some (.cells #[.int .i64 0, .string ⟨#[]⟩, .int .i64 0, .string ⟨#[]⟩, .string ⟨#[]⟩, .slice none 0 0, .slice none 0 0] 42 (0, 0)))
    (hown : w4.ownsRow (w.heap.size + 2) 9 1 (.slice A5 t.names.length c5) t.names.length (t.names.map Value.string)) :
    Cp1 w t As n cs A5 c5 (w4.setCell ⟨w.heap.size, 5, none⟩ (.slice A5 t.names.length c5)) := by
  refine ⟨hb.setCell (Nat.le_refl _) _, ?_, ?_, ownsRow_setCell_below hown (by show w.heap.size < w.heap.size + 2; omega) _⟩
  · have := Joins.block_setCell (i := 5) hbox (.slice A5 t.names.length c5)
    simpa using this
  · rw [Below.heap_setCell _ _ _ _ (by show w.heap.size + 1 ≠ w.heap.size; omega)]
    exact hres

/-- Where there are no names. -/
theorem Cp1.empty (w : World) {t : Ty} (As : Option Addr) (n cs : Nat) (h0 : t.names.length = 0) :
    Cp1 w t As n cs (some ⟨w.heap.size + 1 + 1, 0, none⟩) 0 (((w.alloc (.cells #[.int .i64 t.kind, .string t.pkg, .int .i64 t.major, .string t.mod, .string t.name, .slice (some ⟨w.heap.size + 1 + 1, 0, none⟩) 0 0, .slice As n cs] 42)).alloc (.cells #[.int .i64 0, .string ⟨#[]⟩, .int .i64 0, .string ⟨#[]⟩, .string ⟨#[]⟩, .slice none 0 0, .slice none 0 0] 42)).alloc (.cells #[] 9)) := by
  have e1 : w.heap.size + 1 = (w.alloc (.cells #[.int .i64 t.kind, .string t.pkg, .int .i64 t.major, .string t.mod, .string t.name, .slice (some ⟨w.heap.size + 1 + 1, 0, none⟩) 0 0, .slice As n cs] 42)).heap.size := by simp
  have e2 : w.heap.size + 1 + 1 = ((w.alloc (.cells #[.int .i64 t.kind, .string t.pkg, .int .i64 t.major, .string t.mod, .string t.name, .slice (some ⟨w.heap.size + 1 + 1, 0, none⟩) 0 0, .slice As n cs] 42)).alloc (.cells #[.int .i64 0, .string ⟨#[]⟩, .int .i64 0, .string ⟨#[]⟩, .string ⟨#[]⟩, .slice none 0 0, .slice none 0 0] 42)).heap.size := by simp
  refine ⟨below_new (below_new (below_new (Below.refl _ _) _) _) _, ?_, ?_, ?_⟩
  · rw [Lib.alloc_old _ _ _ (by simp; omega), Lib.alloc_old _ _ _ (by simp), h0]; exact heap_alloc_new w _
  · rw [Lib.alloc_old _ _ _ (by simp)]
    have := heap_alloc_new (w.alloc (.cells #[.int .i64 t.kind, .string t.pkg, .int .i64 t.major, .string t.mod, .string t.name, .slice (some ⟨w.heap.size + 1 + 1, 0, none⟩) 0 0, .slice As n cs] 42)) (.cells #[.int .i64 0, .string ⟨#[]⟩, .int .i64 0, .string ⟨#[]⟩, .string ⟨#[]⟩, .slice none 0 0, .slice none 0 0] 42)
    rw [← e1] at this
    exact this
  · have := World.ownsRow_lit (base := w.heap.size + 2) (e := 9) (size := 1) ((w.alloc (.cells #[.int .i64 t.kind, .string t.pkg, .int .i64 t.major, .string t.mod, .string t.name, .slice (some ⟨w.heap.size + 1 + 1, 0, none⟩) 0 0, .slice As n cs] 42)).alloc (.cells #[.int .i64 0, .string ⟨#[]⟩, .int .i64 0, .string ⟨#[]⟩, .string ⟨#[]⟩, .slice none 0 0, .slice none 0 0] 42)) #[] 0 (by rw [← e2]; omega) (by decide) rfl
    rw [← e2] at this
    rw [h0, List.length_eq_zero_iff.1 h0]
    exact this

set_option maxRecDepth 100000 in
set_option maxHeartbeats 4000000 in
theorem copy_any (N : Nat) : ∀ (t : Ty), many t ≤ N → many t ≤ 9000 → shortT t → ∀ (v : Value) (w : World), TyV w v t →
    Calls Tryz.prog 40 #[v] w fun e w' => ∃ l : List Value, e = .returned (.agg l.toArray) ∧ TyAt (strike (· < w.heap.size) w') l t ∧ Below w.heap.size w w' := by
  induction N with
  | zero => intro t h; have := many_pos t; omega
  | succ N ih =>
    intro t hN hM hSh v w hv
    obtain ⟨lv, rfl, hT⟩ := hv
    obtain ⟨An, cn, As, cs, rfl, zp, zm, za, hzn, hz, hNA, hS⟩ := hT.parts
    have HS := Lib.hid hS
    have HNA := Lib.hid hNA
    have hnl : t.names.length ≤ 200 := by
      cases t with | mk k p m d n ns ss => unfold shortT at hSh; exact hSh.1
    have HSS : Hid (∀ s, s ∈ t.subs → shortT s) := Lib.hid (by
      have key : ∀ l : List Ty, shortL l → ∀ s, s ∈ l → shortT s := by
        intro l
        induction l with
        | nil => intro _ s hs; cases hs
        | cons a r ih => 
          intro h s hs
          unfold shortL at h
          rcases List.mem_cons.1 hs with e | hs
          · rw [e]; exact h.1
          · exact ih h.2 s hs
      cases t with | mk k p m d n ns ss => unfold shortT at hSh; exact key ss hSh.2)
    have HNS : Hid (∀ (i : Nat) (s : ByteArray), t.names[i]? = some s → s.size ≤ 9223372036854775807) := Lib.hid (fun i s hs => by
      obtain ⟨g, o, -, -, -, h⟩ := hNA i s hs
      exact h)
    clear hT hS hNA hSh
    have hml : t.subs.length ≤ 9000 := by have := manyL_len t.subs; have := manyL_eq t; omega
    generalize hn : t.subs.length = n at hz hml
    have HN := Lib.hid hn
    clear hn
    obtain ⟨W3, hW3⟩ : ∃ W3, W3 = ((w.alloc (.cells #[.int .i64 t.kind, .string t.pkg, .int .i64 t.major, .string t.mod, .string t.name, .slice An t.names.length cn, .slice As n cs] 42)).alloc (.cells #[.int .i64 0, .string ⟨#[]⟩, .int .i64 0, .string ⟨#[]⟩, .string ⟨#[]⟩, .slice none 0 0, .slice none 0 0] 42)).alloc (.cells #[] 9) := ⟨_, rfl⟩
    have B3 : Hid (Below w.heap.size w W3) := Lib.hid (by rw [hW3]; exact below_new (below_new (below_new (Below.refl _ _) _) _) _)
    have X3 : Hid (W3.heap[w.heap.size]? = some (.cells #[.int .i64 t.kind, .string t.pkg, .int .i64 t.major, .string t.mod, .string t.name, .slice An t.names.length cn, .slice As n cs] 42 (0, 0))) := Lib.hid (by
      rw [hW3, Lib.alloc_old _ _ _ (by simp; omega), Lib.alloc_old _ _ _ (by simp)]; exact heap_alloc_new w _)
    have R3 : Hid (W3.heap[w.heap.size + 1]? = some (.cells #[.int .i64 0, .string ⟨#[]⟩, .int .i64 0, .string ⟨#[]⟩, .string ⟨#[]⟩, .slice none 0 0, .slice none 0 0] 42 (0, 0))) := Lib.hid (by
      rw [hW3, Lib.alloc_old _ _ _ (by simp)]
      have e : w.heap.size + 1 = (w.alloc (.cells #[.int .i64 t.kind, .string t.pkg, .int .i64 t.major, .string t.mod, .string t.name, .slice An t.names.length cn, .slice As n cs] 42)).heap.size := by simp
      rw [e]; exact heap_alloc_new _ _)
    have O3 : Hid (W3.ownsRow (w.heap.size + 2) 9 1 (.slice (some ⟨w.heap.size + 1 + 1, 0, none⟩) 0 0) 0 []) := Lib.hid (by
      rw [hW3]
      have e : w.heap.size + 1 + 1 = ((w.alloc (.cells #[.int .i64 t.kind, .string t.pkg, .int .i64 t.major, .string t.mod, .string t.name, .slice An t.names.length cn, .slice As n cs] 42)).alloc (.cells #[.int .i64 0, .string ⟨#[]⟩, .int .i64 0, .string ⟨#[]⟩, .string ⟨#[]⟩, .slice none 0 0, .slice none 0 0] 42)).heap.size := by simp
      have := World.ownsRow_lit (base := w.heap.size + 2) (e := 9) (size := 1) ((w.alloc (.cells #[.int .i64 t.kind, .string t.pkg, .int .i64 t.major, .string t.mod, .string t.name, .slice An t.names.length cn, .slice As n cs] 42)).alloc (.cells #[.int .i64 0, .string ⟨#[]⟩, .int .i64 0, .string ⟨#[]⟩, .string ⟨#[]⟩, .slice none 0 0, .slice none 0 0] 42)) #[] 0 (by rw [← e]; omega) (by decide) rfl
      rw [← e] at this
      exact this)
    have s3 : w.heap.size + 2 ≤ W3.heap.size := by have := (Array.getElem?_eq_some_iff.1 R3.out).1; omega
    have HW3 := Lib.hid hW3
    clear hW3
    obtain ⟨i0, hi, hz0, hz1, hz2⟩ := info_parts str_info
    go_enter Tryz.func40, Tryz.ntmps40
    go_upto_region 1 with fail
    go_cut [8] (fun s8 wx => ∃ (A5 : Option Addr) (c5 : Nat), Cp1 w t As n cs A5 c5 wx)
    case first =>
      cases An with
      | none =>
        have hn0 : t.names.length = 0 := by
          rcases Nat.eq_zero_or_pos t.names.length with h | h
          · exact h
          · obtain ⟨g, o, e, -⟩ := HNA.out 0 _ (List.getElem?_eq_getElem h)
            cases e
        have HE := Lib.hid (Cp1.empty w As n cs hn0)
        go_wp2_with fail
        go_meet
        exact ⟨_, _, HE.out⟩
      | some ad =>
        have own0 := O3.out
        rw [HW3.out] at own0
        have hnews : ∀ j u, (t.names.map Value.string)[j]? = some u → W3.cell? (ad.add j) = some u := by
          intro j u hj
          rw [List.getElem?_map] at hj
          obtain ⟨s, hs, rfl⟩ := Option.map_eq_some_iff.1 hj
          obtain ⟨g, o, e, hg, hc, -⟩ := HNA.out j s hs
          obtain rfl := Option.some.inj e
          rw [WideShapes.add_plain]
          exact (B3.out.cell (p := ⟨g, _, none⟩) hg).trans hc
        rw [HW3.out] at hnews
        have hone : ∀ u ∈ t.names.map Value.string, u.oneCell' = true := by
          intro u hu
          obtain ⟨s, -, rfl⟩ := List.mem_map.1 hu
          rfl
        have hbase := s3
        rw [HW3.out] at hbase
        go_wp2_with (at_builtin; refine wpList_append_own_at _ rfl _ _ 39 rfl (w.heap.size + 2) 9 i0 (.string ⟨#[]⟩) 1 16 Tryz.underlying39 hi hz0 hz1 hz2 rfl (by decide) _ 0 [] rfl own0 ad t.names.length cn (t.names.map Value.string) rfl ?c0 hnews hone ?c3 ?c4 hbase ?_)
        case c0 => simp
        case c3 => unfold maxLen; omega
        case c4 => omega
        intro v5 w4 hown hgrow _ hat
        rw [← HW3.out] at hgrow
        have hown2 : w4.ownsRow (w.heap.size + 2) 9 1 v5 t.names.length (t.names.map Value.string) := by first | exact hown | simpa using hown
        clear hown
        obtain ⟨-, A5, c5, rfl, -⟩ := own_names hown2 HNS.out
        have b4 : w4.heap[w.heap.size]? = _ := (hgrow.block w.heap.size (by omega) (by simp [Value.ownBlock]; omega)).trans X3.out
        have r4 : w4.heap[w.heap.size + 1]? = _ := (hgrow.block (w.heap.size + 1) (by omega) (by simp [Value.ownBlock])).trans R3.out
        have B4 : Below w.heap.size w w4 := B3.out.trans ⟨hgrow.os, hgrow.tape, hgrow.output, hgrow.size, fun b hb => hgrow.block b (by omega) (by simp [Value.ownBlock]; omega)⟩
        have M := Lib.hid (Cp1.made B4 b4 r4 hown2)
        have x5 : w4.cell? ⟨w.heap.size, 5, none⟩ = some (.slice (some ad) t.names.length cn) := Lib.cell_of_heap b4 5
        have f5 : w4.frozen? ⟨w.heap.size, 5, none⟩ = false := Lib.frozen_of_heap b4 5
        clear hgrow hown2 hat b4 r4 B4 hnews hbase own0
        go_wp2_with fail
        go_meet
        exact ⟨_, _, M.out⟩
    case rest =>
      obtain ⟨A5, c5, h1⟩ := hcut
      have x6 := Lib.cell_of_heap h1.box 6
      have f6 := Lib.frozen_of_heap h1.box 6
      simp at x6
      have START := Lib.hid (h1.start HNS.out)
      clear h1 B3 X3 R3 O3 HW3 HNS
      go_wp2_with fail
      clear x6 f6
      go_loopw [4] (fun i wr => ∃ (j : Nat) (A6 : Option Addr) (c6 : Nat), j ≤ n ∧ i = .int .i64 j ∧ Hid (Cp w t A5 c5 j A6 c6 wr)) (fun i _ => n - (intOf i).toNat)
      case atStart => exact ⟨0, none, 0, by omega, rfl, START⟩
      case round =>
        obtain ⟨j, A6, c6, hj, rfl, HC⟩ := hrel
        obtain ⟨wo, rfl⟩ : ∃ wo : World, wo = wr := ⟨_, rfl⟩
        have x6 := Lib.cell_of_heap HC.out.box 6
        have f6 := Lib.frozen_of_heap HC.out.box 6
        simp at x6
        have hkl : w.heap.size + 1 < wo.heap.size := (Array.getElem?_eq_some_iff.1 HC.out.res).1
        by_cases hlt : j < n
        · obtain ⟨s, hs⟩ : ∃ s, t.subs[j]? = some s := ⟨_, List.getElem?_eq_getElem (by rw [HN.out]; exact hlt)⟩
          obtain ⟨C, hC, hown6, hCs⟩ := HC.out.subs
          obtain ⟨g0, o0, v0, v1, v2, v3, v4, v5, v6, rfl, hg0, h0, h1, h2, h3, h4, h5, h6, hs7⟩ := HS.out.below HC.out.below j s hs
          obtain ⟨Am, cm, At, ct, rfl, rfl, rfl, rfl, rfl, rfl, rfl⟩ := hs7.seven
          have hsm := sub_many hs
          have IH := Lib.hid (fun (w' : World) (hw : Below wo.heap.size wo w') => ih s (by omega) (by omega) (HSS.out s (List.mem_of_getElem? hs)) (.agg #[.int .i64 s.kind, .string s.pkg, .int .i64 s.major, .string s.mod, .string s.name, .slice Am s.names.length cm, .slice At s.subs.length ct]) w' (TyV.below ⟨_, rfl, hs7⟩ hw))
          have hold : ∀ b, (Value.slice A6 j c6).ownBlock = some b → w.heap.size + 2 ≤ b ∧ b < wo.heap.size := fun b hb => by
            obtain ⟨h1, h2⟩ := hown6.lt b hb
            exact ⟨h1, h2⟩
          have HHS := Lib.hid hs
          have HHC := Lib.hid hC
          have HHCs := Lib.hid hCs
          have HOLD := Lib.hid hold
          have HOWN := Lib.hid hown6
          clear hs7 hs hC hCs hold hown6 hsm
          obtain ⟨i1, hi1, hy0, hy1, hy2⟩ := info_parts typ_info
          go_upto_block 1 with fail
          go_cut [4] (fun s4 wx => s4 = .int .i64 j ∧ ∃ (A6' : Option Addr) (c6' : Nat), Cp w t A5 c5 (j + 1) A6' c6' wx)
          case first =>
            have hk0 : w.heap.size < wo.heap.size := by omega
            go_wp2_with fail
            have F1 : ∀ (w1 : World) (oo : Obj), Below wo.heap.size wo w1 → (w1.alloc oo).ownsRow (w.heap.size + 2) 42 7 (.slice A6 j c6) j ((List.range j).map C).flatten := fun w1 oo hB => (own_keep HOWN.out hB).alloc oo
            have F2 : ∀ (w1 : World) (Ax : Option Addr) (cx : Nat) (Ay : Option Addr) (cy : Nat), ∀ (q : Nat) (u : Value), ([.int .i64 s.kind, .string s.pkg, .int .i64 s.major, .string s.mod, .string s.name, .slice Ax s.names.length cx, .slice Ay s.subs.length cy] : List Value)[q]? = some u → (w1.alloc (.cells #[.int .i64 s.kind, .string s.pkg, .int .i64 s.major, .string s.mod, .string s.name, .slice Ax s.names.length cx, .slice Ay s.subs.length cy] 42)).cell? ((⟨w1.heap.size, 0, none⟩ : Addr).add q) = some u := fun w1 Ax cx Ay cy q u hq => by
              rw [WideShapes.add_plain, Nat.zero_add, Lib.cell_of_heap (heap_alloc_new w1 _), ← hq, ← List.getElem?_toArray]
            have F3 : ∀ (Ax : Option Addr) (cx : Nat) (Ay : Option Addr) (cy : Nat), ∀ u ∈ ([.int .i64 s.kind, .string s.pkg, .int .i64 s.major, .string s.mod, .string s.name, .slice Ax s.names.length cx, .slice Ay s.subs.length cy] : List Value), u.oneCell' = true := fun Ax cx Ay cy u hu => by
              simp at hu
              rcases hu with rfl | rfl | rfl | rfl | rfl | rfl | rfl <;> rfl
            have F4 : ∀ (w1 : World) (oo : Obj), Below wo.heap.size wo w1 → w.heap.size + 2 ≤ (w1.alloc oo).heap.size := fun w1 oo hB => by
              have := hB.size
              have : (w1.alloc oo).heap.size = w1.heap.size + 1 := by simp
              omega
            have F5 : j + 1 ≤ maxLen := by unfold maxLen; omega
            have F6 : (j + 1) * 112 ≤ 140737488355328 := by omega
            have F7 : (Value.agg #[.int .i64 0, .string ⟨#[]⟩, .int .i64 0, .string ⟨#[]⟩, .string ⟨#[]⟩, .slice none 0 0, .slice none 0 0]).cells.size = 7 := by rfl
            have F8 : ∀ (w1 w2 : World) (oo : Obj), Below wo.heap.size wo w1 → (w1.alloc oo).grownBy w2 (Value.slice A6 j c6).ownBlock → w2.cell? ⟨w.heap.size, 6, none⟩ = some (.slice A6 j c6) ∧ w2.frozen? ⟨w.heap.size, 6, none⟩ = false := fun w1 w2 oo hB hgrow => by
              have e : w2.heap[w.heap.size]? = wo.heap[w.heap.size]? := by
                rw [hgrow.block w.heap.size (by have := hB.size; simp; omega) (fun e => by have := (HOLD.out _ e.symm).1; omega), Lib.alloc_old w1 oo _ (by have := hB.size; omega)]
                exact hB.block _ hk0
              rw [World.cell?_of_block (w := wo) (a := ⟨w.heap.size, 6, none⟩) e, World.frozen?_of_block (w := wo) (a := ⟨w.heap.size, 6, none⟩) e]
              exact ⟨x6, f6⟩
            go_region_law (first
              | (go_simp; go_at_call 40; refine (IH.out _ (Below.drew (Below.refl _ _))).mono ?_
                 rintro e w1 ⟨l1, rfl, hT1, hb1⟩
                 obtain ⟨Ax, cx, Ay, cy, rfl, -⟩ := hT1.parts
                 have hB : Below wo.heap.size wo w1 := (Below.drew (Below.refl _ _)).trans hb1
                 have y6 : w1.cell? ⟨w.heap.size, 6, none⟩ = some (.slice A6 j c6) := (hB.cell (p := ⟨w.heap.size, 6, none⟩) hk0).trans x6
                 have hw1 : w.heap.size < w1.heap.size := Nat.lt_of_lt_of_le hk0 hB.size)
              | (refine step_append_lies _ rfl (.tmp 20) (.tmp 26) 40 rfl (w.heap.size + 2) 42 i1 _ 7 112 Tryz.underlying40 hi1 hy0 hy1 hy2 F7 (Nat.zero_lt_succ 6) (.slice A6 j c6) j _ rfl (F1 w1 _ hB) ⟨w1.heap.size, 0, none⟩ 1 1 [.int .i64 s.kind, .string s.pkg, .int .i64 s.major, .string s.mod, .string s.name, .slice Ax s.names.length cx, .slice Ay s.subs.length cy] rfl rfl (F2 w1 Ax cx Ay cy) (F3 Ax cx Ay cy) Nat.one_pos F5 F6 (F4 w1 _ hB) _ rfl ?_
                 intro g cap w2 hown2 hgrow hat hlt2
                 have ST := Lib.hid (HC.out.step HHS.out hB hT1 rfl HHC.out HHCs.out hown2 hgrow hat HOLD.out)
                 obtain ⟨z6, e6⟩ := F8 w1 w2 _ hB hgrow))
            all_goals (go_wp2_with fail; go_meet; exact ⟨rfl, _, _, ST.out⟩)
          case rest =>
            obtain ⟨rfl, A6', c6', hC'⟩ := hcut
            have HC' := Lib.hid hC'
            clear hC' h0 h1 h2 h3 h4 h5 h6 x6 f6 IH
            go_wp2_with fail
            go_roundw
            case rel => exact ⟨j + 1, A6', c6', by omega, by go_num, HC'⟩
            case measure => simp [intOf]; omega
        · obtain rfl : j = n := by omega
          have y0 := Lib.cell_of_heap HC.out.box 0
          have y1 := Lib.cell_of_heap HC.out.box 1
          have y2 := Lib.cell_of_heap HC.out.box 2
          have y3 := Lib.cell_of_heap HC.out.box 3
          have y4 := Lib.cell_of_heap HC.out.box 4
          have y5 := Lib.cell_of_heap HC.out.box 5
          have r0 := Lib.cell_of_heap HC.out.res 0
          have r1 := Lib.cell_of_heap HC.out.res 1
          have r2 := Lib.cell_of_heap HC.out.res 2
          have r3 := Lib.cell_of_heap HC.out.res 3
          have r4 := Lib.cell_of_heap HC.out.res 4
          have r5 := Lib.cell_of_heap HC.out.res 5
          have r6 := Lib.cell_of_heap HC.out.res 6
          have q0 := Lib.frozen_of_heap HC.out.res 0
          have q1 := Lib.frozen_of_heap HC.out.res 1
          have q2 := Lib.frozen_of_heap HC.out.res 2
          have q3 := Lib.frozen_of_heap HC.out.res 3
          have q4 := Lib.frozen_of_heap HC.out.res 4
          have q5 := Lib.frozen_of_heap HC.out.res 5
          have q6 := Lib.frozen_of_heap HC.out.res 6
          simp at y0 y1 y2 y3 y4 y5 r0 r1 r2 r3 r4 r5 r6
          obtain ⟨W7, hW7⟩ : ∃ W7, W7 = (((((((wo.setCell ⟨w.heap.size + 1, 0, none⟩ (.int .i64 t.kind)).setCell ⟨w.heap.size + 1, 1, none⟩ (.string t.pkg)).setCell ⟨w.heap.size + 1, 2, none⟩ (.int .i64 t.major)).setCell ⟨w.heap.size + 1, 3, none⟩ (.string t.mod)).setCell ⟨w.heap.size + 1, 4, none⟩ (.string t.name)).setCell ⟨w.heap.size + 1, 5, none⟩ (.slice A5 t.names.length c5)).setCell ⟨w.heap.size + 1, 6, none⟩ (.slice A6 j c6)) := ⟨_, rfl⟩
          have hbk : W7.heap[w.heap.size + 1]? = some (.cells #[.int .i64 t.kind, .string t.pkg, .int .i64 t.major, .string t.mod, .string t.name, .slice A5 t.names.length c5, .slice A6 j c6] 42 (0, 0)) := by rw [hW7]; exact fill7 HC.out.res _ _ _ _ _ _ _
          have hot : ∀ c, c ≠ w.heap.size + 1 → W7.heap[c]? = wo.heap[c]? := fun c hc => by rw [hW7]; exact fill7_other hc _ _ _ _ _ _ _
          have hsz : W7.heap.size = wo.heap.size := by rw [hW7]; exact fill7_size _ _ _ _ _ _ _
          have DONE : TyAt (strike (· < w.heap.size + 2) wo) [.int .i64 t.kind, .string t.pkg, .int .i64 t.major, .string t.mod, .string t.name, .slice A5 t.names.length c5, .slice A6 j c6] t := by
            have hd := HC.out
            have e := HN.out
            subst e
            exact hd.done zp zm za hzn hz
          have T7 : Hid (TyAt (strike (· < w.heap.size) W7) [.int .i64 t.kind, .string t.pkg, .int .i64 t.major, .string t.mod, .string t.name, .slice A5 t.names.length c5, .slice A6 j c6] t) := Lib.hid (DONE.cells (by rw [strike_size, strike_size]; omega) (fun b o x hx => by
            obtain ⟨h1, h2⟩ := strike_cell.1 hx
            refine strike_cell.2 ⟨by omega, ?_⟩
            rw [World.cell?_of_block (w := wo) (a := ⟨b, o, none⟩) (hot b (by omega))]; exact h2))
          have B7 : Hid (Below w.heap.size w W7) := Lib.hid (by
            have hb := HC.out.below
            rw [hW7]
            exact ((((((hb.setCell (by simp) _).setCell (by simp) _).setCell (by simp) _).setCell (by simp) _).setCell (by simp) _).setCell (by simp) _).setCell (by simp) _)
          have C7 : Hid (∀ i v, ([.int .i64 t.kind, .string t.pkg, .int .i64 t.major, .string t.mod, .string t.name, .slice A5 t.names.length c5, .slice A6 j c6] : List Value)[i]? = some v → W7.cell? ⟨w.heap.size + 1, i, none⟩ = some v) := Lib.hid (fun i v hv => by
            rw [Lib.cell_of_heap hbk, ← hv, ← List.getElem?_toArray])
          have HW7 := Lib.hid hW7
          clear hW7 hbk hot hsz DONE
          go_wp2_with fail
          rw [← HW7.out]
          exact ret_agg1 (fn := Tryz.f40) (vs := [.int .i64 t.kind, .string t.pkg, .int .i64 t.major, .string t.mod, .string t.name, .slice A5 t.names.length c5, .slice A6 j c6]) (b := w.heap.size + 1) rfl rfl Tryz.underlying42 (by kernel_rfl) C7.out rfl ⟨_, rfl, T7.out, B7.out⟩

end Go.Proofs.YtpfoclpgcbjjoaaGreatDoor
