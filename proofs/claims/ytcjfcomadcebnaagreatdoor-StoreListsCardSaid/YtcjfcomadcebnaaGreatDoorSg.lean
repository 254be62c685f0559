/- Do, where a call is none, or goes through, by contracts. -/
import Derived.Test.YtcjfcomadcebnaaGreatDoorSe
namespace Go.Proofs.YtcjfcomadcebnaaGreatDoor
open Go.RowKit Go.Maps Go.WideMaps Go.WideElems Go.ChangeShapes Go.WideShapes

variable {T : TypeId} {er : Nat → Addr}

set_option maxRecDepth 100000 in
set_option maxHeartbeats 1000000 in
theorem do_unfit (k n : Int) (hk : 1 ≤ k ∧ k ≤ 4) (L : List UInt8) (op key val : Int) (g : Nat) (hop : opFn k op = some g) (hf : fitsB op key val = false) (w : World) (hG : Glob T er w) : DoIs k n L op key val (.tuple #[stv 0 0 [], .int .i64 0, .int .i64 0, errE T er 2]) w := by
  have HG := Lib.hid hG
  clear hG
  have Ho := Lib.hid (fun W => ops_any k hk W)
  have Hlk := Lib.hid (fun W b c (hb : W.heap[b]? = some (.map (kes k) c)) => look_kes k op hk W b c hb)
  rw [hop] at Hlk
  have Hff := Lib.hid (fun W => fieldsFit_any op key val W)
  rw [hf] at Hff
  clear hop hk hf
  have hB := boxes_new w k n L
  generalize hW : (w.alloc (.cells #[.int .i64 k, .int .i64 n, tv L] 34)).alloc (.cells #[.int .i64 0, .int .i64 0, .string ⟨#[]⟩] 34) = W at hB
  have HB := Lib.hid hB
  obtain ⟨c0, c1, c2, fr⟩ := hB.box
  obtain ⟨d0, d1, d2, fz⟩ := hB.out
  clear hB
  have HGW := Lib.hid (HG.out.below' HB.out.below)
  go_enter Tryz.func49, Tryz.ntmps49
  go_wp2_with (first | (go_at_call 64; refine (Ho.out _).mono ?_; rintro e w1 ⟨b, rfl, hb1⟩; have H2 : Hid (Boxes w w1 k n L) := ⟨HB.out.below.trans (hb1.out.1.mono HB.out.below.size), HB.out.box.below' hb1.out.1, HB.out.out.below' hb1.out.1⟩; obtain ⟨cc, hcc⟩ := hb1.out.2; have hl := Hlk.out w1 b cc hcc; simp only [lookV] at hl; have HG2 := Lib.hid (HGW.out.below' hb1.out.1); have e2 := HG2.out.eEvent; clear hb1 hcc c0 c1 c2 fr d0 d1 d2 fz; obtain ⟨c0, c1, c2, fr⟩ := H2.out.box; obtain ⟨d0, d1, d2, fz⟩ := H2.out.out) | (go_at_call 65; refine (Hff.out _).mono ?_; rintro e w' ⟨rfl, rfl⟩))
  refine wp_region_held_drew (S := (fun w' => w'.cell? ⟨3, 0, none⟩ = some (.iface T (.pointer (some (er 2)))))) (by kernel_rfl) e2 (fun hHeld => ?_)
  refine held_take 0 (some 46) ?_ rfl rfl (by kernel_rfl) (by kernel_rfl) (by kernel_rfl) (fun _ _ _ h => h) (by kernel_rfl) ?_ (by assumption) ?_
  rotate_left
  · intro w hSw; (try dsimp only at hSw); go_simp <;> (try with_reducible rfl)
  simp only [Act.put, List.setIfInBounds_toArray, List.set_cons_zero, List.set_cons_succ]
  refine held_take 1 (some 47) ?_ rfl rfl (by kernel_rfl) (by kernel_rfl) (by kernel_rfl) (fun _ _ _ h => h) (by kernel_rfl) ?_ (by assumption) ?_
  rotate_left
  · intro w hSw; (try dsimp only at hSw); go_simp <;> (try with_reducible rfl)
  simp only [Act.put, List.setIfInBounds_toArray, List.set_cons_zero, List.set_cons_succ]
  refine wpAnyH_ready (rs := [2]) (by kernel_rfl) (by simp) (AllReadyH.cons rfl (fun K hK => ?_) AllReadyH.nil)
  go_simp
  refine hK.out _ _ ?_ (fun hHeld => ?_)
  · (try dsimp only); exact (World.cell?_drew ..).trans ((setSt_far w1 (w.heap.size + 1) 0 0 [] 3 0 (by have := HG.out.size; omega)).trans e2)
  clear hK K
  try simp only [Act.put, List.setIfInBounds_toArray, List.set_cons_zero, List.set_cons_succ]
  refine held_take 3 (some 9) ?_ rfl rfl (by kernel_rfl) (by kernel_rfl) (by kernel_rfl) (fun _ _ _ h => h) (by kernel_rfl) ?_ (by assumption) ?_
  rotate_left
  · intro w hSw; (try dsimp only at hSw); go_simp <;> (try with_reducible rfl)
  simp only [Act.put, List.setIfInBounds_toArray, List.set_cons_zero, List.set_cons_succ]
  refine held_take 4 (some 10) ?_ rfl rfl (by kernel_rfl) (by kernel_rfl) (by kernel_rfl) (fun _ _ _ h => h) (by kernel_rfl) ?_ (by assumption) ?_
  rotate_left
  · intro w hSw; (try dsimp only at hSw); go_simp <;> (try with_reducible rfl)
  simp only [Act.put, List.setIfInBounds_toArray, List.set_cons_zero, List.set_cons_succ]
  refine held_take 5 (some 11) ?_ rfl rfl (by kernel_rfl) (by kernel_rfl) (by kernel_rfl) (fun _ _ _ h => h) (by kernel_rfl) ?_ (by assumption) ?_
  rotate_left
  · intro w hSw; (try dsimp only at hSw); go_simp <;> (try with_reducible rfl)
  simp only [Act.put, List.setIfInBounds_toArray, List.set_cons_zero, List.set_cons_succ]
  refine wpAnyH_done (by kernel_rfl) ?_ _
  go_wp2
  exact bodyPost_ret (res49 _ _ (w.heap.size + 1) 0 0 [] _ _ _ H2.out.out.set.drew rfl rfl rfl rfl) rfl ⟨rfl, below_drew (setSt_below H2.out.below (by omega) _ _ _)⟩

set_option maxRecDepth 100000 in
set_option maxHeartbeats 1000000 in
theorem do_over (n : Int) (L : List UInt8) (op key val : Int) (g : Nat) (hop : opFn 2 op = some g) (hf : fitsB op key val = true) (h0 : -9223372036854775808 ≤ n + val) (h1 : n + val ≤ 9223372036854775807) (hn : nearB (n + val) 1000000000000000 = false) (w : World) (hG : Glob T er w) : DoIs 2 n L op key val (.tuple #[stv 0 0 [], .int .i64 0, .int .i64 0, errE T er 2]) w := by
  obtain ⟨k, hk2⟩ : ∃ k : Int, k = 2 := ⟨_, rfl⟩
  rw [← hk2] at hop ⊢
  have hk : 1 ≤ k ∧ k ≤ 4 := by omega
  have HG := Lib.hid hG
  clear hG
  have Ho := Lib.hid (fun W => ops_any k hk W)
  have Hlk := Lib.hid (fun W b c (hb : W.heap[b]? = some (.map (kes k) c)) => look_kes k op hk W b c hb)
  rw [hop] at Hlk
  have Hff := Lib.hid (fun W => fieldsFit_any op key val W)
  rw [hf] at Hff
  have Hou := Lib.hid (fun W => outside_any (n + val) 1000000000000000 (by decide) (by decide) W)
  rw [hn] at Hou
  have hke : (k == 2) = true := by simpa using hk2
  clear hop hk hf hn hk2
  have hB := boxes_new w k n L
  generalize hW : (w.alloc (.cells #[.int .i64 k, .int .i64 n, tv L] 34)).alloc (.cells #[.int .i64 0, .int .i64 0, .string ⟨#[]⟩] 34) = W at hB
  have HB := Lib.hid hB
  obtain ⟨c0, c1, c2, fr⟩ := hB.box
  obtain ⟨d0, d1, d2, fz⟩ := hB.out
  clear hB
  have HGW := Lib.hid (HG.out.below' HB.out.below)
  go_enter Tryz.func49, Tryz.ntmps49
  go_wp2_with (first | (go_at_call 64; refine (Ho.out _).mono ?_; rintro e w1 ⟨b, rfl, hb1⟩; have H2 : Hid (Boxes w w1 k n L) := ⟨HB.out.below.trans (hb1.out.1.mono HB.out.below.size), HB.out.box.below' hb1.out.1, HB.out.out.below' hb1.out.1⟩; obtain ⟨cc, hcc⟩ := hb1.out.2; have hl := Hlk.out w1 b cc hcc; simp only [lookV] at hl; have HG2 := Lib.hid (HGW.out.below' hb1.out.1); have e2 := HG2.out.eEvent; clear hb1 hcc c0 c1 c2 fr d0 d1 d2 fz; obtain ⟨c0, c1, c2, fr⟩ := H2.out.box; obtain ⟨d0, d1, d2, fz⟩ := H2.out.out) | (go_at_call 65; refine (Hff.out _).mono ?_; rintro e w' ⟨rfl, rfl⟩) | (go_at_call 66; refine (Hou.out _).mono ?_; rintro e w' ⟨rfl, rfl⟩))
  refine wp_region_held_drew (S := (fun w' => w'.cell? ⟨3, 0, none⟩ = some (.iface T (.pointer (some (er 2)))))) (by kernel_rfl) e2 (fun hHeld => ?_)
  refine held_take 0 (some 46) ?_ rfl rfl (by kernel_rfl) (by kernel_rfl) (by kernel_rfl) (fun _ _ _ h => h) (by kernel_rfl) ?_ (by assumption) ?_
  rotate_left
  · intro w hSw; (try dsimp only at hSw); go_simp <;> (try with_reducible rfl)
  simp only [Act.put, List.setIfInBounds_toArray, List.set_cons_zero, List.set_cons_succ]
  refine held_take 1 (some 47) ?_ rfl rfl (by kernel_rfl) (by kernel_rfl) (by kernel_rfl) (fun _ _ _ h => h) (by kernel_rfl) ?_ (by assumption) ?_
  rotate_left
  · intro w hSw; (try dsimp only at hSw); go_simp <;> (try with_reducible rfl)
  simp only [Act.put, List.setIfInBounds_toArray, List.set_cons_zero, List.set_cons_succ]
  refine wpAnyH_ready (rs := [2]) (by kernel_rfl) (by simp) (AllReadyH.cons rfl (fun K hK => ?_) AllReadyH.nil)
  go_simp
  refine hK.out _ _ ?_ (fun hHeld => ?_)
  · (try dsimp only); exact (World.cell?_drew ..).trans ((setSt_far w1 (w.heap.size + 1) 0 0 [] 3 0 (by have := HG.out.size; omega)).trans e2)
  clear hK K
  try simp only [Act.put, List.setIfInBounds_toArray, List.set_cons_zero, List.set_cons_succ]
  refine held_take 3 (some 9) ?_ rfl rfl (by kernel_rfl) (by kernel_rfl) (by kernel_rfl) (fun _ _ _ h => h) (by kernel_rfl) ?_ (by assumption) ?_
  rotate_left
  · intro w hSw; (try dsimp only at hSw); go_simp <;> (try with_reducible rfl)
  simp only [Act.put, List.setIfInBounds_toArray, List.set_cons_zero, List.set_cons_succ]
  refine held_take 4 (some 10) ?_ rfl rfl (by kernel_rfl) (by kernel_rfl) (by kernel_rfl) (fun _ _ _ h => h) (by kernel_rfl) ?_ (by assumption) ?_
  rotate_left
  · intro w hSw; (try dsimp only at hSw); go_simp <;> (try with_reducible rfl)
  simp only [Act.put, List.setIfInBounds_toArray, List.set_cons_zero, List.set_cons_succ]
  refine held_take 5 (some 11) ?_ rfl rfl (by kernel_rfl) (by kernel_rfl) (by kernel_rfl) (fun _ _ _ h => h) (by kernel_rfl) ?_ (by assumption) ?_
  rotate_left
  · intro w hSw; (try dsimp only at hSw); go_simp <;> (try with_reducible rfl)
  simp only [Act.put, List.setIfInBounds_toArray, List.set_cons_zero, List.set_cons_succ]
  refine wpAnyH_done (by kernel_rfl) ?_ _
  go_wp2
  exact bodyPost_ret (res49 _ _ (w.heap.size + 1) 0 0 [] _ _ _ H2.out.out.set.drew rfl rfl rfl rfl) rfl ⟨rfl, below_drew (setSt_below H2.out.below (by omega) _ _ _)⟩

/-- The functions that operations have. -/
theorem fn_enter {k op : Int} {g : Nat} (h : opFn k op = some g) : ∀ args w, (callFunc g args).run Tryz.prog w = .ok (.enter g args) w := by
  have : g = 81 ∨ g = 82 ∨ g = 83 ∨ g = 84 ∨ g = 85 ∨ g = 86 ∨ g = 87 ∨ g = 88 := by
    unfold opFn at h
    repeat' split at h
    all_goals first | (cases h; decide) | cases h
  rcases this with rfl | rfl | rfl | rfl | rfl | rfl | rfl | rfl
  · exact enters_of Tryz.func81 (by kernel_rfl) rfl
  · exact enters_of Tryz.func82 (by kernel_rfl) rfl
  · exact enters_of Tryz.func83 (by kernel_rfl) rfl
  · exact enters_of Tryz.func84 (by kernel_rfl) rfl
  · exact enters_of Tryz.func85 (by kernel_rfl) rfl
  · exact enters_of Tryz.func86 (by kernel_rfl) rfl
  · exact enters_of Tryz.func87 (by kernel_rfl) rfl
  · exact enters_of Tryz.func88 (by kernel_rfl) rfl

set_option maxRecDepth 100000 in
set_option maxHeartbeats 1000000 in
theorem do_goes (k n : Int) (hk : 1 ≤ k ∧ k ≤ 4) (L : List UInt8) (op key val : Int) (g : Nat) (hop : opFn k op = some g) (hf : fitsB op key val = true) (hc : k = 2 → (-9223372036854775808 ≤ n + val ∧ n + val ≤ 9223372036854775807) ∧ nearB (n + val) 1000000000000000 = true)
    (k' n' : Int) (L' : List UInt8) (r x : Int) (w : World) (hG : Glob T er w) (hfn : ∀ W, Glob T er W → OpIs g k n L key val k' n' L' r x W) : DoIs k n L op key val (.tuple #[stv k' n' L', .int .i64 r, .int .i64 x, .nilIface]) w := by
  have HG := Lib.hid hG
  clear hG
  have Ho := Lib.hid (fun W => ops_any k hk W)
  have Hlk := Lib.hid (fun W b c (hb : W.heap[b]? = some (.map (kes k) c)) => look_kes k op hk W b c hb)
  rw [hop] at Hlk
  have Hff := Lib.hid (fun W => fieldsFit_any op key val W)
  rw [hf] at Hff
  have Heg := Lib.hid (fn_enter hop)
  have eg := Heg.out
  unfold OpIs at hfn
  have Hfn := Lib.hid hfn
  clear hop hk hf hfn
  by_cases hk2 : k = 2
  · have hke : (k == 2) = true := by simpa using hk2
    obtain ⟨⟨h0, h1⟩, hn⟩ := hc hk2
    have Hou := Lib.hid (fun W => outside_any (n + val) 1000000000000000 (by decide) (by decide) W)
    rw [hn] at Hou
    clear hc hn hk2
    have hB := boxes_new w k n L
    generalize hW : (w.alloc (.cells #[.int .i64 k, .int .i64 n, tv L] 34)).alloc (.cells #[.int .i64 0, .int .i64 0, .string ⟨#[]⟩] 34) = W at hB
    have HB := Lib.hid hB
    obtain ⟨c0, c1, c2, fr⟩ := hB.box
    obtain ⟨d0, d1, d2, fz⟩ := hB.out
    clear hB
    have HGW := Lib.hid (HG.out.below' HB.out.below)
    go_enter Tryz.func49, Tryz.ntmps49
    go_wp2_with (first | (go_at_call 64; refine (Ho.out _).mono ?_; rintro e w1 ⟨b, rfl, hb1⟩; have H2 : Hid (Boxes w w1 k n L) := ⟨HB.out.below.trans (hb1.out.1.mono HB.out.below.size), HB.out.box.below' hb1.out.1, HB.out.out.below' hb1.out.1⟩; obtain ⟨cc, hcc⟩ := hb1.out.2; have hl := Hlk.out w1 b cc hcc; simp only [lookV] at hl; have HG2 := Lib.hid (HGW.out.below' hb1.out.1); have e2 := HG2.out.eEvent; clear hb1 hcc c0 c1 c2 fr d0 d1 d2 fz; obtain ⟨c0, c1, c2, fr⟩ := H2.out.box; obtain ⟨d0, d1, d2, fz⟩ := H2.out.out) | (go_at_call 65; refine (Hff.out _).mono ?_; rintro e w' ⟨rfl, rfl⟩) | (go_at_call 66; refine (Hou.out _).mono ?_; rintro e w' ⟨rfl, rfl⟩) | (refine (Hfn.out _ HG2.out).mono ?_; rintro e w3 ⟨rfl, hb3⟩; have hal : Hid (Below w3.heap.size w3 (w3.alloc (.cells #[.int .i64 k', .int .i64 n', tv L'] 34))) := (Below.refl _ _).alloc (Nat.le_refl _) _; have H3 : Hid (Boxes w (w3.alloc (.cells #[.int .i64 k', .int .i64 n', tv L'] 34)) k n L) := ⟨(H2.out.below.trans (hb3.out.mono H2.out.below.size)).trans (hal.out.mono (Nat.le_trans H2.out.below.size hb3.out.size)), (H2.out.box.below' hb3.out).below' hal.out, (H2.out.out.below' hb3.out).below' hal.out⟩; clear hb3 c0 c1 c2 fr d0 d1 d2 fz; obtain ⟨c0, c1, c2, fr⟩ := H3.out.box; obtain ⟨d0, d1, d2, fz⟩ := H3.out.out))
    exact bodyPost_ret (res49 _ _ (w.heap.size + 1) k' n' L' _ _ _ H3.out.out.set rfl rfl rfl rfl) rfl ⟨rfl, setSt_below H3.out.below (by omega) _ _ _⟩
  · have hke : (k == 2) = false := by simpa using hk2
    clear hc hk2
    have hB := boxes_new w k n L
    generalize hW : (w.alloc (.cells #[.int .i64 k, .int .i64 n, tv L] 34)).alloc (.cells #[.int .i64 0, .int .i64 0, .string ⟨#[]⟩] 34) = W at hB
    have HB := Lib.hid hB
    obtain ⟨c0, c1, c2, fr⟩ := hB.box
    obtain ⟨d0, d1, d2, fz⟩ := hB.out
    clear hB
    have HGW := Lib.hid (HG.out.below' HB.out.below)
    go_enter Tryz.func49, Tryz.ntmps49
    go_wp2_with (first | (go_at_call 64; refine (Ho.out _).mono ?_; rintro e w1 ⟨b, rfl, hb1⟩; have H2 : Hid (Boxes w w1 k n L) := ⟨HB.out.below.trans (hb1.out.1.mono HB.out.below.size), HB.out.box.below' hb1.out.1, HB.out.out.below' hb1.out.1⟩; obtain ⟨cc, hcc⟩ := hb1.out.2; have hl := Hlk.out w1 b cc hcc; simp only [lookV] at hl; have HG2 := Lib.hid (HGW.out.below' hb1.out.1); have e2 := HG2.out.eEvent; clear hb1 hcc c0 c1 c2 fr d0 d1 d2 fz; obtain ⟨c0, c1, c2, fr⟩ := H2.out.box; obtain ⟨d0, d1, d2, fz⟩ := H2.out.out) | (go_at_call 65; refine (Hff.out _).mono ?_; rintro e w' ⟨rfl, rfl⟩) | (refine (Hfn.out _ HG2.out).mono ?_; rintro e w3 ⟨rfl, hb3⟩; have hal : Hid (Below w3.heap.size w3 (w3.alloc (.cells #[.int .i64 k', .int .i64 n', tv L'] 34))) := (Below.refl _ _).alloc (Nat.le_refl _) _; have H3 : Hid (Boxes w (w3.alloc (.cells #[.int .i64 k', .int .i64 n', tv L'] 34)) k n L) := ⟨(H2.out.below.trans (hb3.out.mono H2.out.below.size)).trans (hal.out.mono (Nat.le_trans H2.out.below.size hb3.out.size)), (H2.out.box.below' hb3.out).below' hal.out, (H2.out.out.below' hb3.out).below' hal.out⟩; clear hb3 c0 c1 c2 fr d0 d1 d2 fz; obtain ⟨c0, c1, c2, fr⟩ := H3.out.box; obtain ⟨d0, d1, d2, fz⟩ := H3.out.out))
    exact bodyPost_ret (res49 _ _ (w.heap.size + 1) k' n' L' _ _ _ H3.out.out.set rfl rfl rfl rfl) rfl ⟨rfl, setSt_below H3.out.below (by omega) _ _ _⟩
end Go.Proofs.YtcjfcomadcebnaaGreatDoor
