/- From, by a contract. -/
import Derived.Test.YtgnpcbpbmalgiaaDoorSu
namespace Go.Proofs.YtgnpcbpbmalgiaaDoor
open Go.RowKit Go.Maps Go.WideMaps Go.WideElems Go.ChangeShapes Go.WideShapes

variable {T : TypeId} {er : Nat → Addr}

theorem cut_head (key : List UInt8) : (Lib.cut key [32]).1 = headL key := by
  unfold Lib.cut headL
  rw [Lib.index_one]
  split <;> rfl
theorem obj_kinds : ∀ kd : Nat, kd < 10 → (wrow 1).getD kd [] ≠ [] → 1 ≤ kd ∧ kd ≤ 4 := by decide
theorem code_kind {l : List UInt8} {kd : Nat} (h : codeL 1 l = some kd) : 1 ≤ kd ∧ kd ≤ 4 := by
  have hw : wordL 1 kd = l := codeL_word h
  have hl : l ≠ [] := by
    intro e
    subst e
    rw [codeL_out (.inl rfl)] at h
    cases h
  have h10 : kd < 10 := by
    by_cases h1 : kd < 10
    · exact h1
    · have : wordL 1 (kd : Int) = [] := by unfold wordL; rw [if_neg (by omega)]
      rw [this] at hw; exact absurd hw.symm hl
  have e : wordL 1 (kd : Int) = (wrow 1).getD kd [] := wordL_in (t := 1) (by decide) h10
  exact obj_kinds kd h10 (by rw [← e, hw]; exact hl)

/-- What From answers. -/
def fromV (T : TypeId) (er : Nat → Addr) : Except Nat PS → Value
  | .error 0 => .tuple #[stv 0 0 [], errE T er 1]
  | .error _ => .tuple #[stv 0 0 [], errE T er 4]
  | .ok s => .tuple #[stv s.kind s.n s.text, .nilIface]

theorem res13 (tmps : Array Value) (W : World) (Z : Nat) (k n : Int) (l : List UInt8) (v3 : Value) (h : StAt W Z k n l) (h2 : tmps.getD 2 undef = .pointer (some ⟨Z, 0, none⟩)) (h3 : tmps.getD 3 undef = v3) : (results Tryd.f13 tmps).run Tryd.prog W = .ok (.tuple #[stv k n l, v3]) W := by
  have hl := load_st h
  clear h
  have h2' : tmps[2]?.getD undef = .pointer (some ⟨Z, 0, none⟩) := by simpa using h2
  have h3' : tmps[3]?.getD undef = v3 := by simpa using h3
  simp [results, Tryd.results13, h2', h3', asAddr, hl]

set_option maxRecDepth 100000 in
set_option maxHeartbeats 2000000 in
theorem from_none (key : List UInt8) (hl : key.length ≤ 1000000000) (hc : codeL 1 (headL key) = none) (w : World) (hG : Glob T er w) : Calls Tryd.prog 13 #[tv key] w fun e w' => e = .returned (.tuple #[stv 0 0 [], errE T er 1]) ∧ Hid (Below w.heap.size w w') := by
  obtain ⟨W, hW⟩ : ∃ W, w.alloc (.cells #[.int .i64 0, .int .i64 0, .string ⟨#[]⟩] 27) = W := ⟨_, rfl⟩
  have hal : Below w.heap.size w W := by rw [← hW]; exact (Below.refl _ _).alloc (Nat.le_refl _) _
  have hz : StAt W w.heap.size 0 0 [] := by rw [← hW]; exact stAt_new w 0 0 []
  have hGW := hG.below' hal
  obtain ⟨m, hm⟩ := hGW.maxLen
  have hcu := Tryd.strings_Cut ⟨key.toArray⟩ ⟨#[32]⟩ m W (by rw [tv_size]; omega) hm
  rw [tv_data, show (⟨#[32]⟩ : ByteArray).data.toList = [32] from rfl, cut_head] at hcu
  have Hcu := Lib.hid hcu
  have hco := fun W (h : WordsAt W) => code_any 1 (headL key) W h
  rw [hc] at hco
  have Hco := Lib.hid hco
  have HGW := Lib.hid hGW
  have Hal := Lib.hid hal
  have Hz := Lib.hid hz
  obtain ⟨d0, d1, d2, fz⟩ := hz
  have e1 := hGW.eWord
  have hz1 := hG.size
  generalize headL key = hd at *
  generalize (Lib.cut key [32]).2.1 = x1 at *
  generalize (Lib.cut key [32]).2.2 = x2 at *
  clear hcu hco hm hGW hal hc hG hl
  go_enter Tryd.func13, Tryd.ntmps13
  go_wp2_with (first
    | (go_at_call 23; refine Hcu.out.mono ?_; rintro e w' ⟨rfl, q, rfl⟩; have HG1 := Lib.hid (HGW.out.drewN q); have ez : (W.drewN q).cell? ⟨1, 0, none⟩ = _ := e1)
    | (go_at_call 24; refine (Hco.out _ HG1.out.words).mono ?_; rintro e w' ⟨rfl, rfl⟩))
  refine wp_region_held_drew (S := (fun w' => w'.cell? ⟨1, 0, none⟩ = some (.iface T (.pointer (some (er 1)))))) (by kernel_rfl) ez (fun hHeld => ?_)
  refine held_take 0 (some 25) ?_ rfl rfl (by kernel_rfl) (by kernel_rfl) (by kernel_rfl) (fun _ _ _ h => h) (by kernel_rfl) ?_ (by assumption) ?_
  rotate_left
  · intro w hSw; (try dsimp only at hSw); go_simp <;> (try with_reducible rfl)
  simp only [Act.put, List.setIfInBounds_toArray, List.set_cons_zero, List.set_cons_succ]
  refine held_take 1 (some 26) ?_ rfl rfl (by kernel_rfl) (by kernel_rfl) (by kernel_rfl) (fun _ _ _ h => h) (by kernel_rfl) ?_ (by assumption) ?_
  rotate_left
  · intro w hSw; (try dsimp only at hSw); go_simp <;> (try with_reducible rfl)
  simp only [Act.put, List.setIfInBounds_toArray, List.set_cons_zero, List.set_cons_succ]
  refine wpAnyH_ready (rs := [2]) (by kernel_rfl) (by simp) (AllReadyH.cons rfl (fun K hK => ?_) AllReadyH.nil)
  go_simp
  refine hK.out _ _ ?_ (fun hHeld => ?_)
  · (try dsimp only); exact (World.cell?_drew ..).trans ((setSt_far (W.drewN q) w.heap.size 0 0 [] 1 0 (by omega)).trans ez)
  clear hK K
  try simp only [Act.put, List.setIfInBounds_toArray, List.set_cons_zero, List.set_cons_succ]
  refine held_take 3 (some 3) ?_ rfl rfl (by kernel_rfl) (by kernel_rfl) (by kernel_rfl) (fun _ _ _ h => h) (by kernel_rfl) ?_ (by assumption) ?_
  rotate_left
  · intro w hSw; (try dsimp only at hSw); go_simp <;> (try with_reducible rfl)
  simp only [Act.put, List.setIfInBounds_toArray, List.set_cons_zero, List.set_cons_succ]
  refine wpAnyH_done (by kernel_rfl) ?_ _
  go_wp2
  exact bodyPost_ret (res13 _ _ w.heap.size 0 0 [] _ (Hz.out.drewN q).set.drew rfl rfl) rfl ⟨rfl, below_drew (setSt_below (below_drewN Hal.out q) (by omega) _ _ _)⟩
end Go.Proofs.YtgnpcbpbmalgiaaDoor
