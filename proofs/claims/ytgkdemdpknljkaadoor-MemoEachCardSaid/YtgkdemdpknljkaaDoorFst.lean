/- The chapter's examples: the function that begins each statement of package memo answers true and turns nothing that was there. -/
import Derived.Test.YtgkdemdpknljkaaDoorOns
import Derived.LaidEql
namespace Go.Proofs.YtgkdemdpknljkaaDoor
open Go.RowKit Go.Maps Go.WideMaps Go.WideElems Go.ChangeShapes Go.WideShapes

set_option maxHeartbeats 400000 in
theorem news (m : Int) (w : World) : Calls Tryd.prog 26 #[.int .i64 m] w fun e w' => e = .returned (.pointer (some ⟨w.heap.size, 0, none⟩)) ∧ w.alloc (.cells #[.int .i64 (max m 0), .slice none 0 0, .map none] 80) = w' := by
  go_enter Tryd.func26, Tryd.ntmps26
  go_wp2
  · go_ret
    exact ⟨rfl, by rw [show max m 0 = 0 by omega]⟩
  · go_ret
    exact ⟨rfl, by rw [show max m 0 = m by omega]⟩

/-- A set that has just been made. -/
theorem set_made (k T : TypeId) (m : Int) (hm : 0 ≤ m) (hm' : m ≤ 9223372036854775807) (B : Nat) (w : World) (hB : B ≤ w.heap.size) : SetI k T B (w.alloc (.cells #[.int .i64 m, .slice none 0 0, .map none] T)) w.heap.size (.slice none 0 0) (.map none) m [] [] :=
  ⟨heap_alloc_new w _, World.ownsRow_nil _ _ _ _, .inl ⟨rfl, fun _ => rfl⟩, rfl, by simpa using hm, hm', hB, fun b h => by cases h⟩
theorem queue_made (B : Nat) (w : World) (hB : B ≤ w.heap.size) : QuI B (w.alloc (.cells #[.slice none 0 0, .int .i64 0] 42)) w.heap.size (.slice none 0 0) 0 [] :=
  ⟨heap_alloc_new w _, World.ownsRow_nil _ _ _ _, Nat.le_refl _, hB⟩
theorem log_made (k T : TypeId) (B : Nat) (w : World) (hB : B ≤ w.heap.size) : LogI k T B (w.alloc (.cells #[.int .i64 0, .map none] T)) w.heap.size (.map none) 0 (fun _ => none) :=
  ⟨heap_alloc_new w _, .inl ⟨rfl, fun _ => rfl⟩, hB, fun b h => by cases h⟩

theorem small (l : List UInt8) (h : l.length ≤ 100) : (⟨l.toArray⟩ : ByteArray).size ≤ maxLen := by
  show l.toArray.size ≤ maxLen
  rw [List.size_toArray]; unfold maxLen; omega

/-- Nothing below B has turned. -/
theorem Only.old {B : Nat} {F : Nat → Prop} {w wi wj : World} (h : Only (fun _ => False) w wi) (k : Only F wi wj) (hB : B = w.heap.size) (hF : ∀ i, F i → B ≤ i) : Only (fun _ => False) w wj :=
  h.trans k (fun _ h => h) (fun i hi => .inr (by have := hF i hi; omega))

theorem info_some {P : Program} {t : TypeId} {b : Bool} (h : (P.info? t).map (fun i => i.comparable) = some b) : ∃ i, P.info? t = some i ∧ i.comparable = b := by
  cases hi : P.info? t with
  | none => simp [hi] at h
  | some i => exact ⟨i, rfl, by simpa [hi] using h⟩
theorem eq_budget (a : Addr) (w : World) : (binOp .eql 27 (.iface 88 (.pointer (some a))) (.iface 88 (.pointer (some a)))).run Tryd.prog w = .ok (.bool true) w := by
  obtain ⟨i, hi, hc⟩ := info_some (P := Tryd.prog) (t := 88) (b := true) (by kernel_rfl)
  obtain ⟨j, hj, _⟩ := info_some (P := Tryd.prog) (t := 105) (b := true) (by kernel_rfl)
  exact run_eql_iface_ptr_same w (te := 105) a Tryd.underlying27 Tryd.underlying88 hi hc hj

set_option maxHeartbeats 1600000 in
theorem first_any (w : World) (ea : Addr) (hg : w.cell? ⟨0, 0, none⟩ = some (.iface 88 (.pointer (some ea)))) : Calls Tryd.prog 8 #[] w fun e w' => e = .returned (.bool true) ∧ Only (fun _ => False) w w' := by
  have hpos : 0 < w.heap.size := World.block_lt_of_cell? w _ hg
  obtain ⟨B, hB⟩ : ∃ B, B = w.heap.size := ⟨_, rfl⟩
  have Hs0 := Lib.hid (set_made 9 80 2 (by decide) (by decide) B w (by omega))
  have Ho0 := Lib.hid (Only.of_alloc w (.cells #[.int .i64 2, .slice none 0 0, .map none] 80))
  have Hg := Lib.hid hg
  have HB := Lib.hid hB
  clear hg hB
  go_enter Tryd.func8, Tryd.ntmps8
  go_wp2_with fail
  refine (news 2 w).mono ?_
  rintro e w1 ⟨rfl, hw1⟩
  rw [show max (2 : Int) 0 = 2 by decide] at hw1
  obtain ⟨sb, hsb⟩ : ∃ sb, sb = w.heap.size := ⟨_, rfl⟩
  rw [← hsb] at Hs0
  rw [hw1] at Hs0 Ho0
  rw [← hsb]
  have Hsb := Lib.hid hsb
  clear hw1 hsb
  have HBs : Hid (B ≤ w1.heap.size) := by rw [HB.out]; exact Ho0.out.size
  go_wp2_with fail
  -- Add a
  refine (sets_add_new B sb _ _ 2 [] [] ⟨#[97]⟩ w1 (small _ (by decide)) Hs0.out rfl (by decide) (by decide) HBs.out).mono ?_
  rintro e w2 ⟨rfl, v1, mv1, hp⟩
  have Hs1 : Hid (SetI 9 80 B w2 sb v1 mv1 2 [.string [97]] [.string ⟨#[97]⟩]) := hp.set
  have Ho1 : Hid (Only (fun _ => False) w w2) := Ho0.out.old hp.only HB.out (fun i hi => (Hs0.out.lt i hi).1)
  clear hp Hs0 Ho0 HBs
  have HBs : Hid (B ≤ w2.heap.size) := by rw [HB.out]; exact Ho1.out.size
  go_wp2_with fail
  -- Add b
  refine (sets_add_new B sb _ _ 2 _ _ ⟨#[98]⟩ w2 (small _ (by decide)) Hs1.out rfl (by decide) (by decide) HBs.out).mono ?_
  rintro e w3 ⟨rfl, v2, mv2, hp⟩
  have Hs2 : Hid (SetI 9 80 B w3 sb v2 mv2 2 [.string [97], .string [98]] [.string ⟨#[97]⟩, .string ⟨#[98]⟩]) := hp.set
  have Ho2 : Hid (Only (fun _ => False) w w3) := Ho1.out.old hp.only HB.out (fun i hi => (Hs1.out.lt i hi).1)
  clear hp Hs1 Ho1 HBs
  go_wp2_with fail
  -- Add a again
  refine (sets_add_has B sb _ _ 2 _ _ ⟨#[97]⟩ w3 (small _ (by decide)) Hs2.out rfl).mono ?_
  rintro e w4 ⟨rfl, ho⟩
  have Hs3 : Hid (SetI 9 80 B w4 sb v2 mv2 2 [.string [97], .string [98]] [.string ⟨#[97]⟩, .string ⟨#[98]⟩]) := Hs2.out.only ho (fun _ _ x => x)
  have Ho3 : Hid (Only (fun _ => False) w w4) := Ho2.out.old ho HB.out (fun i (hi : False) => hi.elim)
  clear ho Hs2 Ho2
  have Hg4 : Hid (w4.cell? ⟨0, 0, none⟩ = some (.iface 88 (.pointer (some ea)))) := (World.cell?_of_block (w := w) (Ho3.out.block 0 hpos (fun h => h))).trans Hg.out
  have Hp4 : Hid (0 < w4.heap.size) := Nat.lt_of_lt_of_le hpos Ho3.out.size
  go_wp2_with fail
  -- Add c
  refine (sets_add_full B sb _ _ 2 _ _ ⟨#[99]⟩ w4 _ (small _ (by decide)) Hs3.out rfl rfl Hg4.out Hp4.out).mono ?_
  rintro e w5 ⟨rfl, ho⟩
  have Hs4 : Hid (SetI 9 80 B w5 sb v2 mv2 2 [.string [97], .string [98]] [.string ⟨#[97]⟩, .string ⟨#[98]⟩]) := Hs3.out.only ho (fun _ _ x => x)
  have Ho4 : Hid (Only (fun _ => False) w w5) := Ho3.out.old ho HB.out (fun i (hi : False) => hi.elim)
  clear ho Hs3 Ho3 Hg4 Hp4
  have hpl := sets_place B sb _ _ 2 _ _ ⟨#[98]⟩ w5 (small _ (by decide)) Hs4.out
  have hid1 : idxOf [.string [97], .string [98]] (.string (⟨#[98]⟩ : ByteArray).data.toList) = some 1 := rfl
  simp only [hid1, Option.getD_some, Option.isSome_some] at hpl
  have Hpl := Lib.hid hpl
  clear hpl hid1
  go_wp2_with fail
  -- Place b
  refine Hpl.out.mono ?_
  rintro e w6 ⟨rfl, hw6⟩
  have Hs5 : Hid (SetI 9 80 B w6 sb v2 mv2 2 [.string [97], .string [98]] [.string ⟨#[97]⟩, .string ⟨#[98]⟩]) := by rw [← hw6]; exact Hs4.out.only (Only.of_alloc _ _) (fun _ _ x => x)
  have Ho5 : Hid (Only (fun _ => False) w w6) := by rw [← hw6]; exact Ho4.out.old (Only.of_alloc _ _) HB.out (fun i (hi : False) => hi.elim)
  clear hw6 Hs4 Ho4 Hpl
  obtain ⟨qb, hqb⟩ : ∃ qb, qb = w6.heap.size := ⟨_, rfl⟩
  have hq0 := queue_made qb w6 (by omega)
  have hoq := Only.of_alloc w6 (.cells #[.slice none 0 0, .int .i64 0] 42)
  rw [← hqb] at hq0
  have Hqb := Lib.hid hqb
  have Hq0 := Lib.hid hq0
  have Hoq := Lib.hid hoq
  clear hqb hq0 hoq
  go_wp2_with fail
  rw [← Hqb.out]
  generalize hw7 : w6.alloc (.cells #[.slice none 0 0, .int .i64 0] 42) = w7 at *
  clear hw7
  have HBq : Hid (qb ≤ w7.heap.size) := by rw [Hqb.out]; exact Hoq.out.size
  -- Put 1
  refine (qus_put qb qb _ 0 [] 1 w7 Hq0.out (by decide) HBq.out).mono ?_
  rintro e w8 ⟨rfl, u1, hp⟩
  have Hq1 : Hid (QuI qb w8 qb u1 0 [1]) := hp.q
  have Hoq1 : Hid (Only (fun _ => False) w6 w8) := Hoq.out.old hp.only Hqb.out (fun i hi => (Hq0.out.lt i hi).1)
  clear hp Hq0 Hoq HBq
  have HBq : Hid (qb ≤ w8.heap.size) := by rw [Hqb.out]; exact Hoq1.out.size
  go_wp2_with fail
  -- Put 2
  refine (qus_put qb qb _ 0 [1] 2 w8 Hq1.out (by decide) HBq.out).mono ?_
  rintro e w9 ⟨rfl, u2, hp⟩
  have Hq2 : Hid (QuI qb w9 qb u2 0 [1, 2]) := hp.q
  have Hoq2 : Hid (Only (fun _ => False) w6 w9) := Hoq1.out.old hp.only Hqb.out (fun i hi => (Hq1.out.lt i hi).1)
  clear hp Hq1 Hoq1 HBq
  go_wp2_with fail
  -- Take
  have htk := qus_take qb qb u2 0 [1, 2] w9 Hq2.out (by decide) (by decide)
  refine htk.mono ?_
  clear htk
  rintro e w10 ⟨he, u3, k3, xs3, hp⟩
  have Hq3 : Hid (QuI qb w10 qb u3 k3 xs3) := hp.q
  have hdr2 : xs3.drop k3 = [2] := hp.left
  have Hl3 : Hid (xs3.length = k3 + 1) := by
    have h1 := congrArg List.length hdr2
    have h2 := hp.q.le
    simp at h1
    show xs3.length = k3 + 1
    omega
  have Hoq3 : Hid (Only (fun _ => False) w6 w10) := Hoq2.out.old hp.only Hqb.out (fun i hi => (Hq2.out.lt i hi).1)
  have Hsm3 : Hid (xs3.length < 1000000) := Nat.lt_of_le_of_lt hp.small (by decide)
  obtain rfl : e = .returned (.tuple #[.int .i64 1, .bool true]) := he
  clear hp hdr2 Hq2 Hoq2
  obtain ⟨lb, hlb⟩ : ∃ lb, lb = w10.heap.size := ⟨_, rfl⟩
  have hl0 := log_made 9 71 lb w10 (by omega)
  have hol := Only.of_alloc w10 (.cells #[.int .i64 0, .map none] 71)
  rw [← hlb] at hl0
  have Hlb := Lib.hid hlb
  have Hl0 := Lib.hid hl0
  have Hol := Lib.hid hol
  clear hlb hl0 hol
  go_wp2_with fail
  rw [← Hlb.out]
  generalize hw11 : w10.alloc (.cells #[.int .i64 0, .map none] 71) = w11 at *
  clear hw11
  have HBl : Hid (lb ≤ w11.heap.size) := by rw [Hlb.out]; exact Hol.out.size
  -- Note a
  refine (lgs_note_new lb lb _ 0 _ ⟨#[97]⟩ 1 w11 (small _ (by decide)) Hl0.out rfl (by decide) HBl.out).mono ?_
  rintro e w12 ⟨rfl, mv4, hp⟩
  have Hl1 := Lib.hid hp.log
  have Hol1 : Hid (Only (fun _ => False) w10 w12) := Hol.out.old hp.only Hlb.out (fun i hi => (Hl0.out.lt i hi).1)
  clear hp Hl0 Hol HBl
  have HBl : Hid (lb ≤ w12.heap.size) := by rw [Hlb.out]; exact Hol1.out.size
  go_wp2_with fail
  -- Once b
  refine (ons_new35 lb lb _ 1 _ ⟨#[98]⟩ w12 (small _ (by decide)) Hl1.out rfl (by decide) HBl.out).mono ?_
  rintro e w13 ⟨rfl, mv5, hp⟩
  have Hl2 := Lib.hid hp.log
  have Hol2 : Hid (Only (fun _ => False) w10 w13) := Hol1.out.old hp.only Hlb.out (fun i hi => (Hl1.out.lt i hi).1)
  clear hp Hl1 Hol1 HBl
  go_wp2_with fail
  -- Once b again
  refine (ons_old lb lb _ 2 _ ⟨#[98]⟩ _ 7 w13 (small _ (by decide)) Hl2.out rfl).mono ?_
  rintro e w14 ⟨rfl, ho⟩
  have Hl3' := Lib.hid (Hl2.out.only ho (fun _ _ x => x))
  have Hol3 : Hid (Only (fun _ => False) w10 w14) := Hol2.out.old ho Hlb.out (fun i (hi : False) => hi.elim)
  clear ho Hl2 Hol2
  -- the end
  have Hoq4 : Hid (Only (fun _ => False) w6 w14) := Hoq3.out.old Hol3.out Hqb.out (fun i (hi : False) => hi.elim)
  have Ho6 : Hid (Only (fun _ => False) w w14) := Ho5.out.old Hoq4.out HB.out (fun i (hi : False) => hi.elim)
  have hg14 : w14.cell? ⟨0, 0, none⟩ = some (.iface 88 (.pointer (some ea))) := (World.cell?_of_block (w := w) (Ho6.out.block 0 hpos (fun h => h))).trans Hg.out
  have heq := fun w => eq_budget ea w
  have Hroom := Lib.hid (sets_room B sb _ _ 2 _ _ w14 (Hs5.out.only Hoq4.out (fun _ _ x => x)))
  have Hq14 := Lib.hid (Hq3.out.only Hol3.out (fun _ _ x => x))
  go_wp2_with (go_at_call 30; refine Hroom.out.mono ?_; rintro e w15 ⟨rfl, n15, hw15⟩)
  have hod : Only (fun _ => False) w14 w15 := by rw [← hw15]; exact Only.of_drewN _ _
  clear hw15
  have hln := qus_len qb qb u3 k3 xs3 w15 (Hq14.out.only hod (fun _ _ x => x)) Hsm3.out
  rw [show (xs3.length : Int) - k3 = 1 by have := Hl3.out; omega] at hln
  have Hln := Lib.hid hln
  have Hl15 := Lib.hid (Hl3'.out.only hod (fun _ _ x => x))
  have Ho15 : Hid (Only (fun _ => False) w w15) := Ho6.out.old hod HB.out (fun i (hi : False) => hi.elim)
  clear hln hod
  go_wp2_with (go_at_call 20; refine Hln.out.mono ?_; rintro e w16 ⟨rfl, n16, hw16⟩)
  have hod : Only (fun _ => False) w15 w16 := by rw [← hw16]; exact Only.of_drewN _ _
  clear hw16
  have Hll := Lib.hid (lgs_len lb lb _ 2 _ w16 (Hl15.out.only hod (fun _ _ x => x)))
  have Ho16 : Hid (Only (fun _ => False) w w16) := Ho15.out.old hod HB.out (fun i (hi : False) => hi.elim)
  clear hod
  go_wp2_with (go_at_call 37; refine Hll.out.mono ?_; rintro e w17 ⟨rfl, rfl⟩)
  go_ret
  exact ⟨rfl, Ho16.out⟩
end Go.Proofs.YtgkdemdpknljkaaDoor
