/- The walk of the statement on queues. -/
import Derived.Test.YtgkdemdpknljkaaDoorInts
import Derived.Test.YtgkdemdpknljkaaDoorFst
namespace Go.Proofs.YtgkdemdpknljkaaDoor
open Go.RowKit Go.Maps Go.WideMaps Go.WideElems Go.ChangeShapes Go.WideShapes

/-- What holds at the head of each round: the queue and the list beside it have the same elements. -/
def QRel (w0 : World) (qb : Nat) (i : Nat) (lv : Value) (wr : World) : Prop :=
  ∃ (qv : Value) (k : Nat) (xs : List Int), QuI w0.heap.size wr qb qv k xs ∧ wr.ownsRow w0.heap.size 3 1 lv (xs.length - k) (I (xs.drop k)) ∧ (∀ b, lv.ownBlock = some b → ¬ qfoot qb qv b) ∧ Only (fun _ => False) w0 wr ∧ xs.length ≤ i

theorem QRel.put {w0 wr w1 w2 : World} {qb i : Nat} {lv lv' : Value} {qv qv' : Value} {k : Nat} {xs : List Int} {x : Int} {o : Obj} (hq : QuI w0.heap.size wr qb qv k xs) (hl : ∀ b, lv.ownBlock = some b → ¬ qfoot qb qv b) (hlt : ∀ b, lv.ownBlock = some b → b < wr.heap.size) (ho : Only (fun _ => False) w0 wr) (hi : xs.length ≤ i)
    (hp : QuPost w0.heap.size wr qb qv w1 qv' k (xs ++ [x])) (hown : w2.ownsRow w0.heap.size 3 1 lv' (xs.length - k + 1) (I (xs.drop k) ++ [.int .i64 x])) (hg : (w1.alloc o).grownBy w2 lv.ownBlock) (hloc : lv'.ownBlock = lv.ownBlock ∨ lv'.ownBlock = some (w1.heap.size + 1)) (hB : ∀ b, lv.ownBlock = some b → w0.heap.size ≤ b) :
    QRel w0 qb (i + 1) lv' w2 := by
  have o2 : Only (fun i => lv.ownBlock = some i) w1 w2 := (Only.of_alloc w1 o).trans (Only.of_grown hg) (fun _ (h : False) => h.elim) (fun _ h => .inl h)
  have hs01 := hp.only.size
  have hk := hq.le
  have hdis : ∀ b, lv.ownBlock = some b → ¬ qfoot qb qv' b := by
    intro b hb hf
    rcases hp.from' b hf with h | h
    · exact hl b hb h
    · have := hlt b hb; omega
  refine ⟨qv', k, xs ++ [x], hp.q.only o2 (fun i hi e => hdis i e hi), ?_, ?_, ?_, by simp; omega⟩
  · have e1 : (xs ++ [x]).length - k = xs.length - k + 1 := by simp; omega
    have e2 : I ((xs ++ [x]).drop k) = I (xs.drop k) ++ [.int .i64 x] := by rw [List.drop_append_of_le_length hk]; simp [I]
    rw [e1, e2]
    exact hown
  · intro b hb
    rcases hloc with h | h
    · exact hdis b (h ▸ hb)
    · intro hf
      rw [h] at hb; cases hb
      have := (hp.q.lt _ hf).2
      omega
  · exact (ho.trans hp.only (H := fun _ => False) (fun _ h => h) (fun i hi => .inr (hq.lt i hi).1)).trans o2 (fun _ h => h) (fun i hi => .inr (hB i hi))

theorem QRel.take {w0 wr w1 w2 : World} {qb i : Nat} {lv' : Value} {qv qv' : Value} {k k' : Nat} {xs xs' : List Int} (hq : QuI w0.heap.size wr qb qv k xs) (ho : Only (fun _ => False) w0 wr) (hi : xs.length ≤ i)
    (hp : TakePost w0.heap.size wr qb qv k xs w1 qv' k' xs') (hown : w2.ownsRow w1.heap.size 3 1 lv' (xs.length - k - 1) (I (xs.drop (k + 1)))) (h2 : Only (fun _ => False) w1 w2) : QRel w0 qb (i + 1) lv' w2 := by
  have hs := hp.only.size
  have hs0 := ho.size
  have hd := hp.left
  have hdl := congrArg List.length hd
  simp at hdl
  refine ⟨qv', k', xs', hp.q.only h2 (fun _ _ h => h), ?_, ?_, ?_, by have := hp.small; omega⟩
  · rw [hd, hdl, show xs.length - (k + 1) = xs.length - k - 1 by omega]
    refine ⟨hown.1, ?_⟩
    rcases hown.2 with hn | ⟨g, cap, cur, e, hb, r⟩
    · exact .inl hn
    · exact .inr ⟨g, cap, cur, e, by omega, r⟩
  · intro b hb hf
    have h1 := (hown.lt b hb).1
    have h3 := (hp.q.lt b hf).2
    omega
  · exact (ho.trans hp.only (H := fun _ => False) (fun _ h => h) (fun i hi => .inr (hq.lt i hi).1)).trans h2 (fun _ h => h) (fun _ h => .inl h)

theorem QRel.only {w0 wr wr' : World} {qb i : Nat} {lv : Value} (h : QRel w0 qb i lv wr) (ho : Only (fun _ => False) wr wr') : QRel w0 qb i lv wr' := by
  obtain ⟨qv, k, xs, h1, h2, h3, h4, h5⟩ := h
  exact ⟨qv, k, xs, h1.only ho (fun _ _ h => h), ownsRow_only h2 ho (fun _ _ h => h), h3, h4.trans ho (fun _ h => h) (fun _ h => .inl h), h5⟩
theorem QRel.mono {w0 wr : World} {qb i j : Nat} {lv : Value} (h : QRel w0 qb i lv wr) (hij : i ≤ j) : QRel w0 qb j lv wr := by
  obtain ⟨qv, k, xs, h1, h2, h3, h4, h5⟩ := h
  exact ⟨qv, k, xs, h1, h2, h3, h4, Nat.le_trans h5 hij⟩

theorem ownsRow_len {w : World} {B : Nat} {e : TypeId} {a : Option Addr} {m c n : Nat} {xs : List Value} (h : w.ownsRow B e 1 (.slice a m c) n xs) : n = m := by
  rcases h.2 with ⟨h1, h2⟩ | ⟨g, cap, cur, h1, _⟩
  · cases h1; exact h2
  · cases h1; rfl

/-- Len at the head of a round: the number of the list beside. -/
theorem QRel.len {w0 wr : World} {qb i : Nat} {a : Option Addr} {m c : Nat} (h : QRel w0 qb i (.slice a m c) wr) (hi : i < 1000000) :
    Calls Tryd.prog 20 #[.pointer (some ⟨qb, 0, none⟩)] wr fun e w' => e = .returned (.int .i64 (m : Int)) ∧ Hid (QRel w0 qb i (.slice a m c) w') := by
  obtain ⟨qv, k, xs, h1, h2, h3, h4, h5⟩ := id h
  have hm := ownsRow_len h2
  have hk := h1.le
  refine (qus_len _ qb qv k xs wr h1 (by omega)).mono ?_
  rintro e w' ⟨rfl, n, rfl⟩
  exact ⟨by rw [show (xs.length : Int) - k = (m : Int) by omega], h.only (Only.of_drewN _ _)⟩

set_option maxHeartbeats 400000 in
theorem queues_many (a : Option Addr) (n c : Nat) (w : World) (ea : Addr) (hg : w.cell? ⟨0, 0, none⟩ = some (.iface 88 (.pointer (some ea)))) (hn : 300 < n) :
    Calls Tryd.prog 5 #[.slice a n c] w fun e w' => e = .returned (.bool true) ∧ Only (fun _ => False) w w' := by
  have Hf := Lib.hid (first_any w ea hg)
  have hn' : (300 : Int) < n := by omega
  clear hg
  go_enter Tryd.func5, Tryd.ntmps5
  go_wp2_with (go_at_call 8; refine Hf.out.mono ?_; rintro e w1 ⟨rfl, ho⟩)
  go_ret
  exact ⟨rfl, ho⟩

set_option maxHeartbeats 1600000 in
theorem queues_some (b off n c : Nat) (K A : Nat → Int) (w : World) (ea : Addr) (hg : w.cell? ⟨0, 0, none⟩ = some (.iface 88 (.pointer (some ea)))) (hn : n ≤ 300) (hK : ∀ i, i < n → w.cell? ⟨b, off + i * 3, none⟩ = some (.int .i64 (K i))) (hA : ∀ i, i < n → w.cell? ⟨b, off + i * 3 + 1, none⟩ = some (.int .i64 (A i))) (hpos : 0 < n) :
    Calls Tryd.prog 5 #[.slice (some ⟨b, off, none⟩) n c] w fun e w' => e = .returned (.bool true) ∧ Only (fun _ => False) w w' := by
  obtain ⟨i0, hi, hz0, hz1, hz2⟩ := info_parts Tryd.info3
  have hb : b < w.heap.size := World.block_lt_of_cell? w _ (hK 0 hpos)
  have Hf := Lib.hid (first_any w ea hg)
  have HK := Lib.hid hK
  have HA := Lib.hid hA
  have hd : decide ((300 : Int) < (n : Int)) = false := by simp; omega
  clear hg hK hA
  go_enter Tryd.func5, Tryd.ntmps5
  go_wp2_with (go_at_call 8; refine Hf.out.mono ?_; rintro e w1 ⟨rfl, ho⟩)
  obtain ⟨qb, hqb⟩ : ∃ qb, qb = w1.heap.size := ⟨_, rfl⟩
  rw [← hqb]
  have hstart : QRel w qb 0 (.slice none 0 0) (w1.alloc (.cells #[.slice none 0 0, .int .i64 0] 42)) := by
    have hq := queue_made w.heap.size w1 ho.size
    rw [← hqb] at hq
    exact ⟨_, 0, [], hq, World.ownsRow_nil _ _ _ _, (fun b hb => by cases hb), ho.trans (Only.of_alloc _ _) (fun _ h => h) (fun _ h => .inl h), Nat.le_refl _⟩
  have Hstart := Lib.hid hstart
  clear hstart hqb ho
  go_loopw [5, 6] (fun v i wr => ∃ j : Nat, j ≤ n ∧ i = .int .i64 j ∧ Hid (QRel w qb j v wr)) (fun _ i _ => n - (intOf i).toNat)
  case atStart => exact ⟨0, Nat.zero_le _, rfl, Hstart.out⟩
  case round =>
    obtain ⟨j, hj, rfl, Hrel⟩ := hrel
    by_cases hlt : j < n
    · obtain ⟨qv, k, xs, hq, hrow, hdis, ho, hle⟩ := Hrel.out
      have c0 : wr.cell? ⟨b, off + j * 3, none⟩ = some (.int .i64 (K j)) := (World.cell?_of_block (w := w) (ho.block b hb (fun h => h))).trans (HK.out j hlt)
      have c1 : wr.cell? ⟨b, off + j * 3 + 1, none⟩ = some (.int .i64 (A j)) := (World.cell?_of_block (w := w) (ho.block b hb (fun h => h))).trans (HA.out j hlt)
      have hsz := ho.size
      have hkl := hq.le
      have hsm : xs.length < 1000000 := by omega
      have hrl := hrow.lt
      have Hq := Lib.hid hq
      have Hrow := Lib.hid hrow
      have Hdis := Lib.hid hdis
      have Ho := Lib.hid ho
      have Hrl := Lib.hid hrl
      obtain ⟨la, lc, rfl⟩ := ownsRow_shape hrow
      clear hq hrow hdis ho hrl Hrel
      generalize hkj : K j = kj at *
      generalize hxj : A j = xj at *
      clear hkj hxj
      by_cases h1 : kj = 1
      · subst h1
        go_wp2_with fail
        refine (qus_put w.heap.size qb qv k xs xj wr Hq.out hsm hsz).mono ?_
        rintro e w2 ⟨rfl, qv2, hp⟩
        have hs2 := hp.only.size
        have hrow2 : w2.ownsRow w.heap.size 3 1 (.slice la (xs.length - k) lc) (xs.length - k) (I (xs.drop k)) := ownsRow_only Hrow.out hp.only (fun b hb => Hdis.out b hb)
        have c12 : w2.cell? ⟨b, off + j * 3 + 1, none⟩ = some (.int .i64 xj) := (World.cell?_of_block (w := wr) (hp.only.block b (by omega) (fun e => by have := (Hq.out.lt b e).1; omega))).trans c1
        have Hp := Lib.hid hp
        clear hp c0 c1
        go_wp2_with (at_builtin; refine wpList_append_own_at _ rfl _ _ 22 rfl w.heap.size 3 i0 (.int .i64 0) 1 8 Tryd.under22 hi hz0 hz1 hz2 rfl (by decide) _ _ _ rfl (hrow2.alloc _) ⟨w2.heap.size, 0, none⟩ 1 1 [.int .i64 xj] rfl rfl (cell_one_new _ _ _) ?c2 ?c3 ?c4 ?c5 ?_)
        case c2 => intro u hu; simp at hu; subst hu; rfl
        case c3 => unfold maxLen; omega
        case c4 => omega
        case c5 => simp; omega
        intro v' w4 hown4 hgrow4 _ hloc
        have hown4' : w4.ownsRow w.heap.size 3 1 v' (xs.length - k + 1) (I (xs.drop k) ++ [.int .i64 xj]) := by
          have e : I (xs.drop k) = List.drop k (List.map (Value.int .i64) xs) := by simp [I]
          rw [e]
          exact hown4
        have hrel4 := QRel.put Hq.out Hdis.out (fun b hb => (Hrl.out b hb).2) Ho.out hle Hp.out hown4' hgrow4 (by simpa using hloc) (fun b hb => (Hrl.out b hb).1)
        obtain ⟨a4, cp4, rfl⟩ := ownsRow_shape hown4'
        have Hlen := Lib.hid (hrel4.len (by omega))
        clear hown4 hown4' hgrow4 hloc hrel4 Hp hrow2 c12
        go_wp2_with (go_at_call 20; refine Hlen.out.mono ?_; rintro e w5 ⟨rfl, HR⟩)
        go_roundw
        case rel => exact ⟨j + 1, by omega, by go_num, HR.out⟩
        case measure => simp [intOf]; omega
      · have hne : (kj == 1) = false := by simpa using h1
        by_cases hm0 : k = xs.length
        · have em : xs.length - k = 0 := by omega
          rw [em] at Hrow ⊢
          have Hr0 : Hid (QRel w qb j (.slice la 0 lc) wr) := ⟨qv, k, xs, Hq.out, by rw [em]; exact Hrow.out, by rw [em] at Hdis; exact Hdis.out, Ho.out, hle⟩
          have Htk := Lib.hid (qus_take_none _ qb qv k xs wr Hq.out hsm hm0)
          clear c1 Hrow Hdis Hrl
          have hd0 : decide ((0 : Int) < 0) = false := by decide
          go_wp2_with (go_at_call 18; refine Htk.out.mono ?_; rintro e w2 ⟨rfl, ho2⟩; have Hlen := Lib.hid ((Hr0.out.only ho2).len (by omega)); clear ho2)
          go_wp2_with (go_at_call 20; refine Hlen.out.mono ?_; rintro e w5 ⟨rfl, HR⟩)
          go_roundw
          case rel => exact ⟨j + 1, by omega, by go_num, HR.out.mono (by omega)⟩
          case measure => simp [intOf]; omega
        · have hkx : k < xs.length := by omega
          obtain ⟨m, hm⟩ : ∃ m, xs.length - k = m + 1 := ⟨xs.length - k - 1, by omega⟩
          have hxm : xs.length - k - 1 = m := by omega
          have Htk := Lib.hid (qus_take _ qb qv k xs wr Hq.out hsm hkx)
          rcases Hrow.out.2 with ⟨e1, e2⟩ | ⟨g, cap, cur, e1, hbg, hgg, hncap, hcapm, hcsz, htake⟩
          · omega
          · cases e1
            have hrc := ownsRow_cell (zs := xs.drop k) Hrow.out
            have hz0 : (xs.drop k).getD 0 0 = xs.getD k 0 := by simp
            have hgd := Hdis.out g rfl
            rw [hm] at hrc hncap ⊢
            have hx0 : wr.cell? ⟨g, 0, none⟩ = some (.int .i64 (xs.getD k 0)) := by rw [← hz0]; exact hrc 0 (by omega)
            have Hxm := Lib.hid hxm
            have Hm := Lib.hid hm
            have Hrc := Lib.hid hrc
            have hglt : g < wr.heap.size := lt_of_block hgg
            generalize hy : xs.getD k 0 = y at *
            clear c1 Hrow Hdis Hrl hgg hcsz htake hrc hz0 hm hxm hy
            have hd0 : decide ((0 : Int) < (m : Int) + 1) = true := by simp
            by_cases hmz : m = 0
            · subst hmz
              have hsl := slice_low (some ⟨g, 0, none⟩) (0 + 1) lc 1 1 rfl (by omega)
              generalize (if lc = 1 then some (⟨g, 0, none⟩ : Addr) else (some (⟨g, 0, none⟩ : Addr)).map (·.add (1 * 1))) = AA at hsl
              simp only [Nat.zero_add, Nat.sub_self] at hsl
              go_wp2_with (go_at_call 18; refine Htk.out.mono ?_; rintro e w2 ⟨rfl, qv2, k2, xs2, hp⟩; have hx2 : w2.cell? ⟨g, 0, none⟩ = some (.int .i64 y) := (World.cell?_of_block (w := wr) (hp.only.block g hglt hgd)).trans hx0; have Hp := Lib.hid hp; clear hp)
              have hnil : I (xs.drop (k + 1)) = [] := by
                have : xs.drop (k + 1) = [] := List.drop_eq_nil_of_le (by have := Hxm.out; omega)
                rw [this]; rfl
              refine (ints_none AA (lc - 1) w2).mono ?_
              rintro e w3 ⟨v3, rfl, hown3, ho3⟩
              have hrel3 := QRel.take Hq.out Ho.out hle Hp.out (by rw [Hxm.out, hnil]; exact hown3) ho3
              obtain ⟨a3, c3, rfl⟩ := ownsRow_shape hown3
              have Hlen := Lib.hid (hrel3.len (by omega))
              clear hown3 ho3 hrel3 Hp hx2 hx0 c0
              go_wp2_with (go_at_call 20; refine Hlen.out.mono ?_; rintro e w5 ⟨rfl, HR⟩)
              go_roundw
              case rel => exact ⟨j + 1, by omega, by go_num, HR.out⟩
              case measure => simp [intOf]; omega
            · have hsl := slice_low_at g (m + 1) lc 1 (by omega) hncap
              simp only [Nat.add_sub_cancel] at hsl
              go_wp2_with (go_at_call 18; refine Htk.out.mono ?_; rintro e w2 ⟨rfl, qv2, k2, xs2, hp⟩; have hx2 : w2.cell? ⟨g, 0, none⟩ = some (.int .i64 y) := (World.cell?_of_block (w := wr) (hp.only.block g hglt hgd)).trans hx0; have Hp := Lib.hid hp; clear hp)
              have hcells : ∀ j, j < m → w2.cell? ⟨g, 1 + j, none⟩ = some (.int .i64 ((xs.drop (k + 1)).getD j 0)) := by
                intro j hj
                have e1 : (xs.drop (k + 1)).getD j 0 = (xs.drop k).getD (1 + j) 0 := by simp; congr 2; omega
                rw [e1]
                exact (World.cell?_of_block (w := wr) (Hp.out.only.block g hglt hgd)).trans (Hrc.out (1 + j) (by omega))
              refine (ints_any g 1 m (lc - 1) (xs.drop (k + 1)) w2 (by have := Hxm.out; simp; omega) (by omega) (by have := Hxm.out; omega) hcells).mono ?_
              clear hcells
              rintro e w3 ⟨v3, rfl, hown3, ho3⟩
              have hrel3 := QRel.take Hq.out Ho.out hle Hp.out (by rw [Hxm.out]; exact hown3) ho3
              obtain ⟨a3, c3, rfl⟩ := ownsRow_shape hown3
              have Hlen := Lib.hid (hrel3.len (by omega))
              clear hown3 ho3 hrel3 Hp hx2 hx0 c0
              go_wp2_with (go_at_call 20; refine Hlen.out.mono ?_; rintro e w5 ⟨rfl, HR⟩)
              go_roundw
              case rel => exact ⟨j + 1, by omega, by go_num, HR.out⟩
              case measure => simp [intOf]; omega
    · go_wp2_with fail
      go_ret
      obtain ⟨_, _, _, _, _, _, ho, _⟩ := Hrel.out
      exact ⟨rfl, ho⟩

set_option maxHeartbeats 400000 in
theorem queues_zero (a : Option Addr) (c : Nat) (w : World) (ea : Addr) (hg : w.cell? ⟨0, 0, none⟩ = some (.iface 88 (.pointer (some ea)))) :
    Calls Tryd.prog 5 #[.slice a 0 c] w fun e w' => e = .returned (.bool true) ∧ Only (fun _ => False) w w' := by
  have Hf := Lib.hid (first_any w ea hg)
  clear hg
  go_enter Tryd.func5, Tryd.ntmps5
  go_wp2_with (go_at_call 8; refine Hf.out.mono ?_; rintro e w1 ⟨rfl, ho⟩)
  refine wp_loop_rounds 1 ?_
  rw [rounds_succ]
  go_wp2_with fail
  go_ret
  exact ⟨rfl, ho.trans (Only.of_alloc _ _) (fun _ h => h) (fun _ h => .inl h)⟩
end Go.Proofs.YtgkdemdpknljkaaDoor
