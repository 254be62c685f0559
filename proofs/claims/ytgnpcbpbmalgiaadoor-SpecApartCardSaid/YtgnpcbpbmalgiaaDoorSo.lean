/- The iterator over the pieces of a text between blanks. -/
import Derived.Test.YtgnpcbpbmalgiaaDoorSn
namespace Go.Proofs.YtgnpcbpbmalgiaaDoor
open Go.RowKit Go.Maps Go.WideMaps Go.WideElems Go.ChangeShapes Go.WideShapes
attribute [local go_sem] Oper.semAt_some

/-- The iterator's own cells lie. -/
structure SplAt (W : World) (c : Nat) (rest : List UInt8) : Prop where
  b0 : Boxed W c 9 (tv rest)
  b1 : Boxed W (c + 1) 9 (.string ⟨#[32]⟩)
  b2 : Boxed W (c + 2) 3 (.int .i64 0)
theorem SplAt.kept {W W' : World} {c : Nat} {rest : List UInt8} (h : SplAt W c rest) (k : ∀ g, c ≤ g → g ≤ c + 2 → W'.heap[g]? = W.heap[g]?) : SplAt W' c rest :=
  ⟨(k c (by omega) (by omega)).trans h.b0, (k (c + 1) (by omega) (by omega)).trans h.b1, (k (c + 2) (by omega) (by omega)).trans h.b2⟩
theorem SplAt.set {W : World} {c : Nat} {rest r' : List UInt8} (h : SplAt W c rest) : SplAt (W.setCell ⟨c, 0, none⟩ (tv r')) c r' :=
  ⟨h.b0.set _, h.b1.kept (grownBy_setCell' W c _) (by simp), h.b2.kept (grownBy_setCell' W c _) (by simp)⟩

/-- How long a text in a cell is. -/
def cellLen (W : World) (c : Nat) : Nat := match W.cell? ⟨c, 0, none⟩ with
  | some (.string s) => s.size
  | _ => 0
theorem cellLen_at {W : World} {c : Nat} {l : List UInt8} (h : W.cell? ⟨c, 0, none⟩ = some (tv l)) : cellLen W c = l.length := by
  unfold cellLen; rw [h]; exact tv_size l

theorem cuts_one {l : List UInt8} (h : Lib.indexByte l 32 = -1) : cutsL l = [l] := cuts_last l (ib_none (by omega))
theorem cuts_two {l : List UInt8} {i : Nat} (h : Lib.indexByte l 32 = i) : cutsL l = l.take i :: cutsL (l.drop (i + 1)) := by
  obtain ⟨h1, h2, _⟩ := ib_split h
  conv => lhs; rw [h2]
  exact cuts_more _ _ h1
theorem ib_cases (l : List UInt8) : Lib.indexByte l 32 = -1 ∨ ∃ i : Nat, Lib.indexByte l 32 = i ∧ i < l.length := by
  have := Lib.indexByte_ge l 32
  by_cases h : Lib.indexByte l 32 = -1
  · exact .inl h
  · refine .inr ⟨(Lib.indexByte l 32).toNat, by omega, ?_⟩
    exact (ib_split (s := l) (c := 32) (i := (Lib.indexByte l 32).toNat) (by omega)).2.2

set_option maxRecDepth 100000 in
set_option maxHeartbeats 2000000 in
theorem split_it (n : Nat) (hn : 1 ≤ n) (l c : Nat) (it : List UInt8) (hlen : it.length ≤ 1000000000) (J Jx : List Nat → World → Prop) (hJT : ∀ s A v, J s A → J s (World.setCell A ⟨c, 0, none⟩ v))
    (hY : ∀ pre (x : Nat) W, J pre W → pre.length < (cutsL it).length → YieldAt Fence.wide (n - 1) Tryd.prog l #[tv ((cutsL it)[x]?.getD [])] W fun e W' =>
      (e = .returned (.bool true) ∧ J (pre ++ [x]) W' ∧ (∀ g, c ≤ g → g ≤ c + 2 → W'.heap[g]? = W.heap[g]?)) ∨ (e = .returned (.bool false) ∧ Jx (pre ++ [x]) W'))
    (W : World) (hs : SplAt W c it) (h0 : J [] W) :
    CallsIn Fence.wide n Tryd.prog 69 #[.func (.yield l) #[] #[], .pointer (some ⟨c + 1, 0, none⟩), .pointer (some ⟨c, 0, none⟩), .pointer (some ⟨c + 2, 0, none⟩)] W fun e W' => (∃ v, e = .returned v) ∧ ((∃ ys, ys = List.range (cutsL it).length ∧ J ys W') ∨ (∃ pre, (∃ k, k < (cutsL it).length ∧ pre = List.range (k + 1)) ∧ Jx pre W')) := by
  generalize hPP : cutsL it = PP at *
  have HP : Hid (cutsL it = PP.drop 0) := by show _ = _; rw [List.drop_zero, hPP]
  clear hPP
  have HS := Lib.hid hs
  have c1 := hs.b1.cell
  have c2 := hs.b2.cell
  clear hs
  refine callsIn_of_wp Tryd.func69 rfl trivial ?_ rfl
  simp only [Tryd.ntmps69, List.size_toArray, List.length_cons, List.length_nil, Nat.reduceAdd, Nat.reduceSub, Array.replicate_succ, Array.replicate_zero, List.push_toArray, List.append_toArray, List.nil_append, List.cons_append]
  gi_wp2
  clear c1 c2
  gi_loopw [7] (fun _ wr => ∃ (k : Nat) (rest : List UInt8), k < PP.length ∧ rest.length ≤ 1000000000 ∧ Hid (cutsL rest = PP.drop k) ∧ Hid (SplAt wr c rest) ∧ J (List.range k) wr) (fun _ wr => cellLen wr c)
  case atStart =>
    refine ⟨0, it, ?_, hlen, HP, HS, h0⟩
    have h := HP.out
    have := cuts_ne it
    cases PP with
    | nil => exact absurd h this
    | cons => simp
  case round =>
    obtain ⟨k, rest, hk, hrl, HR, HS2, hJ⟩ := hrel
    have hi := Tryd.strings_Index_one ⟨rest.toArray⟩ 32 wr
    rw [tv_data] at hi
    have c0 := HS2.out.b0.cell
    have f0 := HS2.out.b0.frozen
    have c1 := HS2.out.b1.cell
    have c2 := HS2.out.b2.cell
    clear HS HP
    rcases ib_cases rest with h1 | ⟨i, h1, hil⟩
    · have hX : PP[k]?.getD [] = rest ∧ k + 1 = PP.length := by
        have h := HR.out
        rw [cuts_one h1, List.drop_eq_getElem_cons hk] at h
        have h2 := (List.cons.inj h).2
        have h3 := congrArg List.length h2
        simp at h3
        rw [List.getElem?_eq_getElem hk, ← (List.cons.inj h).1]
        exact ⟨rfl, by omega⟩
      have HX := Lib.hid hX
      rw [h1] at hi
      have Hi := Lib.hid hi
      obtain ⟨fn, tmps, assign, body, hy, hR⟩ := hY _ k wr hJ (by rw [List.length_range]; exact hk)
      rw [hX.1] at hy
      clear hi h1 hX f0 c2 hY hJT
      gi_wp2_with (first | (refine ⟨trivial, ?_⟩; gi_at_call 34; refine (callsIn_wide.2 Hi.out).mono ?_; rintro e w2 ⟨rfl, rfl⟩))
      refine hR.mono ?_
      rintro e W3 (⟨rfl, hJ3, _⟩ | ⟨rfl, hJx3⟩)
      · gi_wp2
        go_end0
        exact ⟨⟨_, rfl⟩, .inl ⟨_, rfl, by rw [← HX.out.2, List.range_succ]; exact hJ3⟩⟩
      · gi_wp2
        go_end0
        exact ⟨⟨_, rfl⟩, .inr ⟨_, ⟨k, hk, List.range_succ.symm⟩, hJx3⟩⟩
    · have hdr : cutsL (rest.drop (i + 1)) = PP.drop (k + 1) ∧ PP[k]?.getD [] = rest.take i := by
        have h := HR.out
        rw [cuts_two h1, List.drop_eq_getElem_cons hk] at h
        rw [List.getElem?_eq_getElem hk]
        exact ⟨(List.cons.inj h).2, (List.cons.inj h).1.symm⟩
      have hk1 : k + 1 < PP.length := by
        have h := congrArg List.length hdr.1
        have hne := List.length_pos_iff.2 (cuts_ne (rest.drop (i + 1)))
        simp at h; omega
      have HD := Lib.hid hdr
      rw [h1] at hi
      have Hi := Lib.hid hi
      have s1 : ∀ w, (Instr.slice 9 (tv rest) none (some (.int .i64 (i : Int))) none).run Tryd.prog w = .ok (tv (rest.take i)) w := str_to rest i (by omega)
      have s2 : ∀ w, (Instr.slice 9 (tv rest) (some (.int .i64 ((i : Int) + 1))) none none).run Tryd.prog w = .ok (tv (rest.drop (i + 1))) w := fun w => by have := str_from rest (i + 1) (by omega) w; exact this
      have d0 : decide ((i : Int) < 0) = false := by simp
      have hmeas : (rest.drop (i + 1)).length < rest.length := by rw [List.length_drop]; omega
      have hcl := cellLen_at c0
      generalize rest.drop (i + 1) = r2 at *
      generalize rest.take i = fr at *
      obtain ⟨fn, tmps, assign, body, hy, hR⟩ := hY _ k wr hJ (by rw [List.length_range]; exact hk)
      rw [hdr.2] at hy
      clear hi h1 hdr f0
      gi_wp2_with (first | (refine ⟨trivial, ?_⟩; gi_at_call 34; refine (callsIn_wide.2 Hi.out).mono ?_; rintro e w2 ⟨rfl, rfl⟩))
      refine hR.mono ?_
      rintro e W3 (⟨rfl, hJ3, hk3⟩ | ⟨rfl, hJx3⟩)
      · have HS3 := Lib.hid (HS2.out.kept hk3)
        clear c0 c1 c2
        have c0 := HS3.out.b0.cell
        have f0 := HS3.out.b0.frozen
        have c1 := HS3.out.b1.cell
        gi_wp2
        go_roundw
        case rel => exact ⟨k + 1, r2, hk1, by omega, HD.out.1, HS3.out.set, by rw [List.range_succ]; exact hJT _ _ _ hJ3⟩
        case measure => rw [hcl, cellLen_at HS3.out.set.b0.cell]; exact hmeas
      · clear hJT
        gi_wp2
        refine bodyPost_ret (results_none rfl _ _ _) rfl ?_
        exact ⟨⟨_, rfl⟩, .inr ⟨_, ⟨k, hk, List.range_succ.symm⟩, hJx3⟩⟩

theorem split_seq (n : Nat) (hn : 1 ≤ n) (c : Nat) (it : List UInt8) (hlen : it.length ≤ 1000000000) (w : World) (hs : SplAt w c it) (hcw : c + 2 < w.heap.size) :
    SeqC Fence.wide n Tryd.prog 69 #[.pointer (some ⟨c + 1, 0, none⟩), .pointer (some ⟨c, 0, none⟩), .pointer (some ⟨c + 2, 0, none⟩)] (fun x : Nat => #[tv ((cutsL it)[x]?.getD [])]) (fun W W' => ∀ g, c ≤ g → g ≤ c + 2 → W'.heap[g]? = W.heap[g]?)
      (fun W W' => ∃ v, W' = W.setCell ⟨c, 0, none⟩ v) (fun ys => ys = List.range (cutsL it).length) (fun pre => ∃ k, k < (cutsL it).length ∧ pre = List.range (k + 1)) (cutsL it).length w := fun l J Jx W hW hJT hY h0 =>
  split_it n hn l c it hlen J Jx (fun s A v h => hJT s A _ h ⟨v, rfl⟩) hY W (hs.kept fun g h1 h2 => hW.block g (by omega)) h0
end Go.Proofs.YtgnpcbpbmalgiaaDoor
