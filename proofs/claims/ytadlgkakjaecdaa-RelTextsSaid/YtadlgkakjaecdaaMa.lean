/- made: the program's relation and the document's, by a contract. -/
import Derived.Test.YtadlgkakjaecdaaFi
import Derived.Deep.RegionHeld3
namespace Go.Proofs.Ytadlgkakjaecdaa
open Go.RowKit Go.Maps Go.WideMaps Go.WideElems Go.ChangeShapes Go.WideShapes

theorem add_any (r b : Nat) (L : List Pr) (D : DU) (p : Pr) (hf : FitP p) (hn : L.length ≤ 1000000) (w : World) (h : RelAt r b L D w) :
    Calls Try.prog 13 #[.pointer (some ⟨r, 0, none⟩), .int .i64 p.1, .int .i64 p.2] w fun e w' => ∃ L' D', e = .returned (.bool (!decide (p ∈ L))) ∧ Hid (RelAt r b L' D' w' ∧ (∀ q, q ∈ L' ↔ q ∈ L ∨ q = p) ∧ w.grownBy w' (some b)) := by
  by_cases hp : p ∈ L
  · refine (add_in r b L D p hf hp w h).mono ?_
    rintro e w' ⟨rfl, hb⟩
    refine ⟨L, D, by simp [hp], h.below hb.out, fun q => ⟨.inl, ?_⟩, (grown_below hb.out).but _⟩
    rintro (e | rfl)
    · exact e
    · exact hp
  · refine (add_new r b L D p hf hp hn w h).mono ?_
    rintro e w' ⟨rfl, h'⟩
    exact ⟨_, _, by simp [hp], h'.out.1, fun q => by simp, h'.out.2⟩
/-- The document's list of these pairs. -/
def putAll (l : List Pr) : List Pr := l.foldl putP []
theorem putAll_snoc (l : List Pr) (p : Pr) : putAll (l ++ [p]) = putP (putAll l) p := by simp [putAll]
theorem rise_foldl : ∀ (l m : List Pr), RiseP m → RiseP (l.foldl putP m)
  | [], _, h => h
  | p :: l, _, h => rise_foldl l _ (rise_putP h p)
theorem rise_putAll (l : List Pr) : RiseP (putAll l) := rise_foldl l [] List.Pairwise.nil
theorem mem_foldl : ∀ (l m : List Pr) (q : Pr), q ∈ l.foldl putP m ↔ q ∈ m ∨ q ∈ l
  | [], m, q => by simp
  | p :: l, m, q => by
    rw [List.foldl_cons, mem_foldl l, mem_putP, List.mem_cons]
    constructor
    · rintro ((h | h) | h)
      · exact .inr (.inl h)
      · exact .inl h
      · exact .inr (.inr h)
    · rintro (h | h | h)
      · exact .inl (.inr h)
      · exact .inl (.inl h)
      · exact .inr h
theorem mem_putAll (l : List Pr) (q : Pr) : q ∈ putAll l ↔ q ∈ l := by
  unfold putAll
  rw [mem_foldl]
  simp
theorem putAll_len (l : List Pr) : (putAll l).length ≤ l.length := nodup_len (rise_nodup (rise_putAll l)) (fun p hp => (mem_putAll l p).1 hp)

structure Ma1 (w : World) (r b : Nat) (L : List Pr) (D : DU) (l : List Pr) (a : Option Addr) (M : List Pr) (W : World) : Prop where
  rel : RelAt r b L D W
  mem : ∀ q, q ∈ L ↔ q ∈ l
  sl : SlP W a M
  list : M = putAll l
  below : Below w.heap.size w W
theorem slP_cells {W : World} {b off : Nat} {l : List Pr} {k : Nat} (h : SlP W (some ⟨b, off, none⟩) l) (hk : k < l.length) : b < W.heap.size := by
  rcases h with e | ⟨b', off', e, h, _⟩
  · subst e; simp at hk
  · cases e
    exact h (by intro e; subst e; simp at hk)
theorem SlP.grown {W W' : World} {a : Option Addr} {l : List Pr} {row : Option Nat} (h : SlP W a l) (hg : W.grownBy W' row) (hr : ∀ k, row = some k → ∃ o, W.heap[k]? = some o ∧ o.isCells = false) : SlP W' a l := by
  rcases h with h | ⟨b, off, e, hl, h⟩
  · exact .inl h
  · refine .inr ⟨b, off, e, fun hx => Nat.lt_of_lt_of_le (hl hx) hg.size, fun k p hk => ?_⟩
    have hne : some b ≠ row := fun e' => by
      obtain ⟨o, ho, hoc⟩ := hr b e'.symm
      have h1 := (h k p hk).1
      unfold World.cell? at h1
      rw [show W.heap[(⟨b, off + k * 2, none⟩ : Addr).block]? = some o from ho] at h1
      cases o <;> simp [Obj.isCells] at hoc h1
    exact ⟨hg.cell (h k p hk).1 hne, hg.cell (h k p hk).2 hne⟩

set_option maxHeartbeats 4000000 in
set_option maxRecDepth 100000 in
theorem made_any (a : Option Addr) (c : Nat) (l : List Pr) (hn : l.length ≤ 60) (hf : ∀ p ∈ l, FitP p) (w : World) (h : SlP w a l) :
    Calls Try.prog 21 #[.slice a l.length c] w fun e w' => ∃ r b L D a' c', e = .returned (.tuple #[.pointer (some ⟨r, 0, none⟩), .slice a' (putAll l).length c']) ∧ Hid (RelAt r b L D w' ∧ (∀ q, q ∈ L ↔ q ∈ l) ∧ SlP w' a' (putAll l) ∧ Below w.heap.size w w' ∧ w.heap.size ≤ r ∧ w.heap.size ≤ b) := by
  obtain ⟨n, hnn⟩ : ∃ n, l.length = n := ⟨_, rfl⟩
  rw [hnn] at hn ⊢
  have Hn := Lib.hid hnn
  have H := Lib.hid h
  have Hf := Lib.hid hf
  clear h hf hnn
  go_enter Try.func21, Try.ntmps21
  go_wp2_with (first
    | (go_at_call 10; refine (new_any _).mono ?_; rintro e w1 ⟨r, b, rfl, h1⟩)
    | go_in)
  go_loopw [5, 6] (fun v i wr => ∃ (k : Nat) (L : List Pr) (D : DU) (a5 : Option Addr) (c5 : Nat) (M : List Pr), i = .int .i64 k ∧ v = .slice a5 M.length c5 ∧ k ≤ n ∧ Hid (Ma1 w r b L D (l.take k) a5 M wr)) (fun _ i _ => n - (intOf i).toNat)
  case atStart => exact ⟨0, _, _, none, 0, [], rfl, rfl, Nat.zero_le _, h1.out.1, by simp, .inl rfl, rfl, h1.out.2.1⟩
  case round =>
    obtain ⟨k, L, D, a5, c5, M, rfl, rfl, hk, HR⟩ := hrel
    by_cases hlt : k < n
    · have hkl : k < l.length := by rw [Hn.out]; exact hlt
      have hslw := H.out.grown (W' := wr) (row := none) ⟨HR.out.below.os, HR.out.below.tape, HR.out.below.output, HR.out.below.size, fun i hi _ => HR.out.below.block i hi⟩ (fun k e => by cases e)
      obtain ⟨b', off', rfl, hc0, hc1⟩ := hslw.at hkl
      have hmem : l.getD k (0, 0) ∈ l := by
        rw [List.getD_eq_getElem?_getD, List.getElem?_eq_getElem hkl]
        exact List.getElem_mem hkl
      have htk : l.take (k + 1) = l.take k ++ [l.getD k (0, 0)] := by
        rw [List.take_add_one, List.getElem?_eq_getElem hkl, List.getD_eq_getElem?_getD, List.getElem?_eq_getElem hkl]
        rfl
      obtain ⟨q, hq⟩ : ∃ q, l.getD k (0, 0) = q := ⟨_, rfl⟩
      obtain ⟨q1, q2⟩ := q
      rw [hq] at hc0 hc1 hmem htk
      simp only at hc0 hc1
      have Htk := Lib.hid htk
      have hLl : L.length ≤ 60 := by
        have h2 := nodup_len HR.out.rel.prs.once (fun p hp => (HR.out.mem p).1 hp)
        rw [List.length_take] at h2
        omega
      have hMl : M.length ≤ 60 := by
        have h2 := putAll_len (l.take k)
        rw [← HR.out.list, List.length_take] at h2
        omega
      have HMl := Lib.hid hMl
      have Hadd := Lib.hid (add_any r b L D (q1, q2) (Hf.out _ hmem) (by omega) wr.drew HR.out.rel.drew)
      have hbb := Lib.hid (slP_cells hslw hkl)
      have Hlo : Hid (b' < w.heap.size) := slP_cells H.out hkl
      clear hmem htk hkl hq hslw hLl
      go_wp2
      go_region_held3 (fun w' => w'.cell? ⟨b', off' + k * 2, none⟩ = some (.int .i64 q1) ∧ w'.cell? ⟨b', off' + k * 2 + 1, none⟩ = some (.int .i64 q2)) (go_keep)
        (first
          | (go_at_call 13; refine Hadd.out.mono ?_; rintro e w6 ⟨L6, D6, rfl, h6⟩
             have hb6 : Below w.heap.size w w6 := HR.out.below.drew.grown h6.out.2.2 HR.out.below.size (fun k e => by cases e; exact h1.out.2.2.2)
             have p0 : w6.cell? ⟨b', off' + k * 2, none⟩ = some (.int .i64 q1) := ((hb6.cell (p := ⟨b', off' + k * 2, none⟩) Hlo.out).trans (HR.out.below.cell (p := ⟨b', off' + k * 2, none⟩) Hlo.out).symm).trans hc0
             have p1 : w6.cell? ⟨b', off' + k * 2 + 1, none⟩ = some (.int .i64 q2) := ((hb6.cell (p := ⟨b', off' + k * 2 + 1, none⟩) Hlo.out).trans (HR.out.below.cell (p := ⟨b', off' + k * 2 + 1, none⟩) Hlo.out).symm).trans hc1
             have Hb6 := Lib.hid hb6
             clear hb6))
      have Hsl6 : Hid (SlP w6 a5 M) := by
        have h2 : SlP wr.drew a5 M := HR.out.sl
        exact h2.grown h6.out.2.2 (fun k e => by cases e; exact rel_obj HR.out.rel.drew)
      have Hput := Lib.hid (put9_any a5 c5 M q1 q2 (by have := HMl.out; omega) w6.drew Hsl6.out)
      clear hc0 hc1
      try clear hHeld
      go_wp2
      go_region_held3 (fun w' => w'.cell? ⟨b', off' + k * 2, none⟩ = some (.int .i64 q1) ∧ w'.cell? ⟨b', off' + k * 2 + 1, none⟩ = some (.int .i64 q2)) (go_keep)
        (first
          | (go_at_call 14; refine Hput.out.mono ?_; rintro e w7 ⟨a7, c7, rfl, h7⟩
             have r0 : w7.cell? ⟨b', off' + k * 2, none⟩ = some (.int .i64 q1) := (h7.out.2.cell (p := ⟨b', off' + k * 2, none⟩) (Nat.lt_of_lt_of_le Hlo.out Hb6.out.size)).trans p0
             have r1 : w7.cell? ⟨b', off' + k * 2 + 1, none⟩ = some (.int .i64 q2) := (h7.out.2.cell (p := ⟨b', off' + k * 2 + 1, none⟩) (Nat.lt_of_lt_of_le Hlo.out Hb6.out.size)).trans p1))
      have HM7 : Hid (Ma1 w r b L6 D6 (l.take (k + 1)) a7 (putP M (q1, q2)) w7) := by
        refine ⟨h6.out.1.drew.below h7.out.2, fun q => ?_, h7.out.1, ?_, Hb6.out.drew.trans (h7.out.2.mono Hb6.out.size)⟩
        · rw [h6.out.2.1 q, HR.out.mem q, Htk.out, List.mem_append, List.mem_singleton]
        · rw [HR.out.list, Htk.out, putAll_snoc]
      try clear hHeld
      clear p0 p1 r0 r1
      go_wp2
      go_roundw
      case rel => exact ⟨k + 1, _, _, _, _, _, by go_num, rfl, by omega, HM7.out⟩
      case measure => simp [intOf]; omega
    · have hkn : k = n := by omega
      subst hkn
      have HM : Hid (M = putAll l) := by
        have h2 := HR.out.list
        rw [← Hn.out, List.take_length] at h2
        exact h2
      have Hmem : Hid (∀ q, q ∈ L ↔ q ∈ l) := by
        have h2 := HR.out.mem
        rw [← Hn.out, List.take_length] at h2
        exact h2
      clear hlt hk
      go_wp2
      go_ret2
      exact ⟨r, b, L, D, a5, c5, by rw [← HM.out]; rfl, HR.out.rel, Hmem.out, HM.out ▸ HR.out.sl, HR.out.below, h1.out.2.2.1, h1.out.2.2.2⟩
end Go.Proofs.Ytadlgkakjaecdaa
