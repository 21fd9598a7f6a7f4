/-
  The document's answer for layer 8, more: Put, Less and Sum. Condition: the deltas can be read, a hundred thousand at most.
-/
import Derived.Test.YtdekijaognfjcaaLgF
set_option linter.unusedVariables false
set_option linter.unusedSimpArgs false
namespace Go.Proofs.Ytdekijaognfjcaa
open Go.RowKit

set_option maxRecDepth 100000 in
set_option maxHeartbeats 2000000 in
theorem lessR_c (A : Option Addr) (n c : Nat) (L : List Dl) (w : World) (h : DR w A n c L) (hn : n ≤ 100000) :
    Calls Try.prog 16 #[.slice A n c] w (TPost w (sLess L) (eLess L)) := by
  have hlen := Lib.hid h.len
  obtain ⟨i0, hi0, hz0, hz1, hz2⟩ := info_parts Try.infoD
  go_enter Try.func16, Try.ntmps16
  go_wp2_with fail
  refine (rightR_c A n c L w h hn).mono ?_
  rintro e w1 ⟨rfl, b1⟩
  cases hr : rightB L with
  | false =>
    have Hs := Lib.hid (show sLess L = [] ∧ eLess L = 2 by unfold sLess eLess; rw [if_neg (rightB_no.1 hr), if_neg (rightB_no.1 hr)]; exact ⟨rfl, rfl⟩)
    have H := Lib.hid (show TPost w (sLess L) (eLess L) (.returned (.tuple #[.slice none 0 0, .int .i64 2])) w1 by rw [Hs.out.1, Hs.out.2]; exact ⟨none, 0, 0, rfl, RR.nil _ _ _, b1⟩)
    clear hr
    go_wp2_with fail
    go_ret2
    exact H.out
  | true =>
    have Hs := Lib.hid (show sLess L = L.map negD ∧ eLess L = 0 by unfold sLess eLess; rw [if_pos (rightB_iff.1 hr), if_pos (rightB_iff.1 hr)]; exact ⟨rfl, rfl⟩)
    clear hr
    go_wp2_with fail
    go_loopw [4, 5] (fun v i wr => ∃ j : Nat, j ≤ n ∧ i = .int .i64 j ∧ OS w 24 2 (rc dc ((L.take j).map negD)) v wr) (fun _ i _ => n - (intOf i).toNat)
    case atStart => exact ⟨0, by omega, rfl, OS.start w _ _ b1⟩
    case round =>
      clear b1
      obtain ⟨j, hj, rfl, hos⟩ := hrel
      by_cases hlt : j < n
      · obtain ⟨g, off, rfl, d1, d2⟩ := (h.on hos.low).at2 hlt
        have htk := Lib.hid (tk_take (L := L) (j := j) (by rw [hlen.out]; exact hlt))
        have Hd := Lib.hid (fun W (hb : Below w.heap.size w W) => (show W.cell? ⟨g, off + j * 2, none⟩ = some (.int .u8 (tk L j).k) ∧ W.cell? ⟨g, off + j * 2 + 1, none⟩ = some (.int .i64 (tk L j).b) by
          obtain ⟨g', off', e, f1, f2⟩ := (h.on hb).at2 hlt
          cases e
          exact ⟨f1, f2⟩))
        generalize tk L j = x at *
        have hlow := hos.low
        obtain ⟨A0, m, c0, G, rfl, hsg, hG⟩ := hos.out
        have hm : m ≤ j := by have := rc_len hsg; rw [List.length_map, List.length_take] at this; omega
        have p03 : 0 < 2 := by omega
        obtain ⟨p3, p4⟩ := app2 (n := m) (by omega)
        have Hi := Lib.hid hi0
        have Hz := Lib.hid hz0
        have Hz1 := Lib.hid hz1
        have Hz2 := Lib.hid hz2
        obtain ⟨N, hN⟩ : ∃ N, m + 1 = N := ⟨_, rfl⟩
        have HN := Lib.hid hN
        have hlow2 := Lib.hid (belowD (hlow.alloc hlow.size (.cells #[.int .u8 x.k, .int .i64 (IntKind.i64.wrap (-x.b))] 24)))
        have hsr := Src.lit wr 24 [.int .u8 x.k, .int .i64 (IntKind.i64.wrap (-x.b))] 2 1 wr.heap.size rfl rfl
        have hsg2 := hsg.alloc (.cells #[.int .u8 x.k, .int .i64 (IntKind.i64.wrap (-x.b))] 24)
        have ho : ∀ u ∈ [Value.int .u8 x.k, .int .i64 (IntKind.i64.wrap (-x.b))], u.oneCell' = true := by intro u hu; simp at hu; rcases hu with rfl | rfl <;> rfl
        clear hN hlow hos hi0 hz0 hz1 hz2
        go_wp2_with fail
        go_region_held3 (fun W' => W'.cell? ⟨g, off + j * 2, none⟩ = some (.int .u8 x.k) ∧ W'.cell? ⟨g, off + j * 2 + 1, none⟩ = some (.int .i64 x.b)) (first | exact ⟨d1, d2⟩ | exact Hd.out _ hlow2.out | exact Hd.out _ Hnx.out.low) (first
          | (refine step_append_src _ (.tmp 15) (.tmp 28) _ (by rfl) 24 i0 _ 2 16 Try.underlying22 Hi.out Hz.out Hz1.out Hz2.out rfl p03 (by rfl) hsg2 (by rfl) hsr ho p3 p4 (by rfl) N HN.out ?_; intro A5 c5 G5 w5 hs5 hg5 hm5; have Hnx := Lib.hid (OS.app (w := w) hlow2.out hG hs5 hg5 hm5)))
        have Hn := Lib.hid (show OS w 24 2 (rc dc ((L.take (j + 1)).map negD)) (.slice A5 N c5) w5 by
          have := Hnx.out
          rw [Go.IntWalk.i64_left, show [Value.int .u8 x.k, .int .i64 (wrap64 (-x.b))] = dc (negD x) from rfl, rc_snoc] at this
          rw [htk.out, List.map_append]
          exact this)
        clear hs5 hg5 hm5 Hnx hsg hsg2 hsr d1 d2 ho Hd hlow2
        go_wp2_with fail
        go_roundw
        case rel => exact ⟨j + 1, by omega, by go_num, Hn.out⟩
        case measure => simp [intOf]; omega
      · obtain rfl : j = n := by omega
        rw [take_all hlen.out] at hos
        have Hos := Lib.hid hos
        obtain ⟨A0, m, c0, G, rfl, hsg, hG⟩ := hos.out
        have H := Lib.hid (show TPost w (sLess L) (eLess L) (.returned (.tuple #[.slice A0 m c0, .int .i64 0])) wr by
          rw [Hs.out.1, Hs.out.2]
          exact ⟨A0, m, c0, rfl, RR.of_seg hsg, Hos.out.low⟩)
        clear hos hsg
        go_wp2_with fail
        go_ret2
        exact H.out

set_option maxRecDepth 100000 in
set_option maxHeartbeats 2000000 in
theorem putR_c (A : Option Addr) (n c : Nat) (L : List Dl) (A' : Option Addr) (n' c' : Nat) (M : List Dl) (w : World) (h : DR w A n c L) (h' : DR w A' n' c' M) (hn : n ≤ 100000) (hn' : n' ≤ 100000) :
    Calls Try.prog 11 #[.slice A n c, .slice A' n' c'] w (TPost w (sPut L M) (ePut L M)) := by
  have hlen := Lib.hid h.len
  have hlen' := Lib.hid h'.len
  obtain ⟨i0, hi0, hz0, hz1, hz2⟩ := info_parts Try.infoD
  go_enter Try.func11, Try.ntmps11
  go_wp2_with fail
  refine (rightR_c A n c L w h hn).mono ?_
  rintro e w1 ⟨rfl, b1⟩
  cases hr : rightB L with
  | false =>
    have Hs := Lib.hid (show sPut L M = L ∧ ePut L M = 2 by unfold sPut ePut; rw [if_neg (fun k => rightB_no.1 hr k.1), if_neg (fun k => rightB_no.1 hr k.1)]; exact ⟨rfl, rfl⟩)
    have H := Lib.hid (show TPost w (sPut L M) (ePut L M) (.returned (.tuple #[.slice A n c, .int .i64 2])) w1 by rw [Hs.out.1, Hs.out.2]; exact ⟨A, n, c, rfl, h.on b1, b1⟩)
    clear hr
    go_wp2_with fail
    go_ret2
    exact H.out
  | true =>
    have Hr := Lib.hid (rightB_iff.1 hr)
    clear hr
    go_wp2_with fail
    go_loopw [6] (fun i wr => ∃ j : Nat, j ≤ n' ∧ i = .int .i64 j ∧ KeysP (M.take j) ∧ Below w.heap.size w wr) (fun i _ => n' - (intOf i).toNat)
    case atStart => exact ⟨0, by omega, rfl, keys_nil, b1⟩
    case round =>
      clear b1
      obtain ⟨j, hj, rfl, hal, hlow⟩ := hrel
      have Hal := Lib.hid hal
      clear hal
      by_cases hlt : j < n'
      · obtain ⟨g, off, rfl, d1, d2⟩ := (h'.on hlow).at2 hlt
        have htk := Lib.hid (tk_take (L := M) (j := j) (by rw [hlen'.out]; exact hlt))
        generalize tk M j = x at *
        by_cases hk : x.k < 64
        · have hk1 : ¬ (64 : Int) ≤ x.k := by omega
          have Hn := Lib.hid (show KeysP (M.take (j + 1)) by rw [htk.out]; exact keys_snoc.2 ⟨Hal.out, hk⟩)
          clear hk
          go_wp2_with fail
          go_roundw
          case rel => exact ⟨j + 1, by omega, by go_num, Hn.out, hlow⟩
          case measure => simp [intOf]; omega
        · have hk1 : (64 : Int) ≤ x.k := by omega
          have Hf := Lib.hid (show ¬ KeysP M from keys_no_pre (j := j + 1) (by rw [htk.out]; exact fun k => hk (keys_snoc.1 k).2))
          have Hs := Lib.hid (show sPut L M = L ∧ ePut L M = 2 by unfold sPut ePut; rw [if_neg (fun k => Hf.out k.2), if_neg (fun k => Hf.out k.2)]; exact ⟨rfl, rfl⟩)
          have H := Lib.hid (show TPost w (sPut L M) (ePut L M) (.returned (.tuple #[.slice A n c, .int .i64 2])) wr by rw [Hs.out.1, Hs.out.2]; exact ⟨A, n, c, rfl, h.on hlow, hlow⟩)
          clear hk
          go_wp2_with fail
          go_ret2
          exact H.out
      · obtain rfl : j = n' := by omega
        have Hs := Lib.hid (show sPut L M = ofD (L ++ M) ∧ ePut L M = 0 by
          have := Hal.out
          rw [take_all hlen'.out] at this
          unfold sPut ePut
          rw [if_pos ⟨Hr.out, this⟩, if_pos ⟨Hr.out, this⟩]; exact ⟨rfl, rfl⟩)
        have p03 : 0 < 2 := by omega
        have q1 : 0 + n ≤ maxLen := by simp only [maxLen]; omega
        have q2 : (0 + n) * 16 ≤ 140737488355328 := by omega
        have q3 : n + j ≤ maxLen := by simp only [maxLen]; omega
        have q4 : (n + j) * 16 ≤ 140737488355328 := by omega
        have z0 := Nat.zero_add n
        obtain ⟨W1, hW1⟩ : ∃ W1, wr.alloc (.cells #[] 24) = W1 := ⟨_, rfl⟩
        have k1 : Below wr.heap.size wr W1 := by rw [← hW1]; exact belA wr _
        have cb : CB W1 wr.heap.size 24 #[] := by rw [← hW1]; exact CB.new wr _ _
        have hs0 : Seg W1 24 2 (some ⟨wr.heap.size, 0, none⟩) 0 0 [] (some wr.heap.size) := ⟨rfl, Nat.le_refl _, Nat.zero_le _, .inr ⟨_, 0, #[], rfl, rfl, cb, by simp, fun j u hu => by simp at hu⟩⟩
        have b2 := bel2 hlow k1
        have hsr1 := (h.on b2).src
        have hwr := hlow.size
        have HW1 := Lib.hid hW1
        obtain ⟨N, hN⟩ : ∃ N, n + j = N := ⟨_, rfl⟩
        have HN := Lib.hid hN
        have hNs : N ≤ 300000 := by omega
        clear hW1 k1 cb hlow hN
        go_wp2_with (at_builtin; try rw [HW1.out]; refine wpList_append_src _ rfl (.tmp 25) (.tmp 26) _ rfl 24 i0 _ 2 16 Try.underlying22 hi0 hz0 hz1 hz2 rfl p03 rfl hs0 rfl hsr1 (rc_one 2 _) q1 q2 n z0 ?_; intro A4 c4 G4 w4 hs4 hg4 hm4; refine Stay.mk ?_)
        refine Stay.open_ ?_
        rw [List.nil_append] at hs4
        have hb4 := b2.grown hg4 b2.size (fun g hg => by cases hg; exact hwr)
        have hG4 := hm4.ge (B := w.heap.size) b2.size (fun g hg => by cases hg; exact hwr)
        have hsr4 := (h'.on hb4).src
        clear hs0 hsr1 hg4 hm4 b2 HW1 hwr z0
        go_wp2_with (at_builtin; refine wpList_append_src _ rfl (.tmp 28) (.tmp 29) _ rfl 24 i0 _ 2 16 Try.underlying22 hi0 hz0 hz1 hz2 rfl p03 rfl hs4 rfl hsr4 (rc_one 2 _) q3 q4 N HN.out ?_; intro A5 c5 G5 w5 hs5 hg5 hm5; refine Stay.mk ?_)
        refine Stay.open_ ?_
        rw [← rc_append] at hs5
        have hb5 := hb4.grown hg5 hb4.size hG4
        have hof := of_c A5 N c5 (L ++ M) w5 (RR.of_seg hs5) hNs
        clear hs4 hsr4 hg5 hm5 hb4 hG4 hs5
        go_wp2_with fail
        refine hof.mono ?_
        rintro e w6 ⟨A6, n6, c6, rfl, hs6, b6⟩
        have H := Lib.hid (show TPost w (sPut L M) (ePut L M) (.returned (.tuple #[.slice A6 n6 c6, .int .i64 0])) w6 by rw [Hs.out.1, Hs.out.2]; exact ⟨A6, n6, c6, rfl, hs6.rr, bel2 hb5 b6⟩)
        clear hof hs6 b6 hb5
        go_wp2_with fail
        go_ret2
        exact H.out

set_option maxRecDepth 100000 in
set_option maxHeartbeats 2000000 in
theorem sumR_c (A : Option Addr) (n c : Nat) (L : List Dl) (A' : Option Addr) (n' c' : Nat) (M : List Dl) (w : World) (h : DR w A n c L) (h' : DR w A' n' c' M) (hn : n ≤ 100000) (hn' : n' ≤ 100000) :
    Calls Try.prog 14 #[.slice A n c, .slice A' n' c'] w (TPost w (sSum L M) (eSum L M)) := by
  go_enter Try.func14, Try.ntmps14
  go_wp2_with fail
  refine (rightR_c A n c L w h hn).mono ?_
  rintro e w1 ⟨rfl, b1⟩
  cases hr : rightB L with
  | false =>
    have Hs := Lib.hid (show sSum L M = [] ∧ eSum L M = 2 by unfold sSum eSum; rw [if_neg (fun k => rightB_no.1 hr k.1), if_neg (fun k => rightB_no.1 hr k.1)]; exact ⟨rfl, rfl⟩)
    have H := Lib.hid (show TPost w (sSum L M) (eSum L M) (.returned (.tuple #[.slice none 0 0, .int .i64 2])) w1 by rw [Hs.out.1, Hs.out.2]; exact ⟨none, 0, 0, rfl, RR.nil _ _ _, b1⟩)
    clear hr
    go_wp2_with fail
    go_ret2
    exact H.out
  | true =>
    have hki := rightR_c A' n' c' M w1 (h'.on b1) hn'
    have Hr := Lib.hid (rightB_iff.1 hr)
    clear hr
    go_wp2_with fail
    refine hki.mono ?_
    rintro e w2 ⟨rfl, b2⟩
    have bb := bel2 b1 b2
    clear b1 b2 hki
    cases hk : rightB M with
    | false =>
      have Hs := Lib.hid (show sSum L M = [] ∧ eSum L M = 2 by unfold sSum eSum; rw [if_neg (fun k => rightB_no.1 hk k.2), if_neg (fun k => rightB_no.1 hk k.2)]; exact ⟨rfl, rfl⟩)
      have H := Lib.hid (show TPost w (sSum L M) (eSum L M) (.returned (.tuple #[.slice none 0 0, .int .i64 2])) w2 by rw [Hs.out.1, Hs.out.2]; exact ⟨none, 0, 0, rfl, RR.nil _ _ _, bb⟩)
      clear hk
      go_wp2_with fail
      go_ret2
      exact H.out
    | true =>
      have hk' := rightB_iff.1 hk
      have Hs := Lib.hid (show sSum L M = sPut L M ∧ eSum L M = ePut L M by unfold sSum eSum sPut ePut; rw [if_pos (c := RightP L ∧ RightP M) ⟨Hr.out, hk'⟩, if_pos (c := RightP L ∧ RightP M) ⟨Hr.out, hk'⟩, if_pos (c := RightP L ∧ KeysP M) ⟨Hr.out, right_keys hk'⟩, if_pos (c := RightP L ∧ KeysP M) ⟨Hr.out, right_keys hk'⟩]; exact ⟨rfl, rfl⟩)
      have hsm := putR_c A n c L A' n' c' M w2 (h.on bb) (h'.on bb) hn hn'
      clear hk hk'
      generalize sPut L M = R at *
      generalize ePut L M = E at *
      go_wp2_with fail
      refine hsm.mono ?_
      rintro e w3 ⟨A3, n3, c3, rfl, hs3, b3⟩
      have H := Lib.hid (show TPost w (sSum L M) (eSum L M) (.returned (.tuple #[.slice A3 n3 c3, .int .i64 E])) w3 by rw [Hs.out.1, Hs.out.2]; exact ⟨A3, n3, c3, rfl, hs3, bel2 bb b3⟩)
      clear hs3 b3 bb hsm
      go_wp2_with fail
      go_ret2
      exact H.out
end Go.Proofs.Ytdekijaognfjcaa
