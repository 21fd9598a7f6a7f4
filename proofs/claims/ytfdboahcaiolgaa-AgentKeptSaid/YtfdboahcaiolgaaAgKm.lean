/-
  Plain mathematics of AgentKept: what was shipped, in a map; the agency goes over. No program, no condition but those that each theorem names.
-/
import Derived.Test.YtfdboahcaiolgaaAgY
set_option linter.unusedVariables false
set_option linter.unusedSimpArgs false
namespace Go.Proofs.Ytfdboahcaiolgaa
open Dk (Nt InN RightN BoundN MsgN NoMsg KindN EpN bound_n)

structure KepI (N : Int) (s : Sd) (K : List Bl) (M : List (Int × Int)) : Prop where
  h : HasB s K
  l : s.l = ⟨N, 1, 0⟩
  me : s.me = 1
  kp : s.kp = false
  srt : Srt M
  at_ : ∀ t, getL M t = valB K t
theorem KepI.start {N : Int} (h : 1 ≤ N ∧ N ≤ 65536) : KepI N (sN N) [] [] := ⟨sN_has h, rfl, rfl, rfl, srt_nil, fun _ => rfl⟩
theorem KepI.next {N : Int} {s : Sd} {K : List Bl} {M : List (Int × Int)} (h : KepI N s K M) {b : Bl} (e : eSh s b = 0) : KepI N (sSh s b) (insB K b) (putM M b.tx b.vt) := by
  have hb : MayB b := Decidable.byContradiction fun hb => by rw [(sh_may hb).1] at e; cases e
  have hp : ePu K b = 0 := by rw [← sh_has h.h b hb]; exact e
  obtain ⟨h1, h2, h3, h4⟩ := sh_state h.h hb
  rw [if_pos hp] at h1
  refine ⟨h1, h2.trans h.l, h3.trans h.me, h4.trans h.kp, h.srt.put _ _, fun t => ?_⟩
  rw [getL_put M h.srt, val_ins h.h.right hp, h.at_]
theorem KepI.len {N : Int} {s : Sd} {K : List Bl} {M : List (Int × Int)} (h : KepI N s K M) : M.length = K.length := by
  have hk := h.h.right.2.2
  have a1 : (M.map (·.1)).length ≤ (K.map (·.tx)).length := nodup_le (srt_nodup h.srt) fun x hx => by
    obtain ⟨p, hp, rfl⟩ := List.mem_map.1 hx
    have := h.srt.get_iff.2 (show (p.1, p.2) ∈ M from hp)
    rw [h.at_] at this
    exact List.mem_map.2 ⟨_, valB_mem this, rfl⟩
  have a2 : (K.map (·.tx)).length ≤ (M.map (·.1)).length := nodup_le (srtB_nodup hk) fun x hx => by
    obtain ⟨c, hc, rfl⟩ := List.mem_map.1 hx
    have := mem_valB hk hc
    rw [← h.at_] at this
    exact List.mem_map.2 ⟨_, h.srt.get_iff.1 this, rfl⟩
  simp only [List.length_map] at a1 a2
  omega
/-- What holds of ballots and the map that says the same. -/
structure SpkI (K : List Bl) (M : List (Int × Int)) : Prop where
  r : RightB K
  len : M.length = K.length
  at_ : ∀ b ∈ K, getL M b.tx = some b.vt
theorem KepI.spk {N : Int} {s : Sd} {K : List Bl} {M : List (Int × Int)} (h : KepI N s K M) : SpkI K M := ⟨h.h.right, h.len, fun b hb => by rw [h.at_]; exact mem_valB h.h.right.2.2 hb⟩
theorem SpkI.lt {K : List Bl} {M : List (Int × Int)} (h : SpkI K M) {p : Nat} {x y : Bl} (hx : K[p]? = some x) (hy : K[p + 1]? = some y) : x.tx < y.tx := by
  have h1 := h.r.2.2
  unfold SrtB at h1
  rw [List.pairwise_iff_getElem] at h1
  obtain ⟨l1, e1⟩ := List.getElem?_eq_some_iff.1 hx
  obtain ⟨l2, e2⟩ := List.getElem?_eq_some_iff.1 hy
  have := h1 p (p + 1) l1 l2 (by omega)
  rwa [e1, e2] at this
/-- The agency goes. -/
def sG (N : Int) (c : ByteArray) : Sd := ⟨1, ⟨N, 2, 2⟩, c, true⟩
def sH (N : Int) (c : ByteArray) : Sd := ⟨2, ⟨N + 1, 1, 0⟩, c, false⟩
def s2 : Sd := ⟨2, ⟨0, 0, 0⟩, ByteArray.empty, false⟩
theorem KepI.cg {N : Int} {s : Sd} {K : List Bl} {M : List (Int × Int)} (h : KepI N s K M) : s.cg.size ≤ 500 := h.h.r.2.2.2.1
theorem mayW {N : Int} (hn : 1 ≤ N ∧ N ≤ 65536) : MayM ⟨2, 2, 1, N, ⟨#[]⟩⟩ := by
  unfold MayM
  simp only
  exact ⟨by omega, by omega, by omega, by omega, by omega, .inl rfl⟩
theorem mayG {N : Int} {c : ByteArray} (hn : 1 ≤ N ∧ N ≤ 65536) (hc : c.size ≤ 500) : MayM ⟨3, 1, 2, N + 1, c⟩ := by
  unfold MayM
  simp only
  exact ⟨by omega, by omega, by omega, by omega, by omega, .inr ⟨trivial, hc⟩⟩
theorem KepI.gone {N : Int} {s : Sd} {K : List Bl} {M : List (Int × Int)} (h : KepI N s K M) (hn : 1 ≤ N ∧ N ≤ 65536) : hearM s ⟨2, 2, 1, N, ⟨#[]⟩⟩ = ⟨sG N s.cg, [⟨3, 1, 2, N + 1, s.cg⟩], 0⟩ := by
  rw [hear_ok ⟨h.h.r, mayW hn, h.me.symm⟩]
  rw [if_pos rfl]
  unfold wantM
  rw [h.l]
  simp only
  rw [if_pos (by simp), if_neg (by omega), h.me]
  rfl
theorem right2 : RightS s2 := by decide
theorem KepI.come {N : Int} {s : Sd} {K : List Bl} {M : List (Int × Int)} (h : KepI N s K M) (hn : 1 ≤ N ∧ N ≤ 65536) : hearM s2 ⟨3, 1, 2, N + 1, s.cg⟩ = ⟨sH N s.cg, [⟨4, 2, 1, N + 1, ⟨#[]⟩⟩], 0⟩ := by
  rw [hear_ok ⟨right2, mayG hn h.cg, rfl⟩]
  rw [if_neg (by show ¬ (3 : Int) = 2; decide), if_pos rfl]
  unfold giveM
  rw [if_pos (by show (0 : Int) < N + 1; omega)]
  rfl
theorem KepI.there {N : Int} {s : Sd} {K : List Bl} {M : List (Int × Int)} (h : KepI N s K M) (hn : 1 ≤ N ∧ N ≤ 65536) : HasB (sH N s.cg) K := by
  refine ⟨⟨by show (2 : Int) < 8; decide, ?_, by simp [sH], h.cg, .inr (.inl rfl), by simp [sH]⟩, rfl, h.h.d⟩
  unfold rightL sH
  simp [inEp]
  omega
theorem KepI.away {N : Int} {s : Sd} {K : List Bl} {M : List (Int × Int)} (h : KepI N s K M) (hn : 1 ≤ N ∧ N ≤ 65536) {mb : Int} (hm : mb < 8) : eSp (sG N s.cg) mb = 7 ∧ lSp (sG N s.cg) mb = [] := by
  have hr : RightS (sG N s.cg) := by
    refine ⟨by show (1 : Int) < 8; decide, ?_, by simp [sG], h.cg, .inr (.inr rfl), fun _ => rfl⟩
    unfold rightL sG
    simp [inEp]
    omega
  have e : eSp (sG N s.cg) mb = 7 := by
    unfold eSp
    rw [if_neg (by rintro (e | e); exact e hr; omega), if_pos (by show ¬ (2 : Int) = 1; decide)]
  exact ⟨e, by unfold lSp; rw [if_neg (by omega)]⟩
theorem KepI.says {N : Int} {s : Sd} {K : List Bl} {M : List (Int × Int)} (h : KepI N s K M) {mb : Int} (hm : mb < 8) : eSp s mb = 0 ∧ lSp s mb = K.map (ntB mb N) := by
  have := sp_has h.h hm
  rwa [h.l] at this
end Go.Proofs.Ytfdboahcaiolgaa
