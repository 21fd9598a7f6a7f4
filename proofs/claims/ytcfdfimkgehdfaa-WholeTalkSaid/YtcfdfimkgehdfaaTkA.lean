/-
  The talk over air: letters that say packets, what was told. No condition.
-/
import Derived.Test.YtcfdfimkgehdfaaQaF
import Derived.Test.YtcfdfimkgehdfaaAiPk
set_option linter.unusedVariables false
set_option linter.unusedSimpArgs false
set_option linter.unusedSectionVars false
namespace Go.Proofs.Ytcfdfimkgehdfaa
open Go.RowKit

/-- The letter of the k-th text. -/
def ltr (k : Nat) (s : ByteArray) : Lt := ⟨0, 3, UInt8.ofNat k :: Dk.bl s⟩
/-- All letters to 3 are of texts that were said. -/
def GQ (S : List ByteArray) (Q : Qs) : Prop := ∀ l ∈ Q 3, ∃ k s, S[k]? = some s ∧ l = ltr k s
section
variable {S : List ByteArray} {Q : Qs} {k room : Nat} {s t : ByteArray} {i : Int}
theorem GQ.nil : GQ S (fun _ => []) := fun l h => by cases h
theorem GQ.more (h : GQ S Q) (t : ByteArray) : GQ (S ++ [t]) Q := fun l hl => by
  obtain ⟨k, s, hk, e⟩ := h l hl
  exact ⟨k, s, by rw [List.getElem?_append_left (List.getElem?_eq_some_iff.1 hk).1]; exact hk, e⟩
theorem GQ.snd (h : GQ S Q) (hk : S[k]? = some s) (room : Nat) : GQ S (sSn room Q (ltr k s)) := by
  unfold sSn
  split
  · intro l hl
    rw [show (ltr k s).to = 3 from rfl, updQ_same] at hl
    rcases List.mem_append.1 hl with hl | hl
    · exact h l hl
    · simp at hl; exact ⟨k, s, hk, hl⟩
  · exact h
theorem gq_mem (h0 : eAt Q 3 i = 0) : xTk Q 3 i ∈ Q 3 := List.mem_of_getElem? (xTk_at h0)
theorem GQ.x (h : GQ S Q) (h0 : eAt Q 3 i = 0) : ∃ k s, S[k]? = some s ∧ xTk Q 3 i = ltr k s := h _ (gq_mem h0)
theorem GQ.tk (h : GQ S Q) (i : Int) : GQ S (sTk Q 3 i) := by
  unfold sTk
  split
  · intro l hl
    rw [updQ_same] at hl
    exact h l (List.mem_of_mem_eraseIdx hl)
  · exact h
theorem eAg_at (h : eAg room Q 3 i = 0) : eAt Q 3 i = 0 := by
  unfold eAg at h
  split at h
  · assumption
  · exact h
theorem GQ.ag (h : GQ S Q) (room : Nat) (i : Int) : GQ S (sAg room Q 3 i) := by
  unfold sAg
  split
  · rename_i e
    intro l hl
    rw [updQ_same] at hl
    rcases List.mem_append.1 hl with hl | hl
    · exact h l hl
    · simp at hl
      subst hl
      exact h _ (gq_mem (eAg_at e))
  · exact h
/-- How much was heard behind a letter. -/
def nH (h k : Nat) : Nat := if k = h then h + 1 else h
theorem nH_le {h : Nat} (hh : h ≤ S.length) (hk : S[k]? = some s) : nH h k ≤ S.length := by
  have := (List.getElem?_eq_some_iff.1 hk).1
  unfold nH
  split <;> omega
/-- The letters of what was said, from the h-th on. -/
def LS (S : List ByteArray) (h : Nat) : List Lt := (pkF S h).map fun p => ltr p.seq.toNat p.tx
theorem LS_len (S : List ByteArray) (h : Nat) : (LS S h).length = S.length - h := by unfold LS; rw [List.length_map, pkF_len]
theorem LS_at {h j : Nat} (hs : S[h + j]? = some s) : (LS S h)[j]? = some (ltr (h + j) s) := by
  unfold LS
  rw [List.getElem?_map, pkF_at, hs]
  show some (ltr ((h + j : Nat) : Int).toNat s) = _
  rw [Int.toNat_natCast]
theorem LS_cons {h : Nat} (hs : S[h]? = some s) : LS S h = ltr h s :: LS S (h + 1) := by
  apply List.ext_getElem?
  intro j
  cases j with
  | zero => rw [LS_at (j := 0) (by simpa using hs)]; simp
  | succ j =>
    rw [List.getElem?_cons_succ]
    cases hx : S[h + 1 + j]? with
    | some t =>
      rw [LS_at hx, LS_at (h := h) (j := j + 1) (by rw [← hx]; congr 1; omega)]
      congr 2; omega
    | none =>
      have h1 := List.getElem?_eq_none_iff.1 hx
      rw [List.getElem?_eq_none (by rw [LS_len]; omega), List.getElem?_eq_none (by rw [LS_len]; omega)]
theorem LS_end {h : Nat} (hh : S.length ≤ h) : LS S h = [] := List.eq_nil_of_length_eq_zero (by rw [LS_len]; omega)
theorem snd_ex (hq : (Q 3).length < room) (hs : s.size ≤ 100) : (sSn room Q (ltr k s)) 3 = Q 3 ++ [ltr k s] := by
  have e : eSn room Q (ltr k s) = 0 := by
    unfold eSn
    have h1 : (ltr k s).b.length ≤ 4000 := by show (UInt8.ofNat k :: Dk.bl s).length ≤ 4000; rw [List.length_cons, Dk.bl_length]; omega
    have h2 : (ltr k s).fr = 0 := rfl
    have h3 : (ltr k s).to = 3 := rfl
    rw [h2, h3]
    rw [if_neg (by omega), if_neg (by omega), if_neg (by omega)]
  unfold sSn
  rw [if_pos e, show (ltr k s).to = 3 from rfl, updQ_same]
end
/-- A slice's header as the cells of a box. -/
def hdA (A : Option Addr) (n c : Nat) : Array Value := #[.slice A n c]
theorem hdA_one (A : Option Addr) (n c : Nat) : (hdA A n c).all (·.oneCell') = true := by simp [hdA, Value.oneCell']
def ptA (b : Nat) : Array Value := #[.pointer (some ⟨b, 0, none⟩)]
def zsA (t : ByteArray) : Array Value := #[.string t]
theorem zsA_one (t : ByteArray) : (zsA t).all (·.oneCell') = true := by simp [zsA, Value.oneCell']
def ubA (k : Nat) : Array Value := #[.int .u8 (k : Int)]
/-- Who hears, and what was told: in memory. -/
structure TDs (N gi gt h : Nat) (L : List ByteArray) (A : Option Addr) (n c : Nat) (G : Option Nat) (V : World) : Prop where
  ci : CB V gi 66 (hA (h : Int))
  ct : CB V gt 61 (hdA A n c)
  so : SO N V 9 scl 1 A n c L G
def FT (gi gt : Nat) (G : Option Nat) (i : Nat) : Prop := i = gi ∨ i = gt ∨ G = some i
/-- .. as a thing. -/
def TO (F : Nat → Prop) (N gi gt h : Nat) (L : List ByteArray) (W : World) : Prop := Ob F (fun V => ∃ A n c G, TDs N gi gt h L A n c G V ∧ ∀ i, FT gi gt G i → F i) W
theorem TO.of {N gi gt h : Nat} {L : List ByteArray} {A : Option Addr} {n c : Nat} {G : Option Nat} {W : World} (t : TDs N gi gt h L A n c G W) : TO (FT gi gt G) N gi gt h L W := by
  refine ⟨⟨A, n, c, G, t, fun _ e => e⟩, ?_, ?_⟩
  · rintro i (rfl | rfl | e)
    · exact t.ci.lt
    · exact t.ct.lt
    · exact t.so.seg.lt i e
  · rintro V V' hk hs ⟨A, n, c, G', t, hF⟩
    exact ⟨A, n, c, G', ⟨CB.same t.ci (hk gi (hF _ (.inl rfl))), CB.same t.ct (hk gt (hF _ (.inr (.inl rfl)))), ⟨t.so.seg.keep fun g e => hk g (hF g (.inr (.inr e))), t.so.hi⟩⟩, hF⟩
section
variable {P : Program} {ev : Operand → Value} {dst : Option Tmp} {ty : TypeId} {pos : String} {aft : Array Edge} {gd : Option (Nat × Bool)} {w : World}
theorem yl_build2 (T : TypeId) (i j : Nat) (x0 x1 : Operand) (v0 v1 : Value) (cs : Array Value) (h0 : ev x0 = v0) (h1 : ev x1 = v1) (hb : P.built T [(i, v0), (j, v1)] = some cs) :
    (execOp ev ⟨dst, .build T #[(i, x0), (j, x1)], ty, pos, aft, gd⟩).run P w = .ok (.value (.agg cs)) w := by
  have h := run_build (P := P) w T #[(i, v0), (j, v1)] cs hb
  unfold execOp
  simp [Sem.run_bind, h0, h1, h]
end
theorem rd_apps {P : Program} {ops : Array Oper} {o : Oper} {a : Act} {w : World} {K : Act → World → Prop} {Q : Exit → Act → World → Prop} (hgd : o.guard = none) (s x : Operand) (t u : TypeId) (ho : o.op = .call { callee := .builtin .append, args := #[s, x], argTypes := #[t, u] }) (d : Option Tmp) (hd : o.dst = d)
    (e : TypeId) (ht : P.underlying t = some (.slice e)) (hu : P.underlying u = some .string) (hi : (P.info? e).map (fun i => (i.zero, i.size, i.bytes)) = some (some (.int .u8 0), 1, 1))
    {A : Option Addr} {n c : Nat} {xs : List Value} {G : Option Nat} (hs : a.eval s = .slice A n c) (hseg : Dk.Seg w e 1 A n c xs G)
    {st : ByteArray} (hx : a.eval x = .string st) (h63 : n + st.size ≤ maxLen) (hbytes : n + st.size ≤ 140737488355328) (N : Nat) (hN : n + st.size = N)
    (kk : Sh (∀ A' c' G' w', Dk.Seg w' e 1 A' N c' (xs ++ Lib.strCells st) G' → w.grownBy w' G → Dk.Moved w G G' → K (a.put d (.slice A' N c')) w')) : if Region.wanted o (yielded ops a.tmps) = true then Oper.wp P o a w K Q else K (a.put o.dst undef) w := by
  subst hd hN
  rw [if_pos (by simp [Region.wanted, hgd])]
  obtain ⟨i0, hi0, hz0, hz1, hz2⟩ := parts_of hi
  obtain ⟨A', c', G', w', hrun, h2, h3, h4⟩ := Dk.run_append_seg_string (P := P) w t u o.type e i0 ht hu hi0 hz0 hz1 hz2 hseg st h63 hbytes
  unfold Oper.wp
  simp [execOp, ho, resolve, invoke, builtin, hs, hx, hrun, Result.andThen]
  exact kk.out A' c' G' w' h2 h3 h4
/-- A literal of one is a slice. -/
theorem Seg.ofOne {w : World} {g : Nat} {T : TypeId} {v : Value} (h : CB w g T #[v]) : Dk.Seg w T 1 (some ⟨g, 0, none⟩) 1 1 [v] (some g) :=
  ⟨rfl, Nat.le_refl _, by simp only [maxLen]; omega, .inr ⟨g, 0, #[v], rfl, rfl, h, by simp, fun j u hu => by
    cases j with
    | zero => simpa using hu
    | succ j => simp at hu⟩⟩
theorem underS : Try.prog.underlying 9 = some .string := by kernel_rfl
theorem szU : ∀ V : World, (sizeOf 5).run Try.prog V = .ok 1 V := Try.sizeOf5
theorem cut_f (A : Option Addr) (n c k : Nat) (hk : k ≤ n) : ∀ V : World, (Instr.slice 30 (.slice A n c) (some (.int .i64 (k : Int))) none none).run Try.prog V = .ok (.slice (if c = k then A else A.map (·.add (k * 1))) (n - k) (c - k)) V := fun V => run_cut_from (P := Try.prog) 30 5 Try.underlying30 1 szU A n c k hk V
theorem built_l2 (A : Option Addr) (n c : Nat) (b : List UInt8) : Try.prog.built 40 [(1, .int .u8 3), (2, .slice A n c)] = some (lA ⟨0, 3, b, A, n, c⟩) := by kernel_rfl
theorem ofNat_u8 {k : Nat} (h : k < 256) : (UInt8.ofNat k).toNat = k := by simp; omega
end Go.Proofs.Ytcfdfimkgehdfaa
