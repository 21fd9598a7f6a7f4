/-
  WholeTalk's things in memory as one: the air, who says, who hears, what was said and told. Conditions: the texts are small.
-/
import Derived.Test.YtcfdfimkgehdfaaTkB
import Derived.Test.YtcfdfimkgehdfaaTkC
set_option linter.unusedVariables false
set_option linter.unusedSimpArgs false
set_option linter.unusedSectionVars false
namespace Go.Proofs.Ytcfdfimkgehdfaa
open Go.RowKit

theorem hear_t (F : Nat → Prop) (N gi gt h k : Nat) (S : List ByteArray) (s : ByteArray) (x : Lm) (w : World) (ho : TO F N gi gt h (S.take h) w) (hN : N ≤ w.heap.size) (hx : RR w bcl 1 x.A x.n x.c x.b) (hl : x.lt = ltr k s) (hk : S[k]? = some s) (hS : S.length ≤ 60) (hh : h ≤ S.length) (hs : s.size ≤ 100) : Calls Try.prog 23 #[.agg (lA x), .pointer (some ⟨gi, 0, none⟩), .pointer (some ⟨gt, 0, none⟩)] w fun e w' => e = .returned (.tuple #[]) ∧ ∃ F', TO F' N gi gt (nH h k) (S.take (nH h k)) w' ∧ Out w w' F ∧ ∀ i, F' i → F i ∨ w.heap.size ≤ i := by
  obtain ⟨fr, to, b, A, n, c⟩ := x
  have hb : b = UInt8.ofNat k :: Dk.bl s := congrArg Lt.b hl
  simp only at hx
  subst hb
  have hlen := hx.len
  simp only [List.length_cons] at hlen
  obtain ⟨gb, ob, hA, _⟩ := hx.mem (by omega)
  subst hA
  exact hear_i F N gi gt h k S s fr to gb ob n c w ho hN hx hk hS hh hs
structure TWs (N ba ga go gi gt : Nat) (S : List ByteArray) (a h : Nat) (Q : Qs) (As : Option Addr) (ns cs : Nat) (Aw : Option Addr) (nw cw : Nat) (Sa F : Nat → Prop) (Gs Gw : Option Nat) (W : World) : Prop where
  ao : AO Sa ba 1000 Q W
  td : TO F N gi gt h (S.take h) W
  ca : CB W ga 24 (ptA ba)
  co : CB W go 64 (oA ⟨(S.length : Int), Aw, nw, cw, 100⟩)
  ss : SO N W 9 scl 1 As ns cs S Gs
  sw : SO N W 70 pcl 2 Aw nw cw (pkF S a) Gw
  na : ¬ Sa ga
  no : ¬ Sa go
  fa : ¬ F ga
  fo : ¬ F go
  dd : ∀ i, Sa i → ¬ F i
  s1 : ∀ g, Gs = some g → ¬ Sa g
  s2 : ∀ g, Gs = some g → ¬ F g
  w1 : ∀ g, Gw = some g → ¬ Sa g
  w2 : ∀ g, Gw = some g → ¬ F g
def FW (ga go : Nat) (Sa F : Nat → Prop) (Gs Gw : Option Nat) (i : Nat) : Prop := i = ga ∨ i = go ∨ Sa i ∨ F i ∨ Gs = some i ∨ Gw = some i
def TW (B : Nat → Prop) (N ba ga go gi gt : Nat) (S : List ByteArray) (a h : Nat) (Q : Qs) (As : Option Addr) (ns cs : Nat) (Aw : Option Addr) (nw cw : Nat) (W : World) : Prop :=
  Ob B (fun V => ∃ Sa F Gs Gw, TWs N ba ga go gi gt S a h Q As ns cs Aw nw cw Sa F Gs Gw V ∧ ∀ i, FW ga go Sa F Gs Gw i → B i) W
section
variable {N ba ga go gi gt : Nat} {S : List ByteArray} {a h h' k : Nat} {Q Q' : Qs} {As : Option Addr} {ns cs : Nat} {Aw : Option Addr} {nw cw : Nat} {Sa Sb F F' B : Nat → Prop} {Gs Gw : Option Nat} {w V : World} {s : ByteArray} {i : Int}
theorem TWs.keep (t : TWs N ba ga go gi gt S a h Q As ns cs Aw nw cw Sa F Gs Gw w) (hk : ∀ i, FW ga go Sa F Gs Gw i → V.heap[i]? = w.heap[i]?) (hs : w.heap.size ≤ V.heap.size) : TWs N ba ga go gi gt S a h Q As ns cs Aw nw cw Sa F Gs Gw V :=
  ⟨Ob.to t.ao (fun i e => hk i (.inr (.inr (.inl e)))) hs, Ob.to t.td (fun i e => hk i (.inr (.inr (.inr (.inl e))))) hs, CB.same t.ca (hk ga (.inl rfl)), CB.same t.co (hk go (.inr (.inl rfl))),
   ⟨t.ss.seg.keep fun g e => hk g (.inr (.inr (.inr (.inr (.inl e))))), t.ss.hi⟩, ⟨t.sw.seg.keep fun g e => hk g (.inr (.inr (.inr (.inr (.inr e))))), t.sw.hi⟩, t.na, t.no, t.fa, t.fo, t.dd, t.s1, t.s2, t.w1, t.w2⟩
theorem TWs.lt (t : TWs N ba ga go gi gt S a h Q As ns cs Aw nw cw Sa F Gs Gw w) : ∀ i, FW ga go Sa F Gs Gw i → i < w.heap.size := by
  rintro i (rfl | rfl | e | e | e | e)
  · exact t.ca.lt
  · exact t.co.lt
  · exact Ob.lt t.ao i e
  · exact Ob.lt t.td i e
  · exact t.ss.seg.lt i e
  · exact t.sw.seg.lt i e
theorem TW.of (t : TWs N ba ga go gi gt S a h Q As ns cs Aw nw cw Sa F Gs Gw w) : TW (FW ga go Sa F Gs Gw) N ba ga go gi gt S a h Q As ns cs Aw nw cw w := by
  refine ⟨⟨Sa, F, Gs, Gw, t, fun _ e => e⟩, t.lt, ?_⟩
  rintro V V' hk hs ⟨Sa, F, Gs, Gw, t, hB⟩
  exact ⟨Sa, F, Gs, Gw, t.keep (fun i e => hk i (hB i e)) hs, hB⟩
/-- The air has changed. -/
theorem TWs.air (t : TWs N ba ga go gi gt S a h Q As ns cs Aw nw cw Sa F Gs Gw w) (ho : AO Sb ba 1000 Q' V) (o : Out w V Sa) (hn : ∀ i, Sb i → Sa i ∨ w.heap.size ≤ i) : TWs N ba ga go gi gt S a h Q' As ns cs Aw nw cw Sb F Gs Gw V :=
  ⟨ho, Ob.out t.td o (fun i e e2 => t.dd i e2 e), o.box t.ca t.na, o.box t.co t.no, SO.outS t.ss o t.s1, SO.outS t.sw o t.w1,
   fun e => (hn _ e).elim t.na (fun e => by have := t.ca.lt; omega), fun e => (hn _ e).elim t.no (fun e => by have := t.co.lt; omega), t.fa, t.fo,
   fun i e e2 => (hn i e).elim (fun e => t.dd i e e2) (fun e => by have := Ob.lt t.td i e2; omega), SO.farS t.ss t.s1 hn, t.s2, SO.farS t.sw t.w1 hn, t.w2⟩
/-- What was told has changed. -/
theorem TWs.told (t : TWs N ba ga go gi gt S a h Q As ns cs Aw nw cw Sa F Gs Gw w) (ho : TO F' N gi gt h' (S.take h') V) (o : Out w V F) (hn : ∀ i, F' i → F i ∨ w.heap.size ≤ i) : TWs N ba ga go gi gt S a h' Q As ns cs Aw nw cw Sa F' Gs Gw V :=
  ⟨Ob.out t.ao o t.dd, ho, o.box t.ca t.fa, o.box t.co t.fo, SO.outS t.ss o t.s2, SO.outS t.sw o t.w2, t.na, t.no,
   fun e => (hn _ e).elim t.fa (fun e => by have := t.ca.lt; omega), fun e => (hn _ e).elim t.fo (fun e => by have := t.co.lt; omega),
   fun i e e2 => (hn i e2).elim (fun e2 => t.dd i e e2) (fun e2 => by have := Ob.lt t.ao i e; omega), t.s1, SO.farS t.ss t.s2 hn, t.w1, SO.farS t.sw t.w2 hn⟩
theorem fw_air (hB : ∀ i, FW ga go Sa F Gs Gw i → B i) (hn : ∀ i, Sb i → Sa i ∨ w.heap.size ≤ i) : ∀ i, FW ga go Sb F Gs Gw i → B i ∨ w.heap.size ≤ i := by
  rintro i (e | e | e | e | e | e)
  · exact .inl (hB i (.inl e))
  · exact .inl (hB i (.inr (.inl e)))
  · exact (hn i e).imp (fun e => hB i (.inr (.inr (.inl e)))) id
  · exact .inl (hB i (.inr (.inr (.inr (.inl e)))))
  · exact .inl (hB i (.inr (.inr (.inr (.inr (.inl e))))))
  · exact .inl (hB i (.inr (.inr (.inr (.inr (.inr e))))))
theorem fw_told (hB : ∀ i, FW ga go Sa F Gs Gw i → B i) (hn : ∀ i, F' i → F i ∨ w.heap.size ≤ i) : ∀ i, FW ga go Sa F' Gs Gw i → B i ∨ w.heap.size ≤ i := by
  rintro i (e | e | e | e | e | e)
  · exact .inl (hB i (.inl e))
  · exact .inl (hB i (.inr (.inl e)))
  · exact .inl (hB i (.inr (.inr (.inl e))))
  · exact (hn i e).imp (fun e => hB i (.inr (.inr (.inr (.inl e))))) id
  · exact .inl (hB i (.inr (.inr (.inr (.inr (.inl e))))))
  · exact .inl (hB i (.inr (.inr (.inr (.inr (.inr e))))))
/-- Behind a call that changes it. -/
def TWPost (B : Nat → Prop) (N ba ga go gi gt : Nat) (S : List ByteArray) (a h : Nat) (Q : Qs) (As : Option Addr) (ns cs : Nat) (Aw : Option Addr) (nw cw : Nat) (w : World) (v : Value) (e : Ending) (w' : World) : Prop :=
  e = .returned v ∧ ∃ B', TW B' N ba ga go gi gt S a h Q As ns cs Aw nw cw w' ∧ Out w w' B ∧ ∀ i, B' i → B i ∨ w.heap.size ≤ i
theorem tw_send (t : TW B N ba ga go gi gt S a h Q As ns cs Aw nw cw w) (hk : k < 256) (hs : s.size ≤ 100) : Calls Try.prog 25 #[.agg (pA ⟨(k : Int), s⟩), .pointer (some ⟨ga, 0, none⟩)] w (TWPost B N ba ga go gi gt S a h (sSn 1000 Q (ltr k s)) As ns cs Aw nw cw w (.tuple #[])) := by
  obtain ⟨Sa, F, Gs, Gw, u, hB⟩ := t.ok
  refine (send_t Sa ga ba k Q s w u.ca u.ao u.na hk hs).mono ?_
  rintro e w' ⟨rfl, Sb, ao, ou, nw⟩
  exact ⟨rfl, _, TW.of (u.air ao ou nw), ou.mono (fun i _ e => hB i (.inr (.inr (.inl e)))), fw_air hB nw⟩
theorem tw_again (t : TW B N ba ga go gi gt S a h Q As ns cs Aw nw cw w) : Calls Try.prog 20 #[.pointer (some ⟨ba, 0, none⟩), .int .u8 3, .int .i64 i] w (TWPost B N ba ga go gi gt S a h (sAg 1000 Q 3 i) As ns cs Aw nw cw w (.int .i64 ((eAg 1000 Q 3 i : Nat) : Int))) := by
  obtain ⟨Sa, F, Gs, Gw, u, hB⟩ := t.ok
  refine (again_k (t := 3) (i := i) u.ao rfl rfl).mono ?_
  rintro e w' ⟨rfl, Sb, ao, ou, nw⟩
  exact ⟨rfl, _, TW.of (u.air ao ou nw), ou.mono (fun i _ e => hB i (.inr (.inr (.inl e)))), fw_air hB nw⟩
theorem tw_len (t : TW B N ba ga go gi gt S a h Q As ns cs Aw nw cw w) : Calls Try.prog 15 #[.pointer (some ⟨ba, 0, none⟩), .int .u8 3] w fun e w' => e = .returned (.int .i64 ((Q 3).length : Int)) ∧ w = w' := by
  obtain ⟨Sa, F, Gs, Gw, u, hB⟩ := t.ok
  exact alen_k (t := 3) u.ao rfl
theorem tw_hear (t : TW B N ba ga go gi gt S a h Q As ns cs Aw nw cw w) (hN : N ≤ w.heap.size) (x : Lm) (hx : RR w bcl 1 x.A x.n x.c x.b) (hl : x.lt = ltr k s) (hk : S[k]? = some s) (hS : S.length ≤ 60) (hh : h ≤ S.length) (hs : s.size ≤ 100) : Calls Try.prog 23 #[.agg (lA x), .pointer (some ⟨gi, 0, none⟩), .pointer (some ⟨gt, 0, none⟩)] w (TWPost B N ba ga go gi gt S a (nH h k) Q As ns cs Aw nw cw w (.tuple #[])) := by
  obtain ⟨Sa, F, Gs, Gw, u, hB⟩ := t.ok
  refine (hear_t F N gi gt h k S s x w u.td hN hx hl hk hS hh hs).mono ?_
  rintro e w' ⟨rfl, F', ao, ou, nw⟩
  exact ⟨rfl, _, TW.of (u.told ao ou nw), ou.mono (fun i _ e => hB i (.inr (.inr (.inr (.inl e))))), fw_told hB nw⟩
theorem tw_take (t : TW B N ba ga go gi gt S a h Q As ns cs Aw nw cw w) : Calls Try.prog 17 #[.pointer (some ⟨ba, 0, none⟩), .int .u8 3, .int .i64 i] w fun e w' =>
    ∃ x : Lm, e = .returned (.tuple #[.agg (lA x), .int .i64 ((eAt Q 3 i : Nat) : Int)]) ∧ x.lt = xTk Q 3 i ∧ RS w' 5 bcl 1 x.A x.n x.c x.b ∧ ∃ B', TW B' N ba ga go gi gt S a h (sTk Q 3 i) As ns cs Aw nw cw w' ∧ Out w w' B ∧ (∀ i, B' i → B i ∨ w.heap.size ≤ i) ∧ ∀ g, InB x.A g → B g ∧ ¬ B' g := by
  obtain ⟨Sa, F, Gs, Gw, u, hB⟩ := t.ok
  refine (take_k (t := 3) (i := i) u.ao rfl rfl rfl).mono ?_
  rintro e w' ⟨x, rfl, hx, rs, Sb, ao, ou, nw, xo⟩
  refine ⟨x, rfl, hx, rs, _, TW.of (u.air ao ou nw), ou.mono (fun i _ e => hB i (.inr (.inr (.inl e)))), fw_air hB nw, fun g hg => ?_⟩
  obtain ⟨h1, h2⟩ := xo g hg
  refine ⟨hB g (.inr (.inr (.inl h1))), ?_⟩
  rintro (rfl | rfl | e | e | e | e)
  · exact u.na h1
  · exact u.no h1
  · exact h2 e
  · exact u.dd g h1 e
  · exact u.s1 g e h1
  · exact u.w1 g e h1
theorem TW.ca (t : TW B N ba ga go gi gt S a h Q As ns cs Aw nw cw w) : CB w ga 24 (ptA ba) := by obtain ⟨_, _, _, _, u, _⟩ := t.ok; exact u.ca
theorem TW.co (t : TW B N ba ga go gi gt S a h Q As ns cs Aw nw cw w) : CB w go 64 (oA ⟨(S.length : Int), Aw, nw, cw, 100⟩) := by obtain ⟨_, _, _, _, u, _⟩ := t.ok; exact u.co
theorem TW.ss (t : TW B N ba ga go gi gt S a h Q As ns cs Aw nw cw w) : ∃ G, SO N w 9 scl 1 As ns cs S G := by obtain ⟨_, _, _, _, u, _⟩ := t.ok; exact ⟨_, u.ss⟩
theorem TW.sw (t : TW B N ba ga go gi gt S a h Q As ns cs Aw nw cw w) : ∃ G, SO N w 70 pcl 2 Aw nw cw (pkF S a) G := by obtain ⟨_, _, _, _, u, _⟩ := t.ok; exact ⟨_, u.sw⟩
theorem TW.td (t : TW B N ba ga go gi gt S a h Q As ns cs Aw nw cw w) : ∃ A n c G, TDs N gi gt h (S.take h) A n c G w := by
  obtain ⟨_, _, _, _, u, _⟩ := t.ok
  obtain ⟨A, n, c, G, v, _⟩ := u.td.ok
  exact ⟨A, n, c, G, v⟩
/-- Who says has another list that waits, told anew. -/
theorem TW.acked (t : TW B N ba ga go gi gt S a h Q As ns cs Aw nw cw w) {W : World} (hb : Below w.heap.size w W) {a' nw' cw' : Nat} {Aw' : Option Addr} {Gw' : Option Nat} (hs : SO w.heap.size W 70 pcl 2 Aw' nw' cw' (pkF S a') Gw') (hN : N ≤ w.heap.size) (k : Wr W V go) (hc : CB V go 64 (oA ⟨(S.length : Int), Aw', nw', cw', 100⟩)) :
    ∃ B', TW B' N ba ga go gi gt S a' h Q As ns cs Aw' nw' cw' V ∧ Out w V B ∧ ∀ i, B' i → B i ∨ w.heap.size ≤ i := by
  obtain ⟨Sa, F, Gs, Gw, u, hB⟩ := t.ok
  have v := u.keep (fun i e => hb.block i (u.lt i e)) hb.size
  have hgo : go < w.heap.size := u.co.lt
  have hga : ga ≠ go := u.ca.ne_ u.co (by decide)
  have ns : ∀ b, Gs = some b → b ≠ go := SO.noT u.ss u.co (by decide)
  have nwg : ∀ b, Gw' = some b → b ≠ go := fun b e => by have := hs.hi b e; omega
  refine ⟨_, TW.of (Gw := Gw') (Aw := Aw') (nw := nw') (cw := cw') (a := a') ⟨Ob.wr v.ao k v.no, Ob.wr v.td k v.fo, k.on v.ca hga, hc, SO.wr v.ss k ns, SO.mono (SO.wr hs k nwg) hN, v.na, v.no, v.fa, v.fo, v.dd, v.s1, v.s2, ?_, ?_⟩, ?_, ?_⟩
  · intro g e e2
    have := hs.hi g e; have := Ob.lt u.ao g e2; omega
  · intro g e e2
    have := hs.hi g e; have := Ob.lt u.td g e2; omega
  · exact (Out.of B hb).wrS k (hB go (.inr (.inl rfl)))
  · rintro i (e | e | e | e | e | e)
    · exact .inl (hB i (.inl e))
    · exact .inl (hB i (.inr (.inl e)))
    · exact .inl (hB i (.inr (.inr (.inl e))))
    · exact .inl (hB i (.inr (.inr (.inr (.inl e)))))
    · exact .inl (hB i (.inr (.inr (.inr (.inr (.inl e))))))
    · exact .inr (hs.hi i e)
end
end Go.Proofs.Ytcfdfimkgehdfaa
