/-
  Maps of package cells in memory, keys uint8, waystation/hand.Side: a block that reads as a list by rising keys; what look-up, length, store and delete do to it. Conditions: what each theorem names.
-/
import Derived.Test.YtmghckddofefkaaRangeN
import Derived.Test.YtmghckddofefkaaHaM
import Derived.Test.YtmghckddofefkaaRows
import Derived.WalkKit
import Derived.WalkSpells
import Derived.WalkLawsBesides
import Derived.Deep.QuietTactic
import Derived.BigQuiet
import Derived.Lib.Hide
import Derived.Sort.MapsRangeIn
import Derived.Maps.OwnIn
namespace Go.Proofs.Ytmghckddofefkaa.US
open Go.RowKit Go.Maps

theorem tight {H : Type} {P : Program} {k : TypeId} {R : Value → Option (DataW H × List MemPlace)} {w : World} {b n : Nat} {D : DataW H} (h : w.ownsMap P k R b n D) : w.ownsMap P k R b (Maps.size D) D := by
  obtain ⟨es, clock, hb, F, hs, rfl⟩ := h
  exact ⟨es, clock, hb, F, by simp [Maps.size, length_sorted], rfl⟩

theorem lawK : Keyed Try.prog 5 := int_keyed Try.underlying5
def sd0 : Sd := ⟨0, ⟨0, 0, 0⟩, ⟨#[]⟩, false⟩
/-- How a side is read. -/
def rdS (v : Value) : Option (DataW Unit × List MemPlace) :=
  match v with
  | .agg ⟨[.int .u8 a, .int .i64 b, .int .i64 c, .int .u8 d, .string g, .bool k]⟩ => some (DataW.agg [.lit (Lit.int .u8 a), .lit (Lit.int .i64 b), .lit (Lit.int .i64 c), .lit (Lit.int .u8 d), .lit (Lit.string g.data.toList), .lit (Lit.bool k)], [])
  | _ => none
def dv (v : Sd) : DataW Unit := (DataW.agg [.lit (Lit.int .u8 (v).me), .lit (Lit.int .i64 (v).l.ep), .lit (Lit.int .i64 (v).l.st), .lit (Lit.int .u8 (v).l.to), .lit (Lit.string (v).cg.data.toList), .lit (Lit.bool (v).kp)])
theorem zeroV (w : World) : (zeroValue 31).run Try.prog w = .ok (Value.agg #[.int .u8 (sd0).me, .int .i64 (sd0).l.ep, .int .i64 (sd0).l.st, .int .u8 (sd0).l.to, .string (sd0).cg, .bool (sd0).kp]) w := by kernel_rfl

instance : Inhabited Sd := ⟨sd0⟩
theorem ev_inj {a b : Sd} (h : (Value.agg #[.int .u8 (a).me, .int .i64 (a).l.ep, .int .i64 (a).l.st, .int .u8 (a).l.to, .string (a).cg, .bool (a).kp]) = (Value.agg #[.int .u8 (b).me, .int .i64 (b).l.ep, .int .i64 (b).l.st, .int .u8 (b).l.to, .string (b).cg, .bool (b).kp])) : a = b := by
  obtain ⟨a1, ⟨a2, a3, a4⟩, a5, a6⟩ := a
  obtain ⟨b1, ⟨b2, b3, b4⟩, b5, b6⟩ := b
  simp at h
  obtain ⟨rfl, rfl, rfl, rfl, rfl, rfl⟩ := h
  rfl

theorem dv_inj {a b : Sd} (h : dv a = dv b) : a = b := by
  unfold dv at h
  obtain ⟨a1, ⟨a2, a3, a4⟩, ⟨⟨a5⟩⟩, a6⟩ := a
  obtain ⟨b1, ⟨b2, b3, b4⟩, ⟨⟨b5⟩⟩, b6⟩ := b
  simp at h
  obtain ⟨rfl, rfl, rfl, rfl, rfl, rfl⟩ := h
  rfl

/-- What a value of the map reads as. -/
theorem val_mk {v : Sd} (h : True) : rdS (Value.agg #[.int .u8 (v).me, .int .i64 (v).l.ep, .int .i64 (v).l.st, .int .u8 (v).l.to, .string (v).cg, .bool (v).kp]) = some (dv v, []) := rfl
theorem val_inv {v : Value} {z : DataW Unit × List MemPlace} (h : rdS v = some z) : ∃ c : Sd, v = (Value.agg #[.int .u8 (c).me, .int .i64 (c).l.ep, .int .i64 (c).l.st, .int .u8 (c).l.to, .string (c).cg, .bool (c).kp]) ∧ z = (dv c, []) ∧ True := by
  unfold rdS at h
  split at h
  · cases h
    exact ⟨⟨_, ⟨_, _, _⟩, _, _⟩, rfl, rfl, trivial⟩
  · cases h
theorem zero_ok : True := trivial

/-- Block b is a map that reads as L. -/
def MP (w : World) (b : Nat) (L : List (Int × Sd)) : Prop := w.ownsMap Try.prog 5 rdS b L.length (dat .u8 dv L) ∧ Srt L

section
variable {w w' : World} {b : Nat} {L : List (Int × Sd)}
theorem MP.lt (h : MP w b L) : b < w.heap.size := h.1.lt
theorem MP.srt (h : MP w b L) : Srt L := h.2
theorem MP.is (h : MP w b L) : ∃ es cl, w.heap[b]? = some (.map es cl) := by
  obtain ⟨es, clock, hb, _⟩ := h.1
  exact ⟨es, clock, hb⟩
theorem MP.same (h : MP w b L) (e : w'.heap[b]? = w.heap[b]?) : MP w' b L := by
  obtain ⟨⟨es, clock, hb, r⟩, hs⟩ := h
  exact ⟨⟨es, clock, e.trans hb, r⟩, hs⟩
theorem MP.drewN (h : MP w b L) (n : Nat) : MP (w.drewN n) b L := h
theorem MP.drew (h : MP w b L) : MP w.drew b L := h
theorem MP.alloc (h : MP w b L) (o : Obj) : MP (w.alloc o) b L := h.same (Below.heap_alloc w o b h.lt)
theorem MP.made (w : World) : MP (w.alloc (.map #[] 0)) w.heap.size [] := ⟨World.ownsMap_made w _ _ _, srt_nil⟩
theorem MP.ne {g : Nat} {t : TypeId} {cs : Array Value} (h : MP w b L) (hc : CB w g t cs) : g ≠ b := by
  rintro rfl
  obtain ⟨es, cl, hb⟩ := h.is
  have h' : w.heap[g]? = some (.cells cs t (0, 0)) := hc
  rw [h'] at hb
  cases hb
theorem MP.noBook {l : Nat} (h : MP w b L) (hl : Book w l) : b ≠ l := by
  rintro rfl
  obtain ⟨es, cl, hb⟩ := h.is
  rcases hl with ⟨r, hl⟩ | ⟨d, hl⟩ <;> (rw [hb] at hl; cases hl)
theorem MP.far (h : MP w b L) {p : Addr} (hp : b ≠ p.block) (u : Value) : MP (w.setCell p u) b L := h.same (Below.heap_setCell w p u b hp)

theorem MP.look (h : MP w b L) {k : Int} (hk : (Lit.int .u8 k).wf = true) :
    (Instr.lookup 109 (.map (some b)) (.int .u8 k) true).run Try.prog w = .ok (.tuple #[(Value.agg #[.int .u8 (((getL L k).getD sd0)).me, .int .i64 (((getL L k).getD sd0)).l.ep, .int .i64 (((getL L k).getD sd0)).l.st, .int .u8 (((getL L k).getD sd0)).l.to, .string (((getL L k).getD sd0)).cg, .bool (((getL L k).getD sd0)).kp]), .bool (hasL L k)]) w := by
  obtain ⟨v, ps, hrun, hv⟩ := h.1.look_ok lawK Try.underlying109 (zeroV w) (val_mk zero_ok) (keyOf_int_mk Try.underlying5 hk)
  rw [dat_has] at hrun
  obtain ⟨c, rfl, hc, _⟩ := val_inv hv
  rw [hrun]
  have e : dv ((getL L k).getD sd0) = dv c := by
    have := congrArg Prod.fst hc
    simp only [dat_at] at this
    rw [← this]
    cases getL L k <;> rfl
  rw [dv_inj e]

theorem MP.len (h : MP w b L) (ty : TypeId) : (Builtin.len_ #[109] ty #[.map (some b)]).run Try.prog w = .ok (.int .i64 L.length) w := by
  have := h.1.len Try.underlying109 ty
  rwa [dat_size] at this

theorem MP.store (h : MP w b L) (hn : L.length < maxLen) {k : Int} (hk : (Lit.int .u8 k).wf = true) {v : Sd} (hv : True) :
    ∃ w', (Instr.mapUpdate 109 (.map (some b)) (.int .u8 k) (Value.agg #[.int .u8 (v).me, .int .i64 (v).l.ep, .int .i64 (v).l.st, .int .u8 (v).l.to, .string (v).cg, .bool (v).kp])).run Try.prog w = .ok () w' ∧ MP w' b (putL L k v) ∧ w.mapTurned w' b := by
  obtain ⟨w', hrun, ho, ht⟩ := h.1.store lawK Try.underlying109 hn (keyOf_int_mk Try.underlying5 hk) (val_mk hv)
  rw [dat_put] at ho
  have := tight ho
  rw [dat_size] at this
  exact ⟨w', hrun, ⟨this, h.2.put k v⟩, ht⟩

theorem MP.drop (h : MP w b L) {k : Int} (hk : (Lit.int .u8 k).wf = true) (ty : TypeId) :
    ∃ w', (Builtin.delete_ #[109, 5] ty #[.map (some b), .int .u8 k]).run Try.prog w = .ok (.tuple #[]) w' ∧ MP w' b (delL L k) ∧ w.mapTurned w' b := by
  obtain ⟨w', hrun, ho, ht⟩ := h.1.drop lawK Try.underlying109 (keyOf_int_mk Try.underlying5 hk) ty
  rw [dat_del] at ho
  have := tight ho
  rw [dat_size] at this
  exact ⟨w', hrun, ⟨this, h.2.del k⟩, ht⟩

/-- A key that stands there, and its value, are such as may stand there. -/
theorem MP.wf (h : MP w b L) {k : Int} {v : Sd} (hm : (k, v) ∈ L) : (Lit.int .u8 k).wf = true ∧ True := by
  obtain ⟨⟨es, clock, hb, F, _, hD⟩, hs⟩ := h
  have hp : (Lit.int .u8 k, dv v) ∈ (es.toList.map (WideElems.rg Try.prog 5 rdS)).foldr DataW.insert [] := by
    have : dat .u8 dv L = .map ((es.toList.map (WideElems.rg Try.prog 5 rdS)).foldr DataW.insert []) := hD
    unfold dat at this
    simp only [DataW.map.injEq] at this
    rw [← this]
    exact List.mem_map.2 ⟨(k, v), hm, rfl⟩
  obtain ⟨x, hx, e⟩ := List.mem_map.1 (mem_sorted.1 hp)
  obtain ⟨y, hy⟩ := F.reads x hx
  rw [WideElems.rg_of hy] at e
  have h1 := WideElems.rd_key hy
  obtain ⟨z, hz, hzd⟩ := WideElems.rd_val hy
  obtain ⟨x', _, h3, h4⟩ := Maps.keyOf_int_inv Try.underlying5 h1
  obtain ⟨c, _, h6, h7⟩ := val_inv hz
  have e1 : y.1 = .int .u8 k := congrArg Prod.fst e
  have e2 : y.2 = dv v := congrArg Prod.snd e
  constructor
  · have h5 : Lit.int .u8 k = Lit.int .u8 x' := e1.symm.trans h3
    rw [h5]
    exact h4
  · trivial
end

theorem ranges_same {H : Type} {P : Program} {k : TypeId} {R : Value → Option (DataW H × List MemPlace)} {w w' : World} {b r n : Nat} {D : DataW H} {left : Lit → Bool} {cnt : Nat} (h : w.ranges P k R b r n D left cnt) (e1 : w'.heap[b]? = w.heap[b]?) (e2 : w'.heap[r]? = w.heap[r]?) : w'.ranges P k R b r n D left cnt := by
  obtain ⟨es, clock, since, seen, c0, hb, F, hs, hD, hr, rest⟩ := h
  exact ⟨es, clock, since, seen, c0, e1.trans hb, F, hs, hD, e2.trans hr, rest⟩

theorem ranges_iter {H : Type} {P : Program} {k : TypeId} {R : Value → Option (DataW H × List MemPlace)} {w : World} {b r n : Nat} {D : DataW H} {left : Lit → Bool} {cnt : Nat} (h : w.ranges P k R b r n D left cnt) : ∃ m s sn c, w.heap[r]? = some (.mapIter m s sn c) := by
  obtain ⟨es, clock, since, seen, c0, hb, F, hs, hD, hr, rest⟩ := h
  exact ⟨_, _, _, _, hr⟩

theorem mur_grown {B : Nat} {w w' : World} {G : Option Nat} (h : w.grownBy w' G) (hG : ∀ g, G = some g → B ≤ g ∧ ∃ m s sn c, w.heap[g]? = some (.mapIter m s sn c)) : Mur B w w' :=
  ⟨h.os, h.tape, h.output, h.size, fun g hg hn => h.block g hg (fun e => by
    obtain ⟨h1, m, s, sn, c, hh⟩ := hG g e.symm
    rcases hn with hn | hn
    · omega
    · exact hn m s sn c hh)⟩

/-- What a range that has come to a key knows of it. -/
theorem at_mem {L : List (Int × Sd)} (hL : Srt L) {k : Int} {v : Sd} (h : ∀ zd, (dat .u8 dv L).atKey (.int .u8 k) zd = dv v) : (k, v) ∈ L := by
  rw [← hL.get_iff]
  have h1 := h (.map [])
  rw [dat_at] at h1
  cases hg : getL L k with
  | none => rw [hg] at h1; simp [dv] at h1
  | some c =>
    rw [hg] at h1
    rw [dv_inj h1]
end Go.Proofs.Ytmghckddofefkaa.US
