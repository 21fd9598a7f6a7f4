/-
  An entry of a map that is made ready first and stored afterwards: both together are the store 'm[k] = v'. Any program; the map of parts of package site.
-/
import Derived.Test.YtealcccjnmfkcaaSiA
import Derived.WideKeyEntry
set_option linter.unusedVariables false
set_option linter.unusedSimpArgs false
namespace Go.Proofs.Ytealcccjnmfkcaa
open Go.RowKit Go.Maps Go.ChangeMaps Go.MapKept Go.WideElems Go.ChangeShapes Go.WideShapes

theorem est_run {P : Program} {t : TypeId} {w : World} {b : Nat} {es : Array MapEntry} {cl : Nat} (hb : w.heap[b]? = some (.map es cl)) {st j : Nat} (hj : es.findIdx? (fun e => ((e.born : Nat) : Int) == ((st : Nat) : Int)) = some j) (v : Value) :
    (Instr.entryStore t (.map (some b)) (goInt st) v).run P w = .ok () (setBlock w b (.map (es.modify j fun e => { e with val := v }) cl)) := by
  simp [Instr.entryStore, MapKept.run_getObj_map hb, asInt, asIntOf, goInt, hj, MapKept.run_setObj_map _ hb, Result.andThen, setBlock]
theorem entry_run {H : Type} {P : Program} {t k e : TypeId} {R : Value → Option (DataW H × List MemPlace)} {w : World} {b : Nat} {es : Array MapEntry} {cl : Nat} (K : Keyed P k) (ht : P.underlying t = some (.map k e)) {z : Value} (hz : ∀ u : World, (zeroValue e).run P u = .ok z u)
    (hb : w.heap[b]? = some (.map es cl)) (F : Fit P k R es cl) {key : Value} {kl : Lit} (hkey : keyOf P k key = some kl) :
    ∃ (x : Value) (st : Nat) (es1 : Array MapEntry) (cl1 : Nat), (Instr.mapEntry t (.map (some b)) key).run P w = .ok (.tuple #[x, goInt st]) (setBlock w b (.map es1 cl1)) ∧
      ∀ (w2 : World) (v : Value), w2.heap[b]? = some (.map es1 cl1) → ∃ es2 cl2, (Instr.entryStore t (.map (some b)) (goInt st) v).run P w2 = .ok () (setBlock w2 b (.map es2 cl2)) ∧ (Instr.mapUpdate t (.map (some b)) key v).run P w = .ok () (setBlock w b (.map es2 cl2)) := by
  obtain ⟨s1, s2, _⟩ := F.stamped
  have hck := K.check w false hkey
  rcases K.find w hkey es.toList F.keys with ⟨h1, h2⟩ | ⟨j, y, h1, h2, h3⟩
  · -- no such key: the entry is laid behind the others, under the clock's stamp
    have hnd : ((es.push ⟨key, z, cl⟩).toList.map (·.born)).Nodup := by
      rw [Array.toList_push, List.map_append]
      refine List.nodup_append.2 ⟨s2, by simp, ?_⟩
      rintro a ha c hc rfl
      obtain ⟨q, hq, rfl⟩ := List.mem_map.1 ha
      have hlt := s1 q hq
      simp at hc
      omega
    have hidx : (es.push ⟨key, z, cl⟩).findIdx? (fun e => ((e.born : Nat) : Int) == ((cl : Nat) : Int)) = some es.size := by
      rw [findIdx_arr]
      exact findIdx_born hnd (e0 := ⟨key, z, cl⟩) (by simp)
    refine ⟨z, cl, es.push ⟨key, z, cl⟩, cl + 1, ?_, fun w2 v hw2 => ⟨_, _, est_run hw2 hidx v, ?_⟩⟩
    · simp [Instr.mapEntry, run_underlying ht, MapKept.run_getObj_map hb, hck, h1, hz, MapKept.run_setObj_map _ hb, Result.andThen, setBlock]
    · have e1 : (es.push ⟨key, z, cl⟩).modify es.size (fun e => { e with val := v }) = es.push ⟨key, v, cl⟩ := by
        apply Array.ext'
        rw [Array.toList_modify, Array.toList_push, Array.toList_push, ← Array.length_toList, modify_last]
      rw [e1]
      simp [Instr.mapUpdate, run_underlying ht, MapKept.run_getObj_map hb, hck, h1, MapKept.run_setObj_map _ hb, Result.andThen, setBlock]
  · -- the key stands there: its entry is found again by its stamp
    subst h3
    have hj : es[j]? = some y := by simpa using h2
    have hst := K.stays w hkey
    have hidx : es.findIdx? (fun e => ((e.born : Nat) : Int) == ((y.born : Nat) : Int)) = some j := by
      rw [findIdx_arr]
      exact findIdx_born s2 h2
    have e0 : es.modify j (fun e => { e with key := y.key }) = es := by
      apply Array.ext'
      rw [Array.toList_modify, modify_eq_set _ _ _ _ h2]
      exact set_self _ _ _ h2
    have e2 : ∀ v : Value, es.modify j (fun e => { e with val := v }) = es.modify j (fun e => { e with key := y.key, val := v }) := fun v => by
      apply Array.ext'
      rw [Array.toList_modify, Array.toList_modify, modify_eq_set _ _ _ _ h2, modify_eq_set _ _ _ _ h2]
    refine ⟨y.val, y.born, es, cl, ?_, fun w2 v hw2 => ⟨_, _, est_run hw2 hidx v, ?_⟩⟩
    · simp [Instr.mapEntry, run_underlying ht, MapKept.run_getObj_map hb, hck, h1, hj, hst, e0, MapKept.run_setObj_map _ hb, Result.andThen, setBlock]
    · rw [e2 v]
      simp [Instr.mapUpdate, run_underlying ht, MapKept.run_getObj_map hb, hck, h1, hj, hst, MapKept.run_setObj_map _ hb, Result.andThen, setBlock]

theorem turned_set {w : World} {b : Nat} {es : Array MapEntry} {cl : Nat} (hb : w.heap[b]? = some (.map es cl)) (es' : Array MapEntry) (cl' : Nat) : w.mapTurned (setBlock w b (.map es' cl')) b := ⟨es, cl, es', cl', hb, rfl⟩
/-- The entry made ready, and stored later, in whatever world has the map's block as it was left. -/
theorem MF.entry {w : World} {m N : Nat} {f : Int → Option Value} (h : MF w m N f) (hn : N < maxLen) {k : Int} (hk : (Lit.int .i64 k).wf = true) :
    ∃ (x : Value) (st : Nat) (w1 : World), (Instr.mapEntry 61 (.map (some m)) (.int .i64 k)).run Try.prog w = .ok (.tuple #[x, .int .i64 st]) w1 ∧ w.mapTurned w1 m ∧
      ∀ (w2 : World) (v : Value), w2.heap[m]? = w1.heap[m]? → ∃ w3, (Instr.entryStore 61 (.map (some m)) (.int .i64 st) v).run Try.prog w2 = .ok () w3 ∧ MF w3 m (N + 1) (fun j => if j = k then some v else f j) ∧ w2.mapTurned w3 m := by
  obtain ⟨D, ⟨es, cl, hb, F, hs, hD⟩, h2⟩ := id h
  obtain ⟨x, st, es1, cl1, hE, hS⟩ := entry_run (w := w) lawI Try.underlying61 zeroP hb F (keyOf_int_mk Try.underlying3 hk)
  refine ⟨x, st, _, hE, turned_set hb _ _, fun w2 v hw2 => ?_⟩
  rw [heap_setBlock_same hb] at hw2
  obtain ⟨es2, cl2, hT, hU⟩ := hS w2 v hw2
  obtain ⟨w', hrun, ho, _⟩ := h.store hn hk v
  rw [hU] at hrun
  injection hrun with _ hw'
  subst hw'
  exact ⟨_, hT, ho.same (by rw [heap_setBlock_same hw2, heap_setBlock_same hb]), turned_set hw2 _ _⟩
end Go.Proofs.Ytealcccjnmfkcaa
