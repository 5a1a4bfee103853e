/- Merged texts: ClaN. -/
import Derived.Test.YtpoinhjkdgcnaaaDoorMba
import Derived.Test.YtpoinhjkdgcnaaaDoorMaq
import Derived.Test.YtpoinhjkdgcnaaaDoorMan
import Derived.WideKeyPair
/- Hashes as keys of a map: lookup, update, and an entry that is stored into. -/
namespace Go.Proofs.YtpoinhjkdgcnaaaDoor
open Go.RowKit Go.WideMaps Go.WideShapes Go.MapKept
set_option linter.unusedVariables false
set_option linter.unusedSimpArgs false

set_option maxRecDepth 100000 in
theorem akH : ArrKey Tryd.prog 47 5 32 := ⟨Tryd.underlying47, by kernel_rfl, by kernel_rfl, by kernel_rfl⟩
set_option maxRecDepth 100000 in
theorem tszH : ∃ m, Tryd.prog.types.size = m + 1 := ⟨Tryd.prog.types.size - 1, by kernel_rfl⟩
set_option maxRecDepth 100000 in
theorem klH : KeyLaw Tryd.prog 47 := akH.law
def HK (l : List UInt8) : Value := .agg (l.map B8).toArray
set_option maxRecDepth 100000 in
theorem keyH (l : List UInt8) (h : l.length = 32) : ∃ kl, keyOf Tryd.prog 47 (HK l) = some kl := by
  have hkt := akH.keyType tszH
  obtain ⟨m, hm⟩ := tszH
  unfold keyOf HK
  simp only [akH.hu]
  rw [if_pos (by simp [hkt, Value.formed, akH.hu, akH.size, h]), hm]
  unfold Program.keyLits
  simp only [akH.hu, Value.cells]
  rw [if_pos (by rw [akH.size]; simp [h]), akH.one]
  have hone : ∀ i ∈ List.range 32, Tryd.prog.keyLits (m + 1) 5 (List.take 1 (List.drop (i * 1) (List.map B8 l))) = some [Lit.int .u8 ((l.getD i 0).toNat : Int)] := fun i hi => by
    have hi' : i < l.length := by rw [h]; exact List.mem_range.1 hi
    have e : List.take 1 (List.drop (i * 1) (List.map B8 l)) = [B8 (l.getD i 0)] := by
      rw [Nat.mul_one, List.take_one, List.head?_drop, List.getElem?_map, List.getElem?_eq_getElem hi', List.getD_eq_getElem?_getD, List.getElem?_eq_getElem hi']
      rfl
    rw [e]
    obtain ⟨x, hx⟩ : ∃ x, x = l.getD i 0 := ⟨_, rfl⟩
    rw [← hx]
    unfold Program.keyLits
    rw [Tryd.underlying5]
    have h8 := x.toNat_lt
    have l0 : IntKind.u8.min = 0 := rfl
    have l1 : IntKind.u8.max = 255 := rfl
    simp [B8, Lit.wf, l0, l1]
    omega
  rw [mapM_list _ _ _ hone]
  exact ⟨_, rfl⟩
set_option maxRecDepth 100000 in
theorem HK_inj {a b : List UInt8} (h : HK a = HK b) : a = b := by
  unfold HK at h
  injection h with h
  have h2 : a.map B8 = b.map B8 := by
    have := congrArg Array.toList h
    simpa using this
  refine List.map_inj_right (f := B8) ?_ |>.1 h2
  intro x y hxy
  unfold B8 at hxy
  injection hxy with _ h3
  exact UInt8.toNat_inj.1 (by omega)
/-- A map by hashes: what it holds, in the order of the first writes. -/
def MapH (w : World) (b : Nat) (D : List (List UInt8 × Value)) : Prop :=
  ∃ es clock, w.heap[b]? = some (.map es clock) ∧ Stamped es clock ∧ (∀ p ∈ D, p.1.length = 32) ∧ es.toList.map (fun e => (e.key, e.val)) = D.map (fun p => (HK p.1, p.2))
def mget (D : List (List UInt8 × Value)) (h : List UInt8) (z : Value) : Value := ((D.find? (fun p => p.1 == h)).map (·.2)).getD z
set_option maxRecDepth 100000 in
theorem mget_at {D : List (List UInt8 × Value)} (hn : (D.map (·.1)).Nodup) {p : List UInt8 × Value} (hp : p ∈ D) (z : Value) : mget D p.1 z = p.2 := by
  induction D with
  | nil => simp at hp
  | cons q r ih =>
    rw [List.map_cons, List.nodup_cons] at hn
    unfold mget
    rw [List.find?_cons]
    rcases List.mem_cons.1 hp with rfl | hr
    · simp
    · have hne : (q.1 == p.1) = false := beq_eq_false_iff_ne.2 (fun e => hn.1 (by rw [e]; exact List.mem_map.2 ⟨p, hr, rfl⟩))
      rw [hne]
      exact ih hn.2 hr
set_option maxRecDepth 100000 in
theorem mget_none {D : List (List UInt8 × Value)} {h : List UInt8} (hn : ∀ p ∈ D, p.1 ≠ h) (z : Value) : mget D h z = z := by
  unfold mget
  rw [List.find?_eq_none.2 (fun p hp => by simpa using hn p hp)]
  rfl
set_option maxRecDepth 100000 in
theorem MapH.keys {es : Array MapEntry} {D : List (List UInt8 × Value)} (h3 : ∀ p ∈ D, p.1.length = 32) (h4 : es.toList.map (fun e => (e.key, e.val)) = D.map (fun p => (HK p.1, p.2))) : ∀ e ∈ es.toList, ∃ l, keyOf Tryd.prog 47 e.key = some l := fun e he => by
  have : (e.key, e.val) ∈ D.map (fun p => (HK p.1, p.2)) := by rw [← h4]; exact List.mem_map.2 ⟨e, he, rfl⟩
  obtain ⟨p, hp, e2⟩ := List.mem_map.1 this
  injection e2 with e2 _
  rw [← e2]
  exact keyH p.1 (h3 p hp)
set_option maxRecDepth 100000 in
theorem MapH.nodup {es : Array MapEntry} {clock : Nat} {D : List (List UInt8 × Value)} (hs : Stamped es clock) (h4 : es.toList.map (fun e => (e.key, e.val)) = D.map (fun p => (HK p.1, p.2))) : (D.map (·.1)).Nodup := by
  have h5 : (D.map (·.1)).map HK = es.toList.map (·.key) := by
    have := congrArg (List.map Prod.fst) h4
    rw [List.map_map, List.map_map] at this
    rw [List.map_map]
    exact this.symm
  have := hs.2.2
  rw [← h5] at this
  exact (List.pairwise_map.1 this).imp (fun h e => h (by rw [e]))
set_option maxRecDepth 100000 in
theorem lookup_H {t e : TypeId} {z : Value} {w : World} {b : Nat} {D : List (List UInt8 × Value)} (ht : Tryd.prog.underlying t = some (.map 47 e)) (hz : (zeroValue e).run Tryd.prog w = .ok z w) (hm : MapH w b D) (h : List UInt8) (hh : h.length = 32) :
    (Instr.lookup t (.map (some b)) (HK h) false).run Tryd.prog w = .ok (mget D h z) w := by
  obtain ⟨es, clock, hb, hs, h3, h4⟩ := hm
  obtain ⟨kl, hkey⟩ := keyH h hh
  rcases klH.find w hkey es.toList (MapH.keys h3 h4) with ⟨h1, h2⟩ | ⟨j, e0, h1, h2, h5⟩
  · have : mget D h z = z := mget_none (fun p hp e1 => by
      have : (HK p.1, p.2) ∈ es.toList.map (fun e => (e.key, e.val)) := by rw [h4]; exact List.mem_map.2 ⟨p, hp, rfl⟩
      obtain ⟨x, hx, e2⟩ := List.mem_map.1 this
      injection e2 with e2 _
      exact h2 x hx (by rw [e2, e1])) z
    rw [this]
    simp [Instr.lookup, run_underlying ht, MapKept.run_getObj_map hb, klH.check w _ hkey, h1, hz, Result.andThen]
  · have hmem : e0 ∈ es.toList := List.mem_of_getElem? h2
    have : (e0.key, e0.val) ∈ D.map (fun p => (HK p.1, p.2)) := by rw [← h4]; exact List.mem_map.2 ⟨e0, hmem, rfl⟩
    obtain ⟨p, hp, e2⟩ := List.mem_map.1 this
    injection e2 with e2 e3
    have hph : p.1 = h := HK_inj (by rw [e2, h5])
    have hg := mget_at (MapH.nodup hs h4) hp z
    rw [hph, e3] at hg
    rw [hg]
    simp [Instr.lookup, run_underlying ht, MapKept.run_getObj_map hb, klH.check w _ hkey, h1, Result.andThen]
/-- A map's value at a key is set. -/
def mput : List (List UInt8 × Value) → List UInt8 → Value → List (List UInt8 × Value)
  | [], h, v => [(h, v)]
  | p :: r, h, v => if p.1 = h then (h, v) :: r else p :: mput r h v
set_option maxRecDepth 100000 in
theorem mput_32 (D : List (List UInt8 × Value)) (h : List UInt8) (v : Value) (hh : h.length = 32) (hD : ∀ p ∈ D, p.1.length = 32) : ∀ p ∈ mput D h v, p.1.length = 32 := by
  induction D with
  | nil => intro p hp; simp [mput] at hp; rw [hp]; exact hh
  | cons q r ih =>
    intro p hp
    unfold mput at hp
    by_cases e : q.1 = h
    · rw [if_pos e] at hp
      rcases List.mem_cons.1 hp with rfl | h2
      · exact hh
      · exact hD p (List.mem_cons_of_mem _ h2)
    · rw [if_neg e] at hp
      rcases List.mem_cons.1 hp with rfl | h2
      · exact hD p List.mem_cons_self
      · exact ih (fun p hp => hD p (List.mem_cons_of_mem _ hp)) p h2
set_option maxRecDepth 100000 in
theorem mput_none (D : List (List UInt8 × Value)) (h : List UInt8) (v : Value) (hn : ∀ p ∈ D, p.1 ≠ h) : mput D h v = D ++ [(h, v)] := by
  induction D with
  | nil => rfl
  | cons q r ih =>
    unfold mput
    rw [if_neg (hn q List.mem_cons_self), ih (fun p hp => hn p (List.mem_cons_of_mem _ hp))]
    rfl
set_option maxRecDepth 100000 in
theorem mput_set (D : List (List UInt8 × Value)) (h : List UInt8) (v : Value) (hn : (D.map (·.1)).Nodup) : ∀ (j : Nat) (p : List UInt8 × Value), D[j]? = some p → p.1 = h → mput D h v = D.set j (h, v) := by
  induction D with
  | nil => intro j p h1 _; simp at h1
  | cons q r ih =>
    rw [List.map_cons, List.nodup_cons] at hn
    intro j p h1 h2
    unfold mput
    match j with
    | 0 =>
      simp at h1
      rw [h1, if_pos h2, List.set_cons_zero]
    | j + 1 =>
      rw [List.getElem?_cons_succ] at h1
      have hm := List.mem_of_getElem? h1
      rw [if_neg (fun e => hn.1 (by rw [e, ← h2]; exact List.mem_map.2 ⟨p, hm, rfl⟩)), ih hn.2 j p h1 h2, List.set_cons_succ]
set_option maxRecDepth 100000 in
theorem mget_mput (D : List (List UInt8 × Value)) (h k : List UInt8) (v z : Value) : mget (mput D h v) k z = if k = h then v else mget D k z := by
  induction D with
  | nil =>
    unfold mput mget
    by_cases e : k = h
    · rw [if_pos e, e]; simp
    · rw [if_neg e, List.find?_cons, show ((h, v).1 == k) = false from beq_eq_false_iff_ne.2 (fun e2 => e e2.symm)]
  | cons q r ih =>
    unfold mput
    by_cases e : q.1 = h
    · rw [if_pos e]
      unfold mget
      rw [List.find?_cons, List.find?_cons, e]
      by_cases e2 : k = h
      · rw [if_pos e2, e2]; simp
      · rw [if_neg e2, show (h == k) = false from beq_eq_false_iff_ne.2 (fun e3 => e2 e3.symm)]
    · rw [if_neg e]
      unfold mget at ih ⊢
      rw [List.find?_cons, List.find?_cons]
      by_cases e2 : q.1 = k
      · rw [show (q.1 == k) = true from beq_iff_eq.2 e2, if_neg (fun e3 => e (e2.trans e3))]
      · rw [show (q.1 == k) = false from beq_eq_false_iff_ne.2 e2]
        exact ih
open Go.ChangeMaps in
set_option maxRecDepth 100000 in
theorem update_H {t e : TypeId} {w : World} {b : Nat} {D : List (List UInt8 × Value)} (ht : Tryd.prog.underlying t = some (.map 47 e)) (hm : MapH w b D) (h : List UInt8) (hh : h.length = 32) (v : Value) :
    ∃ o, (Instr.mapUpdate t (.map (some b)) (HK h) v).run Tryd.prog w = .ok () (setBlock w b o) ∧ MapH (setBlock w b o) b (mput D h v) := by
  obtain ⟨es, clock, hb, hs, h3, h4⟩ := hm
  obtain ⟨kl, hkey⟩ := keyH h hh
  rcases klH.find w hkey es.toList (MapH.keys h3 h4) with ⟨h1, h2⟩ | ⟨j, e0, h1, h2, h5⟩
  · refine ⟨.map (es.push ⟨HK h, v, clock⟩) (clock + 1), ?_, es.push ⟨HK h, v, clock⟩, clock + 1, (heap_set hb).1, stamped_push hs h2, mput_32 D h v hh h3, ?_⟩
    · simp [Instr.mapUpdate, run_underlying ht, MapKept.run_getObj_map hb, klH.check w false hkey, h1, MapKept.run_setObj_map _ hb, Result.andThen, setBlock]
    · rw [mput_none D h v (fun p hp e1 => by
        have : (HK p.1, p.2) ∈ es.toList.map (fun e => (e.key, e.val)) := by rw [h4]; exact List.mem_map.2 ⟨p, hp, rfl⟩
        obtain ⟨x, hx, e2⟩ := List.mem_map.1 this
        injection e2 with e2 _
        exact h2 x hx (by rw [e2, e1])), Array.toList_push, List.map_append, List.map_append, h4]
      rfl
  · have hj : es[j]? = some e0 := by simpa using h2
    have hkeyf : ∀ e', es[j]? = some e' → ({ e' with key := HK h, val := v } : MapEntry).key = e'.key := fun e' he' => by rw [hj] at he'; cases he'; exact h5.symm
    refine ⟨.map (es.modify j (fun e' => { e' with key := HK h, val := v })) clock, ?_, es.modify j (fun e' => { e' with key := HK h, val := v }), clock, (heap_set hb).1, stamped_modify hs _ _ (fun _ _ => rfl) (fun e' _ he' => hkeyf e' he'), mput_32 D h v hh h3, ?_⟩
    · simp [Instr.mapUpdate, run_underlying ht, MapKept.run_getObj_map hb, klH.check w false hkey, h1, hj, h5, klH.stays w hkey, MapKept.run_setObj_map _ hb, Result.andThen, setBlock]
    · have hdj : (D.map (fun p => (HK p.1, p.2)))[j]? = some (e0.key, e0.val) := by rw [← h4, List.getElem?_map, h2]; rfl
      rw [List.getElem?_map] at hdj
      obtain ⟨p, hp, e2⟩ := Option.map_eq_some_iff.1 hdj
      injection e2 with e2 e3
      rw [mput_set D h v (MapH.nodup hs h4) j p hp (HK_inj (by rw [e2, h5])), List.map_set, ← h4, Array.toList_modify, modify_eq_set _ _ _ _ h2, List.map_set]
set_option maxRecDepth 100000 in
theorem stamp_at : ∀ (l : List MapEntry) (j : Nat) (x : MapEntry), (l.map (·.born)).Nodup → l[j]? = some x → l.findIdx? (fun e => ((e.born : Nat) : Int) == ((x.born : Nat) : Int)) = some j
  | [], j, x, _, h => by simp at h
  | y :: r, 0, x, hn, h => by
    simp at h
    rw [List.findIdx?_cons, h]
    simp
  | y :: r, j + 1, x, hn, h => by
    rw [List.getElem?_cons_succ] at h
    rw [List.map_cons, List.nodup_cons] at hn
    have hm := List.mem_of_getElem? h
    have hne : (((y.born : Nat) : Int) == ((x.born : Nat) : Int)) = false := beq_eq_false_iff_ne.2 (fun e => hn.1 (by rw [show y.born = x.born by omega]; exact List.mem_map.2 ⟨x, hm, rfl⟩))
    rw [List.findIdx?_cons, hne, stamp_at r j x hn.2 h]
    rfl
set_option maxRecDepth 100000 in
theorem arr_find (xs : Array MapEntry) (p : MapEntry → Bool) : xs.findIdx? p = xs.toList.findIdx? p := by
  obtain ⟨l⟩ := xs
  simp
set_option maxRecDepth 100000 in
theorem set_same {α : Type} : ∀ (l : List α) (j : Nat) (a : α), l[j]? = some a → l.set j a = l
  | [], _, _, _ => rfl
  | x :: r, 0, a, h => by simp at h; rw [h, List.set_cons_zero]
  | x :: r, j + 1, a, h => by rw [List.getElem?_cons_succ] at h; rw [List.set_cons_succ, set_same r j a h]
open Go.ChangeMaps in
set_option maxRecDepth 100000 in
/-- An entry is asked for, and then stored into. -/
theorem entry_H {t e : TypeId} {z : Value} {w : World} {b : Nat} {D : List (List UInt8 × Value)} (ht : Tryd.prog.underlying t = some (.map 47 e)) (hz : (zeroValue e).run Tryd.prog w = .ok z w) (hm : MapH w b D) (h : List UInt8) (hh : h.length = 32) :
    ∃ st o1, (Instr.mapEntry t (.map (some b)) (HK h)).run Tryd.prog w = .ok (.tuple #[mget D h z, goInt st]) (setBlock w b o1) ∧ (setBlock w b o1).heap[b]? = some o1 ∧
      ∀ (w2 : World) (v : Value), w2.heap[b]? = some o1 → ∃ o2, (Instr.entryStore t (.map (some b)) (goInt st) v).run Tryd.prog w2 = .ok () (setBlock w2 b o2) ∧ MapH (setBlock w2 b o2) b (mput D h v) := by
  obtain ⟨es, clock, hb, hs, h3, h4⟩ := hm
  obtain ⟨kl, hkey⟩ := keyH h hh
  rcases klH.find w hkey es.toList (MapH.keys h3 h4) with ⟨h1, h2⟩ | ⟨j, e0, h1, h2, h5⟩
  · have hno : ∀ p ∈ D, p.1 ≠ h := fun p hp e1 => by
      have : (HK p.1, p.2) ∈ es.toList.map (fun e => (e.key, e.val)) := by rw [h4]; exact List.mem_map.2 ⟨p, hp, rfl⟩
      obtain ⟨x, hx, e2⟩ := List.mem_map.1 this
      injection e2 with e2 _
      exact h2 x hx (by rw [e2, e1])
    refine ⟨clock, .map (es.push ⟨HK h, z, clock⟩) (clock + 1), ?_, (heap_set hb).1, fun w2 v hw2 => ⟨.map (es.push ⟨HK h, v, clock⟩) (clock + 1), ?_, es.push ⟨HK h, v, clock⟩, clock + 1, (heap_set hw2).1, stamped_push hs h2, mput_32 D h v hh h3, ?_⟩⟩
    · rw [mget_none hno]
      simp [Instr.mapEntry, run_underlying ht, MapKept.run_getObj_map hb, klH.check w false hkey, h1, hz, MapKept.run_setObj_map _ hb, Result.andThen, setBlock]
    · have hidx : (es.push ⟨HK h, z, clock⟩).findIdx? (fun e => ((e.born : Nat) : Int) == ((clock : Nat) : Int)) = some es.size := by
        have := stamp_at (es.push ⟨HK h, z, clock⟩).toList es.size ⟨HK h, z, clock⟩ (stamped_push hs h2 (val := z)).2.1 (by simp)
        rw [arr_find]
        exact this
      have hmod : (es.push ⟨HK h, z, clock⟩).modify es.size (fun e => { e with val := v }) = es.push ⟨HK h, v, clock⟩ := by
        apply Array.ext'
        rw [Array.toList_modify, Array.toList_push, Array.toList_push, modify_eq_set _ _ _ ⟨HK h, z, clock⟩ (by simp)]
        simp
      simp [Instr.entryStore, MapKept.run_getObj_map hw2, asInt, asIntOf, goInt, hidx, hmod, MapKept.run_setObj_map _ hw2, Result.andThen, setBlock]
    · rw [mput_none D h v hno, Array.toList_push, List.map_append, List.map_append, h4]
      rfl
  · have hj : es[j]? = some e0 := by simpa using h2
    have hdj : (D.map (fun p => (HK p.1, p.2)))[j]? = some (e0.key, e0.val) := by rw [← h4, List.getElem?_map, h2]; rfl
    rw [List.getElem?_map] at hdj
    obtain ⟨p, hp, e2⟩ := Option.map_eq_some_iff.1 hdj
    injection e2 with e2 e3
    have hph : p.1 = h := HK_inj (by rw [e2, h5])
    have hg := mget_at (MapH.nodup hs h4) (List.mem_of_getElem? hp) z
    rw [hph, e3] at hg
    have hsame : es.modify j (fun e => { e with key := HK h }) = es := by
      apply Array.ext'
      rw [Array.toList_modify, modify_eq_set _ _ _ _ h2, ← h5]
      exact set_same _ _ _ h2
    have hkeyf : ∀ v (e' : MapEntry), es[j]? = some e' → ({ e' with val := v } : MapEntry).key = e'.key := fun v e' he' => rfl
    refine ⟨e0.born, .map es clock, ?_, (heap_set hb).1, fun w2 v hw2 => ⟨.map (es.modify j (fun e' => { e' with val := v })) clock, ?_, es.modify j (fun e' => { e' with val := v }), clock, (heap_set hw2).1, stamped_modify hs _ _ (fun _ _ => rfl) (fun e' _ he' => rfl), mput_32 D h v hh h3, ?_⟩⟩
    · rw [hg]
      simp [Instr.mapEntry, run_underlying ht, MapKept.run_getObj_map hb, klH.check w false hkey, h1, hj, h5, klH.stays w hkey, hsame, MapKept.run_setObj_map _ hb, Result.andThen, setBlock]
    · have hidx : es.findIdx? (fun e => ((e.born : Nat) : Int) == ((e0.born : Nat) : Int)) = some j := by
        rw [arr_find]
        exact stamp_at _ _ _ hs.2.1 h2
      simp [Instr.entryStore, MapKept.run_getObj_map hw2, asInt, asIntOf, goInt, hidx, MapKept.run_setObj_map _ hw2, Result.andThen, setBlock]
    · rw [mput_set D h v (MapH.nodup hs h4) j p hp hph, List.map_set, ← h4, Array.toList_modify, modify_eq_set _ _ _ _ h2, List.map_set, ← h5]
end Go.Proofs.YtpoinhjkdgcnaaaDoor
