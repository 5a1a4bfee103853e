/- An append onto a slice that the call made leaves the cells that the slice had. -/
import Derived.Test.YtfnlclooneanaaaDoorOwn32
import Derived.ArgAppend
namespace Go.Proofs.YtfnlclooneanaaaDoor
open Go.RowKit
set_option linter.unusedVariables false

theorem app_keeps {P : Program} (w : World) (t ty e : TypeId) (z : Value) (bytes : Nat) (ht : P.underlying t = some (.slice e)) (hinfo : (P.info? e).map (fun i => (i.zero, i.size, i.bytes)) = some (some z, 1, bytes)) (hz1 : z.cells.size = 1)
    (base g n cap : Nat) (xs : List Value) (hown : w.ownsRow base e 1 (.slice (some ⟨g, 0, none⟩) n cap) n xs)
    (ad : Addr) (m c : Nat) (news : List Value) (hl : news.length = m) (hX : ∀ j u, news[j]? = some u → w.cell? (ad.add j) = some u) (h1 : ∀ u ∈ news, u.oneCell' = true)
    (h63 : n + m ≤ maxLen) (hbytes : (n + m) * bytes ≤ 140737488355328) {v' : Value} {w' : World}
    (hrun : (Builtin.append_ #[t, t] ty #[.slice (some ⟨g, 0, none⟩) n cap, .slice (some ad) m c]).run P w = .ok v' w') (k : Nat) (hk : k < n) : w'.cell? ⟨g, k, none⟩ = w.cell? ⟨g, k, none⟩ := by
  obtain ⟨i, hi, hzz⟩ := Option.map_eq_some_iff.1 hinfo
  simp only [Prod.mk.injEq] at hzz
  obtain ⟨hz, hs, hb⟩ := hzz
  obtain ⟨hxl, ⟨hv, _⟩ | ⟨g', cap', cur, hv, hbg, hg, hnc, hcm, hcs, hcx⟩⟩ := hown
  · cases hv
  · injection hv with e1 e2 e3
    injection e1 with e4
    injection e4 with e5 e6
    subst e5 e3
    by_cases hr : n + m ≤ cap
    · have hc : ∀ j, j < news.length → (w.cell? ⟨g, 0 + n * i.size + j, none⟩).isSome = true := by
        intro j hj
        rw [cell_of_row w g _ cur e (0, 0) hg]
        simp only [hs]
        simp
        omega
      have hrun2 := run_append_room_cells (P := P) w t ty e i ht hi g 0 n cap ad m c news (by rw [hs]; omega) hX h1 hr hc (fun j hj => frozen_of_row w g _ cur e hg)
      rw [hrun] at hrun2
      injection hrun2 with _ hw
      rw [hw]
      exact World.cell?_setCells_out g news _ w ⟨g, k, none⟩ (fun _ _ => Or.inl (by show k < 0 + n * i.size; rw [hs]; omega))
    · obtain ⟨v2, w2, h2, _, hgr⟩ := run_append_arg_grows (P := P) w t ty e i z 1 bytes ht hi hz hs hb hz1 (by omega) ⟨g, 0, none⟩ n cap xs (by omega) (fun j u hu => by
        rw [Addr.add_mid, cell_of_row w g _ cur e (0, 0) hg]
        rw [← hcx, List.getElem?_take] at hu
        split at hu
        · simpa using hu
        · cases hu) ad m c news (by omega) hX (by omega) h63 hbytes
      rw [hrun] at h2
      injection h2 with _ hw
      rw [hw]
      exact World.cell?_of_block (a := ⟨g, k, none⟩) (hgr.block g (Array.getElem?_eq_some_iff.1 hg).1 (by simp))
/-- append(ws, u) at a step of a region that draws its order; the words that were there stand in their old block. -/
theorem st32_keeps {ops : Array Oper} {o : Oper} {a : Act} {K : Act → World → Prop} {Q : Exit → Act → World → Prop} {E : Prop} (W w : World) (hgd : o.guard = none) (s x : Operand)
    (ho : o.op = .call { callee := .builtin .append, args := #[s, x], argTypes := #[48, 48] })
    (base g n c : Nat) (l : List Nat) (z : Int) (u : Nat) (hs : a.eval s = .slice (some ⟨g, 0, none⟩) n c) (hx : a.eval x = .slice (some ⟨w.heap.size, 0, none⟩) 1 1)
    (hW : W = w.alloc (.cells #[.int .u32 z] 29)) (hz : z = (u : Int))
    (hown : Own32 w base (some ⟨g, 0, none⟩) n c l) (hb : n + 1 ≤ 1000000) (hbase : base ≤ w.heap.size)
    (h : ∀ A' c' w', Own32 w' base A' (n + 1) c' (l ++ [u]) → Below base w w' → (∀ k, k < n → w'.cell? ⟨g, k, none⟩ = w.cell? ⟨g, k, none⟩) → K (a.put o.dst (.slice A' (n + 1) c')) w') :
    if Region.wanted o (yielded ops a.tmps) = true then Oper.wp Tryd.prog o a W K Q else E := by
  subst hz hW
  have hX : ∀ j v, [W32 u][j]? = some v → (w.alloc (.cells #[W32 u] 29)).cell? ((⟨w.heap.size, 0, none⟩ : Addr).add j) = some v := fun j v hj => by
    rw [Addr.add_mid, cell_of_row _ w.heap.size (0 + j) _ 29 (0, 0) (heap_alloc_new w _)]
    simpa using hj
  have h1 : ∀ v ∈ [W32 u], v.oneCell' = true := by intro v hv; simp at hv; subst hv; rfl
  have ho2 := own_alloc hown.2 (.cells #[W32 u] 29)
  obtain ⟨v', w', hrun, h2, h3, _⟩ := run_appG (P := Tryd.prog) (w.alloc (.cells #[W32 u] 29)) 48 o.type 29 (.int .u32 0) 4 Tryd.underlying48 info32 rfl base _ n (l.map W32) ho2 (some ⟨w.heap.size, 0, none⟩) 1 1 [W32 u] rfl (fun _ => ⟨_, rfl, hX⟩) h1 (by unfold maxLen; omega) (by omega) (by simp; omega)
  obtain ⟨A', c', rfl⟩ := own_shape h2
  have hk := fun k hk => app_keeps (P := Tryd.prog) (w.alloc (.cells #[W32 u] 29)) 48 o.type 29 (.int .u32 0) 4 Tryd.underlying48 info32 rfl base g n c (l.map W32) ho2 ⟨w.heap.size, 0, none⟩ 1 1 [W32 u] rfl hX h1 (by unfold maxLen; omega) (by omega) hrun k hk
  refine step_of_wp hgd ?_
  unfold Oper.wp execOp
  simp only [ho, resolve, invoke, builtin, Sem.run_bind, Sem.run_pure, Result.andThen_ok, List.map_toArray, List.map_cons, List.map_nil, hs, hx]
  have hrun' : (Builtin.append_ #[48, 48] o.type #[.slice (some ⟨g, 0, none⟩) n c, .slice (some ⟨w.heap.size, 0, none⟩) 1 1]).run Tryd.prog (w.alloc (.cells #[.int .u32 (u : Int)] 29)) = .ok (.slice A' (n + 1) c') w' := hrun
  simp only [hrun']
  refine h A' c' w' ⟨by simp [hown.1], by rw [List.map_append]; exact h2⟩ (((Below.refl _ _).alloc hbase _).trans ((Below.refl _ _).grown h3 (by simp; omega) (own_block ho2))) fun k hkn => ?_
  obtain ⟨g2, e2, _, hlt, _⟩ := hown.at_ (by omega)
  cases e2
  rw [hk k hkn]
  exact World.cell?_alloc_lt _ _ _ hlt
end Go.Proofs.YtfnlclooneanaaaDoor
