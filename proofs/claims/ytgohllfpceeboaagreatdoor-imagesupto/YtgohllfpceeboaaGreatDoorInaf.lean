import Derived.Test.YtgohllfpceeboaaGreatDoorInac
import Derived.Test.YtgohllfpceeboaaGreatDoorInaa
namespace Go.Proofs.YtgohllfpceeboaaGreatDoor
open Go.RowKit
theorem utf_a (c : Int) (h : c < 128) : Sx.utf c = [UInt8.ofNat c.toNat] := by unfold Sx.utf; rw [if_pos h]
theorem utf_b (c : Int) (h : 128 ≤ c) (h2 : c < 2048) : Sx.utf c = [UInt8.ofNat (192 + c / 64).toNat, UInt8.ofNat (128 + c % 64).toNat] := by unfold Sx.utf; rw [if_neg (by omega), if_pos h2]
theorem utf_c (c : Int) (h : 2048 ≤ c) (h2 : c < 65536) : Sx.utf c = [UInt8.ofNat (224 + c / 4096).toNat, UInt8.ofNat (128 + c / 64 % 64).toNat, UInt8.ofNat (128 + c % 64).toNat] := by unfold Sx.utf; rw [if_neg (by omega), if_neg (by omega), if_pos h2]
theorem utf_d (c : Int) (h : 65536 ≤ c) : Sx.utf c = [UInt8.ofNat (240 + c / 262144).toNat, UInt8.ofNat (128 + c / 4096 % 64).toNat, UInt8.ofNat (128 + c / 64 % 64).toNat, UInt8.ofNat (128 + c % 64).toNat] := by unfold Sx.utf; rw [if_neg (by omega), if_neg (by omega), if_neg (by omega)]
theorem text_owned {w1 : World} {B : Nat} {v : Value} {l : List Int} {k m : Nat} {c : Int} {news : List Value} (hlt : k < l.length) (hc : l[k] = c) (hu : byV (Sx.utf c) = news) (hm : (Sx.utf c).length = m)
 (h : w1.ownsRow B 5 1 v ((Sx.text (l.take k)).length + m) (byV (Sx.text (l.take k)) ++ news)) : w1.ownsRow B 5 1 v (Sx.text (l.take (k + 1))).length (byV (Sx.text (l.take (k + 1)))) := by
 rw [Sx.take_snoc l k hlt, Sx.text_snoc, hc, byV_app, hu, List.length_append, hm]
 exact h
set_option maxRecDepth 100000 in
set_option maxHeartbeats 1000000 in
theorem rtext_some (l : List Int) (b off cap : Nat) (w : World) (hl : l.length ≤ 1000) (hb : b < w.heap.size)
 (hr : ∀ j (h : j < l.length), w.cell? ⟨b, off + j, none⟩ = some (.int .i64 l[j])) (hv : ∀ c ∈ l, 0 ≤ c ∧ c ≤ 1114111) :
 Calls Tryz.prog 150 #[.slice (some ⟨b, off, none⟩) l.length cap] w fun e w' => e = .returned (.string ⟨(Sx.text l).toArray⟩) ∧ Below w.heap.size w w' := by
 obtain ⟨i0, hi, hz0, hz1, hz2⟩ := info_parts Tryz.info5
 go_enter Tryz.func150, Tryz.ntmps150
 go_wp2
 go_loopw [3, 4] (fun x n wr => ∃ (k : Nat), n = .int .i64 k ∧ k ≤ l.length ∧ wr.ownsRow w.heap.size 5 1 x (Sx.text (l.take k)).length (byV (Sx.text (l.take k))) ∧ Below w.heap.size w wr) (fun _ n _ => (l.length - intOf n).toNat)
 case atStart => exact ⟨0, rfl, by omega, by simpa [Sx.text, byV] using World.ownsRow_nil w _ 5 1, Below.refl _ _⟩
 case round =>
  obtain ⟨k, rfl, hk, hown, hB⟩ := hrel
  have hsz := hB.size
  by_cases hlt : k < l.length
  · have hcell : wr.cell? ⟨b, off + k, none⟩ = some (.int .i64 l[k]) := (hB.cell (p := ⟨b, off + k, none⟩) hb).trans (hr k hlt)
    have hvk := hv l[k] (List.getElem_mem hlt)
    have hlen := Sx.text_len (l.take k)
    have hlen2 : (l.take k).length ≤ k := List.length_take_le _ _
    obtain ⟨c, hcc⟩ : ∃ c, l[k] = c := ⟨_, rfl⟩
    rw [hcc] at hcell hvk
    have HC := hide hcc
    clear hcc hr hv
    by_cases c1 : c < 128
    · go_wp2_with (at_builtin; go_must (refine wpList_append_lies _ rfl _ _ _ rfl w.heap.size 5 i0 (.int .u8 0) 1 1 Tryz.underlying58 hi hz0 hz1 hz2 rfl (by decide) _ _ _ rfl (hown.alloc _) ⟨wr.heap.size, 0, none⟩ 1 1 [.int .u8 c] rfl rfl (cell_one_new _ _ _) (by simp [Value.oneCell']) (by omega) (by unfold maxLen; omega) (by omega) (by simp; omega) _ rfl ?_; intro g cap w1 hown1 hgrow hat hlt1))
      exact ⟨⟨k + 1, by go_num, by omega, text_owned hlt HC.out (by rw [utf_a c c1, byV, List.map_cons, List.map_nil, ← byV_one c (by omega) (by omega)]) (by rw [utf_a c c1]; rfl) hown1, below_app hB hsz hown hgrow⟩, by simp [intOf]; omega⟩
    · by_cases c2 : c < 2048
      · go_wp2_with (at_builtin; go_must (refine wpList_append_lies _ rfl _ _ _ rfl w.heap.size 5 i0 (.int .u8 0) 1 1 Tryz.underlying58 hi hz0 hz1 hz2 rfl (by decide) _ _ _ rfl (hown.alloc _) ⟨wr.heap.size, 0, none⟩ 2 2 [.int .u8 (192 + c / 64), .int .u8 (128 + c % 64)] rfl rfl (World.news_of_block (heap_alloc_new _ _)) (by simp [Value.oneCell']) (by omega) (by unfold maxLen; omega) (by omega) (by simp; omega) _ rfl ?_; intro g cap w1 hown1 hgrow hat hlt1))
        exact ⟨⟨k + 1, by go_num, by omega, text_owned hlt HC.out (by rw [utf_b c (by omega) c2]; simp only [byV, List.map_cons, List.map_nil]; rw [← byV_one _ (by omega) (by omega), ← byV_one _ (by omega) (by omega)]) (by rw [utf_b c (by omega) c2]; rfl) hown1, below_app hB hsz hown hgrow⟩, by simp [intOf]; omega⟩
      · by_cases c3 : c < 65536
        · go_wp2_with (at_builtin; go_must (refine wpList_append_lies _ rfl _ _ _ rfl w.heap.size 5 i0 (.int .u8 0) 1 1 Tryz.underlying58 hi hz0 hz1 hz2 rfl (by decide) _ _ _ rfl (hown.alloc _) ⟨wr.heap.size, 0, none⟩ 3 3 [.int .u8 (224 + c / 4096), .int .u8 (128 + c / 64 % 64), .int .u8 (128 + c % 64)] rfl rfl (World.news_of_block (heap_alloc_new _ _)) (by simp [Value.oneCell']) (by omega) (by unfold maxLen; omega) (by omega) (by simp; omega) _ rfl ?_; intro g cap w1 hown1 hgrow hat hlt1))
          exact ⟨⟨k + 1, by go_num, by omega, text_owned hlt HC.out (by rw [utf_c c (by omega) c3]; simp only [byV, List.map_cons, List.map_nil]; rw [← byV_one _ (by omega) (by omega), ← byV_one _ (by omega) (by omega), ← byV_one _ (by omega) (by omega)]) (by rw [utf_c c (by omega) c3]; rfl) hown1, below_app hB hsz hown hgrow⟩, by simp [intOf]; omega⟩
        · go_wp2_with (at_builtin; go_must (refine wpList_append_lies _ rfl _ _ _ rfl w.heap.size 5 i0 (.int .u8 0) 1 1 Tryz.underlying58 hi hz0 hz1 hz2 rfl (by decide) _ _ _ rfl (hown.alloc _) ⟨wr.heap.size, 0, none⟩ 4 4 [.int .u8 (240 + c / 262144), .int .u8 (128 + c / 4096 % 64), .int .u8 (128 + c / 64 % 64), .int .u8 (128 + c % 64)] rfl rfl (World.news_of_block (heap_alloc_new _ _)) (by simp [Value.oneCell']) (by omega) (by unfold maxLen; omega) (by omega) (by simp; omega) _ rfl ?_; intro g cap w1 hown1 hgrow hat hlt1))
          exact ⟨⟨k + 1, by go_num, by omega, text_owned hlt HC.out (by rw [utf_d c (by omega)]; simp only [byV, List.map_cons, List.map_nil]; rw [← byV_one _ (by omega) (by omega), ← byV_one _ (by omega) (by omega), ← byV_one _ (by omega) (by omega), ← byV_one _ (by omega) (by omega)]) (by rw [utf_d c (by omega)]; rfl) hown1, below_app hB hsz hown hgrow⟩, by simp [intOf]; omega⟩
  · have he := own_string hown
    have hk2 : l.take k = l := List.take_of_length_le (by omega)
    have HK := hide hk2
    clear hk2 hr hv
    go_wp2
    go_ret
    exact ⟨ret_str (by rw [HK.out]), hB⟩
end Go.Proofs.YtgohllfpceeboaaGreatDoor
