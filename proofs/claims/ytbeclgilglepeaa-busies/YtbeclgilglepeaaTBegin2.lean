import Derived.Test.YtbeclgilglepeaaTBegin
namespace Go.Proofs.Ytbeclgilglepeaa
open Go.RowKit

set_option maxRecDepth 100000 in
set_option maxHeartbeats 3200000 in
theorem ref_begin (ao : Option Addr) (n cap : Nat) (l : List Tk) (w : World) (hn : n = l.length) (hl : l.length ≤ 8) (hpos : 0 < l.length) (hH : HoldsA w ao l) :
    Calls Try.prog 72 #[.slice ao n cap] w fun e w' => ∃ g1 g2 g3 c1 c2 c3, e = .returned (.pointer (some ⟨w.heap.size, 0, none⟩)) ∧ PI w w' w.heap.size g1 g2 g3 ao cap c1 c2 c3 l st0 := by
  obtain ⟨i0, hi0, hz0, hz1, hz2⟩ := info_parts Try.infoInt
  have HN : Hid (n = l.length) := hn
  have hn8 : n ≤ 8 := by omega
  have HH : Hid (HoldsA w ao l) := hH
  have HPo : Hid (0 < n) := by unfold Hid; omega
  clear hn hl hpos hH
  go_enter Try.func72, Try.ntmps72
  go_wp2
  go_loopw [4] (fun i wr => ∃ (k : Nat) (v1 v2 v3 : Value), k ≤ n ∧ i = .int .i64 k ∧ BI w wr (.slice ao n cap) k k k v1 v2 v3) (fun i _ => n - (intOf i).toNat)
  case atStart =>
    refine ⟨0, .slice none 0 0, .slice none 0 0, .slice none 0 0, by omega, rfl, (Below.refl _ _).alloc (Nat.le_refl _) _, by simp, by simp, by simp, by simp, by simp, by simp, by simp, by intro j; simp, World.ownsRow_nil _ _ _ _, World.ownsRow_nil _ _ _ _, World.ownsRow_nil _ _ _ _, fun b h => (by cases h), fun b h => (by cases h), fun b h => (by cases h)⟩
  case round =>
    obtain ⟨k, v1, v2, v3, hk, rfl, hB⟩ := hrel
    by_cases hlt : k < n
    · have hpp := hB.hp
      have f1 := hB.f1
      have p1 := hB.fp 1
      have hbs := hB.below.size
      go_upto_region 6 with (at_builtin; refine wpList_append_lies _ (by rfl) _ _ _ (by rfl) (w.heap.size + 1) 3 i0 _ 1 8 Try.underlying91 hi0 hz0 hz1 hz2 rfl (by omega) v1 k _ (by rfl) (hB.own1.alloc _) ⟨wr.heap.size, 0, none⟩ 1 1 [.int .i64 0] (by rfl) (by rfl) (World.news_of_block (cs := #[.int .i64 0]) (t := 3) (fr := (0, 0)) (heap_alloc_new wr _)) (by simp [Value.oneCell']) (by omega) (by unfold maxLen; omega) (by omega) (by simp; omega) (wr.heap.size + 1) (by simp) ?_; intro gg1 cp1 w1 hown1 hgrow1 hat1 hlt1; have y1 := (plan_far hpp hB.own1 _ hgrow1 1).1.trans f1; have y2 := (plan_far hpp hB.own1 _ hgrow1 1).2.trans p1)
      have hB1 := hB.app1 hgrow1 hat1 hown1
      clear hB f1 p1 y1 y2 hown1 hgrow1 hat1 hlt1 hpp hbs
      generalize w1.setCell ⟨w.heap.size, 1, none⟩ (.slice (some ⟨gg1, 0, none⟩) (k + 1) cp1) = W1 at *
      have hpp := hB1.hp
      have f2 := hB1.f2
      have p2 := hB1.fp 2
      have hbs := hB1.below.size
      go_upto_region 7 with (at_builtin; refine wpList_append_lies _ (by rfl) _ _ _ (by rfl) (w.heap.size + 1) 3 i0 _ 1 8 Try.underlying91 hi0 hz0 hz1 hz2 rfl (by omega) v2 k _ (by rfl) (hB1.own2.alloc _) ⟨W1.heap.size, 0, none⟩ 1 1 [.int .i64 0] (by rfl) (by rfl) (World.news_of_block (cs := #[.int .i64 0]) (t := 3) (fr := (0, 0)) (heap_alloc_new W1 _)) (by simp [Value.oneCell']) (by omega) (by unfold maxLen; omega) (by omega) (by simp; omega) (W1.heap.size + 1) (by simp) ?_; intro gg2 cp2 w2 hown2 hgrow2 hat2 hlt2; have y2 := (plan_far hpp hB1.own2 _ hgrow2 2).1.trans f2; have z2 := (plan_far hpp hB1.own2 _ hgrow2 2).2.trans p2)
      have hB2 := hB1.app2 hgrow2 hat2 hown2
      clear hB1 f2 p2 y2 z2 hown2 hgrow2 hat2 hlt2 hpp hbs
      generalize w2.setCell ⟨w.heap.size, 2, none⟩ (.slice (some ⟨gg2, 0, none⟩) (k + 1) cp2) = W2 at *
      have hpp := hB2.hp
      have f3 := hB2.f3
      have p3 := hB2.fp 3
      have hbs := hB2.below.size
      go_wp2_with (at_builtin; refine wpList_append_lies _ (by rfl) _ _ _ (by rfl) (w.heap.size + 1) 3 i0 _ 1 8 Try.underlying91 hi0 hz0 hz1 hz2 rfl (by omega) v3 k _ (by rfl) (hB2.own3.alloc _) ⟨W2.heap.size, 0, none⟩ 1 1 [.int .i64 (-1)] (by rfl) (by rfl) (World.news_of_block (cs := #[.int .i64 (-1)]) (t := 3) (fr := (0, 0)) (heap_alloc_new W2 _)) (by simp [Value.oneCell']) (by omega) (by unfold maxLen; omega) (by omega) (by simp; omega) (W2.heap.size + 1) (by simp) ?_; intro gg3 cp3 w3 hown3 hgrow3 hat3 hlt3; have y3 := (plan_far hpp hB2.own3 _ hgrow3 3).1.trans f3; have z3 := (plan_far hpp hB2.own3 _ hgrow3 3).2.trans p3)
      have hB3 := hB2.app3 hgrow3 hat3 hown3
      go_roundw
      case rel => exact ⟨k + 1, _, _, _, by omega, by go_num, hB3⟩
      case measure => simp [intOf]; omega
    · have e : k = n := by omega
      subst e
      go_wp2
      go_ret
      obtain ⟨g1, g2, g3, c1, c2, c3, hPI⟩ := hB.done HN.out HPo.out HH.out
      exact ⟨g1, g2, g3, c1, c2, c3, rfl, hPI⟩
end Go.Proofs.Ytbeclgilglepeaa
