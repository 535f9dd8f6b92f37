import Derived.Lib.SlMapEqual
import Derived.Maps.RangeWalk
import Derived.Test.YtkfacdofkfabnaaGreatDoorKm27
set_option maxHeartbeats 4000000
set_option maxRecDepth 100000
namespace Go.Proofs.YtkfacdofkfabnaaGreatDoor
open _root_.Go.Proofs.Tryz
open Go.RowKit
open Go.ChangeMaps Go.MapKept Go.WideShapes Go.WideElems
open Go.Maps
def KL (l : List Tx) : List (Lit × DataW Unit) := (l.map λ s => (Lit.string s, DataW.agg [])).foldr DataW.insert []
def KD (l : List Tx) : DataW Unit := .map (KL l)
theorem tL {l : List Tx} {p : Lit × DataW Unit} : p ∈ KL l ↔ ∃ s ∈ l, p = (Lit.string s, DataW.agg []) := by
 unfold KL; rw [mem_sorted, List.mem_map]; constructor
 . rintro ⟨s, h, rfl⟩; exact ⟨s, h, rfl⟩
 . rintro ⟨s, h, rfl⟩; exact ⟨s, h, rfl⟩
theorem mK (l : List Tx) : Maps.size (KD l) = l.length := by
 rw [KD, Maps.size_eq, KL, length_sorted]; simp
theorem D7 (l : List Tx) (s : Tx) : Maps.has (KD l) (.string s) = l.contains s := by
 rw [KD, Maps.has_eq, Bool.eq_iff_iff, List.any_eq_true, List.contains_iff_mem]; constructor
 . rintro ⟨p, hp, hk⟩; obtain ⟨x, hx, rfl⟩ := tL.1 hp; have := WideAt.sameKey_eq hk; injection this with this; rwa [<- this]
 . intro h; exact ⟨_, tL.2 ⟨s, h, rfl⟩, WideAt.sameKey_self (by simp [WideAt.IsKeyLit])⟩
def Fj : DataW Unit -> DataW Unit -> Bool := λ _ _ => true
theorem D8 (a b : List Tx) : Lib.equalFuncD Fj (KD a) (KD b) = fh a b := by
 unfold Lib.equalFuncD fh; rw [mK, mK]; have h1 : (Lib.entriesD (KD a)).all (Lib.goodD Fj (KD b)) = a.all b.contains := by
  rw [Bool.eq_iff_iff, List.all_eq_true, List.all_eq_true]; constructor
  . intro h x hx; have := h _ (show (Lit.string x, DataW.agg []) ∈ Lib.entriesD (KD a) from tL.2 ⟨x, hx, rfl⟩); rw [Lib.goodD, Bool.and_eq_true] at this; rw [<- D7]; exact this.1
  . intro h p hp; obtain ⟨x, hx, rfl⟩ := tL.1 (show p ∈ KL a from hp); rw [Lib.goodD, D7, h x hx]; rfl
 rw [h1]; congr 1
theorem aP.owns {w : World} {b : Nat} {l : List Tx} (h : aP w b (bu eZ l)) (hl : l.length <= maxLen) : w.ownsMap prog 9 (unitElem (H := Unit)) b l.length (KD l) := by
 obtain ⟨es, clock, hb, he, hd, hk, hst⟩ := h; have hsz : es.size = l.length := (by have := congrArg List.length he; simpa [bu] using this); have hrd : ∀ x ∈ es.toList, ∃ s ∈ l, x.key = .string (str s) /\ WideElems.rd prog 9 (unitElem (H := Unit)) x = some (Lit.string s, DataW.agg []) := by
  intro x hx; obtain ⟨p, hp, h1, h2⟩ := jo he hx; obtain ⟨s, hs, rfl⟩ := List.mem_map.1 hp; have hsl := hk _ hp; refine ⟨s, hs, h1, ?_⟩; unfold WideElems.rd; rw [h1, h2, fS hsl]; simp [unitElem, eZ, aZ]
 refine ⟨es, clock, hb, ⟨by omega, hst, λ x hx => ?_⟩, by omega, ?_⟩
 . obtain ⟨s, _, _, h⟩ := hrd x hx; exact ⟨_, h⟩
 . unfold KD KL; congr 2
   have hkeys : es.toList.map (·.key) = l.map λ s => Value.string (str s) := by
    have := congrArg (List.map Prod.fst) he; simpa [bu, Function.comp_def] using this
   have : es.toList.map (WideElems.rg prog 9 (unitElem (H := Unit))) = (es.toList.map (·.key)).map (λ v => match v with | .string s => (Lit.string s.data.toList, DataW.agg []) | _ => (.bool false, .nil)) := by
    rw [List.map_map]; refine List.map_congr_left λ x hx => ?_; obtain ⟨s, _, h1, h2⟩ := hrd x hx; simp [WideElems.rg, h2, h1, aZ]
   rw [this, hkeys, List.map_map]; refine (List.map_congr_left λ x hx => ?_).symm; simp [aZ]
theorem oE {w w' : World} (h : w.grownBy w' none) : Below w.heap.size w w' := ⟨h.os, h.tape, h.output, h.size, λ k hk => h.block k hk (by simp)⟩
theorem lI {w : World} {b1 b2 : Nat} {la lb : List Tx} (h1 : aP w b1 (bu eZ la)) (h2 : aP w b2 (bu eZ lb)) (hl1 : la.length <= maxLen) (hl2 : lb.length <= maxLen) :
  Calls prog 147 #[.map (some b1), .map (some b2)] w (aA (fh la lb) w) := by
 have o1 := h1.owns hl1; have o2 := h2.owns hl2; clear h1 h2; have RES := zH (D8 la lb); have hn1 : la.length <= 9223372036854775807 := (by unfold maxLen at hl1; omega); have hn2 : lb.length <= 9223372036854775807 := (by unfold maxLen at hl2; omega); clear hl1 hl2; have l1 := λ ty => o1.len (t := 112) underlying112 ty; have l2 := λ ty => o2.len (t := 112) underlying112 ty; rw [mK] at l1 l2; have hS1 := zH (mK la); have hS2 := zH (mK lb); obtain ⟨es1, hes1, hap, hkeys⟩ := o1.entries qo; have HAP := zH hap; have HKEYS := zH hkeys; have hb2 := o2.lt; clear hap hkeys; generalize hd1 : KD la = D1 at *; generalize hd2 : KD lb = D2 at *; subst hes1; clear hd1 hd2; by_cases hsz : la.length = lb.length
 . have HSZ := zH (show Maps.size (.map es1 : DataW Unit) = Maps.size D2 by rw [hS1.o, hS2.o, hsz]); have hd : ((la.length : Int) != lb.length) = false := (by simp [hsz]); clear hsz; go_enter func147, ntmps147
   go_wp2_with (at_range; refine wpList_range_own _ rfl _ 112 rfl 9 120 qo underlying112 unitElem b1 la.length _ rfl o1 ?_; intro w0 hrg0 hg0 hs0)
   go_frame
   go_loopw [5] (λ _ wr => ∃ (left : Lit -> Bool) (cnt : Nat), wr.ranges prog 9 unitElem b1 w.heap.size la.length (.map es1) left cnt /\ wr.ownsMap prog 9 unitElem b2 lb.length D2 /\ w.grownBy wr none /\ Hid (GoodAt Fj es1 D2 left))
    (λ _ wr => wr.rangeLeft b1 w.heap.size)
   case atStart => exact ⟨_, _, hrg0, o2.kept hg0 (by simp), hg0, zH (good_start HKEYS.o D2)⟩
   case round =>
    obtain ⟨left, cnt, hrg, h2r, hgw, G⟩ := hrel; obtain ⟨wq, rfl⟩ := zW wr; have HGW := zH hgw; clear hgw; go_wp2_with (at_next; refine wpList_next_ranges _ rfl _ rfl 9 qo unitElem id id (λ key _ _ => ⟨key, rfl⟩) (λ v _ _ => ⟨v, rfl⟩) b1 w.heap.size la.length _ _ _ rfl hrg ?_ ?_)
    . intro _ hl0; have HL0 := zH hl0; clear hl0; go_wp2_with fail
      go_ret; exact ⟨au (by rw [<- RES.o, all_good G.o HL0.o HSZ.o]), oE HGW.o⟩
    . intro x cv kl yd yp w1 cnt1 hkey hlx hv hat hrg1 hlt hg1 hs1 hen; have HAT : Hid (∀ zd, (DataW.map es1).atKey kl zd = yd) := hat; obtain ⟨rfl, hz⟩ := unitElem_inv hv; have HGW1 := zH (HGW.o.andThen hg1 (λ j hj => by cases hj; exact Or.inl (Nat.le_refl _))); have h2w1 := h2r.kept hg1 (λ e => by have := Option.some.inj e; omega); clear hat hz hv; cases hh : Maps.has D2 kl
      . have HF := zH (show fh la lb = false by
         rw [<- RES.o]; exact bad_false HAP.o HKEYS.o HAT.o (show Lib.goodD Fj D2 (kl, yd) = false by unfold Lib.goodD; rw [hh]; rfl))
        go_wp2_with (at_lookup; refine wpList_lookup_own_ok _ rfl _ _ 112 rfl 9 120 qo underlying112 unitElem (CW _) (.agg []) [] unitElem_mk b2 lb.length D2 rfl (h2w1.alloc _) _ kl rfl hkey ?_; intro v2 ps2 hv2; obtain ⟨rfl, _⟩ := unitElem_inv hv2; rw [hh]; go_frame)
        go_ret; exact ⟨au HF.o.symm, ((oE HGW1.o).alloc HGW1.o.size _).alloc (by have := HGW1.o.size; simp; omega) _⟩
      . have HG := zH (good_step HAP.o HKEYS.o HAT.o G.o (show Lib.goodD Fj D2 (kl, yd) = true by unfold Lib.goodD; rw [hh]; rfl)); go_wp2_with (at_lookup; refine wpList_lookup_own_ok _ rfl _ _ 112 rfl 9 120 qo underlying112 unitElem (CW _) (.agg []) [] unitElem_mk b2 lb.length D2 rfl (h2w1.alloc _) _ kl rfl hkey ?_; intro v2 ps2 hv2; obtain ⟨rfl, _⟩ := unitElem_inv hv2; rw [hh]; go_frame)
        go_roundw
        case rel => exact ⟨_, cnt1, (hrg1.alloc _).alloc _, (h2w1.alloc _).alloc _, (HGW1.o.andThen (World.grownBy_alloc _ _ none) (λ j hj => by cases hj)).andThen (World.grownBy_alloc _ _ none) (λ j hj => by cases hj), HG.o⟩
        case measure => rw [((hrg1.alloc _).alloc _).left_eq, hrg.left_eq]; exact hlt
 . have hd : ((la.length : Int) != lb.length) = true := by simp; omega
   have HF := zH (show fh la lb = false by rw [fh]; simp [hsz]); clear hsz; go_enter func147, ntmps147
   go_wp2_with fail
   go_ret; exact ⟨au HF.o.symm, Below.refl _ _⟩
end Go.Proofs.YtkfacdofkfabnaaGreatDoor
