/-
  maps.Equal of two sets of names of the call's own.
-/
import Derived.Test.YtbpbnebcbjacdaaGreatScopeRec
import Derived.Test.YtbpbnebcbjacdaaGreatScopeAt
import Derived.Maps.RangeWalk
import Derived.Lib.SlMapEqual
namespace Go.Proofs.YtbpbnebcbjacdaaGreat
open Go.RowKit
open Go.ChangeMaps Go.MapKept Go.WideShapes Go.WideElems
open Go.Maps

def KL (l : List Tx) : List (Lit × DataW Unit) := (l.map fun s => (Lit.string s, DataW.agg [])).foldr DataW.insert []
def KD (l : List Tx) : DataW Unit := .map (KL l)
theorem kl_mem {l : List Tx} {p : Lit × DataW Unit} : p ∈ KL l ↔ ∃ s ∈ l, p = (Lit.string s, DataW.agg []) := by
  unfold KL
  rw [mem_sorted, List.mem_map]
  constructor
  · rintro ⟨s, h, rfl⟩; exact ⟨s, h, rfl⟩
  · rintro ⟨s, h, rfl⟩; exact ⟨s, h, rfl⟩
theorem kd_size (l : List Tx) : Maps.size (KD l) = l.length := by
  rw [KD, Maps.size_eq, KL, length_sorted]; simp
theorem kd_has (l : List Tx) (s : Tx) : Maps.has (KD l) (.string s) = l.contains s := by
  rw [KD, Maps.has_eq, Bool.eq_iff_iff, List.any_eq_true, List.contains_iff_mem]
  constructor
  · rintro ⟨p, hp, hk⟩
    obtain ⟨x, hx, rfl⟩ := kl_mem.1 hp
    have := WideAt.sameKey_eq hk
    injection this with this
    rwa [← this]
  · intro h
    exact ⟨_, kl_mem.2 ⟨s, h, rfl⟩, WideAt.sameKey_self (by simp [WideAt.IsKeyLit])⟩
def anyD : DataW Unit → DataW Unit → Bool := fun _ _ => true
theorem kd_equal (a b : List Tx) : Lib.equalFuncD anyD (KD a) (KD b) = sameSet a b := by
  unfold Lib.equalFuncD sameSet
  rw [kd_size, kd_size]
  have h1 : (Lib.entriesD (KD a)).all (Lib.goodD anyD (KD b)) = a.all b.contains := by
    rw [Bool.eq_iff_iff, List.all_eq_true, List.all_eq_true]
    constructor
    · intro h x hx
      have := h _ (show (Lit.string x, DataW.agg []) ∈ Lib.entriesD (KD a) from kl_mem.2 ⟨x, hx, rfl⟩)
      rw [Lib.goodD, Bool.and_eq_true] at this
      rw [← kd_has]; exact this.1
    · intro h p hp
      obtain ⟨x, hx, rfl⟩ := kl_mem.1 (show p ∈ KL a from hp)
      rw [Lib.goodD, kd_has, h x hx]
      rfl
  rw [h1]
  congr 1
theorem MapAt.owns {w : World} {b : Nat} {l : List Tx} (h : MapAt w b (withV unitV l)) (hl : l.length ≤ maxLen) : w.ownsMap Tryz.prog 9 (unitElem (H := Unit)) b l.length (KD l) := by
  obtain ⟨es, clock, hb, he, hd, hk, hst⟩ := h
  have hsz : es.size = l.length := by have := congrArg List.length he; simpa [withV] using this
  have hrd : ∀ x ∈ es.toList, ∃ s ∈ l, x.key = .string (str s) ∧ WideElems.rd Tryz.prog 9 (unitElem (H := Unit)) x = some (Lit.string s, DataW.agg []) := by
    intro x hx
    obtain ⟨p, hp, h1, h2⟩ := ent_mem he hx
    obtain ⟨s, hs, rfl⟩ := List.mem_map.1 hp
    have hsl := hk _ hp
    refine ⟨s, hs, h1, ?_⟩
    unfold WideElems.rd
    rw [h1, h2, key_str hsl]
    simp [unitElem, unitV, str_toList]
  refine ⟨es, clock, hb, ⟨by omega, hst, fun x hx => ?_⟩, by omega, ?_⟩
  · obtain ⟨s, _, _, h⟩ := hrd x hx
    exact ⟨_, h⟩
  · unfold KD KL
    congr 2
    have hkeys : es.toList.map (·.key) = l.map fun s => Value.string (str s) := by
      have := congrArg (List.map Prod.fst) he
      simpa [withV, Function.comp_def] using this
    have : es.toList.map (WideElems.rg Tryz.prog 9 (unitElem (H := Unit))) = (es.toList.map (·.key)).map (fun v => match v with | .string s => (Lit.string s.data.toList, DataW.agg []) | _ => (.bool false, .nil)) := by
      rw [List.map_map]
      refine List.map_congr_left fun x hx => ?_
      obtain ⟨s, _, h1, h2⟩ := hrd x hx
      simp [WideElems.rg, h2, h1, str_toList]
    rw [this, hkeys, List.map_map]
    refine (List.map_congr_left fun x hx => ?_).symm
    simp [str_toList]
theorem below_grown {w w' : World} (h : w.grownBy w' none) : Below w.heap.size w w' := ⟨h.os, h.tape, h.output, h.size, fun k hk => h.block k hk (by simp)⟩
theorem neqS (w : World) : (binOp .neq 88 (.agg #[]) (.agg #[])).run Tryz.prog w = .ok (.bool false) w := by kernel_rfl
set_option maxHeartbeats 4000000 in
set_option maxRecDepth 100000 in
theorem mapsEq_any {w : World} {b1 b2 : Nat} {la lb : List Tx} (h1 : MapAt w b1 (withV unitV la)) (h2 : MapAt w b2 (withV unitV lb)) (hl1 : la.length ≤ maxLen) (hl2 : lb.length ≤ maxLen) :
    Calls Tryz.prog 99 #[.map (some b1), .map (some b2)] w (BoolPost (sameSet la lb) w) := by
  have o1 := h1.owns hl1
  have o2 := h2.owns hl2
  clear h1 h2
  have RES := Lib.hid (kd_equal la lb)
  have hn1 : la.length ≤ 9223372036854775807 := by unfold maxLen at hl1; omega
  have hn2 : lb.length ≤ 9223372036854775807 := by unfold maxLen at hl2; omega
  clear hl1 hl2
  have l1 := fun ty => o1.len (t := 81) Tryz.underlying81 ty
  have l2 := fun ty => o2.len (t := 81) Tryz.underlying81 ty
  rw [kd_size] at l1 l2
  have hS1 := Lib.hid (kd_size la)
  have hS2 := Lib.hid (kd_size lb)
  obtain ⟨es1, hes1, hap, hkeys⟩ := o1.entries keyS
  have HAP := Lib.hid hap
  have HKEYS := Lib.hid hkeys
  have hb2 := o2.lt
  clear hap hkeys
  generalize hd1 : KD la = D1 at *
  generalize hd2 : KD lb = D2 at *
  subst hes1
  clear hd1 hd2
  by_cases hsz : la.length = lb.length
  · have HSZ := Lib.hid (show Maps.size (.map es1 : DataW Unit) = Maps.size D2 by rw [hS1.out, hS2.out, hsz])
    have hd : ((la.length : Int) != lb.length) = false := by simp [hsz]
    clear hsz
    go_enter Tryz.func99, Tryz.ntmps99
    go_wp2_with (at_range; refine wpList_range_own _ rfl _ 81 rfl 9 88 keyS Tryz.underlying81 unitElem b1 la.length _ rfl o1 ?_; intro w0 hrg0 hg0 hs0)
    go_frame
    go_loopw [5] (fun _ wr => ∃ (left : Lit → Bool) (cnt : Nat), wr.ranges Tryz.prog 9 unitElem b1 w.heap.size la.length (.map es1) left cnt ∧ wr.ownsMap Tryz.prog 9 unitElem b2 lb.length D2 ∧ w.grownBy wr none ∧ Hid (GoodAt anyD es1 D2 left))
      (fun _ wr => wr.rangeLeft b1 w.heap.size)
    case atStart => exact ⟨_, _, hrg0, o2.kept hg0 (by simp), hg0, Lib.hid (good_start HKEYS.out D2)⟩
    case round =>
      obtain ⟨left, cnt, hrg, h2r, hgw, G⟩ := hrel
      obtain ⟨wq, rfl⟩ : ∃ W, W = wr := ⟨_, rfl⟩
      have HGW := Lib.hid hgw
      clear hgw
      go_wp2_with (at_next; refine wpList_next_ranges _ rfl _ rfl 9 keyS unitElem id id (fun key _ _ => ⟨key, rfl⟩) (fun v _ _ => ⟨v, rfl⟩) b1 w.heap.size la.length _ _ _ rfl hrg ?_ ?_)
      · intro _ hl0
        have HL0 := Lib.hid hl0
        clear hl0
        go_wp2_with fail
        go_ret
        exact ⟨ret_bool (by rw [← RES.out, all_good G.out HL0.out HSZ.out]), below_grown HGW.out⟩
      · intro x cv kl yd yp w1 cnt1 hkey hlx hv hat hrg1 hlt hg1 hs1 hen
        have HAT : Hid (∀ zd, (DataW.map es1).atKey kl zd = yd) := hat
        obtain ⟨rfl, hz⟩ := unitElem_inv hv
        have HGW1 := Lib.hid (HGW.out.andThen hg1 (fun j hj => by cases hj; exact Or.inl (Nat.le_refl _)))
        have h2w1 := h2r.kept hg1 (fun e => by have := Option.some.inj e; omega)
        clear hat hz hv
        cases hh : Maps.has D2 kl
        · have HF := Lib.hid (show sameSet la lb = false by
            rw [← RES.out]; exact bad_false HAP.out HKEYS.out HAT.out (show Lib.goodD anyD D2 (kl, yd) = false by unfold Lib.goodD; rw [hh]; rfl))
          go_wp2_with (at_lookup; refine wpList_lookup_own_ok _ rfl _ _ 81 rfl 9 88 keyS Tryz.underlying81 unitElem (zeroS _) (.agg []) [] unitElem_mk b2 lb.length D2 rfl (h2w1.alloc _) _ kl rfl hkey ?_; intro v2 ps2 hv2; obtain ⟨rfl, _⟩ := unitElem_inv hv2; rw [hh]; go_frame)
          go_ret
          exact ⟨ret_bool HF.out.symm, ((below_grown HGW1.out).alloc HGW1.out.size _).alloc (by have := HGW1.out.size; simp; omega) _⟩
        · have HG := Lib.hid (good_step HAP.out HKEYS.out HAT.out G.out (show Lib.goodD anyD D2 (kl, yd) = true by unfold Lib.goodD; rw [hh]; rfl))
          go_wp2_with (at_lookup; refine wpList_lookup_own_ok _ rfl _ _ 81 rfl 9 88 keyS Tryz.underlying81 unitElem (zeroS _) (.agg []) [] unitElem_mk b2 lb.length D2 rfl (h2w1.alloc _) _ kl rfl hkey ?_; intro v2 ps2 hv2; obtain ⟨rfl, _⟩ := unitElem_inv hv2; rw [hh]; go_frame)
          go_roundw
          case rel => exact ⟨_, cnt1, (hrg1.alloc _).alloc _, (h2w1.alloc _).alloc _, (HGW1.out.andThen (World.grownBy_alloc _ _ none) (fun j hj => by cases hj)).andThen (World.grownBy_alloc _ _ none) (fun j hj => by cases hj), HG.out⟩
          case measure => rw [((hrg1.alloc _).alloc _).left_eq, hrg.left_eq]; exact hlt
  · have hd : ((la.length : Int) != lb.length) = true := by simp; omega
    have HF := Lib.hid (show sameSet la lb = false by rw [sameSet]; simp [hsz])
    clear hsz
    go_enter Tryz.func99, Tryz.ntmps99
    go_wp2_with fail
    go_ret
    exact ⟨ret_bool HF.out.symm, Below.refl _ _⟩
end Go.Proofs.YtbpbnebcbjacdaaGreat
