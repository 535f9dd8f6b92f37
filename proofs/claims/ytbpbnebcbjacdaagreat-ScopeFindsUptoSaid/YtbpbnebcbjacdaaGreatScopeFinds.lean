/-
  ScopeFinds: Con of scope; the reference's Con, Node, Defines, Vars; the walk.
-/
import Derived.Test.YtbpbnebcbjacdaaGreatScopeVarsL
import Derived.Test.YtbpbnebcbjacdaaGreatTreeRSame
namespace Go.Proofs.YtbpbnebcbjacdaaGreat
open Go.RowKit

/-- the enum and the place of a constructor -/
def conF (k : Int) (s : Tx) : List QEnum → Int × Int × Bool
  | [] => (0, 0, false)
  | e :: r => if 0 ≤ idxL e.cons s then (k, idxL e.cons s, true) else conF (k + 1) s r
def conQ (p : QProg) (s : Tx) : Int × Int × Bool := if 0 ≤ idxL boolsL s then (-1, idxL boolsL s, true) else conF 0 s p.enums
def ConRet (r : Int × Int × Bool) (w : World) (e : Ending) (w' : World) : Prop := e = .returned (.tuple #[.int .i64 r.1, .int .i64 r.2.1, .bool r.2.2]) ∧ Below w.heap.size w w'
set_option maxHeartbeats 4000000 in
set_option maxRecDepth 100000 in
theorem con_any {w0 : World} {L : List Value} {p : QProg} (hL : ProgAt w0 L p) (s : Tx) : ∀ w, Below w0.heap.size w0 w → Calls Tryz.prog 12 #[.agg L.toArray, .string (str s)] w (ConRet (conQ p s) w) := by
  intro w hb
  have HB := Lib.hid hb
  have hsz := hb.size
  obtain ⟨ev, nv, rfl, he, hn⟩ := hL
  obtain ⟨C, cn, ck, rfl⟩ := SliceAt.shape hn
  obtain ⟨E, ek, rfl, hec, hem, hee⟩ := he
  have hel : p.enums.length ≤ 9223372036854775807 := by have h : p.enums.length ≤ ek := hec; unfold maxLen at hem; omega
  have HEE := Lib.hid hee
  have hal := Lib.hid ((Below.refl w.heap.size w).alloc (Nat.le_refl _) (.cells #[.slice E p.enums.length ek, .slice C cn ck] 25))
  have BP := Lib.hid (heap_alloc_new w (.cells #[.slice E p.enums.length ek, .slice C cn ck] 25))
  clear hb hec hem hee hn
  have HQ := Lib.hid (show conQ p s = if 0 ≤ idxL boolsL s then (-1, idxL boolsL s, true) else conF 0 s p.enums from rfl)
  have HIB := Lib.hid (show Calls Tryz.prog 30 #[.slice (some ⟨w.heap.size + 1, 0, none⟩) 2 2, .string (str s)] ((w.alloc (.cells #[.slice E p.enums.length ek, .slice C cn ck] 25)).alloc boolsV) (fun e w' => e = .returned (.int .i64 (idxL boolsL s)) ∧ (w.alloc (.cells #[.slice E p.enums.length ek, .slice C cn ck] 25)).alloc boolsV = w') from by
    have := index_any (bools_at (w.alloc (.cells #[.slice E p.enums.length ek, .slice C cn ck] 25))) s
    rw [World.size_alloc] at this
    exact this)
  generalize idxL boolsL s = b at HQ HIB
  by_cases hb0 : 0 ≤ b
  · have HQ1 := Lib.hid (show conQ p s = (-1, b, true) by rw [HQ.out, if_pos hb0])
    go_enter Tryz.func12, Tryz.ntmps12
    go_wp2_with (first
      | (go_at_call 31
         (with_reducible refine (booleans_any _).mono ?_)
         rintro e w7 ⟨rfl, rfl⟩)
      | (go_at_call 30
         (with_reducible refine HIB.out.mono ?_)
         rintro e w7 ⟨rfl, rfl⟩))
    go_ret3
    exact ⟨by rw [HQ1.out]; rfl, hal.out.alloc hal.out.size _⟩
  · have HQ1 := Lib.hid (show conQ p s = conF 0 s p.enums by rw [HQ.out, if_neg hb0])
    go_enter Tryz.func12, Tryz.ntmps12
    go_wp2_with (first
      | (go_at_call 31
         (with_reducible refine (booleans_any _).mono ?_)
         rintro e w7 ⟨rfl, rfl⟩
         obtain ⟨_, _⟩ := row2 (alloc_below (o := boolsV) BP.out))
      | (go_at_call 30
         (with_reducible refine HIB.out.mono ?_)
         rintro e w7 ⟨rfl, rfl⟩))
    have HV := Lib.hid (hal.out.alloc hal.out.size boolsV)
    generalize (w.alloc (.cells #[.slice E p.enums.length ek, .slice C cn ck] 25)).alloc boolsV = V at *
    go_loopg [20] p.enums.length (fun g v wr => ∃ k : Nat, k + g = p.enums.length ∧ v = .int .i64 k ∧ conF 0 s p.enums = conF k s (p.enums.drop k) ∧ Below V.heap.size V wr)
    case atStart => exact ⟨0, by omega, rfl, rfl, Below.refl _ _⟩
    case round =>
      obtain ⟨wq, rfl⟩ : ∃ W, W = wr := ⟨_, rfl⟩
      obtain ⟨k, hkg, rfl, hr, hbw⟩ := hrel
      have HK := Lib.hid hkg
      have HR := Lib.hid hr
      have HW := Lib.hid hbw
      have HVW := Lib.hid (HV.out.trans (hbw.mono HV.out.size))
      have HBQ := Lib.hid (HB.out.trans (HVW.out.mono hsz))
      have hkl : k ≤ p.enums.length := by omega
      clear hkg hr hbw
      by_cases hlt : k < p.enums.length
      · obtain ⟨q, hq⟩ : ∃ q, p.enums[k]? = some q := ⟨_, List.getElem?_eq_getElem hlt⟩
        have HDR := Lib.hid (drop_consS hq)
        obtain ⟨Lq, hEq, cv, rfl, _, hcs⟩ := HEE.out k q hq
        have HCS := Lib.hid hcs
        obtain ⟨cA, cm, cc, rfl⟩ := SliceAt.shape hcs
        obtain ⟨a, ea, ha, haa, d0, d1⟩ := elem2 (hEq.under HBQ.out)
        subst ea
        have hal2 := Lib.hid ((Below.refl wq.heap.size wq).alloc (Nat.le_refl _) (.cells #[.string (str q.name), .slice cA cm cc] 46))
        have HIX := Lib.hid (index_any ((HCS.out.under HBQ.out).under hal2.out) s)
        have HCF := Lib.hid (show conF 0 s p.enums = if 0 ≤ idxL q.cons s then ((k : Int), idxL q.cons s, true) else conF (k + 1 : Nat) s (p.enums.drop (k + 1)) by rw [HR.out, HDR.out, conF]; rfl)
        generalize idxL q.cons s = c at HIX HCF
        clear hq hEq hcs
        by_cases hc : 0 ≤ c
        · have HN := Lib.hid (show conQ p s = ((k : Int), c, true) by rw [HQ1.out, HCF.out, if_pos hc])
          go_wp2_with (go_at_call 30
                       (with_reducible refine HIX.out.mono ?_)
                       rintro e w7 ⟨rfl, rfl⟩)
          go_ret3
          exact ⟨by rw [HN.out]; rfl, HVW.out.trans (hal2.out.mono HVW.out.size)⟩
        · have HN := Lib.hid (show conF 0 s p.enums = conF (k + 1 : Nat) s (p.enums.drop (k + 1)) by rw [HCF.out, if_neg hc])
          go_wp2_with (go_at_call 30
                       (with_reducible refine HIX.out.mono ?_)
                       rintro e w7 ⟨rfl, rfl⟩)
          go_roundg (p.enums.length - (k + 1))
          case measure => have := HK.out; omega
          case rel => exact ⟨k + 1, by omega, by go_num, HN.out, HW.out.trans (hal2.out.mono HW.out.size)⟩
      · have hke : k = p.enums.length := by omega
        have HN := Lib.hid (show conQ p s = (0, 0, false) by rw [HQ1.out, HR.out, hke, List.drop_length]; rfl)
        clear hke
        go_wp2_with fail
        go_ret3
        exact ⟨by rw [HN.out]; rfl, HVW.out⟩
set_option maxHeartbeats 4000000 in
theorem rnode_any {w0 : World} {L : List Value} {p : QProg} (hL : ProgAt w0 L p) (s : Tx) : ∀ w, Below w0.heap.size w0 w → Calls Tryz.prog 15 #[.agg L.toArray, .string (str s)] w (NodeRet (nodeF 0 s p.nodes) w) := by
  intro w hb
  have HB := Lib.hid hb
  have hsz := hb.size
  obtain ⟨ev, nv, rfl, he, hn⟩ := hL
  obtain ⟨E, en, ek, rfl⟩ := SliceAt.shape he
  obtain ⟨C, ck, rfl, hcc, hmc, hce⟩ := hn
  have hnl : p.nodes.length ≤ 9223372036854775807 := by have h : p.nodes.length ≤ ck := hcc; unfold maxLen at hmc; omega
  have HCE := Lib.hid hce
  have HV := Lib.hid ((Below.refl w.heap.size w).alloc (Nat.le_refl _) (.cells #[.slice E en ek, .slice C p.nodes.length ck] 25))
  have BP := Lib.hid (heap_alloc_new w (.cells #[.slice E en ek, .slice C p.nodes.length ck] 25))
  clear hb he hcc hmc hce
  go_enter Tryz.func15, Tryz.ntmps15
  go_wp2_with fail
  generalize w.alloc (.cells #[.slice E en ek, .slice C p.nodes.length ck] 25) = V at *
  go_loopg [6] p.nodes.length (fun g v wr => ∃ k : Nat, k + g = p.nodes.length ∧ v = .int .i64 k ∧ nodeF 0 s p.nodes = nodeF k s (p.nodes.drop k) ∧ Below V.heap.size V wr)
  case atStart => exact ⟨0, by omega, rfl, rfl, Below.refl _ _⟩
  case round =>
    obtain ⟨wq, rfl⟩ : ∃ W, W = wr := ⟨_, rfl⟩
    obtain ⟨k, hkg, rfl, hr, hbw⟩ := hrel
    have HK := Lib.hid hkg
    have HR := Lib.hid hr
    have HW := Lib.hid hbw
    have HVW := Lib.hid (HV.out.trans (hbw.mono HV.out.size))
    have HBQ := Lib.hid (HB.out.trans (HVW.out.mono hsz))
    obtain ⟨p0, p1⟩ := row2 (box_next hbw BP.out)
    have hkl : k ≤ p.nodes.length := by omega
    clear hkg hr hbw
    by_cases hlt : k < p.nodes.length
    · obtain ⟨n, hn⟩ : ∃ n, p.nodes[k]? = some n := ⟨_, List.getElem?_eq_getElem hlt⟩
      have HDR := Lib.hid (drop_consS hn)
      obtain ⟨Ln, hEn, fv, iv, ov, xv, rfl, _, hfu, hin, hou, hit⟩ := HCE.out k n hn
      obtain ⟨a, ea, ha, haa, d0, d1, d2, d3, d4⟩ := elem5 (hEn.under HBQ.out)
      subst ea
      clear hn hEn hfu hin hou hit d1 d2 d3 d4
      by_cases hs : n.name = s
      · have hb : ((str n.name).toList == (str s).toList) = true := by rw [hs]; simp
        have HN := Lib.hid (show nodeF 0 s p.nodes = ((k : Int), true) by rw [HR.out, HDR.out, nodeF, if_pos hs])
        clear hs
        go_wp2_with fail
        go_ret2
        exact ⟨by rw [HN.out]; rfl, HVW.out⟩
      · have hb : ((str n.name).toList == (str s).toList) = false := by rw [str_toL, str_toL]; simp; exact hs
        have HN := Lib.hid (show nodeF 0 s p.nodes = nodeF (k + 1 : Nat) s (p.nodes.drop (k + 1)) by rw [HR.out, HDR.out, nodeF, if_neg hs]; rfl)
        clear hs
        go_wp2_with fail
        go_roundg (p.nodes.length - (k + 1))
        case measure => have := HK.out; omega
        case rel => exact ⟨k + 1, by omega, by go_num, HN.out, HW.out⟩
    · have hke : k = p.nodes.length := by omega
      have HN := Lib.hid (show nodeF 0 s p.nodes = (0, false) by rw [HR.out, hke, List.drop_length]; rfl)
      clear hke
      go_wp2_with fail
      go_ret2
      exact ⟨by rw [HN.out]; rfl, HVW.out⟩
theorem idx_bools (s : Tx) : idxL boolsL s = if [70, 97, 108, 115, 101] = s then 0 else if [84, 114, 117, 101] = s then 1 else -1 := by
  simp only [idxL, boolsL, idxF]; rfl
set_option maxHeartbeats 4000000 in
set_option maxRecDepth 100000 in
theorem rcon_any {w0 : World} {L : List Value} {p : QProg} (hL : ProgAt w0 L p) (s : Tx) : ∀ w, Below w0.heap.size w0 w → Calls Tryz.prog 13 #[.agg L.toArray, .string (str s)] w (ConRet (conQ p s) w) := by
  intro w hb
  have HB := Lib.hid hb
  have hsz := hb.size
  obtain ⟨ev, nv, rfl, he, hn⟩ := hL
  obtain ⟨C, cn, ck, rfl⟩ := SliceAt.shape hn
  obtain ⟨E, ek, rfl, hec, hem, hee⟩ := he
  have hel : p.enums.length ≤ 9223372036854775807 := by have h : p.enums.length ≤ ek := hec; unfold maxLen at hem; omega
  have HEE := Lib.hid hee
  have hal := Lib.hid ((Below.refl w.heap.size w).alloc (Nat.le_refl _) (.cells #[.slice E p.enums.length ek, .slice C cn ck] 25))
  have BP := Lib.hid (heap_alloc_new w (.cells #[.slice E p.enums.length ek, .slice C cn ck] 25))
  clear hb hec hem hee hn
  have HQ := Lib.hid (show conQ p s = if 0 ≤ idxL boolsL s then (-1, idxL boolsL s, true) else conF 0 s p.enums from rfl)
  by_cases h1 : s = [70, 97, 108, 115, 101]
  · have HQ1 := Lib.hid (show conQ p s = (-1, 0, true) by
      have hI : idxL boolsL s = 0 := by rw [idx_bools, if_pos h1.symm]
      rw [HQ.out, hI]; rfl)
    have hb1 : ((str s).toList == [70, 97, 108, 115, 101]) = true := by rw [str_toL, h1]; rfl
    clear h1
    go_enter Tryz.func13, Tryz.ntmps13
    go_wp2_with fail
    go_ret3
    exact ⟨by rw [HQ1.out]; rfl, hal.out⟩
  · have hb1 : ((str s).toList == [70, 97, 108, 115, 101]) = false := by rw [str_toL]; simpa using h1
    have HB1 := Lib.hid h1
    by_cases h2 : s = [84, 114, 117, 101]
    · have HQ1 := Lib.hid (show conQ p s = (-1, 1, true) by
      have hI : idxL boolsL s = 1 := by rw [idx_bools, if_neg (fun e => HB1.out e.symm), if_pos h2.symm]
      rw [HQ.out, hI]; rfl)
      have hb2 : ((str s).toList == [84, 114, 117, 101]) = true := by rw [str_toL, h2]; rfl
      clear h1 h2
      go_enter Tryz.func13, Tryz.ntmps13
      go_wp2_with fail
      go_ret3
      exact ⟨by rw [HQ1.out]; rfl, hal.out⟩
    · have hb2 : ((str s).toList == [84, 114, 117, 101]) = false := by rw [str_toL]; simpa using h2
      have HQ1 := Lib.hid (show conQ p s = conF 0 s p.enums by
      have hI : idxL boolsL s = -1 := by rw [idx_bools, if_neg (fun e => HB1.out e.symm), if_neg (fun e => h2 e.symm)]
      rw [HQ.out, hI, if_neg (by omega)])
      clear h1 h2
      go_enter Tryz.func13, Tryz.ntmps13
      go_wp2_with fail
      generalize w.alloc (.cells #[.slice E p.enums.length ek, .slice C cn ck] 25) = V at *
      go_loopg [7] p.enums.length (fun g v wr => ∃ k : Nat, k + g = p.enums.length ∧ v = .int .i64 k ∧ conF 0 s p.enums = conF k s (p.enums.drop k) ∧ Below V.heap.size V wr)
      case atStart => exact ⟨0, by omega, rfl, rfl, Below.refl _ _⟩
      case round =>
        obtain ⟨wq, rfl⟩ : ∃ W, W = wr := ⟨_, rfl⟩
        obtain ⟨k, hkg, rfl, hr, hbw⟩ := hrel
        have HK := Lib.hid hkg
        have HR := Lib.hid hr
        have HW := Lib.hid hbw
        have HVW := Lib.hid (hal.out.trans (hbw.mono hal.out.size))
        have HBQ := Lib.hid (HB.out.trans (HVW.out.mono hsz))
        obtain ⟨p0, p1⟩ := row2 (box_next hbw BP.out)
        have hkl : k ≤ p.enums.length := by omega
        clear hkg hr hbw
        by_cases hlt : k < p.enums.length
        · obtain ⟨q, hq⟩ : ∃ q, p.enums[k]? = some q := ⟨_, List.getElem?_eq_getElem hlt⟩
          have HDR := Lib.hid (drop_consS hq)
          obtain ⟨Lq, hEq, cv, rfl, _, hcs⟩ := HEE.out k q hq
          obtain ⟨cA, cc, rfl, hcc, hcm, hce⟩ := hcs
          have hcl : q.cons.length ≤ 9223372036854775807 := by have h : q.cons.length ≤ cc := hcc; unfold maxLen at hcm; omega
          have HCE := Lib.hid hce
          obtain ⟨a, ea, ha, haa, d0, d1⟩ := elem2 (hEq.under HBQ.out)
          subst ea
          have HEQ := Lib.hid hEq
          have HCF := Lib.hid (show conF 0 s p.enums = if 0 ≤ idxL q.cons s then ((k : Int), idxL q.cons s, true) else conF (k + 1 : Nat) s (p.enums.drop (k + 1)) by rw [HR.out, HDR.out, conF]; rfl)
          clear hq hEq hcc hcm hce d0
          go_wp2_with fail
          clear d1 p0 p1
          go_loopg [8] q.cons.length (fun g v wr => ∃ j : Nat, j + g = q.cons.length ∧ v = .int .i64 j ∧ idxL q.cons s = idxF j s (q.cons.drop j) ∧ Below V.heap.size V wr)
          case atStart => exact ⟨0, by omega, rfl, rfl, HW.out⟩
          case round =>
            obtain ⟨wz, rfl⟩ : ∃ W, W = wr := ⟨_, rfl⟩
            obtain ⟨j, hjg, rfl, hj, hbz⟩ := hrel
            have HJ := Lib.hid hjg
            have HJR := Lib.hid hj
            have HZ := Lib.hid hbz
            have HVZ := Lib.hid (hal.out.trans (hbz.mono hal.out.size))
            have HBZ := Lib.hid (HB.out.trans (HVZ.out.mono hsz))
            obtain ⟨p0, p1⟩ := row2 (box_next hbz BP.out)
            obtain ⟨a', ea', _, _, _, d1⟩ := elem2 (HEQ.out.under HBZ.out)
            cases ea'
            have hjl : j ≤ q.cons.length := by omega
            clear hjg hj hbz
            by_cases hltj : j < q.cons.length
            · obtain ⟨x, hx⟩ : ∃ x, q.cons[j]? = some x := ⟨_, List.getElem?_eq_getElem hltj⟩
              have HDJ := Lib.hid (drop_consS hx)
              obtain ⟨Lx, hEx, rfl, _⟩ := HCE.out j x hx
              obtain ⟨b, eb, _, _, c0⟩ := elem1 (hEx.under HBZ.out)
              subst eb
              rw [Nat.mul_one] at c0
              clear hx hEx
              by_cases hxs : x = s
              · have hb3 : ((str x).toList == (str s).toList) = true := by rw [hxs]; simp
                have HN := Lib.hid (show conQ p s = ((k : Int), (j : Int), true) by
                  have h3 : idxL q.cons s = j := by rw [HJR.out, HDJ.out, idxF, if_pos hxs]
                  rw [HQ1.out, HCF.out, h3, if_pos (by omega)])
                clear hxs
                go_wp2_with fail
                go_ret3
                exact ⟨by rw [HN.out]; rfl, HVZ.out⟩
              · have hb3 : ((str x).toList == (str s).toList) = false := by rw [str_toL, str_toL]; simpa using hxs
                have HN := Lib.hid (show idxL q.cons s = idxF ((j + 1 : Nat) : Int) s (q.cons.drop (j + 1)) by rw [HJR.out, HDJ.out, idxF, if_neg hxs]; rfl)
                clear hxs
                go_wp2_with fail
                go_roundg (q.cons.length - (j + 1))
                case measure => have := HJ.out; omega
                case rel => exact ⟨j + 1, by omega, by go_num, HN.out, HZ.out⟩
            · have hje : j = q.cons.length := by omega
              have HN := Lib.hid (show conF 0 s p.enums = conF (k + 1 : Nat) s (p.enums.drop (k + 1)) by
                have h3 : idxL q.cons s = -1 := by rw [HJR.out, hje, List.drop_length]; rfl
                rw [HCF.out, h3, if_neg (by omega)])
              clear hje
              go_wp2_with fail
              go_roundg (p.enums.length - (k + 1))
              case measure => have := HK.out; omega
              case rel => exact ⟨k + 1, by omega, by go_num, HN.out, HZ.out⟩
        · have hke : k = p.enums.length := by omega
          have HN := Lib.hid (show conQ p s = (0, 0, false) by rw [HQ1.out, HR.out, hke, List.drop_length]; rfl)
          clear hke
          go_wp2_with fail
          go_ret3
          exact ⟨by rw [HN.out]; rfl, HVW.out⟩
set_option maxHeartbeats 4000000 in
set_option maxRecDepth 100000 in
theorem rdefined_any {w0 : World} {L : List Value} {i : QItem} (hL : ItemAt w0 L i) (hlen : (definedQ i).length ≤ 2097152) : ∀ w, Below w0.heap.size w0 w → Calls Tryz.prog 19 #[.agg L.toArray] w (StrsPost (definedQ i) w) := by
  intro w hb
  have HB := Lib.hid hb
  have hsz := hb.size
  obtain ⟨⟨nm, e⟩, sts⟩ := i
  obtain ⟨L', sv, rfl, ⟨nv, Le, rfl, hnv, hxe⟩, hst⟩ := hL
  have HNV := Lib.hid hnv
  obtain ⟨nA, nn, nk, rfl⟩ := SliceAt.shape hnv
  obtain ⟨eo1, es2, eo3, eA4, en4, ek4, eA5, en5, ek5, rfl⟩ := hxe.shape
  obtain ⟨sA, sc, rfl, hsc, hsm, hes⟩ := hst
  simp only [List.cons_append, List.nil_append]
  have hsl : sts.length ≤ 9223372036854775807 := by have h : sts.length ≤ sc := hsc; unfold maxLen at hsm; omega
  clear hb hnv hxe hsc hsm
  cases sts with
  | nil =>
    have hal := Lib.hid ((Below.refl w.heap.size w).alloc (Nat.le_refl _) (.cells #[.slice nA nn nk, .int .i64 eo1, .string es2, .int .i64 eo3, .slice eA4 en4 ek4, .slice eA5 en5 ek5, .slice sA ([] : List QState).length sc] 55))
    clear hes
    go_enter Tryz.func19, Tryz.ntmps19
    go_wp2_with fail
    go_ret
    exact ⟨_, rfl, (HNV.out.under HB.out).under hal.out, hal.out⟩
  | cons z sr =>
    have hd : (((z :: sr).length : Int) == 0) = false := by simp; omega
    have hpos : 0 < (z :: sr).length := by simp
    obtain ⟨N, hEN, hRN⟩ := hes 0 z rfl
    obtain ⟨zn, eqs, ways⟩ := z
    obtain ⟨ev, wv, rfl, _, hev, hwv⟩ := hRN
    obtain ⟨qA, qc, rfl, hqc, hqm, heq⟩ := hev
    obtain ⟨yA, yn, yc, rfl⟩ := SliceAt.shape hwv
    have hql : eqs.length ≤ 9223372036854775807 := by have h : eqs.length ≤ qc := hqc; unfold maxLen at hqm; omega
    have hX : definedQ ⟨⟨nm, e⟩, ⟨zn, eqs, ways⟩ :: sr⟩ = eqs.flatMap QEq.names := rfl
    rw [hX] at hlen ⊢
    obtain ⟨b, rfl, hbb, hbbb, e0, e1, e2⟩ := elem3 (hEN.under HB.out)
    have HEN := Lib.hid hEN
    have HEQ := Lib.hid heq
    have hal := Lib.hid ((Below.refl w.heap.size w).alloc (Nat.le_refl _) (.cells #[.slice nA nn nk, .int .i64 eo1, .string es2, .int .i64 eo3, .slice eA4 en4 ek4, .slice eA5 en5 ek5, .slice (some b) (⟨zn, eqs, ways⟩ :: sr : List QState).length sc] 55))
    have BX := Lib.hid (heap_alloc_new w (.cells #[.slice nA nn nk, .int .i64 eo1, .string es2, .int .i64 eo3, .slice eA4 en4 ek4, .slice eA5 en5 ek5, .slice (some b) (⟨zn, eqs, ways⟩ :: sr : List QState).length sc] 55))
    generalize hn : (⟨zn, eqs, ways⟩ :: sr : List QState).length = sn at *
    clear hqc hqm hEN hes hwv hX e0 e1 e2 hbbb heq
    go_enter Tryz.func19, Tryz.ntmps19
    go_wp2_with fail
    go_loopg [3, 4] eqs.length (fun g v i wr => ∃ k : Nat, k + g = eqs.length ∧ i = .int .i64 k ∧ OwnS (w.heap.size + 1) wr v ((eqs.take k).flatMap QEq.names) ∧ Below (w.heap.size + 1) (w.alloc (.cells #[.slice nA nn nk, .int .i64 eo1, .string es2, .int .i64 eo3, .slice eA4 en4 ek4, .slice eA5 en5 ek5, .slice (some b) sn sc] 55)) wr)
    case atStart => exact ⟨0, by omega, rfl, by simpa using OwnS.nil _ _, Below.refl _ _⟩
    case round =>
      obtain ⟨wr1, rfl⟩ : ∃ W, W = wr := ⟨_, rfl⟩
      obtain ⟨k, hkg, rfl, ho, hbw⟩ := hrel
      have HK := Lib.hid hkg
      have HW := Lib.hid hbw
      have HO := Lib.hid ho
      have hszw : w.heap.size + 1 ≤ wr1.heap.size := by have := hbw.size; simpa using this
      have HWW := Lib.hid (hal.out.trans (hbw.mono (Nat.le_succ _)))
      have HB3 := Lib.hid (HB.out.trans (HWW.out.mono hsz))
      have hkl : k ≤ eqs.length := by omega
      obtain ⟨z0, z1, z2, z3, z4, z5, z6⟩ := row7 ((hbw.block w.heap.size (Nat.lt_succ_self _)).trans BX.out)
      obtain ⟨b', eb', _, _, _, e1, _⟩ := elem3 (HEN.out.under HB3.out)
      cases eb'
      have e1 := at_zero e1
      clear hkg hbw ho
      by_cases hlt : k < eqs.length
      · obtain ⟨q, hq⟩ : ∃ q, eqs[k]? = some q := ⟨_, List.getElem?_eq_getElem hlt⟩
        have HT := Lib.hid (flat_snoc (f := QEq.names) hq)
        have hlen1 : ((eqs.take k).flatMap QEq.names).length + q.names.length ≤ 4194304 := by
          have h1 := flat_le QEq.names eqs (k + 1)
          rw [flat_snoc hq, List.length_append] at h1
          omega
        obtain ⟨N3, hEN3, nv3, Le3, rfl, hnv3, hxe3⟩ := HEQ.out k q hq
        have HN3 := Lib.hid hnv3
        obtain ⟨nA3, nn3, nk3, rfl⟩ := SliceAt.shape hnv3
        obtain ⟨fo1, fs2, fo3, fA4, fn4, fk4, fA5, fn5, fk5, rfl⟩ := hxe3.shape
        obtain ⟨c, rfl, hcb, hcbb, f0, f1, f2, f3, f4, f5⟩ := elem6 (hEN3.under HB3.out)
        clear hnv3 hxe3 hEN3 hq f1 f2 f3 f4 f5
        go_wp2_with (at_builtin; refine append_strs rfl _ _ rfl rfl rfl HO.out (HN3.out.under HB3.out) hlen1 hszw ?_; (intro v5 w5 h5; obtain ⟨ho5, hb5, _⟩ := h5; have HO5 := Lib.hid ho5; have HB5 := Lib.hid (HW.out.trans hb5); clear ho5 hb5))
        go_roundg (eqs.length - (k + 1))
        case measure => have := HK.out; omega
        case rel => exact ⟨k + 1, by omega, by go_num, by rw [HT.out]; exact HO5.out, HB5.out⟩
      · have hke : k = eqs.length := by omega
        have HOe := Lib.hid (show OwnS (w.heap.size + 1) wr1 _ (eqs.flatMap QEq.names) by have := HO.out; rwa [hke, List.take_length] at this)
        clear hke
        go_wp2_with fail
        go_ret
        exact ⟨_, rfl, HOe.out.strs, HWW.out⟩
set_option maxHeartbeats 4000000 in
set_option maxRecDepth 100000 in
theorem rvars_any {w0 : World} {L : List Value} {n : QNode} (hL : NodeAt w0 L n) (hlen : (varsQ n).length ≤ 2097152) : ∀ w, Below w0.heap.size w0 w → Calls Tryz.prog 18 #[.agg L.toArray] w (OwnPost (varsQ n) w) := by
  intro w hb
  have HB := Lib.hid hb
  have hsz := hb.size
  have HPART := Lib.hid (fun k => vars_part (n := n) k hlen)
  have HDP := Lib.hid (fun i hi => defined_part (n := n) (i := i) hi hlen)
  have hil0 : ([] : List Tx).length + n.ins.length ≤ 4194304 := by have := vars_part (n := n) 0 hlen; simp at this ⊢; omega
  have HVQ := Lib.hid (show varsQ n = n.ins ++ n.items.flatMap definedQ from rfl)
  obtain ⟨fv, iv, ov, xv, rfl, hnl, hfu, hin, hou, hit⟩ := hL
  have HIN := Lib.hid (hin.under hb)
  obtain ⟨fA, fn, fk, rfl⟩ := SliceAt.shape hfu
  obtain ⟨iA, im, ik, rfl⟩ := SliceAt.shape hin
  obtain ⟨oA, on, ok, rfl⟩ := SliceAt.shape hou
  obtain ⟨xA, xk, rfl, hxc, hxm, hxe⟩ := hit
  have HXE := Lib.hid hxe
  have hxl : n.items.length ≤ 9223372036854775807 := by have h : n.items.length ≤ xk := hxc; unfold maxLen at hxm; omega
  have hal := Lib.hid ((Below.refl w.heap.size w).alloc (Nat.le_refl _) (.cells #[.string (str n.name), .slice fA fn fk, .slice iA im ik, .slice oA on ok, .slice xA n.items.length xk] 41))
  have BN := Lib.hid (heap_alloc_new w (.cells #[.string (str n.name), .slice fA fn fk, .slice iA im ik, .slice oA on ok, .slice xA n.items.length xk] 41))
  have hs1 : w.heap.size + 1 ≤ (w.alloc (.cells #[.string (str n.name), .slice fA fn fk, .slice iA im ik, .slice oA on ok, .slice xA n.items.length xk] 41)).heap.size := by simp
  have hs0 : (w.alloc (.cells #[.string (str n.name), .slice fA fn fk, .slice iA im ik, .slice oA on ok, .slice xA n.items.length xk] 41)).heap.size ≤ w.heap.size + 1 := by simp
  clear hb hlen hfu hin hou hxc hxm hxe hnl
  go_enter Tryz.func18, Tryz.ntmps18
  go_wp2_with (at_builtin; refine append_strs rfl _ _ rfl rfl rfl (OwnS.nil (w.heap.size + 1) _) (HIN.out.under hal.out) hil0 hs1 ?_; (intro v5 w5 h5; obtain ⟨ho5, hb5, _⟩ := h5; obtain ⟨V, rfl⟩ : ∃ W, W = w5 := ⟨_, rfl⟩; have HO7 := Lib.hid ho5; have HV := Lib.hid hb5; clear ho5 hb5))
  generalize w.alloc (.cells #[.string (str n.name), .slice fA fn fk, .slice iA im ik, .slice oA on ok, .slice xA n.items.length xk] 41) = Z at *
  go_loopg [3, 4] n.items.length (fun g v i wr => ∃ k : Nat, k + g = n.items.length ∧ i = .int .i64 k ∧ OwnS (w.heap.size + 1) wr v (n.ins ++ (n.items.take k).flatMap definedQ) ∧ Below (w.heap.size + 1) Z wr)
  case atStart => exact ⟨0, by omega, rfl, by simpa using HO7.out, HV.out⟩
  case round =>
    obtain ⟨wq, rfl⟩ : ∃ W, W = wr := ⟨_, rfl⟩
    obtain ⟨k, hkg, rfl, ho, hbw⟩ := hrel
    have HK := Lib.hid hkg
    have HW := Lib.hid hbw
    have HO := Lib.hid ho
    have hszw : w.heap.size + 1 ≤ wq.heap.size := Nat.le_trans hs1 hbw.size
    have HWW := Lib.hid (hal.out.trans (hbw.mono (Nat.le_succ _)))
    have BNQ := Lib.hid ((hbw.block w.heap.size (Nat.lt_succ_self _)).trans BN.out)
    obtain ⟨_, _, _, _, nb4⟩ := row5 BNQ.out
    have hkl : k ≤ n.items.length := by omega
    clear hkg hbw ho
    by_cases hlt : k < n.items.length
    · obtain ⟨q, hq⟩ : ∃ q, n.items[k]? = some q := ⟨_, List.getElem?_eq_getElem hlt⟩
      have HT := Lib.hid (show n.ins ++ (n.items.take (k + 1)).flatMap definedQ = (n.ins ++ (n.items.take k).flatMap definedQ) ++ definedQ q by rw [flat_snoc hq, List.append_assoc])
      have HDQ := Lib.hid (HDP.out q (List.mem_of_getElem? hq))
      have hlen1 : (n.ins ++ (n.items.take k).flatMap definedQ).length + (definedQ q).length ≤ 4194304 := by
        have h1 := HPART.out k
        have h2 := HDQ.out
        omega
      obtain ⟨Lq, hEq, hRq⟩ := HXE.out k q hq
      have HITM := Lib.hid hRq
      obtain ⟨A0, n0, k0, o1, s2, o3, A4, n4, k4, A5, n5, k5, A6, n6, k6, rfl⟩ := hRq.shape
      have HBQ := Lib.hid (HB.out.trans (HWW.out.mono hsz))
      obtain ⟨a, ea, ha, haa, d0, d1, d2, d3, d4, d5, d6⟩ := elem7 (hEq.under HBQ.out)
      subst ea
      have HDEF := Lib.hid (rdefined_any HITM.out HDQ.out _ HBQ.out)
      clear hq hEq hRq
      go_wp2_with (first
        | (go_at_call 19
           (with_reducible refine HDEF.out.mono ?_)
           rintro e w8 ⟨v8, rfl, hs8, hb8⟩
           obtain ⟨A8, n8, k8, rfl⟩ := SliceAt.shape hs8
           obtain ⟨V8, rfl⟩ : ∃ W, W = w8 := ⟨_, rfl⟩
           have HS8 := Lib.hid hs8
           have HB8 := Lib.hid (HW.out.trans (hb8.mono hszw))
           have HO8 := Lib.hid (HO.out.under hb8)
           have hsz8 : w.heap.size + 1 ≤ V8.heap.size := Nat.le_trans hs1 HB8.out.size
           clear hs8 hb8)
        | (at_builtin; refine append_strs rfl _ _ rfl rfl rfl HO8.out HS8.out hlen1 hsz8 ?_; (intro v5 w5 h5; obtain ⟨ho5, hb5, _⟩ := h5; have HO5 := Lib.hid ho5; have HB5 := Lib.hid (HB8.out.trans hb5); clear ho5 hb5)))
      go_roundg (n.items.length - (k + 1))
      case measure => have := HK.out; omega
      case rel => exact ⟨k + 1, by omega, by go_num, by rw [HT.out]; exact HO5.out, HB5.out⟩
    · have hke : k = n.items.length := by omega
      have HOe := Lib.hid (show OwnS (w.heap.size + 1) wq _ (varsQ n) by have := HO.out; rwa [hke, List.take_length, ← HVQ.out] at this)
      clear hke
      go_wp2_with fail
      go_ret
      exact ⟨_, rfl, HOe.out.mono (Nat.le_succ _), HWW.out⟩
set_option maxHeartbeats 8000000 in
set_option maxRecDepth 100000 in
theorem finds_walk {w : World} {p : QProg} {A1 A2 : Option Addr} {n1 k1 n2 k2 : Nat} (hL : ProgAt w [.slice A1 n1 k1, .slice A2 n2 k2] p) (hv : ∀ n ∈ p.nodes, (varsQ n).length ≤ 2097152) (s : Tx) :
    Calls Tryz.prog 4 #[.agg #[.slice A1 n1 k1, .slice A2 n2 k2], .string (str s)] w (Lived w) := by
  have HVL := Lib.hid hv
  have HC1 := Lib.hid (con_any hL s)
  have HC2 := Lib.hid (rcon_any hL s)
  have HN1 := Lib.hid (node_any hL s)
  have HN2 := Lib.hid (rnode_any hL s)
  generalize conQ p s = r at HC1 HC2
  generalize nodeF 0 s p.nodes = q at HN1 HN2
  obtain ⟨r1, r2, r3⟩ := r
  obtain ⟨q1, q2⟩ := q
  obtain ⟨ev, nv, e0, he, hnn⟩ := hL
  injection e0 with ea e0
  injection e0 with eb _
  subst ea eb
  obtain ⟨A', c', eq2, hcc, hmc, hne⟩ := hnn
  injection eq2 with e1 e2 e3
  subst e1 e2 e3
  have hal := Lib.hid ((Below.refl w.heap.size w).alloc (Nat.le_refl _) (.cells #[.slice A1 n1 k1, .slice A2 p.nodes.length k2] 25))
  have BP := Lib.hid (heap_alloc_new w (.cells #[.slice A1 n1 k1, .slice A2 p.nodes.length k2] 25))
  have hcap : p.nodes.length ≤ k2 := hcc
  have hnl : p.nodes.length ≤ 9223372036854775807 := by unfold maxLen at hmc; omega
  have HNE := Lib.hid hne
  clear he hcc hmc hne hv
  go_enter Tryz.func4, Tryz.ntmps4
  go_wp2_with (first
    | (go_at_call 9
       (with_reducible refine (lives_any _).mono ?_)
       rintro e w7 ⟨rfl, hb7⟩
       obtain ⟨V1, rfl⟩ : ∃ W, W = w7 := ⟨_, rfl⟩
       have HB1 := Lib.hid (hal.out.trans (hb7.mono hal.out.size))
       obtain ⟨_, _⟩ := row2 (box_next hb7 BP.out)
       have BP1 := Lib.hid (box_next hb7 BP.out)
       clear hb7)
    | (go_at_call 12
       (with_reducible refine (HC1.out _ HB1.out).mono ?_)
       rintro e w8 ⟨rfl, hb8⟩
       obtain ⟨V2, rfl⟩ : ∃ W, W = w8 := ⟨_, rfl⟩
       have HB2 := Lib.hid (HB1.out.trans (hb8.mono HB1.out.size))
       have BP2 := Lib.hid (box_next hb8 BP1.out)
       obtain ⟨_, _⟩ := row2 BP2.out
       clear hb8)
    | (go_at_call 13
       (with_reducible refine (HC2.out _ HB2.out).mono ?_)
       rintro e w8 ⟨rfl, hb8⟩
       obtain ⟨V3, rfl⟩ : ∃ W, W = w8 := ⟨_, rfl⟩
       have HB3 := Lib.hid (HB2.out.trans (hb8.mono HB2.out.size))
       have BP3 := Lib.hid (box_next hb8 BP2.out)
       obtain ⟨_, _⟩ := row2 BP3.out
       clear hb8)
    | (go_at_call 14
       (with_reducible refine (HN1.out _ HB3.out).mono ?_)
       rintro e w8 ⟨rfl, hb8⟩
       obtain ⟨V4, rfl⟩ : ∃ W, W = w8 := ⟨_, rfl⟩
       have HB4 := Lib.hid (HB3.out.trans (hb8.mono HB3.out.size))
       have BP4 := Lib.hid (box_next hb8 BP3.out)
       obtain ⟨_, _⟩ := row2 BP4.out
       clear hb8)
    | (go_at_call 15
       (with_reducible refine (HN2.out _ HB4.out).mono ?_)
       rintro e w8 ⟨rfl, hb8⟩
       obtain ⟨V5, rfl⟩ : ∃ W, W = w8 := ⟨_, rfl⟩
       have HB5 := Lib.hid (HB4.out.trans (hb8.mono HB4.out.size))
       have BP5 := Lib.hid (box_next hb8 BP4.out)
       clear hb8))
  have hs5 := HB5.out.size
  go_loopg [15] p.nodes.length (fun g v wr => ∃ k : Nat, k + g = p.nodes.length ∧ v = .int .i64 k ∧ Below V5.heap.size V5 wr)
  case atStart => exact ⟨0, by omega, rfl, Below.refl _ _⟩
  case round =>
    obtain ⟨wq, rfl⟩ : ∃ W, W = wr := ⟨_, rfl⟩
    obtain ⟨k, hkg, rfl, hbw⟩ := hrel
    have HK := Lib.hid hkg
    have HW := Lib.hid hbw
    have HBQ := Lib.hid (HB5.out.trans (hbw.mono hs5))
    have BPQ := Lib.hid (box_next hbw BP5.out)
    obtain ⟨p0, p1⟩ := row2 BPQ.out
    have hPl := lt_of_heap BPQ.out
    have hkl : k ≤ p.nodes.length := by omega
    clear hkg hbw
    by_cases hlt : k < p.nodes.length
    · obtain ⟨n, hn⟩ : ∃ n, p.nodes[k]? = some n := ⟨_, List.getElem?_eq_getElem hlt⟩
      have hlen := HVL.out n (List.mem_of_getElem? hn)
      obtain ⟨Ln, hEn, hNn⟩ := HNE.out k n hn
      have HNA := Lib.hid hNn
      obtain ⟨s0, A3, m3, k3, A4, m4, k4, A5, m5, k5, A6, m6, k6, rfl⟩ := hNn.shape
      have HEN := Lib.hid hEn
      obtain ⟨a, ea, ha, haa, d0, d1, d2, d3, d4⟩ := elem5 (hEn.under HBQ.out)
      subst ea
      have HV1 := Lib.hid (vars_any HNA.out hlen)
      have HV2 := Lib.hid (rvars_any HNA.out hlen)
      generalize varsQ n = vq at HV1 HV2
      clear hn hEn hNn hlen
      go_wp2_with fail
      refine wp_region_held_drew (S := (fun W => W.cell? ⟨w.heap.size, 1, none⟩ = some (.slice (some a) p.nodes.length k2) ∧ W.cell? (a.add (k * 5)) = some (.string s0) ∧ W.cell? { block := (a.add (k * 5)).block, off := (a.add (k * 5)).off + 1 } = some (.slice A3 m3 k3) ∧ W.cell? { block := (a.add (k * 5)).block, off := (a.add (k * 5)).off + 2 } = some (.slice A4 m4 k4) ∧ W.cell? { block := (a.add (k * 5)).block, off := (a.add (k * 5)).off + 3 } = some (.slice A5 m5 k5) ∧ W.cell? { block := (a.add (k * 5)).block, off := (a.add (k * 5)).off + 4 } = some (.slice A6 m6 k6))) (by kernel_rfl) ?_ (fun hHeld => ?_)
      · (try dsimp only); go_keep
      refine take_at 0 (v := ?_) rfl (by kernel_rfl) (by kernel_rfl) (by kernel_rfl) (fun _ _ _ h => h) (by rfl) ?_ (by assumption) ?_
      rotate_left
      · intro w hSw; (try dsimp only at hSw); go_simp; (try rw [if_neg (by assumption)]); (try rw [if_pos (by omega)]); (try simp only [hSw]); (try with_reducible rfl)
      try simp only [Act.put, List.setIfInBounds_toArray, List.set_cons_zero, List.set_cons_succ]
      refine take_at 1 (v := ?_) rfl (by kernel_rfl) (by kernel_rfl) (by kernel_rfl) (fun _ _ _ h => h) (by rfl) ?_ (by assumption) ?_
      rotate_left
      · intro w hSw; (try dsimp only at hSw); go_simp; (try rw [if_neg (by assumption)]); (try rw [if_pos (by omega)]); (try simp only [hSw]); (try with_reducible rfl)
      try simp only [Act.put, List.setIfInBounds_toArray, List.set_cons_zero, List.set_cons_succ]
      refine take_at 2 (v := ?_) rfl (by kernel_rfl) (by kernel_rfl) (by kernel_rfl) (fun _ _ _ h => h) (by rfl) ?_ (by assumption) ?_
      rotate_left
      · intro w hSw; (try dsimp only at hSw); go_simp; (try rw [if_neg (by assumption)]); (try rw [if_pos (by omega)]); (try simp only [hSw]); (try with_reducible rfl)
      try simp only [Act.put, List.setIfInBounds_toArray, List.set_cons_zero, List.set_cons_succ]
      refine take_at 3 (v := ?_) rfl (by kernel_rfl) (by kernel_rfl) (by kernel_rfl) (fun _ _ _ h => h) (by rfl) ?_ (by assumption) ?_
      rotate_left
      · intro w hSw; (try dsimp only at hSw); go_simp; (try rw [if_neg (by assumption)]); (try rw [if_pos (by omega)]); (try simp only [hSw]); (try with_reducible rfl)
      try simp only [Act.put, List.setIfInBounds_toArray, List.set_cons_zero, List.set_cons_succ]
      refine take_at 4 (v := ?_) rfl (by kernel_rfl) (by kernel_rfl) (by kernel_rfl) (fun _ _ _ h => h) (by rfl) ?_ (by assumption) ?_
      rotate_left
      · intro w hSw; (try dsimp only at hSw); go_simp; (try rw [if_neg (by assumption)]); (try rw [if_pos (by omega)]); (try simp only [hSw]); (try with_reducible rfl)
      try simp only [Act.put, List.setIfInBounds_toArray, List.set_cons_zero, List.set_cons_succ]
      refine take_at 6 (v := ?_) rfl (by kernel_rfl) (by kernel_rfl) (by kernel_rfl) (fun _ _ _ h => h) (by rfl) ?_ (by assumption) ?_
      rotate_left
      · intro w hSw; (try dsimp only at hSw); go_simp; (try rw [if_neg (by assumption)]); (try rw [if_pos (by omega)]); (try simp only [hSw]); (try with_reducible rfl)
      try simp only [Act.put, List.setIfInBounds_toArray, List.set_cons_zero, List.set_cons_succ]
      refine take_at 7 (v := ?_) rfl (by kernel_rfl) (by kernel_rfl) (by kernel_rfl) (fun _ _ _ h => h) (by rfl) ?_ (by assumption) ?_
      rotate_left
      · intro w hSw; (try dsimp only at hSw); go_simp; (try rw [if_neg (by assumption)]); (try rw [if_pos (by omega)]); (try simp only [hSw]); (try with_reducible rfl)
      try simp only [Act.put, List.setIfInBounds_toArray, List.set_cons_zero, List.set_cons_succ]
      refine take_at 8 (v := ?_) rfl (by kernel_rfl) (by kernel_rfl) (by kernel_rfl) (fun _ _ _ h => h) (by rfl) ?_ (by assumption) ?_
      rotate_left
      · intro w hSw; (try dsimp only at hSw); go_simp; (try rw [if_neg (by assumption)]); (try rw [if_pos (by omega)]); (try simp only [hSw]); (try with_reducible rfl)
      try simp only [Act.put, List.setIfInBounds_toArray, List.set_cons_zero, List.set_cons_succ]
      refine take_at 9 (v := ?_) rfl (by kernel_rfl) (by kernel_rfl) (by kernel_rfl) (fun _ _ _ h => h) (by rfl) ?_ (by assumption) ?_
      rotate_left
      · intro w hSw; (try dsimp only at hSw); go_simp; (try rw [if_neg (by assumption)]); (try rw [if_pos (by omega)]); (try simp only [hSw]); (try with_reducible rfl)
      try simp only [Act.put, List.setIfInBounds_toArray, List.set_cons_zero, List.set_cons_succ]
      refine take_at 10 (v := ?_) rfl (by kernel_rfl) (by kernel_rfl) (by kernel_rfl) (fun _ _ _ h => h) (by rfl) ?_ (by assumption) ?_
      rotate_left
      · intro w hSw; (try dsimp only at hSw); go_simp; (try rw [if_neg (by assumption)]); (try rw [if_pos (by omega)]); (try simp only [hSw]); (try with_reducible rfl)
      try simp only [Act.put, List.setIfInBounds_toArray, List.set_cons_zero, List.set_cons_succ]
      refine only_at 5 (by kernel_rfl) rfl (fun K hK => ?_)
      go_simp
      (go_at_call 17
       (with_reducible refine (HV1.out _ HBQ.out.drew).mono ?_)
       rintro e w9 ⟨v9, rfl, ho9, hb9⟩
       obtain ⟨W1, rfl⟩ : ∃ W, W = w9 := ⟨_, rfl⟩
       obtain ⟨lA, ln, lk, rfl, hln⟩ := ho9.shape
       have HLS := Lib.hid ho9.strs
       have G1 := Lib.hid ((Below.refl wq.heap.size wq).drew.trans hb9)
       have HB9 := Lib.hid (HBQ.out.trans (G1.out.mono HBQ.out.size))
       obtain ⟨p0, p1⟩ := row2 (box_next G1.out BPQ.out)
       obtain ⟨a', ea', _, _, d0, d1, d2, d3, d4⟩ := elem5 (HEN.out.under HB9.out)
       cases ea'
       clear ho9 hb9 hln)
      refine hK.out _ _ ?_ (fun hHeld => ?_)
      · (try dsimp only); go_keep
      clear hK K
      try simp only [Act.put, List.setIfInBounds_toArray, List.set_cons_zero, List.set_cons_succ]
      refine only_at 11 (by kernel_rfl) rfl (fun K hK => ?_)
      go_simp
      (go_at_call 18
       (with_reducible refine (HV2.out _ HB9.out).mono ?_)
       rintro e w9 ⟨v9, rfl, ho9, hb9⟩
       obtain ⟨W2, rfl⟩ : ∃ W, W = w9 := ⟨_, rfl⟩
       obtain ⟨lB, ln2, lk2, rfl, hln⟩ := ho9.shape
       have HLT := Lib.hid ho9.strs
       have HLU := Lib.hid (HLS.out.under hb9)
       have G2 := Lib.hid (G1.out.trans (hb9.mono G1.out.size))
       have HB10 := Lib.hid (HBQ.out.trans (G2.out.mono HBQ.out.size))
       obtain ⟨p0, p1⟩ := row2 (box_next G2.out BPQ.out)
       obtain ⟨a', ea', _, _, d0, d1, d2, d3, d4⟩ := elem5 (HEN.out.under HB10.out)
       cases ea'
       clear ho9 hb9 hln)
      refine hK.out _ _ ?_ (fun hHeld => ?_)
      · (try dsimp only); go_keep
      clear hK K
      try simp only [Act.put, List.setIfInBounds_toArray, List.set_cons_zero, List.set_cons_succ]
      refine only_at 12 (by kernel_rfl) rfl (fun K hK => ?_)
      go_simp
      (go_at_call 16
       (with_reducible refine (rSameNames_any HLU.out HLT.out _ (Below.refl _ _)).mono ?_)
       rintro e w9 ⟨he, hb9⟩
       rw [beq_self_eq_true] at he
       subst he
       obtain ⟨W3, rfl⟩ : ∃ W, W = w9 := ⟨_, rfl⟩
       have G3 := Lib.hid (G2.out.trans (hb9.mono G2.out.size))
       have HB11 := Lib.hid (HBQ.out.trans (G3.out.mono HBQ.out.size))
       obtain ⟨p0, p1⟩ := row2 (box_next G3.out BPQ.out)
       obtain ⟨a', ea', _, _, d0, d1, d2, d3, d4⟩ := elem5 (HEN.out.under HB11.out)
       cases ea'
       clear hb9)
      refine hK.out _ _ ?_ (fun hHeld => ?_)
      · (try dsimp only); go_keep
      clear hK K
      try simp only [Act.put, List.setIfInBounds_toArray, List.set_cons_zero, List.set_cons_succ]
      refine take_at 13 (v := ?_) rfl (by kernel_rfl) (by kernel_rfl) (by kernel_rfl) (fun _ _ _ h => h) (by rfl) ?_ (by assumption) ?_
      rotate_left
      · intro w hSw; (try dsimp only at hSw); go_simp; (try rw [if_neg (by assumption)]); (try rw [if_pos (by omega)]); (try simp only [hSw]); (try with_reducible rfl)
      try simp only [Act.put, List.setIfInBounds_toArray, List.set_cons_zero, List.set_cons_succ]
      refine wpAnyH_done (by kernel_rfl) ?_ _
      go_wp2_with fail
      go_roundg (p.nodes.length - (k + 1))
      case measure => have := HK.out; omega
      case rel => exact ⟨k + 1, by omega, by go_num, HW.out.trans (G3.out.mono HW.out.size)⟩
    · go_wp2_with fail
      go_ret
      exact ⟨rfl, HBQ.out⟩
theorem finds_law (L : List Value) (p : QProg) (s : ByteArray) (w : World) (hL : ProgAt w L p) (hp : wProg p ≤ 1048576) (_ : s.size ≤ maxLen) : Calls Tryz.prog 4 #[.agg L.toArray, .string s] w (Lived w) := by
  obtain ⟨A1, n1, k1, A2, n2, k2, rfl⟩ := prog_shape hL
  have := finds_walk hL (fun _ hn => vars_few hp hn) s.data.toList
  rwa [str_eq] at this
end Go.Proofs.YtbpbnebcbjacdaaGreat
