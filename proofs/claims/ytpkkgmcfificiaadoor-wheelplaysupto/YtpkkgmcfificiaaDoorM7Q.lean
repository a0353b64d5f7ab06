/- D7Q, one text. -/
import Derived.Test.YtpkkgmcfificiaaDoorM7C
namespace Go.Proofs.YtpkkgmcfificiaaDoor
open Go.RowKit Go.Shelf Go.Maps
set_option linter.unusedVariables false
set_option maxHeartbeats 4000000
set_option maxRecDepth 100000
attribute [local go_sem] Oper.semAt_some

theorem gives_any {B : Nat} {w : World} {U : Nat → Prop} {W R c : Nat} {T : List Tm} (h : PW B w U W R c T) (ht : Tb w) (hB : 0 < B) (x : OpD) (ok : x.Ok) :
    Calls Tryd.prog 28 #[ptr W, ptr R, .agg #[.int .i64 x.kind, .bool x.other, .int .i64 x.id, .int .i64 x.at_]] w fun e w' => e = .returned (.bool true) ∧ ∃ U', PW B w' U' W R c (giveT T x) ∧ St w w' U U' := by
  refine (callsIn_wide (n := 12)).1 ?_
  obtain ⟨-, -, hT⟩ := h.ok
  obtain ⟨Q0, a0, cp0, cR, rd⟩ : ∃ (Q : Nat → Prop) (a : Option Addr) (cp : Nat), w.cell? ⟨R, 1, none⟩ = some (.slice a T.length cp) ∧ RdT w Q R a cp T := by
    obtain ⟨S, Q, wl, rw, dj, hs⟩ := h.ex
    obtain ⟨a, cp, bR, rd⟩ := rw.ex
    exact ⟨Q, a, cp, bR.cell 1 _ rfl, rd⟩
  obtain ⟨a, cp, X, hrun, hb4, g0⟩ := g0_start h ht x rd
  have cap0 := rd.cap
  have cR5 := (((((World.grownBy_alloc w (.cells #[ptr W] 24) none).trans (World.grownBy_alloc _ (.cells #[ptr R] 26) none)).trans (World.grownBy_alloc _ (.cells #[.int .i64 x.kind, .bool x.other, .int .i64 x.id, .int .i64 x.at_] 34) none)).trans (World.grownBy_alloc _ (.cells #[.bool false] 4) none)).trans (World.grownBy_alloc _ (.cells #[.slice none 0 0] 60) none)).cell cR (by simp)
  have hc4 := hb4.cell
  have hf4 := hb4.frozen
  have R1 := hide hrun
  have HG := hide g0
  have HP := hide (And.intro h ht)
  have pc := fun (n : Int) (hn : 0 < n ∧ n ≤ 9223372036854775807) Y => pick_any x.id n (wf_id ok.i) hn Y
  have ha := fun Y => all_any W Y
  have mixed : Tryd.prog.follows .mixedOrders = true := by kernel_rfl
  clear rd hrun g0 h ht hb4
  refine callsIn_of_wp_marks Tryd.func28 rfl trivial ?_ rfl
  simp only [Tryd.ntmps28, List.size_toArray, List.length_cons, List.length_nil, Nat.reduceAdd, Nat.reduceSub, Array.replicate_succ, Array.replicate_zero, List.push_toArray, List.append_toArray, List.nil_append, List.cons_append]
  gi_upto_region 2 with fail
  gi_cut [] from 20 (fun wc => wc = X.setCell ⟨w.heap.size + 1 + 1 + 1 + 1, 0, none⟩ (.slice a T.length cp))
  case first =>
    as_aux_lemma =>
      refine wpIn_region_any (by assumption) ?_
      change wpAnyIn _ _ _ _ _ _ _ _ _ (World.drew _)
      refine wpAnyIn_ready (rs := [0, 1]) (by kernel_rfl) (by simp) ?_
      refine AllReadyIn.cons rfl (fun K hK => ?_) ?_
      · go_simp
        refine hK _ _ ?_
        clear hK K
        refine wpAnyIn_ready (rs := [1]) (by kernel_rfl) (by simp) ?_
        refine AllReadyIn.cons rfl (fun K hK => ?_) ?_
        · go_simp
          refine hK _ _ ?_
          clear hK K
          refine wpAnyIn_ready (rs := [2]) (by kernel_rfl) (by simp) ?_
          refine AllReadyIn.cons rfl (fun K hK => ?_) ?_
          · go_simp
            refine hK _ _ ?_
            clear hK K
            refine wpAnyIn_ready (rs := [3]) (by kernel_rfl) (by simp) ?_
            refine AllReadyIn.cons rfl (fun K hK => ?_) ?_
            · go_simp
              refine hK _ _ ?_
              clear hK K
              refine wpAnyIn_ready (rs := [4]) (by kernel_rfl) (by simp) ?_
              refine AllReadyIn.cons rfl (fun K hK => ?_) ?_
              · go_simp
                refine hK _ _ ?_
                clear hK K
                refine wpAnyIn_ready (rs := [5]) (by kernel_rfl) (by simp) ?_
                refine AllReadyIn.cons rfl (fun K hK => ?_) ?_
                · refine stepIn_app rfl _ _ 60 rfl _ _ rfl rfl (unhide R1) ?_; go_simp
                  refine hK _ _ ?_
                  clear hK K
                  refine wpAnyIn_ready (rs := [6]) (by kernel_rfl) (by simp) ?_
                  refine AllReadyIn.cons rfl (fun K hK => ?_) ?_
                  · go_simp
                    refine hK _ _ ?_
                    clear hK K
                    refine wpAnyIn_done (by kernel_rfl) ?_ _
                    gi_wp2_with fail
                    gi_meet
                    exact rfl
                  exact AllReadyIn.nil
                exact AllReadyIn.nil
              exact AllReadyIn.nil
            exact AllReadyIn.nil
          exact AllReadyIn.nil
        exact AllReadyIn.nil
      refine AllReadyIn.cons rfl (fun K hK => ?_) ?_
      · go_simp
        refine hK _ _ ?_
        clear hK K
        refine wpAnyIn_ready (rs := [0, 2]) (by kernel_rfl) (by simp) ?_
        refine AllReadyIn.cons rfl (fun K hK => ?_) ?_
        · go_simp
          refine hK _ _ ?_
          clear hK K
          refine wpAnyIn_ready (rs := [2]) (by kernel_rfl) (by simp) ?_
          refine AllReadyIn.cons rfl (fun K hK => ?_) ?_
          · go_simp
            refine hK _ _ ?_
            clear hK K
            refine wpAnyIn_ready (rs := [3]) (by kernel_rfl) (by simp) ?_
            refine AllReadyIn.cons rfl (fun K hK => ?_) ?_
            · go_simp
              refine hK _ _ ?_
              clear hK K
              refine wpAnyIn_ready (rs := [4]) (by kernel_rfl) (by simp) ?_
              refine AllReadyIn.cons rfl (fun K hK => ?_) ?_
              · go_simp
                refine hK _ _ ?_
                clear hK K
                refine wpAnyIn_ready (rs := [5]) (by kernel_rfl) (by simp) ?_
                refine AllReadyIn.cons rfl (fun K hK => ?_) ?_
                · refine stepIn_app rfl _ _ 60 rfl _ _ rfl rfl (unhide R1) ?_; go_simp
                  refine hK _ _ ?_
                  clear hK K
                  refine wpAnyIn_ready (rs := [6]) (by kernel_rfl) (by simp) ?_
                  refine AllReadyIn.cons rfl (fun K hK => ?_) ?_
                  · go_simp
                    refine hK _ _ ?_
                    clear hK K
                    refine wpAnyIn_done (by kernel_rfl) ?_ _
                    gi_wp2_with fail
                    gi_meet
                    exact rfl
                  exact AllReadyIn.nil
                exact AllReadyIn.nil
              exact AllReadyIn.nil
            exact AllReadyIn.nil
          exact AllReadyIn.nil
        refine AllReadyIn.cons rfl (fun K hK => ?_) ?_
        · go_simp
          refine hK _ _ ?_
          clear hK K
          refine wpAnyIn_ready (rs := [0, 3]) (by kernel_rfl) (by simp) ?_
          refine AllReadyIn.cons rfl (fun K hK => ?_) ?_
          · go_simp
            refine hK _ _ ?_
            clear hK K
            refine wpAnyIn_ready (rs := [3]) (by kernel_rfl) (by simp) ?_
            refine AllReadyIn.cons rfl (fun K hK => ?_) ?_
            · go_simp
              refine hK _ _ ?_
              clear hK K
              refine wpAnyIn_ready (rs := [4]) (by kernel_rfl) (by simp) ?_
              refine AllReadyIn.cons rfl (fun K hK => ?_) ?_
              · go_simp
                refine hK _ _ ?_
                clear hK K
                refine wpAnyIn_ready (rs := [5]) (by kernel_rfl) (by simp) ?_
                refine AllReadyIn.cons rfl (fun K hK => ?_) ?_
                · refine stepIn_app rfl _ _ 60 rfl _ _ rfl rfl (unhide R1) ?_; go_simp
                  refine hK _ _ ?_
                  clear hK K
                  refine wpAnyIn_ready (rs := [6]) (by kernel_rfl) (by simp) ?_
                  refine AllReadyIn.cons rfl (fun K hK => ?_) ?_
                  · go_simp
                    refine hK _ _ ?_
                    clear hK K
                    refine wpAnyIn_done (by kernel_rfl) ?_ _
                    gi_wp2_with fail
                    gi_meet
                    exact rfl
                  exact AllReadyIn.nil
                exact AllReadyIn.nil
              exact AllReadyIn.nil
            exact AllReadyIn.nil
          refine AllReadyIn.cons rfl (fun K hK => ?_) ?_
          · go_simp
            refine hK _ _ ?_
            clear hK K
            refine wpAnyIn_ready (rs := [0, 4]) (by kernel_rfl) (by simp) ?_
            refine AllReadyIn.cons rfl (fun K hK => ?_) ?_
            · go_simp
              refine hK _ _ ?_
              clear hK K
              refine wpAnyIn_ready (rs := [4]) (by kernel_rfl) (by simp) ?_
              refine AllReadyIn.cons rfl (fun K hK => ?_) ?_
              · go_simp
                refine hK _ _ ?_
                clear hK K
                refine wpAnyIn_ready (rs := [5]) (by kernel_rfl) (by simp) ?_
                refine AllReadyIn.cons rfl (fun K hK => ?_) ?_
                · refine stepIn_app rfl _ _ 60 rfl _ _ rfl rfl (unhide R1) ?_; go_simp
                  refine hK _ _ ?_
                  clear hK K
                  refine wpAnyIn_ready (rs := [6]) (by kernel_rfl) (by simp) ?_
                  refine AllReadyIn.cons rfl (fun K hK => ?_) ?_
                  · go_simp
                    refine hK _ _ ?_
                    clear hK K
                    refine wpAnyIn_done (by kernel_rfl) ?_ _
                    gi_wp2_with fail
                    gi_meet
                    exact rfl
                  exact AllReadyIn.nil
                exact AllReadyIn.nil
              exact AllReadyIn.nil
            refine AllReadyIn.cons rfl (fun K hK => ?_) ?_
            · go_simp
              refine hK _ _ ?_
              clear hK K
              refine wpAnyIn_ready (rs := [0]) (by kernel_rfl) (by simp) ?_
              refine AllReadyIn.cons rfl (fun K hK => ?_) ?_
              · go_simp
                refine hK _ _ ?_
                clear hK K
                refine wpAnyIn_ready (rs := [5]) (by kernel_rfl) (by simp) ?_
                refine AllReadyIn.cons rfl (fun K hK => ?_) ?_
                · refine stepIn_app rfl _ _ 60 rfl _ _ rfl rfl (unhide R1) ?_; go_simp
                  refine hK _ _ ?_
                  clear hK K
                  refine wpAnyIn_ready (rs := [6]) (by kernel_rfl) (by simp) ?_
                  refine AllReadyIn.cons rfl (fun K hK => ?_) ?_
                  · go_simp
                    refine hK _ _ ?_
                    clear hK K
                    refine wpAnyIn_done (by kernel_rfl) ?_ _
                    gi_wp2_with fail
                    gi_meet
                    exact rfl
                  exact AllReadyIn.nil
                exact AllReadyIn.nil
              exact AllReadyIn.nil
            exact AllReadyIn.nil
          exact AllReadyIn.nil
        exact AllReadyIn.nil
      exact AllReadyIn.nil
  case rest =>
    rw [← hcut] at HG
    have c0 := (unhide HG).b0.cell
    have c1 := (unhide HG).b1.cell
    have c22 := (unhide HG).b2.cell 2 _ rfl
    have c23 := (unhide HG).b2.cell 3 _ rfl
    have c4 := (unhide HG).b4.cell
    clear hcut cR5 hc4 hf4 R1 cR
    have lenI : ¬ (9223372036854775807 : Int) < (T.length : Int) := by omega
    have nI : IntKind.i64.wrap ((T.length : Int) + 2) = (T.length : Int) + 2 := by rw [IntKind.wrap_i64]; omega
    have pc2 := fun Y => pc ((T.length : Int) + 2) (by omega) Y
    clear pc
    gi_wp2_with fail
    refine ⟨trivial, ?_⟩
    refine (callsIn_wide.2 (pc2 _)).mono ?_
    rintro e w' ⟨rfl, hw⟩
    replace hw := hw.symm
    subst hw
    obtain ⟨nn, hnn⟩ : ∃ nn, pk x.id ((T.length : Int) + 2) = nn := ⟨_, rfl⟩
    rw [hnn]
    have cN := ((((World.grownBy_alloc wc (.cells #[.int .i64 nn] 3) none).trans (World.grownBy_alloc _ (.cells #[.int .i64 0] 3) none)).trans (World.grownBy_alloc _ (.cells #[.int .i64 0] 3) none)).trans (World.grownBy_alloc _ (.cells #[.bool true] 4) none)).cell c0 (by simp)
    have HG1 := hide (g1_start (unhide HP).1 (unhide HP).2 (unhide HG) nn)
    have cS := (unhide HG1).bs.cell
    have hne := fun Y => seq_ne wc.heap.size Y
    clear HG
    gi_wp2_with fail
    refine ⟨trivial, ?_⟩
    refine (callsIn_wide.2 (ha _)).mono ?_
    rintro e w2 ⟨rfl, rfl⟩
    gi_wp2_with fail
    change Code.wpIn _ _ _ _ _ _ (wld1 wc W nn)
    have nn0 : 0 ≤ nn := by rw [← hnn]; unfold pk; exact Int.emod_nonneg _ (by omega)
    have nn1 : nn < (T.length : Int) + 2 := by rw [← hnn]; unfold pk; exact Int.emod_lt_of_pos _ (by omega)
    clear cN cS c0 c1 c22 c23 c4 pc2 hnn ha HP nI
    generalize hw1 : wld1 wc W nn = w1 at *
    generalize hM : wc.heap.size = M at *
    clear hw1 hM
    have g1 := unhide HG1
    have szw := g1.sz
    have nM := g1.nM
    have wl1 : ∃ S, Wl B w1 S W c T := by
      obtain ⟨S, Q, wl, -⟩ := g1.pw.ex
      exact ⟨S, wl.wl⟩
    obtain ⟨S1, wl1⟩ := wl1
    have tb1 := g1.tb
    have hseq := all_stops 11 (by decide) (M + 1 + 1 + 1 + 1) w1.heap.size B S1 W c T w1 g1.bw.cell wl1 tb1 (Nat.le_refl _)
    have hI0 := ia_start g1 nn0
    clear g1 wl1
    refine wpIn_rangeFunc_ownH (F := Fence.wide) rfl (by decide) (gf := 45) (lb := #[.pointer (some ⟨M + 1 + 1 + 1 + 1, 0, none⟩)]) rfl trivial (enters_of Tryd.func45 (by kernel_rfl) rfl)
      hseq (fun h k => KC.trans h k) (fun Y l o o' _ hl ho _ => KC.put Y l o o' hl ho) (Below.refl _ _) (fun _ => rfl)
      (Ia B w U W R c T x M nn w1) (Ie B w U W R c T x M nn w1) (ia_own _ _ _ _ _ _ _ _ _ _ _) (ie_own _ _ _ _ _ _ _ _ _ _ _) hI0
      (fun (y : Tm) a' _ => a' = { tmps := #[ptr W, ptr R, .agg #[.int .i64 x.kind, .bool x.other, .int .i64 x.id, .int .i64 x.at_], .pointer (some ⟨w.heap.size, 0, none⟩), .pointer (some ⟨w.heap.size + 1, 0, none⟩), .pointer (some ⟨w.heap.size + 1 + 1, 0, none⟩), .pointer (some ⟨w.heap.size + 1 + 1 + 1, 0, none⟩), .pointer (some ⟨w.heap.size + 1 + 1 + 1 + 1, 0, none⟩), .pointer (some ⟨M, 0, none⟩), .pointer (some ⟨M + 1, 0, none⟩), .pointer (some ⟨M + 1 + 1, 0, none⟩), .pointer (some ⟨M + 1 + 1 + 1, 0, none⟩), .pointer (some ⟨M + 1 + 1 + 1 + 1 + 1, 0, none⟩), .int .i64 (y.1 : Int), .int .i64 (y.2 : Int), undef, undef, undef, undef, undef, u20, u21, u22, u23, u24, u25, .pointer (some ⟨w.heap.size + 1 + 1, 2, none⟩), .int .i64 x.id, .slice a T.length cp, .int .i64 (T.length : Int), .int .i64 ((T.length : Int) + 2), .int .i64 nn, ptr W, seqV M, seqV M, .bool false, seqV M, .int .i64 (y.1 : Int), .int .i64 (y.2 : Int), u39, u40, u41, u42, u43, u44, u45, u46, u47, u48, u49, u50, u51, u52, u53, u54, u55, u56, u57, u58, u59, u60, u61, u62, u63, u64, u65, u66, u67, u68, u69, u70, u71, u72, u73, u74, u75, u76, u77, u78, u79, u80, u81, u82, u83, u84, u85, u86, u87, u88, u89, u90, u91, u92, u93, u94, u95, u96, u97, u98, u99, u100, u101, u102, u103, u104, u105, u106, u107, u108, u109, u110, u111, u112, u113, u114, u115, u116, u117, u118, u119, u120, u121, u122, u123, u124, u125, u126, u127, u128, u129, u130, u131, u132, u133, u134, u135, u136, u137, u138, u139, u140, u141, u142, u143, u144, u145, u146, u147, u148, u149, u150, u151, u152, u153, u154, u155, u156, u157, u158, u159, u160, u161, u162, u163, u164, u165, u166, u167, u168, u169, u170, u171, u172, u173], defers := [] }) (fun _ _ _ _ _ _ hs _ _ => hs) ?assign ?body ?done ?stop
    case assign =>
      intro l pre y Y K hi hK
      gi_wp2
      exact hK _ _ (KeepsFrom.refl _ _) (KC.refl _ _) hi rfl
    case body =>
      rintro l pre y a' Y hl ⟨r, hr⟩ ⟨i1, ipf, ink⟩ rfl hlen
      have hUv : ∀ g, Uv w.heap.size M U g → g < w.heap.size ∧ g ≠ 0 ∨ g = w.heap.size + 1 + 1 + 1 ∨ g = M + 1 ∨ g = M + 1 + 1 ∨ g = M + 1 + 1 + 1 := fun g hg => by
        rcases hg with h | h
        · exact .inl ⟨(unhide HG1).hU g h, by have := ((unhide HG1).pw.lt g h).1; omega⟩
        · exact .inr h
      have fx := (unhide HG1).fx i1.kp hUv
      have cK := i1.bk.cell
      have c4 := fx.b4
      by_cases hp : T[pre.length]? = some y
      · have hk : pre.length < T.length := (List.getElem?_eq_some_iff.1 hp).1
        have kI : ¬ (T.length : Int) ≤ (pre.length : Int) := by omega
        obtain ⟨g, off, rfl, -, -, -, hc⟩ := fx.rd.at_.resolve_left (fun e => by subst e; simp at hp)
        obtain ⟨z0, z1⟩ := hc _ y hp
        have cap := fx.rd.cap
        have e1 : ((y.1 : Int) != (y.1 : Int)) = false := by simp
        have e2 : ((y.2 : Int) != (y.2 : Int)) = false := by simp
        have pf2 := (snoc_prefix ipf).2 hp
        have HI := hide (And.intro i1 (And.intro ipf (And.intro pf2 ink)))
        have HF := hide fx
        have HUV := hide hUv
        have HC := hide hc
        clear i1 ipf ink fx hUv hc pf2 hseq hI0
        gi_upto_if 62 with fail
        gi_cut [] from 15 (fun wx => Hid (I1 B w U W R c T x M w1 pre.length true wx ∧ KeepsFrom w1.heap.size Y wx ∧ KC w1.heap.size Y wx))
        case first =>
          as_aux_lemma =>
            by_cases hpe : pre = []
            · as_aux_lemma =>
                subst hpe
                have hk0 : ((([] : List Tm).length : Int) == 0) = true := by simp
                have cS := (unhide HF).bs
                gi_upto_region 16 with fail
                gi_cut [63] from 20 (fun v63 wx => v63 = seqV M ∧ wx = Y)
                case first =>
                  as_aux_lemma =>
                    gi_wp2_with fail
                    gi_meet
                    exact ⟨rfl, rfl⟩
                case rest =>
                obtain ⟨h63, hwx⟩ := hcut
                subst h63
                replace hwx := hwx.symm
                subst hwx
                have hY1 := (unhide HI).1.kp.size
                have pwY : PWM B w1.heap.size Y U W R c T := (unhide HI).1.pw
                have wlY : ∃ S, Wl B Y S W c T := by
                  obtain ⟨S, Q, wl, -⟩ := pwY.ex
                  exact ⟨S, wl.wl⟩
                obtain ⟨SY, wlY⟩ := wlY
                have hseq2 := all_stops 9 (by decide) (M + 1 + 1 + 1 + 1) Y.heap.size B SY W c T Y (unhide HF).bw wlY (unhide HF).tb (Nat.le_refl _)
                have hI2 : I2 T M Y [] Y := ⟨Kp.refl _ _, (unhide HI).1.bi, Nat.zero_le _⟩
                have HPW := hide pwY
                clear cS z0 z1 e1 e2 cK c4 pwY wlY
                gi_wp2_with fail
                refine wpIn_rangeFunc_ownN (F := Fence.wide.inRound l) (l₀ := l) (r₀ := r) rfl hr (by decide) (gf := 45) (lb := #[.pointer (some ⟨M + 1 + 1 + 1 + 1, 0, none⟩)]) rfl trivial (enters_of Tryd.func45 (by kernel_rfl) rfl)
                  (hseq2.inRound l) (fun h k => KC.trans h k) (fun Y l o o' _ hl ho _ => KC.put Y l o o' hl ho) (Below.refl _ _) (fun _ => rfl)
                  (I2 T M Y) (fun cd pre2 _ => cd = .ret ∧ T.length < pre2.length) (i2_own _ _ _) (fun _ => ownFrom_pure _ _) hI2
                  (fun (z : Tm) a' _ => a' = { tmps := #[ptr W, ptr R, .agg #[.int .i64 x.kind, .bool x.other, .int .i64 x.id, .int .i64 x.at_], .pointer (some ⟨w.heap.size, 0, none⟩), .pointer (some ⟨w.heap.size + 1, 0, none⟩), .pointer (some ⟨w.heap.size + 1 + 1, 0, none⟩), .pointer (some ⟨w.heap.size + 1 + 1 + 1, 0, none⟩), .pointer (some ⟨w.heap.size + 1 + 1 + 1 + 1, 0, none⟩), .pointer (some ⟨M, 0, none⟩), .pointer (some ⟨M + 1, 0, none⟩), .pointer (some ⟨M + 1 + 1, 0, none⟩), .pointer (some ⟨M + 1 + 1 + 1, 0, none⟩), .pointer (some ⟨M + 1 + 1 + 1 + 1 + 1, 0, none⟩), .int .i64 (y.1 : Int), .int .i64 (y.2 : Int), undef, undef, undef, undef, undef, u20, u21, u22, u23, u24, u25, u26, u27, u28, u29, u30, u31, u32, u33, u34, u35, u36, u37, u38, u39, u40, u41, u42, u43, u44, u45, u46, u47, u48, u49, u50, u51, u52, u53, u54, u55, u56, u57, u58, u59, u60, u61, u62, seqV M, .int .i64 (z.1 : Int), .int .i64 (z.2 : Int), u66, u67, u68, u69, u70, u71, u72, u73, u74, u75, u76, u77, u78, u79, u80, u81, u82, u83, u84, u85, u86, u87, u88, u89, u90, u91, u92, u93, u94, u95, u96, u97, u98, u99, u100, u101, u102, u103, u104, u105, u106, u107, u108, u109, u110, u111, u112, u113, u114, u115, u116, u117, u118, u119, u120, u121, u122, u123, u124, u125, u126, u127, u128, u129, u130, u131, u132, u133, u134, u135, u136, u137, u138, u139, u140, u141, u142, u143, u144, u145, u146, u147, u148, u149, u150, u151, u152, u153, u154, u155, u156, u157, u158, u159, u160, u161, u162, u163, u164, u165, u166, u167, u168, u169, u170, u171, u172, u173], defers := [] }) (fun _ _ _ _ _ _ hs _ _ => hs) ?assign2 ?body2 ?done2 ?stop2
                case assign2 =>
                  intro l2 pre2 z X2 K hi hK
                  gi_wp2
                  exact hK _ _ (KeepsFrom.refl _ _) (KC.refl _ _) hi rfl
                case body2 =>
                  rintro l2 pre2 z a' X2 hl2 ⟨r2, hr2⟩ i2 rfl hlen2
                  have b4 : Boxed X2 (w.heap.size + 1 + 1 + 1 + 1) 60 (.slice (some ⟨g, off, none⟩) T.length cp) := bxKp (bxKp (unhide HG1).b4 (unhide HI).1.kp (fun hv => by rcases unhide HUV _ hv with e | e | e | e | e <;> omega)) i2.kp (by omega)
                  have ic := i2.bi.cell
                  have if_ := i2.bi.frozen
                  have bi2 := Boxed.set (.int .i64 ((pre2.length : Int) + 1)) i2.bi
                  have b42 := b4.other (B' := M + 1 + 1) (by omega) (.int .i64 ((pre2.length : Int) + 1))
                  have c4b := b42.cell
                  have icb := bi2.cell
                  have kW : IntKind.i64.wrap ((pre2.length : Int) + 1) = (pre2.length : Int) + 1 := by rw [IntKind.wrap_i64]; omega
                  by_cases hgt : T.length < pre2.length + 1
                  · as_aux_lemma =>
                      have gI : (T.length : Int) < (pre2.length : Int) + 1 := by omega
                      have BAD : Hid (T.length < (pre2 ++ [z]).length) := by show _ < _; simp; omega
                      have rb : Boxed X2 (w.heap.size + 1 + 1 + 1) 4 (.bool false) := bxKp (unhide HI).1.br i2.kp (by omega)
                      have rb2 := rb.other (B' := M + 1 + 1) (by omega) (.int .i64 ((pre2.length : Int) + 1))
                      have rc := rb2.cell
                      have rf := rb2.frozen
                      clear i2 b4 bi2 b42 rb rb2 HI HF HUV HC HPW HG1 hseq2 hI2
                      gi_wp2_with fail
                      exact ⟨((KeepsOthers.setCell _ _ _).trans (KeepsOthers.setCell _ _ _)).from _, rfl, unhide BAD⟩
                  · as_aux_lemma =>
                      have gI : ¬ (T.length : Int) < (pre2.length : Int) + 1 := by omega
                      have E := hide (i2.step z (by omega) (by omega))
                      clear i2 b4 bi2 b42 HI HF HUV HC HPW HG1 hseq2 hI2
                      gi_wp2_with fail
                      exact unhide E
                case stop2 =>
                  rintro cd pre2 X2 hp2 ⟨-, hlt⟩
                  exact absurd hp2.length_le (by omega)
                case done2 =>
                  rintro ys Z hys i2
                  rw [hys] at i2
                  have kYZ := i2.kp
                  have kwZ : Kp (Uv w.heap.size M U) w1 Z := (unhide HI).1.kp.then kYZ (fun q _ e => .inr (.inr (.inr (.inl e))))
                  have fZ := (unhide HG1).fx kwZ (unhide HUV)
                  have pwZ : PWM B w1.heap.size Z U W R c T := (unhide HPW).other kYZ (fun q hq e => by have := (unhide HG1).hU q hq; omega)
                  have idl : y.1 < 4096 := (pwZ.pw.ok.1.lt y (List.mem_of_getElem? hp)).1
                  have CAN := hide (fun (X' : World) (gX : Z.grownBy X' none) => pwm_cancel (pwZ.grown gX) (y.1 : Int) (wfI_nat idl))
                  have RDZ : Hid (∀ {V : Nat → Prop} {X' : World}, Kp V w1 X' → (∀ q, V q → Uv w.heap.size M U q) → Fx w W R T x (some ⟨g, off, none⟩) cp M nn X' ∧ X'.cell? ⟨g, off, none⟩ = some (.int .i64 (y.1 : Int))) := fun {V X'} k hV => by
                    have f := (unhide HG1).fx k (fun q hq => unhide HUV q (hV q hq))
                    refine ⟨f, ?_⟩
                    obtain ⟨g', off', e', -, -, -, hcZ⟩ := f.rd.at_.resolve_left (fun e => by subst e; simp at hp)
                    cases e'
                    have := (hcZ 0 y hp).1
                    simpa using this
                  obtain ⟨f0, y0⟩ := unhide RDZ kwZ (fun _ h => h)
                  have c0 := f0.b0
                  have c4 := f0.b4
                  have len0 : (0 : Int) < (T.length : Int) := by simp at hk; omega
                  have HST := hide (And.intro kYZ (And.intro i2.bi kwZ))
                  clear fZ f0 pwZ i2 kwZ hseq2 hI2 HC HF HPW hys
                  gi_upto_region 20 with fail
                  gi_cut [] from 20 (fun wx => Hid (Kp U Z wx ∧ ∀ X', wx.grownBy X' none → Calls Tryd.prog 26 #[ptr R, .int .i64 (y.1 : Int)] X' fun e w2 => (∃ v : Int, e = .returned (.int .i64 v)) ∧ ∃ U1, PWM B w1.heap.size w2 U1 W R c (delT T (y.1 : Int)) ∧ St Z w2 U U1))
                  case first =>
                    as_aux_lemma =>
                      gi_region_with_o (first | (refine ⟨trivial, ?_⟩; gi_at_call 22; refine (CallsIn.inRound l (callsIn_wide.2 (unhide CAN _ (drew_grown _)))).mono ?_; rintro e W2 ⟨v, rfl, k1, HC1⟩) | (gi_at_call 22; refine (CallsIn.inRound l (callsIn_wide.2 (unhide CAN _ (drew_grown _)))).mono ?_; rintro e W2 ⟨v, rfl, k1, HC1⟩))
                      all_goals
                        have E := hide (And.intro k1 HC1)
                        clear k1 HC1
                        gi_wp2_with fail
                        gi_meet
                        refine ⟨kp_drew (unhide E).1, fun X' gX => (unhide (unhide E).2 X' gX).mono ?_⟩
                        rintro e w2 ⟨rfl, U1, p1, s1⟩
                        exact ⟨⟨_, rfl⟩, U1, p1, st_drew s1⟩
                  case rest =>
                  obtain ⟨k1, hcc⟩ := unhide hcut
                  obtain ⟨f1, y1⟩ := unhide RDZ ((unhide HST).2.2.then k1 (fun q _ h => .inl h)) (fun _ h => h)
                  have d1 := f1.b1
                  have d4 := f1.b4
                  have HCC := hide hcc
                  clear f1 hcut hcc c0 c4 y0 CAN
                  gi_upto_region 21 with fail
                  gi_cut [] from 20 (fun wx => Hid (∃ U1, PWM B w1.heap.size wx U1 W R c (delT T (y.1 : Int)) ∧ St Z wx U U1))
                  case first =>
                    as_aux_lemma =>
                      gi_region_with_o (first | (refine ⟨trivial, ?_⟩; gi_at_call 26; refine (CallsIn.inRound l (callsIn_wide.2 (unhide HCC _ (drew_grown _)))).mono ?_; rintro e W2 ⟨⟨v, rfl⟩, HC1⟩) | (gi_at_call 26; refine (CallsIn.inRound l (callsIn_wide.2 (unhide HCC _ (drew_grown _)))).mono ?_; rintro e W2 ⟨⟨v, rfl⟩, HC1⟩))
                      all_goals
                        have E := hide HC1
                        clear HC1
                        gi_wp2_with fail
                        gi_meet
                        exact unhide E
                  case rest =>
                    as_aux_lemma =>
                      clear k1 d1 d4 y1 HCC
                      obtain ⟨U1, pw1, s1⟩ := unhide hcut
                      obtain ⟨f2, -⟩ := unhide RDZ ((unhide HST).2.2.then s1.kp (fun q _ h => .inl h)) (fun _ h => h)
                      have q0 := f2.b0
                      have qi := f2.id
                      have qa := f2.at_
                      have ARM := pwm_arm pw1 x.id x.at_
                      clear f2 hcut
                      gi_wp2_with fail
                      refine ⟨trivial, ?_⟩
                      refine (CallsIn.inRound l (callsIn_wide.2 ARM)).mono ?_
                      rintro e V1 ⟨xv, rfl, k2, H2⟩
                      obtain ⟨f3, -⟩ := unhide RDZ (kp_v1 (unhide HST).2.2 s1 k2) (fun _ h => h)
                      have p1 := f3.b1
                      have pi := f3.id
                      have pa := f3.at_
                      have rarm := unhide H2 V1 (World.grownBy.refl _ _)
                      clear f3 q0 qi qa ARM H2
                      gi_wp2_with fail
                      refine ⟨trivial, ?_⟩
                      refine (CallsIn.inRound l (callsIn_wide.2 rarm)).mono ?_
                      rintro e V2 ⟨rfl, U2, pw2, s2⟩
                      obtain ⟨bo, biV, kV, END⟩ := i1_given (unhide HI).1 (unhide HST).1 (unhide HST).2.1 s1 pw2 s2 hp szw nM (unhide HG1).hU
                      obtain ⟨f4, -⟩ := unhide RDZ kV (fun _ h => h)
                      have r4 := f4.b4
                      have oc := bo.cell
                      have of_ := bo.frozen
                      have ic := biV.cell
                      have HEND := hide END
                      have xx : (xv == xv) = true := by simp
                      have tt : ((T.length : Int) == (T.length : Int)) = true := by simp
                      clear f4 END bo biV kV p1 pi pa rarm pw2 s2 pw1 s1 k2 HST RDZ HI HG1 HUV
                      gi_wp2_with fail
                      gi_meet
                      exact unhide HEND
            · have hk0 : ((pre.length : Int) == 0) = false := by
                have : pre.length ≠ 0 := fun e => hpe (List.eq_nil_of_length_eq_zero e)
                simp; omega
              have hd : (!pre.isEmpty) = true := by cases pre; exact absurd rfl hpe; rfl
              have E := hide (show I1 B w U W R c T x M w1 pre.length true Y by have := (unhide HI).1; rw [hd] at this; exact this)
              gi_wp2_with fail
              gi_meet
              exact ⟨unhide E, KeepsFrom.refl _ _, KC.refl _ _⟩
        case rest =>
          obtain ⟨j1, jf, jc⟩ := unhide hcut
          have bn := bxKp (unhide HG1).bn j1.kp (fun hv => by rcases unhide HUV _ hv with e | e | e | e | e <;> omega)
          have bn2 := bn.other (B' := M + 1) (by omega) (.int .i64 ((pre.length : Int) + 1))
          have bk2 := Boxed.set (.int .i64 ((pre.length : Int) + 1)) j1.bk
          have kc := j1.bk.cell
          have kf := j1.bk.frozen
          have kc2 := bk2.cell
          have nc2 := bn2.cell
          have kW : IntKind.i64.wrap ((pre.length : Int) + 1) = (pre.length : Int) + 1 := by rw [IntKind.wrap_i64]; omega
          have END := i1_next j1 jf jc szw nM (unhide HG1).hU
          have el : (pre ++ [y]).length = pre.length + 1 := by simp
          have ee : (!(pre ++ [y]).isEmpty) = true := by cases pre <;> rfl
          rw [← el, ← ee, szw] at END
          obtain ⟨-, -, pf2, ink⟩ := unhide HI
          by_cases hn : (pre.length : Int) + 1 = nn
          · as_aux_lemma =>
              have nI : ((pre.length : Int) + 1 == nn) = true := by simp [hn]
              have E := hide (show KeepsFrom (M + 6) Y (wc.setCell ⟨M + 1, 0, none⟩ (.int .i64 ((pre.length : Int) + 1))) ∧ Ie B w U W R c T x M nn w1 (.exit 0) (pre ++ [y]) (wc.setCell ⟨M + 1, 0, none⟩ (.int .i64 ((pre.length : Int) + 1))) from ⟨END.2.1, .inr ⟨rfl, END.1, pf2, by simp, by rw [el]; omega⟩⟩)
              clear END j1 jf jc bn bn2 bk2 hcut HI HF HUV HC HG1 hn
              gi_wp2_with fail
              exact unhide E
          · as_aux_lemma =>
              have nI : ((pre.length : Int) + 1 == nn) = false := by simp [hn]
              have E := hide (show KeepsFrom (M + 6) Y (wc.setCell ⟨M + 1, 0, none⟩ (.int .i64 ((pre.length : Int) + 1))) ∧ KC (M + 6) Y (wc.setCell ⟨M + 1, 0, none⟩ (.int .i64 ((pre.length : Int) + 1))) ∧ Ia B w U W R c T x M nn w1 (pre ++ [y]) (wc.setCell ⟨M + 1, 0, none⟩ (.int .i64 ((pre.length : Int) + 1))) from ⟨END.2.1, END.2.2, END.1, pf2, by rw [el]; omega⟩)
              clear END j1 jf jc bn bn2 bk2 hcut HI HF HUV HC HG1 hn
              gi_wp2_with fail
              exact unhide E
      · have bad : ¬ pre ++ [y] <+: T := fun h => hp ((snoc_prefix ipf).1 h)
        have rc := i1.br.cell
        have rf := i1.br.frozen
        by_cases hk : T.length ≤ pre.length
        · as_aux_lemma =>
            have kI : (T.length : Int) ≤ (pre.length : Int) := by omega
            have BAD := hide bad
            clear bad hp fx i1 ipf ink hlen hseq hI0 hUv HG1
            gi_wp2_with fail
            exact ⟨(KeepsOthers.setCell _ _ _).from _, .inl ⟨rfl, unhide BAD⟩⟩
        · have kI : ¬ (T.length : Int) ≤ (pre.length : Int) := by omega
          obtain ⟨z, hz⟩ : ∃ z, T[pre.length]? = some z := ⟨T[pre.length], by simp⟩
          obtain ⟨g, off, rfl, -, -, -, hc⟩ := fx.rd.at_.resolve_left (fun e => by subst e; simp at hz)
          obtain ⟨z0, z1⟩ := hc _ z hz
          have cap := fx.rd.cap
          have BAD := hide bad
          by_cases h1 : z.1 = y.1
          · as_aux_lemma =>
              have h2 : z.2 ≠ y.2 := fun e => hp (by rw [hz]; exact congrArg some (Prod.ext h1 e))
              have e1 : ((z.1 : Int) != (y.1 : Int)) = false := by simp [h1]
              have e2 : ((z.2 : Int) != (y.2 : Int)) = true := by simp; omega
              clear bad hp fx i1 ipf ink hlen hseq hI0 hUv HG1 hc hz h1 h2
              gi_wp2_with fail
              exact ⟨(KeepsOthers.setCell _ _ _).from _, .inl ⟨rfl, unhide BAD⟩⟩
          · as_aux_lemma =>
              have e1 : ((z.1 : Int) != (y.1 : Int)) = true := by simp; omega
              clear bad hp fx i1 ipf ink hlen hseq hI0 hUv HG1 hc hz h1
              gi_wp2_with fail
              exact ⟨(KeepsOthers.setCell _ _ _).from _, .inl ⟨rfl, unhide BAD⟩⟩
    case done =>
      rintro D ys Y hD hys ⟨i1, ipf, ink⟩ hK
      rw [hys] at i1 ink
      have hUv : ∀ g, Uv w.heap.size M U g → g < w.heap.size ∧ g ≠ 0 ∨ g = w.heap.size + 1 + 1 + 1 ∨ g = M + 1 ∨ g = M + 1 + 1 ∨ g = M + 1 + 1 + 1 := fun g hg => by
        rcases hg with h | h
        · exact .inl ⟨(unhide HG1).hU g h, by have := ((unhide HG1).pw.lt g h).1; omega⟩
        · exact .inr h
      have nb := bxKp (unhide HG1).bn i1.kp (fun hv => by rcases hUv _ hv with e | e | e | e | e <;> omega)
      have c4 := ((unhide HG1).fx i1.kp hUv).b4
      have nc := nb.cell
      have nf := nb.frozen
      have HG3 := hide (g3_start (Y2 := Y.setCell ⟨M, 0, none⟩ (.int .i64 (T.length : Int))) (unhide HG1) hB i1 (by cases T; exact .inr rfl; exact .inl rfl) ((Kp.refl _ Y).set _ _ _ (fun _ => rfl)) (Boxed.set _ nb) hK hD)
      have sc := (unhide HG3).bs.cell
      have es : (Y.setCell ⟨M, 0, none⟩ (.int .i64 (T.length : Int))).heap.size = Y.heap.size := by simp
      rw [es] at HG3
      clear es
      clear hUv nb i1 ipf hK hseq hI0 HG1 hys
      gi_upto_region 27 with fail
      gi_cut [120] from 20 (fun v wx => v = .bool true ∧ wx = Y)
      case first =>
        as_aux_lemma =>
          by_cases h0 : nn = 0
          · as_aux_lemma =>
              have e0 : (nn == 0) = true := by simp [h0]
              clear h0
              gi_wp2_with fail
              gi_meet
              exact ⟨rfl, rfl⟩
          · as_aux_lemma =>
              have e0 : (nn == 0) = false := by simp [h0]
              have gI : (T.length : Int) < nn := ink.resolve_left h0
              gi_wp2_with fail
              gi_meet
              exact ⟨rfl, rfl⟩
      case rest =>
      obtain ⟨h120, hwx⟩ := hcut
      subst h120
      replace hwx := hwx.symm
      subst hwx
      gi_wp2_with fail
      generalize hw2 : (Y.setCell ⟨M, 0, none⟩ (.int .i64 (T.length : Int))).alloc (.cells #[.int .i64 0] 3) = w2 at *
      generalize hb : Y.heap.size = b at *
      generalize hT' : giveT T x = T' at *
      have g3 := unhide HG3
      obtain ⟨S3, wl3⟩ : ∃ S, Wl B w2 S W c T' := by
        obtain ⟨U', p, -⟩ := g3.pw
        obtain ⟨S, Q, wl, -⟩ := p.ex
        exact ⟨S, wl.wl⟩
      have hseq3 := all_stops 11 (by decide) (M + 1 + 1 + 1 + 1) w2.heap.size B S3 W c T' w2 g3.bw.cell wl3 g3.tb (Nat.le_refl _)
      have hI3 : I3 w T' b w2 [] w2 := ⟨Kp.refl _ _, g3.ba, g3.br, List.nil_prefix⟩
      have l4096 : T'.length ≤ 4096 := wl3.in_.2.2
      have sz2 := g3.hb
      clear g3 wl3
      refine wpIn_rangeFunc_ownH (F := Fence.wide) rfl (by decide) (gf := 45) (lb := #[.pointer (some ⟨M + 1 + 1 + 1 + 1, 0, none⟩)]) rfl trivial (enters_of Tryd.func45 (by kernel_rfl) rfl)
        hseq3 (fun h k => KC.trans h k) (fun Y l o o' _ hl ho _ => KC.put Y l o o' hl ho) (Below.refl _ _) (fun _ => rfl)
        (I3 w T' b w2) (fun cd pre _ => cd = .ret ∧ ¬ pre <+: T') (i3_own _ _ _ _) (fun _ => ownFrom_pure _ _) hI3
        (fun (y : Tm) a' _ => a' = { tmps := #[ptr W, ptr R, .agg #[.int .i64 x.kind, .bool x.other, .int .i64 x.id, .int .i64 x.at_], .pointer (some ⟨w.heap.size, 0, none⟩), .pointer (some ⟨w.heap.size + 1, 0, none⟩), .pointer (some ⟨w.heap.size + 1 + 1, 0, none⟩), .pointer (some ⟨w.heap.size + 1 + 1 + 1, 0, none⟩), .pointer (some ⟨w.heap.size + 1 + 1 + 1 + 1, 0, none⟩), .pointer (some ⟨M, 0, none⟩), .pointer (some ⟨M + 1, 0, none⟩), .pointer (some ⟨M + 1 + 1, 0, none⟩), .pointer (some ⟨M + 1 + 1 + 1, 0, none⟩), .pointer (some ⟨M + 1 + 1 + 1 + 1 + 1, 0, none⟩), undef, undef, undef, undef, .pointer (some ⟨b, 0, none⟩), .int .i64 (y.1 : Int), .int .i64 (y.2 : Int), u20, u21, u22, u23, u24, u25, u26, u27, u28, u29, u30, u31, u32, u33, u34, u35, u36, u37, u38, u39, u40, u41, u42, u43, u44, u45, u46, u47, u48, u49, u50, u51, u52, u53, u54, u55, u56, u57, u58, u59, u60, u61, u62, u63, u64, u65, u66, u67, u68, u69, u70, u71, u72, u73, u74, u75, u76, u77, u78, u79, u80, u81, u82, u83, u84, u85, u86, u87, u88, u89, u90, u91, u92, u93, u94, u95, u96, u97, u98, u99, u100, u101, u102, u103, u104, u105, u106, u107, u108, u109, u110, u111, u112, u113, u114, u115, u116, u117, u118, u119, .bool true, .slice a T.length cp, .int .i64 (T.length : Int), seqV M, .int .i64 (y.1 : Int), .int .i64 (y.2 : Int), u126, u127, u128, u129, u130, u131, u132, u133, u134, u135, u136, u137, u138, u139, u140, u141, u142, u143, u144, u145, u146, u147, u148, u149, u150, u151, u152, u153, u154, u155, u156, u157, u158, u159, u160, u161, u162, u163, u164, u165, u166, u167, u168, u169, u170, u171, u172, u173], defers := [] }) (fun _ _ _ _ _ _ hs _ _ => hs) ?assign3 ?body3 ?done3 ?stop3
      case assign3 =>
        intro l pre y X K hi hK
        gi_wp2
        exact hK _ _ (KeepsFrom.refl _ _) (KC.refl _ _) hi rfl
      case body3 =>
        rintro l pre y a' X hl ⟨r, hr⟩ i3 rfl hlen
        obtain ⟨aL, cpL, cL, rd⟩ := (unhide HG3).read i3.kp
        have c1 := (bxKp (unhide HG3).b1 i3.kp (fun e => by omega)).cell
        have ac := i3.ba.cell
        have af := i3.ba.frozen
        have rc := i3.br.cell
        have rf := i3.br.frozen
        have cap := rd.cap
        have lenJ : ¬ (9223372036854775807 : Int) < (T'.length : Int) := by omega
        by_cases hp : T'[pre.length]? = some y
        · as_aux_lemma =>
            have hk : pre.length < T'.length := (List.getElem?_eq_some_iff.1 hp).1
            have kI : ¬ (T'.length : Int) ≤ (pre.length : Int) := by omega
            obtain ⟨g, off, rfl, -, -, -, hc⟩ := rd.at_.resolve_left (fun e => by subst e; simp at hp)
            obtain ⟨z0, z1⟩ := hc _ y hp
            have e1 : ((y.1 : Int) != (y.1 : Int)) = false := by simp
            have e2 : ((y.2 : Int) != (y.2 : Int)) = false := by simp
            have kW : IntKind.i64.wrap ((pre.length : Int) + 1) = (pre.length : Int) + 1 := by rw [IntKind.wrap_i64]; omega
            have hkn : ¬ T'.length ≤ pre.length := by omega
            have E := hide (fun q => (i3.drewN q).step hp (by omega) (by omega))
            clear i3 rd hc hseq3 hI3 HG3
            gi_wp2_with fail
            refine region_quiet_round (F := Fence.wide) rfl (by kernel_rfl) (by kernel_rfl) (by kernel_rfl) ?_
            repeat (gi_big_quiet_step (fail))
            refine wpQuietIn_nil ?_
            intro _ hw'
            obtain ⟨nq, hw''⟩ := hw'
            subst hw''
            gi_wp2_with fail
            obtain ⟨e1', e2', e3'⟩ := unhide E nq
            exact ⟨⟨e1'.size, fun k o h1 h2 h3 => e1'.same k o h1 h2 h3⟩, ⟨e2'.size, fun k o h1 h2 h3 => e2'.same k o h1 h2 h3⟩, e3'⟩
        · have BAD : Hid (¬ pre ++ [y] <+: T') := fun h => hp ((snoc_prefix i3.pf).1 h)
          by_cases hk : T'.length ≤ pre.length
          · as_aux_lemma =>
              have kI : (T'.length : Int) ≤ (pre.length : Int) := by omega
              clear hp i3 rd hseq3 hI3 HG3
              gi_wp2_with fail
              refine region_quiet_round (F := Fence.wide) rfl (by kernel_rfl) (by kernel_rfl) (by kernel_rfl) ?_
              repeat (gi_big_quiet_step (fail))
              refine wpQuietIn_nil ?_
              intro _ hw'
              obtain ⟨nq, hw''⟩ := hw'
              subst hw''
              gi_wp2_with fail
              exact ⟨((show KeepsOthers X (X.drewN nq) from ⟨Nat.le_refl _, fun _ _ h _ => h⟩).trans (KeepsOthers.setCell _ _ _)).from _, rfl, unhide BAD⟩
          · have kI : ¬ (T'.length : Int) ≤ (pre.length : Int) := by omega
            obtain ⟨z, hz⟩ : ∃ z, T'[pre.length]? = some z := ⟨T'[pre.length], by simp⟩
            obtain ⟨g, off, rfl, -, -, -, hc⟩ := rd.at_.resolve_left (fun e => by subst e; simp at hz)
            obtain ⟨z0, z1⟩ := hc _ z hz
            by_cases h1 : z.1 = y.1
            · as_aux_lemma =>
                have h2 : z.2 ≠ y.2 := fun e => hp (by rw [hz]; exact congrArg some (Prod.ext h1 e))
                have e1 : ((z.1 : Int) != (y.1 : Int)) = false := by simp [h1]
                have e2 : ((z.2 : Int) != (y.2 : Int)) = true := by simp; omega
                clear hp i3 rd hc hz h1 h2 hseq3 hI3 HG3
                gi_wp2_with fail
                refine region_quiet_round (F := Fence.wide) rfl (by kernel_rfl) (by kernel_rfl) (by kernel_rfl) ?_
                repeat (gi_big_quiet_step (fail))
                refine wpQuietIn_nil ?_
                intro _ hw'
                obtain ⟨nq, hw''⟩ := hw'
                subst hw''
                gi_wp2_with fail
                exact ⟨((show KeepsOthers X (X.drewN nq) from ⟨Nat.le_refl _, fun _ _ h _ => h⟩).trans (KeepsOthers.setCell _ _ _)).from _, rfl, unhide BAD⟩
            · as_aux_lemma =>
                have e1 : ((z.1 : Int) != (y.1 : Int)) = true := by simp; omega
                clear hp i3 rd hc hz h1 hseq3 hI3 HG3
                gi_wp2_with fail
                refine region_quiet_round (F := Fence.wide) rfl (by kernel_rfl) (by kernel_rfl) (by kernel_rfl) ?_
                repeat (gi_big_quiet_step (fail))
                refine wpQuietIn_nil ?_
                intro _ hw'
                obtain ⟨nq, hw''⟩ := hw'
                subst hw''
                gi_wp2_with fail
                exact ⟨((show KeepsOthers X (X.drewN nq) from ⟨Nat.le_refl _, fun _ _ h _ => h⟩).trans (KeepsOthers.setCell _ _ _)).from _, rfl, unhide BAD⟩
      case stop3 =>
        rintro D2 cd pre X hD2 hpre ⟨-, hbad⟩ hK2
        exact absurd hpre hbad
      case done3 =>
        as_aux_lemma =>
          rintro D2 ys X hD2 hys i3 hK2
          rw [hys] at i3
          obtain ⟨aL, cpL, cL, rd⟩ := (unhide HG3).read i3.kp
          have c1 := (bxKp (unhide HG3).b1 i3.kp (fun e => by omega)).cell
          have ac := i3.ba.cell
          have rc := i3.br.cell
          have rf := i3.br.frozen
          have kc := (bxKp (unhide HG3).bk i3.kp (fun e => by omega)).cell
          have nc := (bxKp (unhide HG3).bn i3.kp (fun e => by omega)).cell
          have oc := (bxKp (unhide HG3).bo i3.kp (fun e => by omega)).cell
          have cap := rd.cap
          have lenJ : ¬ (9223372036854775807 : Int) < (T'.length : Int) := by omega
          have FIN := hide (fun X1 h1 => g3_end (unhide HG3) i3 hK2 hD2 X1 h1)
          have tt : ((T'.length : Int) == (T'.length : Int)) = true := by simp
          have kk : ((T.length : Int) == (T.length : Int)) = true := by simp
          clear i3 rd hseq3 hI3 HG3
          gi_wp2_with fail
          gi_region
          obtain ⟨f1, f2, f3, f4⟩ := unhide FIN _ (.inr rfl)
          clear FIN cL c1 ac rc rf kc nc oc
          gi_wp2_with fail
          refine ⟨by simp, .inl ⟨_, _, rfl, run_takeDeferred f1, ?_⟩⟩
          refine ⟨by simp, .inl ⟨_, _, rfl, run_takeDeferred f2, ?_⟩⟩
          refine ⟨.bool true, ?_, rfl, by rw [hT']; exact f4⟩
          simp [results, Tryd.f28, go_sem, f3]
    case stop =>
      rintro D cd pre0 Y hD hpre he hK
      rcases he with ⟨-, hbad⟩ | ⟨rfl, i1, ipf, ine, enn⟩
      · exact absurd hpre hbad
      have hUv : ∀ g, Uv w.heap.size M U g → g < w.heap.size ∧ g ≠ 0 ∨ g = w.heap.size + 1 + 1 + 1 ∨ g = M + 1 ∨ g = M + 1 + 1 ∨ g = M + 1 + 1 + 1 := fun g hg => by
        rcases hg with h | h
        · exact .inl ⟨(unhide HG1).hU g h, by have := ((unhide HG1).pw.lt g h).1; omega⟩
        · exact .inr h
      have nb := bxKp (unhide HG1).bn i1.kp (fun hv => by rcases hUv _ hv with e | e | e | e | e <;> omega)
      have c4 := ((unhide HG1).fx i1.kp hUv).b4
      have pl := ipf.length_le
      have p0 : pre0.length ≠ 0 := fun e => ine (List.eq_nil_of_length_eq_zero e)
      rw [enn] at nb
      have HG3 := hide (g3_start (Y2 := Y) (unhide HG1) hB i1 (by cases pre0; exact absurd rfl ine; exact .inl rfl) (Kp.refl _ Y) nb hK hD)
      generalize hpn : pre0.length = pn at *
      have nc := nb.cell
      have sc := (unhide HG3).bs.cell
      have e0 : ((pn : Int) == 0) = false := by simp; omega
      have gI : ¬ (T.length : Int) < (pn : Int) := by omega
      clear hUv nb i1 ipf hK hseq hI0 HG1 ine hpre nn0 nn1 enn
      gi_upto_region 27 with fail
      gi_cut [120] from 20 (fun v wx => v = .bool false ∧ wx = Y)
      case first =>
        as_aux_lemma =>
          gi_wp2_with fail
          gi_meet
          exact ⟨rfl, rfl⟩
      case rest =>
      obtain ⟨h120, hwx⟩ := hcut
      subst h120
      replace hwx := hwx.symm
      subst hwx
      gi_wp2_with fail
      generalize hw2 : Y.alloc (.cells #[.int .i64 0] 3) = w2 at *
      generalize hb : Y.heap.size = b at *
      generalize hT' : giveT T x = T' at *
      have g3 := unhide HG3
      obtain ⟨S3, wl3⟩ : ∃ S, Wl B w2 S W c T' := by
        obtain ⟨U', p, -⟩ := g3.pw
        obtain ⟨S, Q, wl, -⟩ := p.ex
        exact ⟨S, wl.wl⟩
      have hseq3 := all_stops 11 (by decide) (M + 1 + 1 + 1 + 1) w2.heap.size B S3 W c T' w2 g3.bw.cell wl3 g3.tb (Nat.le_refl _)
      have hI3 : I3 w T' b w2 [] w2 := ⟨Kp.refl _ _, g3.ba, g3.br, List.nil_prefix⟩
      have l4096 : T'.length ≤ 4096 := wl3.in_.2.2
      have sz2 := g3.hb
      clear g3 wl3
      refine wpIn_rangeFunc_ownH (F := Fence.wide) rfl (by decide) (gf := 45) (lb := #[.pointer (some ⟨M + 1 + 1 + 1 + 1, 0, none⟩)]) rfl trivial (enters_of Tryd.func45 (by kernel_rfl) rfl)
        hseq3 (fun h k => KC.trans h k) (fun Y l o o' _ hl ho _ => KC.put Y l o o' hl ho) (Below.refl _ _) (fun _ => rfl)
        (I3 w T' b w2) (fun cd pre _ => cd = .ret ∧ ¬ pre <+: T') (i3_own _ _ _ _) (fun _ => ownFrom_pure _ _) hI3
        (fun (y : Tm) a' _ => a' = { tmps := #[ptr W, ptr R, .agg #[.int .i64 x.kind, .bool x.other, .int .i64 x.id, .int .i64 x.at_], .pointer (some ⟨w.heap.size, 0, none⟩), .pointer (some ⟨w.heap.size + 1, 0, none⟩), .pointer (some ⟨w.heap.size + 1 + 1, 0, none⟩), .pointer (some ⟨w.heap.size + 1 + 1 + 1, 0, none⟩), .pointer (some ⟨w.heap.size + 1 + 1 + 1 + 1, 0, none⟩), .pointer (some ⟨M, 0, none⟩), .pointer (some ⟨M + 1, 0, none⟩), .pointer (some ⟨M + 1 + 1, 0, none⟩), .pointer (some ⟨M + 1 + 1 + 1, 0, none⟩), .pointer (some ⟨M + 1 + 1 + 1 + 1 + 1, 0, none⟩), undef, undef, undef, undef, .pointer (some ⟨b, 0, none⟩), .int .i64 (y.1 : Int), .int .i64 (y.2 : Int), u20, u21, u22, u23, u24, u25, u26, u27, u28, u29, u30, u31, u32, u33, u34, u35, u36, u37, u38, u39, u40, u41, u42, u43, u44, u45, u46, u47, u48, u49, u50, u51, u52, u53, u54, u55, u56, u57, u58, u59, u60, u61, u62, u63, u64, u65, u66, u67, u68, u69, u70, u71, u72, u73, u74, u75, u76, u77, u78, u79, u80, u81, u82, u83, u84, u85, u86, u87, u88, u89, u90, u91, u92, u93, u94, u95, u96, u97, u98, u99, u100, u101, u102, u103, u104, u105, u106, u107, u108, u109, u110, u111, u112, u113, u114, u115, u116, u117, u118, u119, .bool false, u121, u122, seqV M, .int .i64 (y.1 : Int), .int .i64 (y.2 : Int), u126, u127, u128, u129, u130, u131, u132, u133, u134, u135, u136, u137, u138, u139, u140, u141, u142, u143, u144, u145, u146, u147, u148, u149, u150, u151, u152, u153, u154, u155, u156, u157, u158, u159, u160, u161, u162, u163, u164, u165, u166, u167, u168, u169, u170, u171, u172, u173], defers := [] }) (fun _ _ _ _ _ _ hs _ _ => hs) ?assign3 ?body3 ?done3 ?stop3
      case assign3 =>
        intro l pre y X K hi hK
        gi_wp2
        exact hK _ _ (KeepsFrom.refl _ _) (KC.refl _ _) hi rfl
      case body3 =>
        rintro l pre y a' X hl ⟨r, hr⟩ i3 rfl hlen
        obtain ⟨aL, cpL, cL, rd⟩ := (unhide HG3).read i3.kp
        have c1 := (bxKp (unhide HG3).b1 i3.kp (fun e => by omega)).cell
        have ac := i3.ba.cell
        have af := i3.ba.frozen
        have rc := i3.br.cell
        have rf := i3.br.frozen
        have cap := rd.cap
        have lenJ : ¬ (9223372036854775807 : Int) < (T'.length : Int) := by omega
        by_cases hp : T'[pre.length]? = some y
        · as_aux_lemma =>
            have hk : pre.length < T'.length := (List.getElem?_eq_some_iff.1 hp).1
            have kI : ¬ (T'.length : Int) ≤ (pre.length : Int) := by omega
            obtain ⟨g, off, rfl, -, -, -, hc⟩ := rd.at_.resolve_left (fun e => by subst e; simp at hp)
            obtain ⟨z0, z1⟩ := hc _ y hp
            have e1 : ((y.1 : Int) != (y.1 : Int)) = false := by simp
            have e2 : ((y.2 : Int) != (y.2 : Int)) = false := by simp
            have kW : IntKind.i64.wrap ((pre.length : Int) + 1) = (pre.length : Int) + 1 := by rw [IntKind.wrap_i64]; omega
            have hkn : ¬ T'.length ≤ pre.length := by omega
            have E := hide (fun q => (i3.drewN q).step hp (by omega) (by omega))
            clear i3 rd hc hseq3 hI3 HG3
            gi_wp2_with fail
            refine region_quiet_round (F := Fence.wide) rfl (by kernel_rfl) (by kernel_rfl) (by kernel_rfl) ?_
            repeat (gi_big_quiet_step (fail))
            refine wpQuietIn_nil ?_
            intro _ hw'
            obtain ⟨nq, hw''⟩ := hw'
            subst hw''
            gi_wp2_with fail
            obtain ⟨e1', e2', e3'⟩ := unhide E nq
            exact ⟨⟨e1'.size, fun k o h1 h2 h3 => e1'.same k o h1 h2 h3⟩, ⟨e2'.size, fun k o h1 h2 h3 => e2'.same k o h1 h2 h3⟩, e3'⟩
        · have BAD : Hid (¬ pre ++ [y] <+: T') := fun h => hp ((snoc_prefix i3.pf).1 h)
          by_cases hk : T'.length ≤ pre.length
          · as_aux_lemma =>
              have kI : (T'.length : Int) ≤ (pre.length : Int) := by omega
              clear hp i3 rd hseq3 hI3 HG3
              gi_wp2_with fail
              refine region_quiet_round (F := Fence.wide) rfl (by kernel_rfl) (by kernel_rfl) (by kernel_rfl) ?_
              repeat (gi_big_quiet_step (fail))
              refine wpQuietIn_nil ?_
              intro _ hw'
              obtain ⟨nq, hw''⟩ := hw'
              subst hw''
              gi_wp2_with fail
              exact ⟨((show KeepsOthers X (X.drewN nq) from ⟨Nat.le_refl _, fun _ _ h _ => h⟩).trans (KeepsOthers.setCell _ _ _)).from _, rfl, unhide BAD⟩
          · have kI : ¬ (T'.length : Int) ≤ (pre.length : Int) := by omega
            obtain ⟨z, hz⟩ : ∃ z, T'[pre.length]? = some z := ⟨T'[pre.length], by simp⟩
            obtain ⟨g, off, rfl, -, -, -, hc⟩ := rd.at_.resolve_left (fun e => by subst e; simp at hz)
            obtain ⟨z0, z1⟩ := hc _ z hz
            by_cases h1 : z.1 = y.1
            · as_aux_lemma =>
                have h2 : z.2 ≠ y.2 := fun e => hp (by rw [hz]; exact congrArg some (Prod.ext h1 e))
                have e1 : ((z.1 : Int) != (y.1 : Int)) = false := by simp [h1]
                have e2 : ((z.2 : Int) != (y.2 : Int)) = true := by simp; omega
                clear hp i3 rd hc hz h1 h2 hseq3 hI3 HG3
                gi_wp2_with fail
                refine region_quiet_round (F := Fence.wide) rfl (by kernel_rfl) (by kernel_rfl) (by kernel_rfl) ?_
                repeat (gi_big_quiet_step (fail))
                refine wpQuietIn_nil ?_
                intro _ hw'
                obtain ⟨nq, hw''⟩ := hw'
                subst hw''
                gi_wp2_with fail
                exact ⟨((show KeepsOthers X (X.drewN nq) from ⟨Nat.le_refl _, fun _ _ h _ => h⟩).trans (KeepsOthers.setCell _ _ _)).from _, rfl, unhide BAD⟩
            · as_aux_lemma =>
                have e1 : ((z.1 : Int) != (y.1 : Int)) = true := by simp; omega
                clear hp i3 rd hc hz h1 hseq3 hI3 HG3
                gi_wp2_with fail
                refine region_quiet_round (F := Fence.wide) rfl (by kernel_rfl) (by kernel_rfl) (by kernel_rfl) ?_
                repeat (gi_big_quiet_step (fail))
                refine wpQuietIn_nil ?_
                intro _ hw'
                obtain ⟨nq, hw''⟩ := hw'
                subst hw''
                gi_wp2_with fail
                exact ⟨((show KeepsOthers X (X.drewN nq) from ⟨Nat.le_refl _, fun _ _ h _ => h⟩).trans (KeepsOthers.setCell _ _ _)).from _, rfl, unhide BAD⟩
      case stop3 =>
        rintro D2 cd pre X hD2 hpre ⟨-, hbad⟩ hK2
        exact absurd hpre hbad
      case done3 =>
        as_aux_lemma =>
          rintro D2 ys X hD2 hys i3 hK2
          rw [hys] at i3
          obtain ⟨aL, cpL, cL, rd⟩ := (unhide HG3).read i3.kp
          have c1 := (bxKp (unhide HG3).b1 i3.kp (fun e => by omega)).cell
          have ac := i3.ba.cell
          have rc := i3.br.cell
          have rf := i3.br.frozen
          have kc := (bxKp (unhide HG3).bk i3.kp (fun e => by omega)).cell
          have nc := (bxKp (unhide HG3).bn i3.kp (fun e => by omega)).cell
          have oc := (bxKp (unhide HG3).bo i3.kp (fun e => by omega)).cell
          have cap := rd.cap
          have lenJ : ¬ (9223372036854775807 : Int) < (T'.length : Int) := by omega
          have FIN := hide (fun X1 h1 => g3_end (unhide HG3) i3 hK2 hD2 X1 h1)
          have tt : ((T'.length : Int) == (T'.length : Int)) = true := by simp
          have kk : ((pn : Int) == (pn : Int)) = true := by simp
          clear i3 rd hseq3 hI3 HG3
          gi_wp2_with fail
          gi_region
          obtain ⟨f1, f2, f3, f4⟩ := unhide FIN _ (.inr rfl)
          clear FIN cL c1 ac rc rf kc nc oc
          gi_wp2_with fail
          refine ⟨by simp, .inl ⟨_, _, rfl, run_takeDeferred f1, ?_⟩⟩
          refine ⟨by simp, .inl ⟨_, _, rfl, run_takeDeferred f2, ?_⟩⟩
          refine ⟨.bool true, ?_, rfl, by rw [hT']; exact f4⟩
          simp [results, Tryd.f28, go_sem, f3]
end Go.Proofs.YtpkkgmcfificiaaDoor
