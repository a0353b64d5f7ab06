/- list and All: all deadlines, the earliest first. -/
import Derived.Test.YtpkkgmcfificiaaDoorD7M
namespace Go.Proofs.YtpkkgmcfificiaaDoor
open Go.RowKit Go.Shelf Go.Maps
set_option linter.unusedVariables false
set_option maxHeartbeats 1000000
set_option maxRecDepth 100000
attribute [local go_sem] Oper.semAt_some

def hdq (S : List Nd) : Option Addr := match S with | [] => none | m :: _ => some ⟨m.g, 0, none⟩
theorem hdp_q (S : List Nd) : hdp nilp S = .pointer (hdq S) := by cases S <;> rfl

theorem list_any (W mb c : Nat) (L : List Nd) (w : World) (h : WI w W mb c L) (ht : Tb w) :
    Calls Tryd.prog 46 #[ptr W] w fun e W' => ∃ v, e = .returned v ∧ W'.ownsRow w.heap.size 73 2 v L.length ((L.map tm).flatMap tcl) ∧ Below w.heap.size w W' := by
  obtain ⟨fl, sl, sw⟩ := h.sw
  have hW := sw.wb.W_lt
  have hL := h.len
  obtain ⟨D, m1, m2, -, -⟩ := h.mp.ex
  have fl4 : ∀ x : SlIn sl, (L.filter (fun n => decide (pl c n.at_ = x.1))).length ≤ 4096 := fun x => Nat.le_trans (List.length_filter_le _ _) hL
  refine (list_core (α := SlIn sl) W mb L.length hL (fun x => hdq (sl x.1.1 x.1.2)) (fun x => L.filter (fun n => decide (pl c n.at_ = x.1))) Whole Upto w hW ht.lt sw.wb.map ?_ ?_ ?_ ?_ fl4).mono ?_
  · intro F nn ops rest o a Q hg m hop hm hK
    refine wpListIn_len_own (H := Nat) w hg m 50 hop 3 52 Tryd.underlying50 nodeE mb _ D hm m1 ?_
    rw [m2]; exact hK
  · intro X Bw hBw hX
    have e : (fun x : SlIn sl => #[Value.pointer (hdq (sl x.1.1 x.1.2))]) = encP (sl := sl) := funext fun x => by unfold encP; rw [hdp_q]
    rw [e]
    exact slots2_stops 5 (by decide) Bw W mb c fl sl X hBw (sw.wb.kept (hX.block W hW)) (ht.kept (hX.block 0 ht.lt))
  · intro x X hX
    have seg := sw.seg x.1.1 x.1.2 x.2.1 x.2.2.1
    have pm := sw.mem x.1.1 x.1.2 x.2.1 x.2.2.1
    have nd : ((sl x.1.1 x.1.2).map Nd.g).Nodup := (pm.map Nd.g).nodup_iff.2 (List.Nodup.sublist ((List.filter_sublist).map Nd.g) sw.gs)
    have ln : (sl x.1.1 x.1.2).length = (L.filter (fun n => decide (pl c n.at_ = x.1))).length := pm.length_eq
    have io := inOrder_any (sl x.1.1 x.1.2) x.2.2.2 nd (by have := fl4 x; omega) X (seg.kept (fun n hn => hX.block n.g (by obtain ⟨b, f, hb⟩ := seg.node n hn; exact hb.lt)))
    rw [hdp_q] at io
    refine io.mono ?_
    rintro e W' ⟨a, cc, P, rfl, pp, ps, prow, pg⟩
    have eP : P = L.filter (fun n => decide (pl c n.at_ = x.1)) := sorted_eq _ _ (pp.trans pm) ps (h.srt.filter _)
    subst eP
    rw [ln] at *
    exact ⟨a, cc, rfl, prow, pg⟩
  · intro x m hm
    obtain ⟨b, f, hb⟩ := sw.node (List.mem_filter.1 hm).1
    exact ⟨hb.cell 0 _ rfl, hb.cell 1 _ rfl⟩
  · rintro e W' ⟨v, ys, hys, rfl, ro, hb⟩
    have e1 := whole_all sw h.srt ys hys
    unfold inSl at e1
    rw [e1] at ro
    refine ⟨v, rfl, ?_, hb⟩
    rw [List.flatMap_map]
    exact ro

/-- A row of deadlines, read. -/
theorem rdT_row {w : World} {base : Nat} {e : TypeId} {lv : Value} {T : List Tm} (h : w.ownsRow base e 2 lv T.length (T.flatMap tcl)) (h0 : 0 < base) : ∃ a cp, lv = .slice a T.length cp ∧ RdT w (fun g => base ≤ g) 0 a cp T := by
  have hl := h.lt
  rcases h.2 with ⟨rfl, e2⟩ | ⟨g, cap, cur, rfl, q1, q2, q3, q4, q5, q6⟩
  · have : T = [] := List.eq_nil_of_length_eq_zero e2
    subst this
    exact ⟨none, 0, rfl, ⟨by simp, by omega⟩, .inl rfl⟩
  · have hg := hl g rfl
    refine ⟨_, _, rfl, ⟨by omega, by unfold maxLen at q4; omega⟩, .inr ⟨g, 0, rfl, by omega, q1, hg.2, fun i p hp => ?_⟩⟩
    have hi : i < T.length := (List.getElem?_eq_some_iff.1 hp).1
    have c : ∀ j, j < 2 → w.cell? ⟨g, 0 + i * 2 + j, none⟩ = (tcl p)[j]? := fun j hj => by
      simp only [World.cell?, q2, Nat.zero_add]
      have e : (cur.toList.take (T.length * 2))[i * 2 + j]? = (T.flatMap tcl)[i * 2 + j]? := by rw [q6]
      rw [List.getElem?_take, if_pos (by omega), Array.getElem?_toList] at e
      rw [e]
      exact flat_two T i p hp j hj
    exact ⟨c 0 (by omega), c 1 (by omega)⟩
theorem RdT.kc {w w' : World} {n R : Nat} {a : Option Addr} {cp : Nat} {T : List Tm} (h : RdT w (fun g => n ≤ g) R a cp T) (k : KC n w w') : RdT w' (fun g => n ≤ g) R a cp T := by
  refine ⟨h.cap, ?_⟩
  rcases h.at_ with h1 | ⟨g, off, e, hn, hq, hl, hc⟩
  · exact .inl h1
  · cases T with
    | nil => exact .inl rfl
    | cons p t =>
      obtain ⟨o, ho, hoc⟩ := cells_of_cell (hc 0 p rfl).1
      have kk : w'.heap[g]? = w.heap[g]? := (k.same g o hq ho hoc).trans ho.symm
      have cc : ∀ o, w'.cell? ⟨g, o, none⟩ = w.cell? ⟨g, o, none⟩ := fun o => by simp only [World.cell?, kk]
      exact .inr ⟨g, off, e, hn, hq, Nat.lt_of_lt_of_le hl k.size, fun i p hp => ⟨(cc _).trans (hc i p hp).1, (cc _).trans (hc i p hp).2⟩⟩

theorem wl_list (B : Nat) (w : World) (S : Nat → Prop) (W c : Nat) (T : List Tm) (h : Wl B w S W c T) (ht : Tb w) :
    Calls Tryd.prog 46 #[ptr W] w fun e w' => ∃ a cp, e = .returned (.slice a T.length cp) ∧ RdT w' (fun g => w.heap.size ≤ g) 0 a cp T ∧ w.grownBy w' none := by
  obtain ⟨mb, L, h1, h2, h3⟩ := h.ex
  refine (list_any W mb c L w h1 ht).mono ?_
  rintro e w' ⟨v, rfl, ro, hb⟩
  have e1 : L.length = T.length := by rw [← h2, List.length_map]
  rw [h2, e1] at ro
  obtain ⟨a, cp, rfl, rd⟩ := rdT_row ro ht.lt
  exact ⟨a, cp, rfl, rd, below_grown hb⟩

theorem all_any (W : Nat) (w : World) :
    Calls Tryd.prog 37 #[ptr W] w fun e w' => e = .returned (.func (.func 45) #[] #[.pointer (some ⟨w.heap.size, 0, none⟩)]) ∧ w' = w.alloc (.cells #[ptr W] 24) := by
  go_enter Tryd.func37, Tryd.ntmps37
  go_wp2
  go_ret
  exact ⟨rfl, rfl⟩

abbrev encT (x : Tm) : Array Value := #[.int .i64 (x.1 : Int), .int .i64 (x.2 : Int)]

theorem all1_in (n : Nat) (hn : 1 ≤ n) (l Bw n₀ B : Nat) (S : Nat → Prop) (W c : Nat) (T : List Tm) (J Jx : List Tm → World → Prop)
    (hY : ∀ pre x X, J pre X → pre.length < 4097 → YieldAt Fence.wide (n - 1) Tryd.prog l (encT x) X fun e X' =>
      (e = .returned (.bool true) ∧ J (pre ++ [x]) X' ∧ KC n₀ X X') ∨ (e = .returned (.bool false) ∧ Jx (pre ++ [x]) X'))
    (hJ : ∀ pre X X', J pre X → X.grownBy X' none → J pre X')
    (w : World) (hBw : w.cell? ⟨Bw, 0, none⟩ = some (ptr W)) (wl : Wl B w S W c T) (ht : Tb w) (hn0 : n₀ ≤ w.heap.size) (h0 : J [] w) :
    CallsIn Fence.wide n Tryd.prog 45 #[.func (.yield l) #[] #[], .pointer (some ⟨Bw, 0, none⟩)] w fun e W' => (∃ v, e = .returned v) ∧
      ((∃ ys, ys = T ∧ J ys W') ∨ (∃ pre, pre <+: T ∧ Jx pre W')) := by
  have li := wl_list B w S W c T wl ht
  have tl := wl.in_.2.2
  have HY := hide hY; have H0 := hide h0; have HJ := hide hJ
  clear hY h0 hJ wl ht
  refine callsIn_of_wp Tryd.func45 rfl trivial ?_ rfl
  simp only [Tryd.ntmps45, List.size_toArray, List.length_cons, List.length_nil, Nat.reduceAdd, Nat.reduceSub, Array.replicate_succ, Array.replicate_zero, List.push_toArray, List.append_toArray, List.nil_append, List.cons_append]
  gi_wp2_with fail
  refine ⟨trivial, ?_⟩
  refine (callsIn_wide.2 li).mono ?_
  rintro e w1 ⟨a, cp, rfl, rd, g1⟩
  have rd0 : RdT w1 (fun g => n₀ ≤ g) 0 a cp T := ⟨rd.cap, rd.at_.imp id (fun ⟨g, off, e, hn, hq, hl, hc⟩ => ⟨g, off, e, hn, Nat.le_trans hn0 hq, hl, hc⟩)⟩
  have ST := hide (And.intro (unhide HJ [] w w1 (unhide H0) g1) rd0)
  have cap := rd.cap
  have lenI : ¬ (9223372036854775807 : Int) < (T.length : Int) := by omega
  clear li rd rd0 g1 H0
  gi_wp2_with fail
  gi_loopw [8] (fun iv wr => ∃ k : Nat, k ≤ T.length ∧ iv = .int .i64 k ∧ Hid (J (T.take k) wr ∧ RdT wr (fun g => n₀ ≤ g) 0 a cp T)) (fun iv _ => T.length - (intOf iv).toNat)
  case atStart => exact ⟨0, Nat.zero_le _, rfl, unhide ST⟩
  case round =>
    obtain ⟨k, hk, rfl, H⟩ := hrel
    clear ST
    by_cases hlt : k < T.length
    · have kI : (k : Int) < (T.length : Int) := by omega
      obtain ⟨p, hp⟩ : ∃ p, T[k]? = some p := ⟨T[k], by simp⟩
      obtain ⟨hj, rd⟩ := unhide H
      obtain ⟨g, off, rfl, hgn, hgq, hgl, hc⟩ := rd.at_.resolve_left (fun e => by subst e; simp at hlt)
      obtain ⟨c0, c1⟩ := hc k p hp
      have b := Blk.new wr #[.int .i64 (p.1 : Int), .int .i64 (p.2 : Int)] 73
      have gA := World.grownBy_alloc wr (.cells #[.int .i64 (p.1 : Int), .int .i64 (p.2 : Int)] 73) none
      have b0 := b.cell 0 _ rfl
      have b1 := b.cell 1 _ rfl
      have kA : KC n₀ wr (wr.alloc (.cells #[.int .i64 (p.1 : Int), .int .i64 (p.2 : Int)] 73)) := ⟨gA.size, fun x o _ h1 _ => (gA.block x (Array.getElem?_eq_some_iff.1 h1).1 (by simp)).trans h1⟩
      obtain ⟨fn, tmps, assign, body, hy, hRR⟩ := (unhide HY) (T.take k) p _ (unhide HJ _ _ _ hj gA) (by rw [List.length_take]; omega)
      have HRR := hide hRR
      have HR := hide (rd.kc kA)
      have tk : T.take k ++ [p] = T.take (k + 1) := by rw [List.take_add_one, hp]; rfl
      clear hRR H hj rd hc b gA kA hgn hgq hgl
      gi_wp2_with fail
      refine (unhide HRR).mono ?_
      rintro e W3 (⟨rfl, hJ3, hk3⟩ | ⟨rfl, hJx3⟩)
      · rw [tk] at hJ3
        have HK := hide (And.intro hJ3 ((unhide HR).kc hk3))
        clear hJ3 hk3 HRR HR hy
        gi_wp2_with fail
        go_roundw
        case rel => exact ⟨k + 1, hlt, by go_num, unhide HK⟩
        case measure => simp [intOf]; omega
      · rw [tk] at hJx3
        have HK := hide hJx3
        clear hJx3 HRR HR hy
        gi_wp2_with fail
        refine bodyPost_ret (results_none rfl _ _ _) rfl ?_
        exact ⟨⟨_, rfl⟩, .inr ⟨_, List.take_prefix _ _, unhide HK⟩⟩
    · obtain rfl : k = T.length := by omega
      have kI : ¬ (T.length : Int) < (T.length : Int) := by omega
      obtain ⟨hj, -⟩ := unhide H
      rw [List.take_length] at hj
      have E := hide hj
      clear hj H
      gi_wp2_with fail
      go_end0
      exact ⟨⟨_, rfl⟩, .inl (unhide E)⟩

theorem all_stops (n : Nat) (hn : 1 ≤ n) (Bw n₀ B : Nat) (S : Nat → Prop) (W c : Nat) (T : List Tm) (w : World) (hBw : w.cell? ⟨Bw, 0, none⟩ = some (ptr W)) (wl : Wl B w S W c T) (ht : Tb w) (hn0 : n₀ ≤ w.heap.size) :
    SeqStopsK Fence.wide n Tryd.prog 45 #[.pointer (some ⟨Bw, 0, none⟩)] encT (KC n₀) (fun ys => ys = T) (fun pre => pre <+: T) 4097 w := fun l J Jx X hX hJ _ hY hJ0 =>
  all1_in n hn l Bw n₀ B S W c T J Jx hY (fun pre X X' h g => hJ pre X X' none h g (fun r e => by cases e)) X ((hX.cell (p := ⟨Bw, 0, none⟩) (World.block_lt_of_cell? w _ hBw)).trans hBw) (wl.grown (below_grown hX)) (ht.kept (hX.block 0 ht.lt)) (Nat.le_trans hn0 hX.size) hJ0
end Go.Proofs.YtpkkgmcfificiaaDoor
