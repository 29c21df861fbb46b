import PyProof.Rows.All
import Wide.All
import OpenK.AllK
import Wide.FinOn
import HandS.ForMost
import HandS.Wide
import HandS.Evl
import HandS.IsInst
import HandS.Zip
import HandS.Exc
import HandS.ExcInit
import HandS.Defaults
import HandS.ExcIs
import KE.KExcInit
import KE.KExcIs
import KE.KExcLine
import PySem.Challenge.RW_ownchute_k01_errors_by_themselves
set_option Elab.async false
set_option maxRecDepth 100000
set_option maxHeartbeats 4000000
set_option linter.unusedVariables false
namespace Own
open PySem L2
def top (i : Nat) : Stmt := PySem.Challenge.pw_ownchute_k01_errors_by_themselves.main.body.getD i (.Pass ⟨0, 0, 0, 0⟩)
abbrev sBag : Stmt := top 26
abbrev sDraw : Stmt := top 27
abbrev sOf : Stmt := top 28
abbrev sSame : Stmt := top 29
/-! what stood stands, but at p -/
def But (p : Addr) (H H' : Hp) : Prop := ∀ b o, b ≠ p → H b = some o → H' b = some o
theorem But.refl (p : Addr) (H : Hp) : But p H H := fun _ _ _ e => e
theorem But.trans {p : Addr} {H H1 H2 : Hp} (a : But p H H1) (b : But p H1 H2) : But p H H2 := fun c o n e => b c o n (a c o n e)
theorem But.of {p : Addr} {H H' : Hp} (a : Same H H') : But p H H' := fun c o _ e => a c o e
theorem But.upd {p : Addr} {H H' : Hp} {o : HO} (a : But p H H') : But p H (upd H' p o) := fun c u n e => by
  rw [upd_ne n]; exact a c u n e
theorem _root_.L2.Same.new {H H' : Hp} {p : Addr} {o : HO} (a : Same H H') (h : H' p = none) : Same H (upd H' p o) := fun c u e => by
  rw [upd_ne (ne_of_none (a c u e) h)]; exact a c u e
theorem _root_.L2.Same.own {H H' : Hp} {p : Addr} {o : HO} (a : Same H H') (h : H p = none) : Same H (upd H' p o) := fun c u e => by
  rw [upd_ne (ne_of_none e h)]; exact a c u e
/-- a bag of draws stands at p -/
def Bag (H : Hp) (p : Addr) : Prop := ∃ (c : Addr) (cs : List Int) (i d m : Int), H p = some (.lst [.ref c, .int i, .int d, .int m]) ∧ H c = some (.lst (cs.map V.int)) ∧ 0 ≤ i ∧ cs.length ≤ 63
theorem Bag.but {H H' : Hp} {p : Addr} (b : Bag H p) (e : But p H H') (hp : H' p = H p) : Bag H' p := by
  obtain ⟨c, cs, i, d, m, h1, h2, h3⟩ := b
  exact ⟨c, cs, i, d, m, hp.trans h1, e c _ (fun q => by rw [q, h1] at h2; cases cs with | nil => cases h2 | cons x xs => cases h2) h2, h3⟩
theorem Bag.same {H H' : Hp} {p : Addr} (b : Bag H p) (e : Same H H') : Bag H' p := by
  obtain ⟨c, cs, i, d, m, h1, h2, h3⟩ := b
  exact ⟨c, cs, i, d, m, e _ _ h1, e _ _ h2, h3⟩
def spBag (K : PySem.W.Frag) : Sp := fun vs H Q _ => ∃ (a : Addr) (ns : List Int), vs = [.ref a] ∧ SqL K H a (ns.map V.int) ∧ ns.length ≤ 63 ∧ ∀ H' p, Same H H' → H p = none → Bag H' p → Q (.ref p) H'
def spDraw : Sp := fun vs H Q _ => ∃ (p : Addr) (n : Int), vs = [.ref p, .int n] ∧ Bag H p ∧ 0 < n ∧ n.natAbs < 2 ^ 200 ∧ ∀ H' r, But p H H' → Bag H' p → 0 ≤ r → r < n → Q (.int r) H'
def spOf (K : PySem.W.Frag) : Sp := fun vs H Q _ => ∃ (p l : Addr) (xs : List V), vs = [.ref p, .ref l] ∧ Bag H p ∧ SqL K H l xs ∧ l ≠ p ∧ xs ≠ [] ∧ xs.length ≤ 1000 ∧ ∀ H' x, But p H H' → Bag H' p → x ∈ xs → Q x H'
theorem ints_get {ns : List Int} {i : Nat} {y : V} (hi : (ns.map V.int)[i]? = some y) : ∃ u, ns[i]? = some u ∧ y = V.int u := by
  rw [List.getElem?_map] at hi
  cases e : ns[i]? with
  | none => rw [e] at hi; cases hi
  | some u => rw [e] at hi; exact ⟨u, rfl, (Option.some.inj hi).symm⟩
theorem cut_ints (ns : List Int) (lo hi : Option Int) (h : ns.length ≤ 63) : ∃ cs : List Int, cutV (ns.map V.int) lo hi = cs.map V.int ∧ cs.length ≤ 63 := by
  unfold cutV
  rw [← List.map_drop, ← List.map_take]
  refine ⟨_, rfl, ?_⟩
  rw [List.length_take, List.length_drop]
  omega
section
variable {P : Program} {w : World} {K : PySem.W.Frag} {mg : Str → Option Value} {base : Heap}
theorem scBag : FnScope ["_law_script", "_law_cells", "_law_mark", "_law_cell"] ["_law_script"] (defScope sBag) := ⟨rfl, rfl, rfl, by decide +kernel, rfl, by decide +kernel, by decide +kernel⟩
theorem ok_bag {f : Addr} {fd : FuncData} (F : Fun K "_law_bag" "_law_bag" sBag f fd) (tLen : mg "len" = none) (tInt : mg "int" = none) : FnOk P w K mg base CX0 1 f fd ["_law_script"] (spBag K) := by
  refine F.ok scBag (fun vs H Q E h => ?_) (fun cdv A outer s H vs Q E hr h => ?_)
  · obtain ⟨a, ns, rfl, _⟩ := h
    rfl
  · obtain ⟨a, ns, rfl, hS, hlen, k⟩ := h
    refine ⟨_, pss_cons (ps_setLc (i := 1) (own := [("_law_cell", 3)]) (g := gName 3) (tt := tYes) rfl scBag.nd rfl rfl (sw_true rfl rfl rfl (by decide +kernel)) (pi_list (pe_slice sl_list (pv 0) po_none (po_some pe_int))) (blkOk_by (N := ["_law_script", "_law_cells", "_law_mark", "_law_cell"]) (sc := defScope sBag) (by decide +kernel)) (fun _ _ _ _ _ => pg_name (i := 3) scBag.nd rfl (Or.inl rfl)) (fun _ _ _ _ _ => pts_nil) (fun _ _ _ _ _ => pe_callTy call_int1 (by rfl) tInt (by decide +kernel) (pa_cons (pv 3) pa_nil)))
      (pss_cons (ps_set (i := 2) scBag.nd rfl (Or.inl rfl) (pe_op op_add pe_int (pe_op op_mul pe_int (pe_callB call_len_seq (by rfl) tLen PySem.boot_len (pa_cons (pv 1) pa_nil)))))
      (pss_cons (ps_for PassesOwn.never rfl (pi_list (pv 1)) (pg_name (i := 3) scBag.nd rfl (Or.inl rfl))
        (pss_one (ps_set (i := 2) scBag.nd rfl (Or.inl rfl) (pe_op op_mod (pe_callTy call_int1 (by rfl) tInt (by decide +kernel) (pa_cons (pe_op op_add (pe_op op_mul (pv 2) pe_int) (pv 3)) pa_nil)) pe_int))))
      (pss_one (ps_ret (pe_lst (pa_cons (pv 1) (pa_cons pe_int (pa_cons pe_int (pa_cons (pv 2) pa_nil))))))))), ?_⟩
    refine ⟨_, rfl, 63, rfl, a, _, rfl, hS, fun p hp => ?_⟩
    obtain ⟨cs, ecs, hcs⟩ := cut_ints ns none (some 63) hlen
    rw [ecs]
    have s1 : Same H (upd H p (.lst (cs.map V.int))) := (Same.refl H).new hp
    refine ⟨_, rfl, ⟨_, SqL.of upd_same⟩, fun D hD => lc_list (K := K) (a := p) (xs := cs.map V.int) (fun i H' => Same (upd H p (.lst (cs.map V.int))) H' ∧ H' D = some (.lst ((cs.map V.int).take i))) ⟨(Same.refl _).new hD, upd_same⟩ (fun i H' _ q => .inl (.inl (q.1 _ _ upd_same))) ?_ ?_⟩
    · intro i y H' hi q
      obtain ⟨u, hu, rfl⟩ := ints_get hi
      have hl : i < 63 := by
        have := (List.getElem?_eq_some_iff.mp hu).1
        omega
      refine ⟨rfl, ⟨_, rfl, .inl ⟨_, rfl, _, q.2, ?_, q.1.own hD, ?_⟩⟩⟩
      · rw [List.length_take]
        exact Nat.lt_of_le_of_lt (Nat.min_le_left _ _) (Nat.lt_trans hl (by decide))
      · rw [upd_same, List.take_add_one, hi]
        rfl
    · intro H1 q
      obtain ⟨q1, q2⟩ := q
      rw [List.take_length] at q2
      have s2 : Same H H1 := s1.trans q1
      have nD : H D = none := s1.free hD
      refine ⟨_, rfl, D, _, rfl, .inl (SqL.of q2), _, _, rfl, rfl, .inl ⟨by decide, by decide⟩, _, _, rfl, rfl, ?_⟩
      refine ⟨_, rfl, D, rfl, ⟨_, SqL.of q2⟩, for_list (K := K) (a := D) (xs := cs.map V.int) (fun i σ H' => ∃ (m : Int) (v : Option V), σ = [some (.ref a), some (.ref D), some (.int m), v] ∧ H' = H1) ⟨_, _, rfl, rfl⟩ ?_ ?_ ?_⟩
      · rintro i σ H' _ ⟨m, v, rfl, rfl⟩
        exact SqL.of q2
      · rintro i y σ H' hi ⟨m, v, rfl, rfl⟩
        obtain ⟨u, hu, rfl⟩ := ints_get hi
        exact ⟨_, rfl, _, _, rfl, rfl, .inr ⟨by decide, by decide⟩, _, rfl, _, _, rfl, rfl, .inl ⟨_, rfl, _, _, rfl, rfl, by show (0 : Int) < 2147483477; decide, _, _, rfl, rfl⟩⟩
      · rintro σ H' ⟨m, v, rfl, rfl⟩
        refine ⟨_, rfl, _, rfl, by show 4 ≤ sizeLine; decide, fun l hl => ?_⟩
        have nDl : D ≠ l := ne_of_none q2 hl
        exact k _ l (s2.new hl) (s2.free hl) ⟨D, cs, 0, 0, m, upd_same, by rw [upd_ne nDl]; exact q2, by decide, hcs⟩
theorem scDraw : FnScope ["_law_bag_here", "_law_many", "_law_cell", "_law_first", "_law_second", "_law_digit"] ["_law_bag_here", "_law_many"] (defScope sDraw) := ⟨rfl, rfl, rfl, by decide +kernel, rfl, by decide +kernel, by decide +kernel⟩
theorem atI_nat' {xs : List V} {i : Int} {j : Nat} {v : V} (e : i = (j : Int)) (h : xs[j]? = some v) : atI xs i = some v := at_of e h
theorem ok_draw {f : Addr} {fd : FuncData} (F : Fun K "_law_draw" "_law_draw" sDraw f fd) (tLen : mg "len" = none) (tInt : mg "int" = none) : FnOk P w K mg base CX0 1 f fd ["_law_bag_here", "_law_many"] spDraw := by
  refine F.ok scDraw (fun vs H Q E h => ?_) (fun cdv A outer s H vs Q E hr h => ?_)
  · obtain ⟨p, n, rfl, _⟩ := h
    rfl
  · obtain ⟨p, n, rfl, ⟨c, cs, i, d, m, hp, hc, hi, hcs⟩, hn, hn2, k⟩ := h
    have nd := scDraw.nd
    refine ⟨_, Evl.pss_cut (ps_if (pt_cmpR op_lt (pe_ix ix_list (pv 0) pe_int (fun _ _ => rfl)) pe_int (nomark _))
        (pss_cons (ps_asg (pe_op op_add (pe_ix ix_list (pv 0) pe_int (fun _ _ => rfl)) pe_int) (pg_sub (pv 0) pe_int set_list))
        (pss_cons (ps_set (i := 2) nd rfl (Or.inl rfl) (pe_op op_add (pe_ix ix_list (pv 0) pe_int (fun _ _ => rfl)) (pe_op op_mul (pe_ix ix_list (pv 0) pe_int (fun _ _ => rfl)) pe_int)))
        (Evl.pss_cut (ps_if (pt_cmpR op_le (pe_ix ix_list (pv 0) pe_int (fun _ _ => rfl)) (pe_callB call_len_seq (by rfl) tLen PySem.boot_len (pa_cons (pe_ix ix_list (pv 0) pe_int (fun _ _ => rfl)) pa_nil)) (nomark _))
          (pss_one (ps_set (i := 2) nd rfl (Or.inl rfl) (pe_ix ix_list (pe_ix ix_list (pv 0) pe_int (fun _ _ => rfl)) (pe_op op_sub (pe_ix ix_list (pv 0) pe_int (fun _ _ => rfl)) pe_int) (fun _ _ => rfl)))) pss_nil)
        (pss_cons (ps_if (PW.pt (pw_or (pt_cmpR op_gt (pe_ix ix_list (pv 0) pe_int (fun _ _ => rfl)) (pe_callB call_len_seq (by rfl) tLen PySem.boot_len (pa_cons (pe_ix ix_list (pv 0) pe_int (fun _ _ => rfl)) pa_nil)) (nomark _)) (pw_or1 (pt_cmpR op_lt (pv 2) (pe_op op_pow pe_int pe_int) (nomark _)))))
          (pss_cons (ps_set (i := 3) nd rfl (Or.inl rfl) (pe_op op_mod (pe_callTy call_int1 (by rfl) tInt (by decide +kernel) (pa_cons (pe_op op_add (pe_op op_add (pe_op op_mul (pv 2) pe_int) (pe_op op_mul (pe_ix ix_list (pv 0) pe_int (fun _ _ => rfl)) pe_int)) (pe_ix ix_list (pv 0) pe_int (fun _ _ => rfl))) pa_nil)) pe_int))
          (pss_cons (ps_set (i := 4) nd rfl (Or.inl rfl) (pe_op op_mod (pe_callTy call_int1 (by rfl) tInt (by decide +kernel) (pa_cons (pe_op op_add (pe_op op_mul (pv 3) (pv 3)) (pe_op op_mul (pe_ix ix_list (pv 0) pe_int (fun _ _ => rfl)) pe_int)) pa_nil)) pe_int))
          (pss_one (ps_ret (pe_op op_mod (pe_op op_fdiv (pe_op op_mod (pe_callTy call_int1 (by rfl) tInt (by decide +kernel) (pa_cons (pe_op op_add (pe_op op_mul (pv 4) pe_int) (pv 3)) pa_nil)) pe_int) pe_int) (pv 1)))))) pss_nil)
        (pss_one (ps_asg (pv 2) (pg_sub (pv 0) pe_int set_list))))))) pss_nil)
      (pss_cons (ps_set (i := 5) nd rfl (Or.inl rfl) (pe_op op_mod (pe_callTy call_int1 (by rfl) tInt (by decide +kernel) (pa_cons (pe_ix ix_list (pv 0) pe_int (fun _ _ => rfl)) pa_nil)) (pv 1)))
      (pss_cons (ps_asg (pe_op op_fdivW (pe_callTy call_int1 (by rfl) tInt (by decide +kernel) (pa_cons (pe_ix ix_list (pv 0) pe_int (fun _ _ => rfl)) pa_nil)) (pv 1)) (pg_sub (pv 0) pe_int set_list))
      (pss_one (ps_ret (pv 5))))), ?_⟩
    have ncp : c ≠ p := ne_of hc hp (fun z => by cases cs with | nil => cases z | cons x xs => cases z)
    have e18 : (10 : Int) ^ (18 : Int).toNat = 1000000000000000000 := by decide
    refine ⟨fun σ' H' => ∃ (x y z : Option V) (i' d' : Int), σ' = [some (.ref p), some (.int n), x, y, z, none] ∧ But p H H' ∧ H' p = some (.lst [.ref c, .int i', .int d', .int m]) ∧ 0 ≤ i', ?_, ?_⟩
    · refine ⟨_, rfl, p, _, _, _, rfl, rfl, SqL.of hp, rfl, _, _, rfl, rfl, _, rfl, ite2 (fun _ => ?_) (fun _ => ?_)⟩
      · refine ⟨_, rfl, p, _, _, _, rfl, rfl, SqL.of hp, rfl, _, _, rfl, rfl, _, rfl, p, _, _, 1, rfl, rfl, hp, rfl, ?_⟩
        have b1 : But p H (upd H p (.lst [.ref c, .int (i + 1), .int d, .int m])) := (But.refl p H).upd
        generalize hH : upd H p (.lst [.ref c, .int (i + 1), .int d, .int m]) = H1 at b1
        have hp1 : H1 p = some (.lst [.ref c, .int (i + 1), .int d, .int m]) := by rw [← hH]; exact upd_same
        have hc1 : H1 c = some (.lst (cs.map V.int)) := b1 c _ ncp hc
        show tSeq _ _ _ _ (upd H p (.lst [.ref c, .int (i + 1), .int d, .int m]))
        rw [hH]
        refine ⟨_, rfl, p, _, _, _, rfl, rfl, SqL.of hp1, rfl, _, rfl, p, _, _, _, rfl, rfl, SqL.of hp1, rfl, _, _, rfl, rfl, .inr ⟨by decide, by decide⟩, _, _, rfl, rfl, ?_⟩
        refine ⟨fun σ' H' => ∃ (x : Int), σ' = [some (.ref p), some (.int n), some (.int x), none, none, none] ∧ H' = H1, ?_, ?_⟩
        · refine ⟨_, rfl, p, _, _, _, rfl, rfl, SqL.of hp1, rfl, _, rfl, p, _, _, _, rfl, rfl, SqL.of hp1, rfl, c, _, rfl, .inl (SqL.of hc1), _, _, rfl, rfl, _, rfl, ite2 (fun hle => ?_) (fun _ => ⟨_, rfl, rfl⟩)⟩
          have hle := of_decide_eq_true hle
          rw [List.length_map] at hle
          have hlt : i.toNat < cs.length := by omega
          refine ⟨_, rfl, p, _, _, _, rfl, rfl, SqL.of hp1, rfl, _, rfl, p, _, _, _, rfl, rfl, SqL.of hp1, rfl, _, _, rfl, rfl, c, _, _, .int cs[i.toNat], rfl, rfl, SqL.of hc1, atI_nat' (j := i.toNat) (by omega) (by rw [List.getElem?_map, List.getElem?_eq_getElem hlt]; rfl), ?_⟩
          exact ⟨_, rfl, rfl⟩
        · rintro σ' H' ⟨x, rfl, rfl⟩
          refine ⟨_, rfl, p, _, _, _, rfl, rfl, SqL.of hp1, rfl, _, rfl, p, _, _, _, rfl, rfl, SqL.of hp1, rfl, c, _, rfl, .inl (SqL.of hc1), _, _, rfl, rfl, _, rfl, ite2 (fun _ => iteT ?_) (fun _ => ⟨_, rfl, _, _, rfl, rfl, ⟨by decide, by decide, by decide⟩, _, _, rfl, rfl, _, rfl, ite2 (fun _ => ?_) (fun _ => ?_)⟩)⟩
          iterate 2
            refine ⟨_, rfl, _, _, rfl, rfl, .inr ⟨by decide, by decide⟩, _, rfl, p, _, _, _, rfl, rfl, SqL.of hp1, rfl, _, _, rfl, rfl, .inr ⟨by decide, by decide⟩, _, _, rfl, rfl, _, rfl, p, _, _, _, rfl, rfl, SqL.of hp1, rfl, _, _, rfl, rfl, .inl ⟨_, rfl, _, _, rfl, rfl, by show (0 : Int) < 2147483629; decide, ?_⟩⟩
            generalize x * 42061 + (i + 1) * 37021 + m = y
            have y0 := Int.emod_nonneg y (show (2147483629 : Int) ≠ 0 by decide)
            have y1 := Int.emod_lt_of_pos y (show (0 : Int) < 2147483629 by decide)
            refine ⟨_, rfl, _, rfl, _, _, rfl, rfl, .inl ⟨by omega, by omega⟩, _, rfl, p, _, _, _, rfl, rfl, SqL.of hp1, rfl, _, _, rfl, rfl, .inr ⟨by decide, by decide⟩, _, _, rfl, rfl, .inl ⟨_, rfl, _, _, rfl, rfl, by show (0 : Int) < 998244353; decide, ?_⟩⟩
            refine ⟨_, rfl, _, _, rfl, rfl, .inr ⟨by decide, by decide⟩, _, rfl, _, _, rfl, rfl, .inl ⟨_, rfl, _, _, rfl, rfl, by show (0 : Int) < 2147483587; decide, _, _, rfl, rfl, ⟨by decide, by decide⟩, _, rfl, _, _, rfl, rfl, hn, ?_⟩⟩
            exact k _ _ b1 ⟨c, cs, _, _, _, hp1, hc1, by omega, hcs⟩ (Int.emod_nonneg _ (by omega)) (Int.emod_lt_of_pos _ hn)
          exact ⟨_, rfl, _, rfl, p, _, _, 2, rfl, rfl, hp1, rfl, _, _, _, i + 1, x, rfl, b1.upd, upd_same, by omega⟩
      · exact ⟨none, none, none, i, d, rfl, But.refl p H, hp, hi⟩
    · rintro σ' H' ⟨x, y, z, i', d', rfl, b1, hp1, hi1⟩
      refine ⟨_, rfl, p, _, _, _, rfl, rfl, SqL.of hp1, rfl, .inl ⟨_, rfl, _, rfl, _, _, rfl, rfl, hn, ?_⟩⟩
      refine ⟨_, rfl, p, _, _, _, rfl, rfl, SqL.of hp1, rfl, .inl ⟨_, rfl, _, rfl, _, _, rfl, rfl, wide_div hn hn2 (by decide) (by decide), _, rfl, p, _, _, 2, rfl, rfl, hp1, rfl, ?_⟩⟩
      exact ⟨_, rfl, k _ _ b1.upd ⟨c, cs, i', _, m, upd_same, by rw [upd_ne ncp]; exact b1 c _ ncp hc, hi1, hcs⟩ (Int.emod_nonneg _ (by omega)) (Int.emod_lt_of_pos _ hn)⟩
theorem but_seq {K : PySem.W.Frag} {H H' : Hp} {p a : Addr} {xs : List V} (e : But p H H') (n : a ≠ p) (h : SqL K H a xs) : SqL K H' a xs := by
  rcases h with (h | ⟨o, h⟩) | h
  · exact .inl (.inl (e _ _ n h))
  · exact .inl (.inr ⟨o, e _ _ n h⟩)
  · exact .inr h
theorem scOf : FnScope ["_law_bag_here", "_law_some"] ["_law_bag_here", "_law_some"] (defScope sOf) := ⟨rfl, rfl, rfl, by decide +kernel, rfl, by decide +kernel, by decide +kernel⟩
theorem ok_of {f fD : Addr} {fd fdD : FuncData} (F : Fun K "_law_of" "_law_of" sOf f fd) (G : FnOk P w K mg base CX0 1 fD fdD ["_law_bag_here", "_law_many"] spDraw) (mD : mg "_law_draw" = some (.ref fD)) (kD : PySem.W.keepIn K (.ref fD) = true) (bD : Binds K fdD ["_law_bag_here", "_law_many"] []) (tLen : mg "len" = none) : FnOk P w K mg base CX0 2 f fd ["_law_bag_here", "_law_some"] (spOf K) := by
  refine F.ok scOf (fun vs H Q E h => ?_) (fun cdv A outer s H vs Q E hr h => ?_)
  · obtain ⟨p, l, xs, rfl, _⟩ := h
    rfl
  · obtain ⟨p, l, xs, rfl, hb, hl, nlp, hx, hz, k⟩ := h
    refine ⟨_, pss_one (ps_ret (pe_ix ix_list (pv 1) (pe_call G hr rfl mD kD bD .nil pass0 (pa_cons (pv 0) (pa_cons (pe_callB call_len_seq (by rfl) tLen PySem.boot_len (pa_cons (pv 1) pa_nil)) pa_nil))) (fun _ _ => rfl))), ?_⟩
    have h0 : 0 < xs.length := List.length_pos_iff.mpr hx
    refine ⟨_, rfl, _, rfl, _, rfl, l, _, rfl, .inl hl, p, _, rfl, hb, by omega, ?_, fun H' r b1 b2 r0 r1 => ?_⟩
    · have : (2:Nat) ^ 200 > 1000 := by decide
      omega
    · have hr : r.toNat < xs.length := by omega
      exact ⟨l, xs, r, xs[r.toNat], rfl, rfl, but_seq b1 nlp hl, at_of (j := r.toNat) (by omega) (List.getElem?_eq_getElem hr), k _ _ b1 b2 (List.getElem_mem hr)⟩
/-! comprehensions over what is walked in a known number of turns -/
theorem lc_any {J : It} {n : Nat} {g : TG} {tt : TT} {te : TE} {vs : List Nat} {σ : L2.St} {H1 : Hp} {D : Addr} {Qd : Hp → Prop} (Pv : Nat → Hp → Prop) (h0 : Pv 0 (upd H1 D (.lst [])))
    (hs : ∀ i H, i < n → Pv i H → J.go i H ∧ ∀ x H', J.yld i H x H' → g x (wipe σ vs) H' fun σ2 H2 => wipe σ2 vs = wipe σ vs ∧ tt σ2 H2 fun b H3 => if b = true then te σ2 H3 fun y H4 => ∃ acc, H4 D = some (.lst acc) ∧ acc.length < sizeLine ∧ Pv (i + 1) (upd H4 D (.lst (acc ++ [y]))) else Pv (i + 1) H3)
    (hd : ∀ H, Pv n H → J.stop n H ∧ Qd H) : ∃ W : Nat → Nat → Hp → Prop, (∃ m, W 0 m (upd H1 D (.lst []))) ∧ ∀ i m H, W i m H → (J.stop i H ∧ Qd H) ∨ (J.go i H ∧ ∃ Nx : Hp → Prop, (∀ H', Nx H' → ∃ m', m' < m ∧ W (i + 1) m' H') ∧ ∀ x H', J.yld i H x H' → g x (wipe σ vs) H' fun σ2 H2 => wipe σ2 vs = wipe σ vs ∧ tt σ2 H2 fun b H3 =>
      if b = true then te σ2 H3 fun y H4 => ∃ acc, H4 D = some (.lst acc) ∧ acc.length < sizeLine ∧ Nx (upd H4 D (.lst (acc ++ [y]))) else Nx H3) := by
  refine ⟨fun i m H => m + i = n ∧ Pv i H, ⟨n, rfl, h0⟩, fun i m H ⟨e, p⟩ => ?_⟩
  rcases Nat.lt_or_ge i n with l | l
  · obtain ⟨q1, q2⟩ := hs i H l p
    exact .inr ⟨q1, Pv (i + 1), fun H' p' => ⟨n - (i + 1), by omega, by omega, p'⟩, q2⟩
  · obtain rfl : i = n := by omega
    exact .inl (hd H p)
theorem go_zipL {K : PySem.W.Frag} {a b : Addr} {xs ys : List V} {H : Hp} {i : Nat} (hl : xs.length = ys.length) (h : i < xs.length) (h1 : SqL K H a xs) (h2 : SqL K H b ys) : (Itz K a b).go i H ∧ ∀ v H', (Itz K a b).yld i H v H' → ∃ T x y, v = .ref T ∧ H T = none ∧ H' = upd H T (.tup [x, y]) ∧ xs[i]? = some x ∧ ys[i]? = some y :=
  ⟨⟨xs, ys, _, _, h1, h2, List.getElem?_eq_getElem h, List.getElem?_eq_getElem (hl ▸ h)⟩, fun v H' ⟨T, x, y, e1, hT, e2, f1, f2⟩ => ⟨T, x, y, e1, hT, e2, f1 _ h1, f2 _ h2⟩⟩
theorem go_zipT {K : PySem.W.Frag} {a b : Addr} {xs ys : List V} {H : Hp} {i : Nat} (hl : xs.length = ys.length) (h : i < xs.length) (h1 : SqT K H a xs) (h2 : SqT K H b ys) : (RZ.ItzT K a b).go i H ∧ ∀ v H', (RZ.ItzT K a b).yld i H v H' → ∃ T x y, v = .ref T ∧ H T = none ∧ H' = upd H T (.tup [x, y]) ∧ xs[i]? = some x ∧ ys[i]? = some y :=
  ⟨⟨xs, ys, _, _, h1, h2, List.getElem?_eq_getElem h, List.getElem?_eq_getElem (hl ▸ h)⟩, fun v H' ⟨T, x, y, e1, hT, e2, f1, f2⟩ => ⟨T, x, y, e1, hT, e2, f1 _ h1, f2 _ h2⟩⟩
/-! data, by depth -/
inductive Shal : Nat → PyData → Prop where
  | non {n} : Shal n .none
  | bl {n} (b : Bool) : Shal n (.bool b)
  | int {n} (i : Int) : Shal n (.int i)
  | str {n} (z : Str) : Shal n (.str z)
  | lst {n} {ds : List PyData} (h : ∀ d, d ∈ ds → Shal n d) (l : ds.length ≤ 1000) : Shal (n + 1) (.list ds)
  | tup {n} {ds : List PyData} (h : ∀ d, d ∈ ds → Shal n d) (l : ds.length ≤ 1000) : Shal (n + 1) (.tuple ds)
theorem same_t {K : PySem.W.Frag} {H H' : Hp} {a : Addr} {xs : List V} (e : Same H H') (h : SqT K H a xs) : SqT K H' a xs := by
  rcases h with (h | ⟨o, h⟩) | h
  · exact .inl (.inl (e _ _ h))
  · exact .inl (.inr ⟨o, e _ _ h⟩)
  · exact .inr h
mutual
theorem dp_same {K : PySem.W.Frag} {H H' : Hp} (e : Same H H') : ∀ (d : PyData) (v : V), Dp K H v d → Dp K H' v d
  | .none, v, h => by cases h; exact .non
  | .bool b, v, h => by cases h; exact .bl b
  | .int i, v, h => by cases h; exact .int i
  | .str z, v, h => by cases h; exact .str z
  | .list ds, v, h => by
    cases h with
    | lst h1 h2 => exact .lst (e.seq h1) (dpAll_same e ds _ h2)
  | .tuple ds, v, h => by
    cases h with
    | tup h1 h2 => exact .tup (same_t e h1) (dpAll_same e ds _ h2)
  | .dict kvs, v, h => by cases h
theorem dpAll_same {K : PySem.W.Frag} {H H' : Hp} (e : Same H H') : ∀ (ds : List PyData) (vs : List V), DpAll K H vs ds → DpAll K H' vs ds
  | [], vs, h => by cases h; exact .nil
  | d :: ds, vs, h => by
    cases h with
    | cons h1 h2 => exact .cons (dp_same e d _ h1) (dpAll_same e ds _ h2)
end
theorem dpAll_len {K : PySem.W.Frag} {H : Hp} : ∀ (ds : List PyData) (vs : List V), DpAll K H vs ds → vs.length = ds.length
  | [], vs, h => by cases h; rfl
  | d :: ds, vs, h => by
    cases h with
    | cons h1 h2 => rw [List.length_cons, List.length_cons, dpAll_len ds _ h2]
theorem dpAll_get {K : PySem.W.Frag} {H : Hp} : ∀ (ds : List PyData) (vs : List V) (i : Nat) (v : V), DpAll K H vs ds → vs[i]? = some v → ∃ d, ds[i]? = some d ∧ Dp K H v d
  | [], vs, i, v, h, e => by cases h; cases e
  | d :: ds, vs, 0, v, h, e => by
    cases h with
    | cons h1 h2 => cases e; exact ⟨d, rfl, h1⟩
  | d :: ds, vs, i + 1, v, h, e => by
    cases h with
    | cons h1 h2 => exact dpAll_get ds _ i v h2 e
theorem sqL_ty {K : PySem.W.Frag} {H : Hp} {a : Addr} {xs : List V} (h : SqL K H a xs) : TyX K H (.ref a) (.type "list") := by
  rcases h with (h | ⟨o, h⟩) | ⟨o, its, n, h, hc, _⟩
  · exact .base (.lst h)
  · exact .base (.frz h)
  · exact .kList h hc
theorem sqT_ty {K : PySem.W.Frag} {H : Hp} {a : Addr} {xs : List V} (h : SqT K H a xs) : TyX K H (.ref a) (.type "tuple") := by
  rcases h with (h | ⟨o, h⟩) | ⟨o, its, n, h, hc, _⟩
  · exact .base (.tup h)
  · exact .fTuple h
  · exact .kTuple h hc
def spSame (K : PySem.W.Frag) (n : Nat) : Sp := fun vs H Q _ => ∃ (x y : V) (d : PyData) (m : Nat), vs = [x, y] ∧ Dp K H x d ∧ Dp K H y d ∧ n = m + 1 ∧ Shal m d ∧ ∀ H', Same H H' → Q (.bl true) H'
/-- what the laws ask of the built-in names -/
structure Blt (mg : Str → Option Value) : Prop where
  len : mg "len" = none
  int : mg "int" = none
  isi : mg "isinstance" = none
  bool : mg "bool" = none
  str : mg "str" = none
  list : mg "list" = none
  tuple : mg "tuple" = none
  all : mg "all" = none
  zip : mg "zip" = none
theorem scSame : FnScope ["_law_found", "_law_due", "_law_one", "_law_two"] ["_law_found", "_law_due"] (defScope sSame) := ⟨rfl, rfl, rfl, by decide +kernel, rfl, by decide +kernel, by decide +kernel⟩
theorem ok_same_step {n : Nat} {f : Addr} {fd : FuncData} (F : Fun K "_law_same" "_law_same" sSame f fd) (G : FnOk P w K mg base CX0 n f fd ["_law_found", "_law_due"] (spSame K n)) (mS : mg "_law_same" = some (.ref f)) (bS : Binds K fd ["_law_found", "_law_due"] []) (B : Blt mg) :
    FnOk P w K mg base CX0 (n + 1) f fd ["_law_found", "_law_due"] (spSame K (n + 1)) := by
  refine F.ok scSame (fun vs H Q E h => ?_) (fun cdv A outer s H vs Q E hr h => ?_)
  · obtain ⟨x, y, d, m, rfl, _⟩ := h
    rfl
  · obtain ⟨x, y, d, m, rfl, hx, hy, hnm, hs, k⟩ := h
    obtain rfl : n = m := Nat.succ.inj hnm
    refine ⟨_, pss_cons (ps_if (pt_cmp (pc_isN (pv 1))) (pss_one (ps_ret (pe_cmp (pc_isN (pv 0)) rfl))) pss_nil)
      (pss_cons (ps_if (PW.pt (pw_or (pt_val (pe_callB call_isi (by rfl) B.isi (by decide +kernel) (pa_cons (pv 1) (pa_cons (pe_bltn (v := .ty "bool") (by rfl) B.bool (by decide +kernel) rfl) pa_nil)))) (pw_or1 (pt_val (pe_callB call_isi (by rfl) B.isi (by decide +kernel) (pa_cons (pv 0) (pa_cons (pe_bltn (v := .ty "bool") (by rfl) B.bool (by decide +kernel) rfl) pa_nil)))))))
        (pss_one (ps_ret (pe_and (pe_callB call_isi (by rfl) B.isi (by decide +kernel) (pa_cons (pv 1) (pa_cons (pe_bltn (v := .ty "bool") (by rfl) B.bool (by decide +kernel) rfl) pa_nil))) (pe_and (pe_callB call_isi (by rfl) B.isi (by decide +kernel) (pa_cons (pv 0) (pa_cons (pe_bltn (v := .ty "bool") (by rfl) B.bool (by decide +kernel) rfl) pa_nil))) (pe_one (pe_cmpR op_eq (pv 0) (pv 1) (nomark _))))))) pss_nil)
      (pss_cons (ps_if (pt_val (pe_callB call_isiT (by rfl) B.isi (by decide +kernel) (pa_cons (pv 1) (pa_cons (pe_tup (pa_cons (pe_bltn (v := .ty "int") (by rfl) B.int (by decide +kernel) rfl) (pa_cons (pe_bltn (v := .ty "str") (by rfl) B.str (by decide +kernel) rfl) pa_nil))) pa_nil))))
        (pss_one (ps_ret (pe_and (pe_callB call_isiT (by rfl) B.isi (by decide +kernel) (pa_cons (pv 0) (pa_cons (pe_tup (pa_cons (pe_bltn (v := .ty "int") (by rfl) B.int (by decide +kernel) rfl) (pa_cons (pe_bltn (v := .ty "str") (by rfl) B.str (by decide +kernel) rfl) pa_nil))) pa_nil)))
          (pe_and (pe_cmpR op_eq (pe_callB call_isi (by rfl) B.isi (by decide +kernel) (pa_cons (pv 0) (pa_cons (pe_bltn (v := .ty "int") (by rfl) B.int (by decide +kernel) rfl) pa_nil))) (pe_callB call_isi (by rfl) B.isi (by decide +kernel) (pa_cons (pv 1) (pa_cons (pe_bltn (v := .ty "int") (by rfl) B.int (by decide +kernel) rfl) pa_nil))) (nomark _)) (pe_one (pe_cmpR op_eq (pv 0) (pv 1) (nomark _))))))) pss_nil)
      (pss_cons (ps_if (PW.pt (pw_or (pt_cmpR op_ne (pe_callB call_isi (by rfl) B.isi (by decide +kernel) (pa_cons (pv 1) (pa_cons (pe_bltn (v := .ty "list") (by rfl) B.list (by decide +kernel) rfl) pa_nil))) (pe_callB call_isi (by rfl) B.isi (by decide +kernel) (pa_cons (pv 0) (pa_cons (pe_bltn (v := .ty "list") (by rfl) B.list (by decide +kernel) rfl) pa_nil))) (nomark _)) (pw_or1 (pt_cmpR op_ne (pe_callB call_isi (by rfl) B.isi (by decide +kernel) (pa_cons (pv 1) (pa_cons (pe_bltn (v := .ty "tuple") (by rfl) B.tuple (by decide +kernel) rfl) pa_nil))) (pe_callB call_isi (by rfl) B.isi (by decide +kernel) (pa_cons (pv 0) (pa_cons (pe_bltn (v := .ty "tuple") (by rfl) B.tuple (by decide +kernel) rfl) pa_nil))) (nomark _)))))
        (pss_one (ps_ret pe_bl)) pss_nil)
      (pss_one (ps_ret (pe_and (pe_cmpR op_eq (pe_callB call_len_seq (by rfl) B.len PySem.boot_len (pa_cons (pv 0) pa_nil)) (pe_callB call_len_seq (by rfl) B.len PySem.boot_len (pa_cons (pv 1) pa_nil)) (nomark _))
        (pe_one (pe_callB (cr_all rfl) (by rfl) B.all (by decide +kernel) (pa_cons
          (pe_lc (own := [("_law_one", 2), ("_law_two", 3)]) (g := gTup K 2 (gCons (gName 2) (gCons (gName 3) gNil))) (tt := tYes) rfl scSame.nd (RZ.pi_zipA (by rfl) B.zip (pa_cons (pv 0) (pa_cons (pv 1) pa_nil))) (blkOk_by (N := ["_law_found", "_law_due", "_law_one", "_law_two"]) (sc := defScope sSame) (by decide +kernel))
            (fun _ _ _ _ _ => pg_tup rfl (pgs_cons (pg_name (i := 2) scSame.nd rfl (.inl rfl) (hf := Or.inr rfl)) (pgs_cons (pg_name (i := 3) scSame.nd rfl (.inl rfl) (hf := Or.inr rfl)) pgs_nil))) (fun _ _ _ _ _ => pts_nil) (fun _ _ _ _ _ => pe_call G (hr.mono (by omega)) rfl mS F.kp bS .nil pass0 (pa_cons (pv 2) (pa_cons (pv 3) pa_nil)))) pa_nil))))))))), ?_⟩
    cases hs with
    | non =>
      cases hx; cases hy
      exact ⟨_, rfl, true, rfl, iteT ⟨_, rfl, k _ (Same.refl _)⟩⟩
    | bl b =>
      cases hx; cases hy
      refine ⟨_, rfl, false, rfl, iteF ?_⟩
      refine ⟨_, rfl, _, _, .type "bool", .type "bool", true, rfl, .ty _, .base (.bl b), kit_ty (by decide +kernel), true, rfl, iteT (iteT ?_)⟩
      refine ⟨_, rfl, _, _, .type "bool", .type "bool", true, rfl, .ty _, .base (.bl b), kit_ty (by decide +kernel), true, rfl, iteT ?_⟩
      refine ⟨_, rfl, _, _, .type "bool", .type "bool", true, rfl, .ty _, .base (.bl b), kit_ty (by decide +kernel), true, rfl, iteT ?_⟩
      refine ⟨_, rfl, _, rfl, rfl, ?_⟩
      rw [decide_eq_true rfl]
      exact k _ (Same.refl _)
    | int i =>
      cases hx; cases hy
      refine ⟨_, rfl, false, rfl, iteF ?_⟩
      refine ⟨_, rfl, _, _, .type "int", .type "bool", false, rfl, .ty _, .base (.int i), kit_ty (by decide +kernel), false, rfl, iteF ?_⟩
      refine ⟨_, rfl, _, _, .type "int", .type "bool", false, rfl, .ty _, .base (.int i), kit_ty (by decide +kernel), false, rfl, iteF ?_⟩
      refine ⟨_, rfl, by show 2 ≤ sizeLine; decide, fun t ht => ⟨_, t, _, .type "int", [.type "int", .type "str"], true, rfl, upd_same, .cons (.ty _) (.cons (.ty _) .nil), .base (.int i), kitAny_cons (b := true) (kit_ty (by decide +kernel)) (fun z => nomatch z) (fun _ => rfl), true, rfl, iteT ?_⟩⟩
      refine ⟨_, rfl, by show 2 ≤ sizeLine; decide, fun u hu => ⟨_, u, _, .type "int", [.type "int", .type "str"], true, rfl, upd_same, .cons (.ty _) (.cons (.ty _) .nil), .base (.int i), kitAny_cons (b := true) (kit_ty (by decide +kernel)) (fun z => nomatch z) (fun _ => rfl), true, rfl, iteT ?_⟩⟩
      refine ⟨_, rfl, _, _, .type "int", .type "int", true, rfl, .ty _, .base (.int i), kit_ty (by decide +kernel), ?_⟩
      refine ⟨_, rfl, _, _, .type "int", .type "int", true, rfl, .ty _, .base (.int i), kit_ty (by decide +kernel), rfl, true, rfl, iteT ?_⟩
      refine ⟨_, rfl, _, rfl, rfl, ?_⟩
      rw [decide_eq_true rfl]
      exact k _ (((Same.refl _).new ht).new hu)
    | str z =>
      cases hx; cases hy
      refine ⟨_, rfl, false, rfl, iteF ?_⟩
      refine ⟨_, rfl, _, _, .type "str", .type "bool", false, rfl, .ty _, .base (.str z), kit_ty (by decide +kernel), false, rfl, iteF ?_⟩
      refine ⟨_, rfl, _, _, .type "str", .type "bool", false, rfl, .ty _, .base (.str z), kit_ty (by decide +kernel), false, rfl, iteF ?_⟩
      refine ⟨_, rfl, by show 2 ≤ sizeLine; decide, fun t ht => ⟨_, t, _, .type "str", [.type "int", .type "str"], true, rfl, upd_same, .cons (.ty _) (.cons (.ty _) .nil), .base (.str z), kitAny_cons (b := false) (kit_ty (by decide +kernel)) (fun _ => kitAny_cons (b := true) (kit_ty (by decide +kernel)) (fun z => nomatch z) (fun _ => rfl)) (fun z => nomatch z), true, rfl, iteT ?_⟩⟩
      refine ⟨_, rfl, by show 2 ≤ sizeLine; decide, fun u hu => ⟨_, u, _, .type "str", [.type "int", .type "str"], true, rfl, upd_same, .cons (.ty _) (.cons (.ty _) .nil), .base (.str z), kitAny_cons (b := false) (kit_ty (by decide +kernel)) (fun _ => kitAny_cons (b := true) (kit_ty (by decide +kernel)) (fun z => nomatch z) (fun _ => rfl)) (fun z => nomatch z), true, rfl, iteT ?_⟩⟩
      refine ⟨_, rfl, _, _, .type "str", .type "int", false, rfl, .ty _, .base (.str z), kit_ty (by decide +kernel), ?_⟩
      refine ⟨_, rfl, _, _, .type "str", .type "int", false, rfl, .ty _, .base (.str z), kit_ty (by decide +kernel), rfl, true, rfl, iteT ?_⟩
      refine ⟨_, rfl, _, rfl, rfl, ?_⟩
      rw [decide_eq_true rfl]
      exact k _ (((Same.refl _).new ht).new hu)
    | lst h l =>
      cases hx with
      | lst h1 h2 =>
      cases hy with
      | lst h3 h4 =>
      rename_i ds a xs b ys
      have ex := dpAll_len _ _ h2
      have ey := dpAll_len _ _ h4
      refine ⟨_, rfl, false, rfl, iteF ?_⟩
      refine ⟨_, rfl, _, _, .type "list", .type "bool", false, rfl, .ty _, sqL_ty h3, kit_ty (by decide +kernel), false, rfl, iteF ?_⟩
      refine ⟨_, rfl, _, _, .type "list", .type "bool", false, rfl, .ty _, sqL_ty h1, kit_ty (by decide +kernel), false, rfl, iteF ?_⟩
      refine ⟨_, rfl, by show 2 ≤ sizeLine; decide, fun t ht => ⟨_, t, _, .type "list", [.type "int", .type "str"], false, rfl, upd_same, .cons (.ty _) (.cons (.ty _) .nil), sqL_ty (((Same.refl _).new ht).seq h3), kitAny_cons (b := false) (kit_ty (by decide +kernel)) (fun _ => kitAny_cons (b := false) (kit_ty (by decide +kernel)) (fun _ => rfl) (fun z => nomatch z)) (fun z => nomatch z), false, rfl, iteF ?_⟩⟩
      have s1 : Same H (upd H t (.tup [.ty "int", .ty "str"])) := (Same.refl _).new ht
      have k : ∀ H', Same (upd H t (.tup [.ty "int", .ty "str"])) H' → Q (.bl true) H' := fun H' e => k H' (s1.trans e)
      have h2 := dpAll_same s1 _ _ h2
      have h4 := dpAll_same s1 _ _ h4
      have h1 := s1.seq h1
      have h3 := s1.seq h3
      generalize upd H t (.tup [.ty "int", .ty "str"]) = H1 at h1 h2 h3 h4 k ⊢
      refine ⟨_, rfl, _, _, .type "list", .type "list", true, rfl, .ty _, sqL_ty h3, kit_ty (by decide +kernel), ?_⟩
      refine ⟨_, rfl, _, _, .type "list", .type "list", true, rfl, .ty _, sqL_ty h1, kit_ty (by decide +kernel), rfl, false, rfl, iteF ?_⟩
      refine ⟨_, rfl, _, _, .type "list", .type "tuple", false, rfl, .ty _, sqL_ty h3, kit_ty (by decide +kernel), ?_⟩
      refine ⟨_, rfl, _, _, .type "list", .type "tuple", false, rfl, .ty _, sqL_ty h1, kit_ty (by decide +kernel), rfl, false, rfl, iteF ?_⟩
      refine ⟨_, rfl, a, xs, rfl, .inl h1, _, rfl, b, ys, rfl, .inl h3, rfl, true, by rw [ex, ey]; exact congrArg V.bl (decide_eq_true rfl), iteT ?_⟩
      refine ⟨_, rfl, _, rfl, a, b, xs, ys, rfl, .inl ⟨h1, h3, fun D hD => lc_any (n := xs.length) (fun i H' => Same H1 H' ∧ H' D = some (.lst ((List.replicate i true).map V.bl))) ⟨(Same.refl _).new hD, upd_same⟩ ?_ ?_⟩⟩
      · intro i H' hix q
        refine ⟨(go_zipL (by rw [ex, ey]) hix ((q.1).seq h1) ((q.1).seq h3)).1, fun v Hv yv => ?_⟩
        obtain ⟨T, x, y, rfl, hT, rfl, hx, hy⟩ := (go_zipL (by rw [ex, ey]) hix ((q.1).seq h1) ((q.1).seq h3)).2 v Hv yv
        obtain ⟨d, hd, dx⟩ := dpAll_get _ _ _ _ h2 hx
        obtain ⟨d', hd', dy⟩ := dpAll_get _ _ _ _ h4 hy
        cases hd.symm.trans hd'
        have hi : i < ds.length := (List.getElem?_eq_some_iff.mp hd).1
        have hsd := h d (List.mem_of_getElem? hd)
        have nD : D ≠ T := ne_of_none q.2 hT
        refine ⟨T, _, rfl, .inl (.inl upd_same), rfl, x, [y], rfl, y, [], rfl, rfl, rfl, ?_⟩
        have sT : Same H' (upd H' T (.tup [x, y])) := (Same.refl _).new hT
        refine ⟨_, rfl, _, rfl, x, y, d, _, rfl, dp_same (q.1.trans sT) _ _ dx, dp_same (q.1.trans sT) _ _ dy, rfl, hsd, fun H2 e2 => ⟨_, e2 _ _ (sT _ _ q.2), ?_, ((q.1.trans sT).trans e2).own hD, ?_⟩⟩
        · rw [List.length_map, List.length_replicate]
          exact Nat.lt_of_lt_of_le (Nat.lt_of_lt_of_le hi l) (by decide)
        · rw [upd_same, List.replicate_succ', List.map_append]
          rfl
      · intro H' q
        refine ⟨⟨xs, ys, (q.1).seq h1, (q.1).seq h3, .inl (Nat.le_refl _)⟩, ?_⟩
        refine ⟨D, _, rfl, SqL.of q.2, ?_⟩
        have e : (List.replicate xs.length true).all id = true := by
          rw [List.all_eq_true]
          intro z hz
          rw [List.eq_of_mem_replicate hz]
          rfl
        show Q (.bl ((List.replicate xs.length true).all id)) H'
        rw [e]
        exact k _ q.1
    | tup h l =>
      cases hx with
      | tup h1 h2 =>
      cases hy with
      | tup h3 h4 =>
      rename_i ds a xs b ys
      have ex := dpAll_len _ _ h2
      have ey := dpAll_len _ _ h4
      refine ⟨_, rfl, false, rfl, iteF ?_⟩
      refine ⟨_, rfl, _, _, .type "tuple", .type "bool", false, rfl, .ty _, sqT_ty h3, kit_ty (by decide +kernel), false, rfl, iteF ?_⟩
      refine ⟨_, rfl, _, _, .type "tuple", .type "bool", false, rfl, .ty _, sqT_ty h1, kit_ty (by decide +kernel), false, rfl, iteF ?_⟩
      refine ⟨_, rfl, by show 2 ≤ sizeLine; decide, fun t ht => ⟨_, t, _, .type "tuple", [.type "int", .type "str"], false, rfl, upd_same, .cons (.ty _) (.cons (.ty _) .nil), sqT_ty (same_t ((Same.refl _).new ht) h3), kitAny_cons (b := false) (kit_ty (by decide +kernel)) (fun _ => kitAny_cons (b := false) (kit_ty (by decide +kernel)) (fun _ => rfl) (fun z => nomatch z)) (fun z => nomatch z), false, rfl, iteF ?_⟩⟩
      have s1 : Same H (upd H t (.tup [.ty "int", .ty "str"])) := (Same.refl _).new ht
      have k : ∀ H', Same (upd H t (.tup [.ty "int", .ty "str"])) H' → Q (.bl true) H' := fun H' e => k H' (s1.trans e)
      have h2 := dpAll_same s1 _ _ h2
      have h4 := dpAll_same s1 _ _ h4
      have h1 := same_t s1 h1
      have h3 := same_t s1 h3
      generalize upd H t (.tup [.ty "int", .ty "str"]) = H1 at h1 h2 h3 h4 k ⊢
      refine ⟨_, rfl, _, _, .type "tuple", .type "list", false, rfl, .ty _, sqT_ty h3, kit_ty (by decide +kernel), ?_⟩
      refine ⟨_, rfl, _, _, .type "tuple", .type "list", false, rfl, .ty _, sqT_ty h1, kit_ty (by decide +kernel), rfl, false, rfl, iteF ?_⟩
      refine ⟨_, rfl, _, _, .type "tuple", .type "tuple", true, rfl, .ty _, sqT_ty h3, kit_ty (by decide +kernel), ?_⟩
      refine ⟨_, rfl, _, _, .type "tuple", .type "tuple", true, rfl, .ty _, sqT_ty h1, kit_ty (by decide +kernel), rfl, false, rfl, iteF ?_⟩
      refine ⟨_, rfl, a, xs, rfl, .inr h1, _, rfl, b, ys, rfl, .inr h3, rfl, true, by rw [ex, ey]; exact congrArg V.bl (decide_eq_true rfl), iteT ?_⟩
      refine ⟨_, rfl, _, rfl, a, b, xs, ys, rfl, .inr ⟨h1, h3, fun D hD => lc_any (n := xs.length) (fun i H' => Same H1 H' ∧ H' D = some (.lst ((List.replicate i true).map V.bl))) ⟨(Same.refl _).new hD, upd_same⟩ ?_ ?_⟩⟩
      · intro i H' hix q
        refine ⟨(go_zipT (by rw [ex, ey]) hix (same_t (q.1) h1) (same_t (q.1) h3)).1, fun v Hv yv => ?_⟩
        obtain ⟨T, x, y, rfl, hT, rfl, hx, hy⟩ := (go_zipT (by rw [ex, ey]) hix (same_t (q.1) h1) (same_t (q.1) h3)).2 v Hv yv
        obtain ⟨d, hd, dx⟩ := dpAll_get _ _ _ _ h2 hx
        obtain ⟨d', hd', dy⟩ := dpAll_get _ _ _ _ h4 hy
        cases hd.symm.trans hd'
        have hi : i < ds.length := (List.getElem?_eq_some_iff.mp hd).1
        have hsd := h d (List.mem_of_getElem? hd)
        have nD : D ≠ T := ne_of_none q.2 hT
        refine ⟨T, _, rfl, .inl (.inl upd_same), rfl, x, [y], rfl, y, [], rfl, rfl, rfl, ?_⟩
        have sT : Same H' (upd H' T (.tup [x, y])) := (Same.refl _).new hT
        refine ⟨_, rfl, _, rfl, x, y, d, _, rfl, dp_same (q.1.trans sT) _ _ dx, dp_same (q.1.trans sT) _ _ dy, rfl, hsd, fun H2 e2 => ⟨_, e2 _ _ (sT _ _ q.2), ?_, ((q.1.trans sT).trans e2).own hD, ?_⟩⟩
        · rw [List.length_map, List.length_replicate]
          exact Nat.lt_of_lt_of_le (Nat.lt_of_lt_of_le hi l) (by decide)
        · rw [upd_same, List.replicate_succ', List.map_append]
          rfl
      · intro H' q
        refine ⟨⟨xs, ys, same_t (q.1) h1, same_t (q.1) h3, .inl (Nat.le_refl _)⟩, ?_⟩
        refine ⟨D, _, rfl, SqL.of q.2, ?_⟩
        have e : (List.replicate xs.length true).all id = true := by
          rw [List.all_eq_true]
          intro z hz
          rw [List.eq_of_mem_replicate hz]
          rfl
        show Q (.bl ((List.replicate xs.length true).all id)) H'
        rw [e]
        exact k _ q.1
theorem ok_same {f : Addr} {fd : FuncData} (F : Fun K "_law_same" "_law_same" sSame f fd) (mS : mg "_law_same" = some (.ref f)) (bS : Binds K fd ["_law_found", "_law_due"] []) (B : Blt mg) : ∀ n, FnOk P w K mg base CX0 n f fd ["_law_found", "_law_due"] (spSame K n)
  | 0 => by
    have no : ∀ vs H Q E, ¬ spSame K 0 vs H Q E := fun vs H Q E ⟨x, y, d, m, _, _, _, h, _⟩ => by omega
    exact ⟨fun vs H Q E h => absurd h (no vs H Q E), fun A outer s H args us vs Q E _ _ _ _ h => absurd h (no vs H Q E)⟩
  | n + 1 => ok_same_step F (ok_same F mS bS B n) mS bS B
end
end Own

namespace Own
open PySem L2 PySem.HandSPX Builtin
section
variable {M : Model} {A : Around} {E : Value → Shared → Prop} {h : Heap} {g : Array GenState} {d : Drawn} {t : Nat} {os : OsState}
variable {nm q : Str} {C N : Addr} {bs bm bmB : List Value} {hdct : Bool} {sn : List Str} {sub : List Value} {ab : Bool} {col : Option Bool} {dd : Option Addr} {k0 k1 k2 k3 k5 : Option Value} {B newId initId : String}
/-- C(..) with keywords: the check ahead of the base's __new__ -/
theorem chk_new (F : ExcBaseFacts B newId initId bmB) (hT : ∀ X : String, bm.contains (.type X) = bmB.contains (.type X)) {rest : List Value} {kw : List (Str × Value)} {Q : Unit → Shared → Prop}
    (hC : h.get? C = some (excClassObj nm q C N bs bm hdct sn sub ab col dd k0 k1 k2 k3 k5 newId)) (hq : Q () ⟨h, g, d, t, os⟩) : wpAny M A (checkBuiltinCall newId ⟨.ref C :: rest, kw⟩) Q E ⟨h, g, d, t, os⟩ := by
  have c0 : (Value.ref C :: bm).contains (.type B) = true := by rw [List.contains_cons, hT, F.hasB, Bool.or_true]
  have s0 := F.noStar
  simp only [checkBuiltinCall, F.newKind, F.newSplit, F.newRow]
  repeat (first | refine wpAny_loadPart_at hC ?_ | (refine wpAny_isSubtype_exc hC ?_; rw [c0]) | refine wpAny_staticBase_exc hC ?_ | refine wpAny_madeBy_exc hC ?_ | simp only [bne_self_eq_false, Bool.false_eq_true, if_false] | wp_step)
  exact hq
theorem chk_type {rest : List Value} {kw : List (Str × Value)} {Q : Unit → Shared → Prop} (hC : h.get? C = some (excClassObj nm q C N bs bm hdct sn sub ab col dd k0 k1 k2 k3 k5 newId)) (hq : Q () ⟨h, g, d, t, os⟩) :
    wpAny M A (checkBuiltinCall "type.__call__" ⟨.ref C :: rest, kw⟩) Q E ⟨h, g, d, t, os⟩ := by
  have z := tc_sub
  have ty : (⟨h, g, d, t, os⟩ : Shared).TypeIs (.ref C) "type" := ⟨_, hC, rfl⟩
  simp only [checkBuiltinCall, tc_kind, tc_split]
  repeat (any_goals (first | assumption | with_reducible refine wpAny_loadPart_at hC ?_ | with_reducible refine wpAny_onRaise ?_ | with_reducible refine wpAny_map ?_ | wp_step))
end
section
variable {prog : Program} {w : World} {A : Around} {E : Value → Shared → Prop} {R : Result → Shared → Prop} {h : Heap} {g : Array GenState} {d : Drawn} {t : Nat} {os : OsState}
variable {nm q : Str} {C N : Addr} {bs bm bmB : List Value} {hdct : Bool} {sn : List Str} {sub : List Value} {ab : Bool} {col : Option Bool} {dd : Option Addr} {k0 k1 k2 k3 k5 : Option Value} {B newId initId : String}
/-- the object that __new__ lays -/
def mkHeap (h : Heap) (C : Addr) (rest : List Value) : Heap := (h.push (W.kdv_tup rest)).push (excO C h.objs.size)
theorem run_new (F : ExcBaseFacts B newId initId bmB) (hT : ∀ X : String, bm.contains (.type X) = bmB.contains (.type X)) {rest : List Value} {kw : List (Str × Value)}
    (hC : h.get? C = some (excClassObj nm q C N bs bm hdct sn sub ab col dd k0 k1 k2 k3 k5 newId)) (hq : R (.ok (.ret (.ref (h.objs.size + 1)))) ⟨mkHeap h C rest, g, d, t, os⟩) (hrest : rest.length ≤ sizeLine) :
    codeAny (model prog w) A (.builtin newId ⟨.ref C :: rest, kw⟩) R ⟨h, g, d, t, os⟩ := by
  have ends := F.ends
  have cB : (Value.ref C :: bm).contains (.type B) = true := by rw [List.contains_cons, hT, F.hasB, Bool.or_true]
  have cA : (Value.ref C :: bm).contains (.type "AttributeError") = false := by rw [List.contains_cons, hT, F.noAttr]; rfl
  have cN : (Value.ref C :: bm).contains (.type "NameError") = false := by rw [List.contains_cons, hT, F.noName]; rfl
  refine codeAny_builtinAt F.entry ?_
  unfold Builtin.«BaseException.__new__»
  refine wpAt_bind ?_
  show wpAt _ _ _ (stack >>= _) _ _ _
  refine wpAt_bind (wpAt_stack fun p below => wpAt_of_wpAny ?_)
  wp_walk
  refine wpAt_of_wpAny ?_
  rw [F.owner]
  repeat (first | with_reducible refine wpAny_madeHere_exc F.canon hC ?_ | with_reducible refine wpAny_loadPart_at hC ?_ | (with_reducible refine wpAny_isSubtype_exc hC ?_; first | rw [cB] | rw [cA] | rw [cN]) | wp_step)
  show R _ _
  rw [Heap.size_push]
  exact hq
theorem mk_keep {h : Heap} {C : Addr} {rest : List Value} : ∀ b o, h.get? b = some o → (mkHeap h C rest).get? b = some o := fun _ _ e => Heap.get?_push_of_some _ (Heap.get?_push_of_some _ e)
theorem mk_at {h : Heap} {C : Addr} {rest : List Value} : (mkHeap h C rest).get? (h.objs.size + 1) = some (excO C h.objs.size) := by
  unfold mkHeap
  heap_get
/-- type.__call__ upon an own exception class with an own __init__, keywords too -/
theorem run_type (F : ExcBaseFacts B newId initId bmB) (hT : ∀ X : String, bm.contains (.type X) = bmB.contains (.type X)) {rest : List Value} {kw : List (Str × Value)} {fI : Addr} {Q : Fin → Shared → Prop}
    (hC : h.get? C = some (excClassObj nm q C N bs bm hdct sn sub ab col dd k0 k1 k2 k3 k5 newId)) (hi : W.Looks (model prog w) h (typeLookup (.ref C) "__init__") (some (.ref fI))) (hb : ∀ self, W.Looks (model prog w) h (bindSpecial (.ref fI) self) (.ref fI, [self])) (hrest : rest.length ≤ sizeLine)
    (hq : codeAny (model prog w) A (.call (.ref fI) ⟨.ref (h.objs.size + 1) :: rest, kw⟩) (fun r s' => match r with | .ok (.ret v) => v = .none ∧ Q (.done (.ret (.ref (h.objs.size + 1)))) s' | .ok _ => False | .error e => E e s') ⟨mkHeap h C rest, g, d, t, os⟩) :
    wpAny (model prog w) A (Builtin.«type.__call__» ⟨.ref C :: rest, kw⟩) Q E ⟨h, g, d, t, os⟩ := by
  repeat (first | with_reducible refine wpAny_loadPart_at hC ?_ | with_reducible refine wpAny_madeBy_exc hC ?_ | wp_step)
  refine codeAny_call_builtin_code (Code.quiet_builtin _ F.quiet) (chk_new F hT hC (run_new F hT hC ?_ hrest))
  show wpAny _ _ _ _ _ _
  have cC : (Value.ref C :: bm).contains (.ref C) = true := by simp
  unfold isInstance
  repeat (first | with_reducible refine wpAny_loadPart_at mk_at ?_ | (with_reducible refine wpAny_isSubtype_exc (mk_keep _ _ hC) ?_; rw [cC]) | wp_step)
  show wpAny _ _ (typeLookup (.ref C) _) _ _ _
  refine (hi.keeps mk_keep).at (wpAny_holding (wpAny_bind (((hb (.ref (h.objs.size + 1))).keeps mk_keep).at (wpAny_bind (wpAny_call (codeAny_mono hq fun r s' z => ?_))))))
  rcases r with e | (v | _ | _ | _) <;> first | exact z | exact z.elim | skip
  obtain ⟨rfl, z⟩ := z
  first
    | exact wpAny_pure (wpAny_pure z)
    | (wp_walk; exact z)
theorem run_call (F : ExcBaseFacts B newId initId bmB) (hT : ∀ X : String, bm.contains (.type X) = bmB.contains (.type X)) {rest : List Value} {kw : List (Str × Value)} {fI : Addr}
    (hC : h.get? C = some (excClassObj nm q C N bs bm hdct sn sub ab col dd k0 k1 k2 k3 k5 newId)) (hi : W.Looks (model prog w) h (typeLookup (.ref C) "__init__") (some (.ref fI))) (hb : ∀ self, W.Looks (model prog w) h (bindSpecial (.ref fI) self) (.ref fI, [self])) (hrest : rest.length ≤ sizeLine)
    (hq : codeAny (model prog w) (A.under (.builtin "type.__call__" ⟨.ref C :: rest, kw⟩)) (.call (.ref fI) ⟨.ref (h.objs.size + 1) :: rest, kw⟩) (W.InitBack (h.objs.size + 1) R) ⟨mkHeap h C rest, g, d, t, os⟩) :
    codeAny (model prog w) A (.call (.ref C) ⟨rest, kw⟩) R ⟨h, g, d, t, os⟩ := by
  have z1 := tc_lookup
  have z2 := tc_bind (.ref C)
  have ty : (⟨h, g, d, t, os⟩ : Shared).TypeIs (.ref C) "type" := ⟨_, hC, rfl⟩
  refine codeAny_of_tree ?_
  show wpAny _ _ (callAny (.ref C) _) _ _ _
  repeat (any_goals (first | assumption | with_reducible refine wpAny_loadPart_at hC ?_ | wp_step))
  refine ⟨rfl, codeAny_call_builtin_at (Code.quiet_builtin _ (by decide +kernel)) entry_typeCall (chk_type hC (run_type F hT hC hi hb hrest (codeAny_mono hq fun r s' z => ?_)))⟩
  rcases r with e | (v | _ | _ | _) <;> exact z
end

/-- what the written part says of an own exception class over a built-in one -/
structure ExK (K : PySem.W.Frag) (C : Addr) : Prop where
  cls : ∃ B newId initId bmB, ExcBaseFacts B newId initId bmB ∧ StoreFacts B bmB "object.__setattr__" "object" ∧ PySem.W.excInitIn K C bmB newId = true ∧ PySem.W.excOver K C bmB = true
  sa : PySem.W.findIn K (.ref C) "__setattr__" = some (some (.builtin "object.__setattr__"))
  ga : PySem.W.findIn K (.ref C) "__getattribute__" = some (some (.builtin "BaseException.__getattribute__"))
  gg : PySem.W.findIn K (.ref C) "__getattr__" = some none
  exC : PySem.W.subIn K (.ref C) (.type "BaseException") = some true
  tyC : PySem.W.typeIn K (.ref C) = some (.type "type")
  kC : PySem.W.keepIn K (.ref C) = true
  hd : PySem.W.hasDictIn K C = true
section
variable {X : Cx} {pins : List (Addr × Obj)} {σ : L2.St} {H : Hp} {s : Shared} {a C dx : Addr} {f : Str} {y : V} {u : Value} {fs : List (Str × V)} {Q : Unit → Shared → Prop} {E : Value → Shared → Prop} {A : Around}
/-- a further store into an exception's own dict -/
theorem stx_old (T : ExK X.K C) (I : Inv X pins σ H s) (e : H a = some (exo a C (some dx))) (ed : H dx = some (exd dx fs)) (hl : fs.length ≤ 900) (hno : PySem.W.findIn X.K (.ref C) f = some none) (ry : RelV y u)
    (h : ∀ s', Inv X pins σ (upd H dx (exd dx ((f, y) :: fs))) s' → Q () s') : wpAny (model X.prog X.w) A (setAttr (.ref a) f u) Q E s := by
  obtain ⟨B, newId, initId, bmB, FB, SF, hin, ho⟩ := T.cls
  obtain ⟨cd, hc, hd'⟩ := PySem.W.any_some T.hd
  obtain ⟨t1, hx⟩ := exo_at I.hok e
  obtain ⟨mA, hns, rel⟩ := exd_at I.hok ed
  have hw := within_of rel
  obtain ⟨hp, g, d, t, os⟩ := s
  obtain ⟨oD, _, _, hoD, _, _⟩ := hns.count hw
  have J : PySem.W.InstAt hp a { cls := .ref C, dict := some dx, data := .fields #[.ref t1, .none, .none, .none, .bool false, .none] } C (some oD) := ⟨hx, rfl, rfl, hoD⟩
  refine PySem.W.set_plain I.kIn J T.sa (PySem.W.osa_openX SF I.kIn J ho (by unfold PySem.W.takerIn; rw [hno]; rfl) fun b => ?_)
  refine wpAny_bind (wpAny_pure (wpAny_bind (wpAny_bind (wpAny_loadPart hx (wpAny_bind ((PySem.W.looks_clsIn I.kIn hc).at ?_))))))
  rw [hd']
  refine wpAny_pure (a := some dx) ?_
  refine PySem.OEX.store_in_old hns hw (by rw [List.length_map]; omega) fun h' tk' hn' hs => ?_
  exact h _ (I.write (t' := tk') (x := dx) (e := dx) (o := exd dx ((f, y) :: fs)) (by rw [ed]; exact True.intro) (.inl rfl) (fun b o hb ho => (hs.2 b hb).trans ho) (by obtain ⟨o, _, _, z, _⟩ := id hn'; exact ⟨o, z⟩) (exd_ok hn' (relO_put ry rel)))
theorem stx_new (T : ExK X.K C) (I : Inv X pins σ H s) (e : H a = some (exo a C none)) (hno : PySem.W.findIn X.K (.ref C) f = some none) (ry : RelV y u)
    (h : ∀ dx s', H dx = none → dx ≠ a → Inv X pins σ (upd (upd H dx (exd dx [(f, y)])) a (exo a C (some dx))) s' → Q () s') : wpAny (model X.prog X.w) A (setAttr (.ref a) f u) Q E s := by
  obtain ⟨B, newId, initId, bmB, FB, SF, hin, ho⟩ := T.cls
  obtain ⟨cd, hc, hd'⟩ := PySem.W.any_some T.hd
  obtain ⟨t1, hx⟩ := exo_at I.hok e
  obtain ⟨hp, g, d, t, os⟩ := s
  have J : PySem.W.InstAt hp a { cls := .ref C, dict := none, data := .fields #[.ref t1, .none, .none, .none, .bool false, .none] } C none := ⟨hx, rfl, rfl, trivial⟩
  refine PySem.W.set_plain I.kIn J T.sa (PySem.W.osa_openX SF I.kIn J ho (by unfold PySem.W.takerIn; rw [hno]; rfl) fun b => ?_)
  refine wpAny_bind (wpAny_pure (wpAny_bind (PySem.W.instanceDict_exc hx (PySem.W.looks_clsIn I.kIn hc) hd' ?_)))
  show wpAny _ _ (Builtin.ObjectAttr.storeInDict hp.objs.size _ _ _) _ _ _
  have hax : a < hp.objs.size := Heap.lt_size hx
  have nH : H hp.objs.size = none := I.hok.fresh (Nat.le_refl _)
  refine PySem.HandSPX.store_in_new (hp := (hp.push (PySem.W.dictOf [] 0)).update a fun o => { o with dict := some hp.objs.size }) ?_ fun h' tk' hn' hs => ?_
  · exact ⟨_, #[], _, (Heap.get?_update_ne _ _ _ _ (Nat.ne_of_gt hax)).trans (Heap.get?_push_at rfl rfl), rfl, fun e he => absurd he (by simp), fun _ => rfl⟩
  · have kp : ∀ b o, b ≠ a → hp.get? b = some o → h'.get? b = some o := fun b o hb ho => (hs.2 b (Nat.ne_of_lt (Heap.lt_size ho))).trans ((Heap.get?_update_ne _ _ _ _ hb).trans (Heap.get?_push_of_some _ ho))
    have hx' : h'.get? a = some { cls := .ref C, dict := some hp.objs.size, data := .fields #[.ref t1, .none, .none, .none, .bool false, .none] } :=
      (hs.2 a (Nat.ne_of_lt hax)).trans (Heap.get?_update_self _ (Heap.get?_push_of_some _ hx) rfl)
    have na : ∀ {b : Addr}, H b = none → b ≠ a := fun n z => by rw [z, e] at n; cases n
    have nd : ∀ {b : Addr} {o : Obj}, hp.get? b = some o → b ≠ hp.objs.size := fun q => Nat.ne_of_lt (Heap.lt_size q)
    refine h hp.objs.size _ nH (Nat.ne_of_gt hax) (I.un (t' := tk') ⟨fun b o q n _ _ => kp b o (na n) q, fun b o q n _ _ => ⟨o.slots, kp b o (na n) q⟩, fun b o q n _ => by rw [upd_ne (na n), upd_ne (nd q)]; exact n, fun b o q _ => ?_,
      fun b xs q => by rw [upd_ne (at_ne e q exo_tup), upd_ne (ne_of_none q nH)]; exact q, fun b o v q => by rw [upd_ne (at_ne e q exo_frz), upd_ne (ne_of_none q nH)]; exact q, fun b ps q => ⟨#[], by rw [upd_ne (at_ne e q exo_tbl), upd_ne (ne_of_none q nH), q]; simp⟩⟩ fun b o q => ?_)
    · by_cases hb : b = a
      · exact ⟨_, hb ▸ hx'⟩
      · exact ⟨o, kp b o hb q⟩
    · by_cases hb : b = a
      · subst hb
        rw [upd_same] at q
        cases q
        exact exo_ok hx'
      · rw [upd_ne hb] at q
        by_cases hd : b = hp.objs.size
        · subst hd
          rw [upd_same] at q
          cases q
          exact exd_ok hn' (relO_put (fs := []) ry fun g => True.intro)
        · rw [upd_ne hd] at q
          refine (I.hok b o q).stay (fun c v hc z => kp c v ?_ z) (fun c hc => ?_) fun c xs hc => ?_
          · rcases hc with hc | hc
            · exact hc ▸ hb
            · exact at_ne e hc exo_own
          · rw [upd_ne (at_ne e hc exo_own), upd_ne (ne_of_none hc nH)]; exact hc
          · rw [upd_ne (at_ne e hc exo_tup), upd_ne (ne_of_none hc nH)]; exact hc
end

/-- self.f = e, self an exception that is being made -/
def tStx (K : PySem.W.Frag) (f : Str) (to te : TE) : TS := fun D σ H => te σ H fun y H1 => to σ H1 fun x H2 => ∃ a C : Addr, x = .ref a ∧ ExK K C ∧ PySem.W.findIn K (.ref C) f = some none ∧
  ((H2 a = some (exo a C none) ∧ ∀ dx, H2 dx = none → dx ≠ a → D.nx σ (upd (upd H2 dx (exd dx [(f, y)])) a (exo a C (some dx)))) ∨ ∃ (dx : Addr) (fs : List (Str × V)), H2 a = some (exo a C (some dx)) ∧ H2 dx = some (exd dx fs) ∧ fs.length ≤ 900 ∧ D.nx σ (upd H2 dx (exd dx ((f, y) :: fs))))
/-- e.f, e an exception that stands -/
def tGex (K : PySem.W.Frag) (f : Str) (te : TE) : TE := fun σ H Q => te σ H fun x H1 => ∃ (a C d : Addr) (fs : List (Str × V)) (v : V), x = .ref a ∧ H1 a = some (exo a C (some d)) ∧ H1 d = some (exd d fs) ∧ ExK K C ∧ PySem.W.findIn K (.ref C) f = some none ∧ fs.lookup f = some v ∧ Q v H1
/-- C(..), the exception stands behind it -/
def tMkX (C : Addr) (sp : Sp) (ta : TA) : TE := fun σ H Q => ta σ H fun vs H1 => vs.length ≤ 1000 ∧ ∀ a, H1 a = none → sp (.ref a :: vs) (upd H1 a (exo a C none)) (fun v H2 => v = .non ∧ Q (.ref a) H2) (fun _ _ _ => False)
section
variable {X : Cx} {o e : Expr} {es : List Expr} {kws : List Keyword} {to te : TE} {ta tk : TA} {f x : Str} {p p' pos : Pos} {CX : CXT} {C fI : Addr} {k : Nat} {fd : FuncData} {ps ks : List Str} {sp : Sp} {g : List Value → List Value → List Value} {gV : List V → List V → List V}
theorem ps_stx (ho : PE X o to) (he : PE X e te) (hs : swapsWith e (some (.Attribute o f p')) pos.line X.env = pure false := by rfl) : PS X (.Assign [.Attribute o f p'] e pos) (tStx X.K f to te) := by
  refine ⟨fun pins s σ H D I h => plainObj_wpAny_Assign_Attribute (thn (he.run pins s σ H _ I h) fun v s1 ⟨y, H1, I1, r1, q1⟩ => thn (ho.run pins s1 σ H1 _ I1 q1) fun u s2 ⟨x, H2, I2, r2, a, C, ex, T, hno, q⟩ => ?_) hs⟩
  subst ex
  obtain rfl : u = Value.ref a := r2
  rcases q with ⟨ea, q⟩ | ⟨dx, fs, ea, ed, hl, q⟩
  · exact stx_new T I2 ea hno r1 fun dx s' n ne J => ⟨σ, _, J, q dx n ne⟩
  · exact stx_old T I2 ea ed hl hno r1 fun s' J => ⟨σ, _, J, q⟩
theorem pe_gex (he : PE X e te) (hb : attributeBase e f X.env (eval e X.env) = eval e X.env := by rfl) : PE X (.Attribute e f pos) (tGex X.K f te) := by
  refine ⟨fun pins s σ H Q I h => attr_of hb (thn (he.run pins s σ H _ I h) fun u s1 ⟨x, H1, I1, rx, a, C, d, fs, v, ex, ea, ed, T, hno, l, q⟩ => ?_)⟩
  subst ex
  obtain rfl : u = Value.ref a := rx
  obtain ⟨t1, hx⟩ := exo_at I1.hok ea
  obtain ⟨mA, hns, hr⟩ := exd_at I1.hok ed
  obtain ⟨od, ho, hl⟩ := lookIn_ns hns
  obtain ⟨u, hu, ru⟩ := RelO.some_of (v := v) (o := mA f) (by rw [← l]; exact hr f)
  have J : PySem.W.InstAt s1.heap a { cls := .ref C, dict := some d, data := .fields #[.ref t1, .none, .none, .none, .bool false, .none] } C (some od) := ⟨hx, rfl, rfl, ho⟩
  exact HandSPX.exc_get I1.kIn J T.ga T.gg T.exC (PySem.W.findObj_own T.hd hno rfl (by rw [hl, hu])) (handed_of ru) ⟨v, H1, I1.tok _, ru, q⟩
theorem run_mkx {pins : List (Addr × Obj)} {σ : L2.St} {H : Hp} {s : Shared} {Q : VK} {us us' : List Value} {kw : List (Str × Value)} {vs' : List V} (T : ExK X.K C) (iC : PySem.W.findIn X.K (.ref C) "__init__" = some (some (.ref fI))) (tI : PySem.W.typeIn X.K (.ref fI) = some (.type "function"))
    (F : FnOk X.prog X.w X.K X.mg X.base CX k fI fd ps sp) (hr : Room (k + 1) X.A) (hx : Passes CX X (fun _ _ _ => False)) (I : Inv X pins σ H s) (hl : us.length ≤ sizeLine)
    (hb : ∀ s' : Shared, X.K.In s'.heap → BindsTo s' fd ⟨.ref (s.heap.objs.size + 1) :: us, kw⟩ (ps.zip us')) (r : Vals vs' us') (h : ∀ a, H a = none → a = s.heap.objs.size + 1 → sp vs' (upd H a (exo a C none)) (fun v H2 => v = .non ∧ Q (.ref a) H2) (fun _ _ _ => False)) :
    wpAny (model X.prog X.w) X.A (call (.ref C) us kw) (EP X pins σ Q) X.xe s := by
  obtain ⟨B, newId, initId, bmB, FB, SF, hin, ho⟩ := T.cls
  obtain ⟨hp, g, dr, tk, os⟩ := s
  have hsz : hp.objs.size ≤ hp.objs.size + 1 := Nat.le_succ _
  obtain ⟨nm, N, qn, bs, bm, hdct, sn, sub, ab, col, dd, k0, k1, k2, k3, k5, hC, hT⟩ := PySem.W.excInit_of I.kIn hin
  have hq := h (hp.objs.size + 1) (I.hok.fresh hsz) rfl
  have I2 : Inv X pins σ (upd H (hp.objs.size + 1) (exo (hp.objs.size + 1) C none)) ⟨mkHeap hp C us, g, dr, tk, os⟩ := I.laid (t' := tk) (a := hp.objs.size + 1) (o := exo (hp.objs.size + 1) C none) (h' := mkHeap hp C us) mk_keep hsz (exo_ok mk_at)
  refine wpAny_call (run_call FB hT hC (PySem.W.looks_findIn I.kIn iC) (fun self => PySem.W.bind_fn I.kIn self tI) hl (codeAny_mono (F.run _ X.stack _ _ ⟨Value.ref (hp.objs.size + 1) :: us, kw⟩ us' _ _ (fun _ _ _ => False) (hr.make C us kw) (I2.env0.make C us kw) (hb _ I2.kIn) r hq) fun r s' hq' => ?_))
  cases r with
  | error er => exact hx pins σ _ _ er s' I2 hq'
  | ok fl =>
    cases fl with
    | ret u =>
      obtain ⟨v, H', I3, rv, ev, q3⟩ := I2.after hq'
      subst ev
      exact ⟨rv, ⟨V.ref (hp.objs.size + 1), H', I3, rfl, q3⟩⟩
    | next => exact False.elim hq'
    | brk => exact False.elim hq'
    | cont => exact False.elim hq'
/-- C(e, ..) -/
theorem pe_mkx (T : ExK X.K C) (iC : PySem.W.findIn X.K (.ref C) "__init__" = some (some (.ref fI))) (tI : PySem.W.typeIn X.K (.ref fI) = some (.type "function")) (F : FnOk X.prog X.w X.K X.mg X.base CX k fI fd ps sp) (hr : Room (k + 1) X.A) (hb : Binds X.K fd ps []) (hx : Passes CX X (fun _ _ _ => False))
    (hg : Gl X x) (hm : X.mg x = some (.ref C)) (ha : PA X (e :: es) ta) (hlen : ∀ vs H Q E, sp vs H Q E → vs.length = ps.length) (hdb : (x == ("__debug__" : Str)) = false := by decide) (he : starEach (e :: es) X.env = (false, eval e X.env) :: starEach es X.env := by rfl) (hpl : (backTo pos (starEach es X.env)).any (·.1) = false := by rfl) :
    PE X (.Call (.Name x p) (e :: es) [] pos) (tMkX C sp ta) := by
  refine ⟨fun pins s σ H Q I h => wpAny_Call_Name_kw (ld_glob I hg hm (PySem.W.callWith_K (h₀ := X.base) I.ok.mod.kin T.kC (thn (ha.run pos pins s σ H _ I h) fun us s1 ⟨vs, H1, I1, r1, hz, q1⟩ => ⟨I1.kIn, ?_⟩) he hpl) hdb)⟩
  have el := Paired.length r1
  have hl : us.length ≤ sizeLine := by rw [← el, sizeLine_eq]; omega
  have r2 : Vals (V.ref (s1.heap.objs.size + 1) :: vs) (Value.ref (s1.heap.objs.size + 1) :: us) := .cons rfl r1
  show wpAny _ _ (call (.ref C) us) _ _ _
  refine run_mkx T iC tI F hr hx I1 hl (us' := Value.ref (s1.heap.objs.size + 1) :: us) (fun s' X' => ?_) r2 (fun a hn ea => by subst ea; exact q1 _ hn)
  have z := hb s' (Value.ref (s1.heap.objs.size + 1) :: us) X' (by
    rw [List.append_nil, ← r2.length]
    exact hlen _ _ _ _ (q1 (s1.heap.objs.size + 1) (I1.hok.fresh (Nat.le_succ _))))
  rw [List.append_nil] at z
  exact z
/-- C() -/
theorem pe_mkx0 (T : ExK X.K C) (iC : PySem.W.findIn X.K (.ref C) "__init__" = some (some (.ref fI))) (tI : PySem.W.typeIn X.K (.ref fI) = some (.type "function")) (F : FnOk X.prog X.w X.K X.mg X.base CX k fI fd ps sp) (hr : Room (k + 1) X.A) (hb : Binds X.K fd ps []) (hx : Passes CX X (fun _ _ _ => False))
    (hg : Gl X x) (hm : X.mg x = some (.ref C)) (hlen : ps.length = 1) (hdb : (x == ("__debug__" : Str)) = false := by decide) : PE X (.Call (.Name x p) [] [] pos) (tMkX C sp tNil) := by
  refine ⟨fun pins s σ H Q I h => wpAny_Call_Name_kw (ld_glob I hg hm (PySem.W.callWith_K0 I.kIn T.kC ?_) hdb)⟩
  obtain ⟨_, q1⟩ := h
  show wpAny _ _ (call (.ref C) []) _ _ _
  refine run_mkx (us := []) T iC tI F hr hx I (by decide) (vs' := [V.ref (s.heap.objs.size + 1)]) (us' := [Value.ref (s.heap.objs.size + 1)]) (fun s' X' => ?_) (.cons rfl .nil) (fun a hn ea => by subst ea; exact q1 _ hn)
  have z := hb s' [Value.ref (s.heap.objs.size + 1)] X' (by rw [hlen]; rfl)
  exact z
/-- C(k = v) -/
theorem pe_mkxK (T : ExK X.K C) (iC : PySem.W.findIn X.K (.ref C) "__init__" = some (some (.ref fI))) (tI : PySem.W.typeIn X.K (.ref fI) = some (.type "function")) (F : FnOk X.prog X.w X.K X.mg X.base CX k fI fd ps sp) (hr : Room (k + 1) X.A) (hb : KBn X.K fd ps 1 ks (fun us ws => us ++ ws) (fun vs zs => vs ++ zs)) (hx : Passes CX X (fun _ _ _ => False))
    (hg : Gl X x) (hm : X.mg x = some (.ref C)) (hkw : PK X kws tk) (hlen : ∀ vs H Q E, sp vs H Q E → vs.length = ks.length + 1) (hall : (backToKw pos (keywordEach kws X.env)).all (·.1.isSome) = true := by rfl) (hks : (backToKw pos (keywordEach kws X.env)).filterMap (·.1) = ks := by rfl) (hdb : (x == ("__debug__" : Str)) = false := by decide)
    (hpl : ((backTo pos (starEach [] X.env)).any (·.1) || (backToKw pos (keywordEach kws X.env)).any (·.1.isNone)) = false := by rfl) : PE X (.Call (.Name x p) [] kws pos) (tMkX C sp tk) := by
  refine ⟨fun pins s σ H Q I h => wpAny_Call_Name_kw (ld_glob I hg hm (PySem.W.callWith_KW0 (h₀ := X.base) I.ok.mod.kin T.kC hall (thn (hkw.run pos pins s σ H _ I h) fun ws s2 ⟨zs, H2, I2, rz, hz, q2⟩ => ⟨I2.kIn, ?_⟩) hpl) hdb)⟩
  rw [hks]
  have el : zs.length = ks.length := by
    have z := hlen _ _ _ _ (q2 (s2.heap.objs.size + 1) (I2.hok.fresh (Nat.le_succ _)))
    exact Nat.succ.inj z
  show wpAny _ _ (call (.ref C) [] (ks.zip ws)) _ _ _
  exact run_mkx (us := []) (kw := ks.zip ws) T iC tI F hr hx I2 (Nat.zero_le _) (vs' := V.ref (s2.heap.objs.size + 1) :: zs) (us' := Value.ref (s2.heap.objs.size + 1) :: ws) (fun s' X' => hb.to s' [Value.ref (s2.heap.objs.size + 1)] ws X' rfl (rz.length.symm.trans el)) (.cons rfl rz) (fun a hn ea => by subst ea; exact q2 _ hn)
end

/-- what isinstance asks of the class of an exception -/
structure ExI (K : PySem.W.Frag) (C : Addr) : Prop where
  cc : PySem.W.findIn K (.ref C) "__class__" = some (some (.builtin "object.__class__"))
  gn : PySem.W.specialIn K (.builtin "object.__class__") "__get__" = some (some (.builtin "getset_descriptor.__get__"))
  tk : PySem.W.takesIn K (.builtin "object.__class__") = some true
  mo : PySem.W.mroIn K C (.type "object") = some true
/-- isinstance(e, c), e an exception that stands -/
def rIsX (K : PySem.W.Frag) : List V → Hp → VK → Prop := fun xs H Q => ∃ (a C d : Addr) (fs : List (Str × V)) (c : V) (u : Value) (b : Bool), xs = [.ref a, c] ∧ H a = some (exo a C (some d)) ∧ H d = some (exd d fs) ∧ ExK K C ∧ ExI K C ∧ ClsV c u ∧ PySem.W.kitOne K (.ref C) u = some b ∧ Q (.bl b) H
theorem call_isX {X : Cx} : CallR X (.builtin "isinstance") (rIsX X.K) := by
  intro pins s σ H xs us Q I r h
  obtain ⟨a, C, d, fs, c, u, b, rfl, ha, hd, T, TI, k, e, q⟩ := h
  obtain ⟨u1, u2, rfl, r1, r2⟩ := vals2 r
  have e2 := k.eq r2
  subst e2
  cases (show u1 = Value.ref a from r1)
  obtain ⟨t1, hx⟩ := exo_at I.hok ha
  obtain ⟨mA, hns, hr⟩ := exd_at I.hok hd
  obtain ⟨od, ho, hl⟩ := lookIn_ns hns
  obtain ⟨cd, hc, _⟩ := PySem.W.any_some T.hd
  have J : PySem.W.InstAt s.heap a { cls := .ref C, dict := some d, data := .fields #[.ref t1, .none, .none, .none, .bool false, .none] } C (some od) := ⟨hx, rfl, rfl, ho⟩
  exact PySem.W.kia_one (PySem.W.kitx_exc (by rw [hc]; rfl) T.ga T.gg T.exC TI.cc TI.gn TI.tk TI.mo) I.kIn J e (fun z => nomatch z) fun tk => ⟨.bl b, H, I.tok tk, rfl, q⟩
end Own

namespace Own
open PySem L2
abbrev sCopied : Stmt := top 1
/-! what stands in H' and not in H; without D -/
def newr (H H' : Hp) : Hp := fun b => match H b with | none => H' b | some _ => none
def cut (D : Addr) (G : Hp) : Hp := fun b => if b = D then none else G b
theorem newr_at {H H' : Hp} {b : Addr} (h : H b = none) : newr H H' b = H' b := by unfold newr; rw [h]
theorem newr_some {H H' : Hp} {b : Addr} {o : HO} (h : newr H H' b = some o) : H b = none ∧ H' b = some o := by
  unfold newr at h
  cases e : H b with
  | none => rw [e] at h; exact ⟨rfl, h⟩
  | some u => rw [e] at h; cases h
theorem newr_mono {H H1 H2 : Hp} (e : Same H1 H2) : Same (newr H H1) (newr H H2) := fun b o h => by
  obtain ⟨h1, h2⟩ := newr_some h
  rw [newr_at h1]; exact e _ _ h2
theorem newr_old {H H1 H2 : Hp} (e : Same H H1) : Same (newr H1 H2) (newr H H2) := fun b o h => by
  obtain ⟨h1, h2⟩ := newr_some h
  rw [newr_at (e.free h1)]; exact h2
theorem newr_in {H H' : Hp} : Same (newr H H') H' := fun _ _ h => (newr_some h).2
theorem cut_in {D : Addr} {G : Hp} : Same (cut D G) G := fun b o h => by
  unfold cut at h
  split at h
  · cases h
  · exact h
theorem cut_mono {D : Addr} {G G' : Hp} (e : Same G G') : Same (cut D G) (cut D G') := fun b o h => by
  unfold cut at h ⊢
  split at h
  · cases h
  · rename_i n; rw [if_neg n]; exact e _ _ h
theorem cut_step {H H3 H4 : Hp} {D : Addr} {o : HO} (e : Same H H3) (hD : H3 D = some o) : Same (newr H3 H4) (cut D (newr H H4)) := fun b u h => by
  obtain ⟨h1, h2⟩ := newr_some h
  unfold cut
  rw [if_neg (fun z => by rw [z, hD] at h1; cases h1), newr_at (e.free h1)]
  exact h2
theorem cut_upd {H H4 : Hp} {D : Addr} {o : HO} : Same (cut D (newr H H4)) (cut D (newr H (upd H4 D o))) := fun b u h => by
  unfold cut at h ⊢
  split at h
  · cases h
  · rename_i n
    obtain ⟨h1, h2⟩ := newr_some h
    rw [if_neg n, newr_at h1, upd_ne n]; exact h2
theorem dpAll_snoc {K : PySem.W.Frag} {H : Hp} {d : PyData} {v : V} : ∀ (ds : List PyData) (vs : List V), DpAll K H vs ds → Dp K H v d → DpAll K H (vs ++ [v]) (ds ++ [d])
  | [], vs, h, k => by cases h; exact .cons k .nil
  | e :: ds, vs, h, k => by
    cases h with
    | cons h1 h2 => exact .cons h1 (dpAll_snoc ds _ h2 k)
def spCopied (K : PySem.W.Frag) (n : Nat) : Sp := fun vs H Q _ => ∃ (x : V) (d : PyData) (m : Nat), vs = [x] ∧ Dp K H x d ∧ n = m + 1 ∧ Shal m d ∧ ∀ H' y, Same H H' → Dp K (newr H H') y d → Q y H'
section
variable {P : Program} {w : World} {K : PySem.W.Frag} {mg : Str → Option Value} {base : Heap}
theorem scCopied : FnScope ["value", "item"] ["value"] (defScope sCopied) := ⟨rfl, rfl, rfl, by decide +kernel, rfl, by decide +kernel, by decide +kernel⟩
theorem ok_copied_step {n : Nat} {f : Addr} {fd : FuncData} (F : Fun K "copied" "copied" sCopied f fd) (G : FnOk P w K mg base CX0 n f fd ["value"] (spCopied K n)) (mC : mg "copied" = some (.ref f)) (bC : Binds K fd ["value"] []) (B : Blt mg) :
    FnOk P w K mg base CX0 (n + 1) f fd ["value"] (spCopied K (n + 1)) := by
  refine F.ok scCopied (fun vs H Q E h => ?_) (fun cdv A outer s H vs Q E hr h => ?_)
  · obtain ⟨x, d, m, rfl, _⟩ := h
    rfl
  · obtain ⟨x, d, m, rfl, hx, hnm, hs, k⟩ := h
    obtain rfl : n = m := Nat.succ.inj hnm
    refine ⟨_, pss_cons (ps_if (pt_val (pe_callB call_isi (by rfl) B.isi (by decide +kernel) (pa_cons (pv 0) (pa_cons (pe_bltn (v := .ty "list") (by rfl) B.list (by decide +kernel) rfl) pa_nil))))
        (pss_one (ps_ret (pe_lc (own := [("item", 1)]) (g := gName 1) (tt := tYes) rfl scCopied.nd (pi_list (pv 0)) (blkOk_by (N := ["value", "item"]) (sc := defScope sCopied) (by decide +kernel)) (fun _ _ _ _ _ => pg_name (i := 1) scCopied.nd rfl (Or.inl rfl)) (fun _ _ _ _ _ => pts_nil)
          (fun _ _ _ _ _ => pe_call G (hr.mono (by omega)) rfl mC F.kp bC .nil pass0 (pa_cons (pv 1) pa_nil))))) pss_nil)
      (pss_cons (ps_if (pt_val (pe_callB call_isi (by rfl) B.isi (by decide +kernel) (pa_cons (pv 0) (pa_cons (pe_bltn (v := .ty "tuple") (by rfl) B.tuple (by decide +kernel) rfl) pa_nil))))
        (pss_one (ps_ret (pe_callTy call_tuple_of (by rfl) B.tuple (by decide +kernel) (pa_cons (pe_lc (own := [("item", 1)]) (g := gName 1) (tt := tYes) rfl scCopied.nd (pi_tup (pv 0)) (blkOk_by (N := ["value", "item"]) (sc := defScope sCopied) (by decide +kernel)) (fun _ _ _ _ _ => pg_name (i := 1) scCopied.nd rfl (Or.inl rfl)) (fun _ _ _ _ _ => pts_nil)
          (fun _ _ _ _ _ => pe_call G (hr.mono (by omega)) rfl mC F.kp bC .nil pass0 (pa_cons (pv 1) pa_nil))) pa_nil)))) pss_nil)
      (pss_one (ps_ret (pv 0)))), ?_⟩
    cases hs with
    | non =>
      cases hx
      exact ⟨_, rfl, _, _, .type "NoneType", .type "list", false, rfl, .ty _, .base .non, kit_ty (by decide +kernel), false, rfl, iteF ⟨_, rfl, _, _, .type "NoneType", .type "tuple", false, rfl, .ty _, .base .non, kit_ty (by decide +kernel), false, rfl, iteF ⟨_, rfl, k _ _ (Same.refl _) .non⟩⟩⟩
    | bl b =>
      cases hx
      exact ⟨_, rfl, _, _, .type "bool", .type "list", false, rfl, .ty _, .base (.bl b), kit_ty (by decide +kernel), false, rfl, iteF ⟨_, rfl, _, _, .type "bool", .type "tuple", false, rfl, .ty _, .base (.bl b), kit_ty (by decide +kernel), false, rfl, iteF ⟨_, rfl, k _ _ (Same.refl _) (.bl b)⟩⟩⟩
    | int i =>
      cases hx
      exact ⟨_, rfl, _, _, .type "int", .type "list", false, rfl, .ty _, .base (.int i), kit_ty (by decide +kernel), false, rfl, iteF ⟨_, rfl, _, _, .type "int", .type "tuple", false, rfl, .ty _, .base (.int i), kit_ty (by decide +kernel), false, rfl, iteF ⟨_, rfl, k _ _ (Same.refl _) (.int i)⟩⟩⟩
    | str z =>
      cases hx
      exact ⟨_, rfl, _, _, .type "str", .type "list", false, rfl, .ty _, .base (.str z), kit_ty (by decide +kernel), false, rfl, iteF ⟨_, rfl, _, _, .type "str", .type "tuple", false, rfl, .ty _, .base (.str z), kit_ty (by decide +kernel), false, rfl, iteF ⟨_, rfl, k _ _ (Same.refl _) (.str z)⟩⟩⟩
    | lst h l =>
      cases hx with
      | lst h1 h2 =>
      rename_i ds a xs
      have ex := dpAll_len _ _ h2
      refine ⟨_, rfl, _, _, .type "list", .type "list", true, rfl, .ty _, sqL_ty h1, kit_ty (by decide +kernel), true, rfl, iteT ?_⟩
      refine ⟨_, rfl, a, rfl, ⟨_, h1⟩, fun D hD => lc_list (K := K) (a := a) (xs := xs) (fun i H' => Same H H' ∧ ∃ ys, H' D = some (.lst ys) ∧ ys.length = i ∧ DpAll K (cut D (newr H H')) ys (ds.take i)) ⟨(Same.refl _).new hD, [], upd_same, rfl, .nil⟩ (fun i H' _ q => q.1.seq h1) ?_ ?_⟩
      · rintro i y H' hi ⟨s1, ys, hD1, hyl, hys⟩
        obtain ⟨e, he, de⟩ := dpAll_get _ _ _ _ h2 hi
        have hil : i < ds.length := (List.getElem?_eq_some_iff.mp he).1
        refine ⟨rfl, ⟨_, rfl, y, e, _, rfl, dp_same s1 _ _ de, rfl, h e (List.mem_of_getElem? he), fun H2 z e2 dz => ⟨ys, e2 _ _ hD1, ?_, (s1.trans e2).own hD, ys ++ [z], upd_same, by rw [List.length_append, hyl]; rfl, ?_⟩⟩⟩
        · rw [hyl]; exact Nat.lt_of_lt_of_le (Nat.lt_of_lt_of_le hil l) (by decide)
        · rw [List.take_add_one, he]
          exact dpAll_snoc _ _ (dpAll_same ((cut_mono (newr_mono e2)).trans cut_upd) _ _ hys) (dp_same ((cut_step s1 hD1).trans cut_upd) _ _ dz)
      · rintro H' ⟨s1, ys, hD1, hyl, hys⟩
        rw [ex, List.take_length] at hys
        exact k _ _ s1 (.lst (SqL.of (by rw [newr_at hD]; exact hD1)) (dpAll_same cut_in _ _ hys))
    | tup h l =>
      cases hx with
      | tup h1 h2 =>
      rename_i ds a xs
      have ex := dpAll_len _ _ h2
      refine ⟨_, rfl, _, _, .type "tuple", .type "list", false, rfl, .ty _, sqT_ty h1, kit_ty (by decide +kernel), false, rfl, iteF ?_⟩
      refine ⟨_, rfl, _, _, .type "tuple", .type "tuple", true, rfl, .ty _, sqT_ty h1, kit_ty (by decide +kernel), true, rfl, iteT ?_⟩
      refine ⟨_, rfl, a, rfl, ⟨_, h1⟩, fun D hD => lc_tup (K := K) (a := a) (xs := xs) (fun i H' => Same H H' ∧ ∃ ys, H' D = some (.lst ys) ∧ ys.length = i ∧ DpAll K (cut D (newr H H')) ys (ds.take i)) ⟨(Same.refl _).new hD, [], upd_same, rfl, .nil⟩ (fun i H' _ q => same_t q.1 h1) ?_ ?_⟩
      · rintro i y H' hi ⟨s1, ys, hD1, hyl, hys⟩
        obtain ⟨e, he, de⟩ := dpAll_get _ _ _ _ h2 hi
        have hil : i < ds.length := (List.getElem?_eq_some_iff.mp he).1
        refine ⟨rfl, ⟨_, rfl, y, e, _, rfl, dp_same s1 _ _ de, rfl, h e (List.mem_of_getElem? he), fun H2 z e2 dz => ⟨ys, e2 _ _ hD1, ?_, (s1.trans e2).own hD, ys ++ [z], upd_same, by rw [List.length_append, hyl]; rfl, ?_⟩⟩⟩
        · rw [hyl]; exact Nat.lt_of_lt_of_le (Nat.lt_of_lt_of_le hil l) (by decide)
        · rw [List.take_add_one, he]
          exact dpAll_snoc _ _ (dpAll_same ((cut_mono (newr_mono e2)).trans cut_upd) _ _ hys) (dp_same ((cut_step s1 hD1).trans cut_upd) _ _ dz)
      · rintro H' ⟨s1, ys, hD1, hyl, hys⟩
        rw [ex, List.take_length] at hys
        refine ⟨D, ys, rfl, .inl ⟨SqL.of hD1, fun T hT => k _ _ (s1.new hT) (.tup (SqT.of (by rw [newr_at (s1.free hT)]; exact upd_same)) (dpAll_same (cut_in.trans (newr_mono ((Same.refl _).new hT))) _ _ hys))⟩⟩
theorem ok_copied {f : Addr} {fd : FuncData} (F : Fun K "copied" "copied" sCopied f fd) (mC : mg "copied" = some (.ref f)) (bC : Binds K fd ["value"] []) (B : Blt mg) : ∀ n, FnOk P w K mg base CX0 n f fd ["value"] (spCopied K n)
  | 0 => by
    have no : ∀ vs H Q E, ¬ spCopied K 0 vs H Q E := fun vs H Q E ⟨x, d, m, _, _, h, _⟩ => by omega
    exact ⟨fun vs H Q E h => absurd h (no vs H Q E), fun A outer s H args us vs Q E _ _ _ _ h => absurd h (no vs H Q E)⟩
  | n + 1 => ok_copied_step F (ok_copied F mC bC B n) mC bC B
end
end Own

namespace Own
open PySem L2
/-- X(e): an exception of the class at C, its code, its attribute -/
def spInit1 (K : PySem.W.Frag) (C : Addr) (cname attr : Str) : Sp := fun vs H Q _ => ∃ (a : Addr) (H1 : Hp) (x : V) (d : PyData), vs = [.ref a, x] ∧ H1 a = none ∧ H = upd H1 a (exo a C none) ∧ Dp K H1 x d ∧ Shal 2 d ∧ ∀ (H' : Hp) (dd : Addr) (y : V), Same H1 H' → H' a = some (exo a C (some dd)) → H' dd = some (exd dd [(attr, y), ("code", .str cname)]) → Dp K H' y d → Q .non H'
def spInit0 (C : Addr) (cname : Str) : Sp := fun vs H Q _ => ∃ (a : Addr) (H1 : Hp), vs = [.ref a] ∧ H1 a = none ∧ H = upd H1 a (exo a C none) ∧ ∀ (H' : Hp) (dd : Addr), Same H1 H' → H' a = some (exo a C (some dd)) → H' dd = some (exd dd [("code", .str cname)]) → Q .non H'
theorem init_read1 {K : PySem.W.Frag} {C : Addr} {cname attr : Str} {N : List Str} {vs : List V} {H : Hp} {Q : VK} {E : XK} (T : ExK K C) (n1 : PySem.W.findIn K (.ref C) "code" = some none) (n2 : PySem.W.findIn K (.ref C) attr = some none) (h : spInit1 K C cname attr vs H Q E) (hN : N.length = 2) :
    tSeq (tStx K "code" (tVar 0) (tC (.str cname))) (tStx K attr (tVar 0) (tCall (spCopied K 3) [] E0 (tCons (tVar 1) tNil))) { nx := fun _ H' => Q .non H', rt := Q } (start N vs) H := by
  obtain ⟨a, H1, x, d, rfl, ha, rfl, hx, hs, k⟩ := h
  obtain ⟨n, m, rfl⟩ : ∃ n m, N = [n, m] := match N, hN with | [n, m], _ => ⟨n, m, rfl⟩
  refine ⟨_, rfl, a, C, rfl, T, n1, .inl ⟨upd_same, fun dd hd hne => ?_⟩⟩
  have hd1 : H1 dd = none := by rw [upd_ne hne] at hd; exact hd
  have s1 : Same H1 (upd (upd (upd H1 a (exo a C none)) dd (exd dd [("code", .str cname)])) a (exo a C (some dd))) := fun b o e => by
    rw [upd_ne (ne_of_none e ha), upd_ne (ne_of_none e hd1), upd_ne (ne_of_none e ha)]; exact e
  have e1 : (upd (upd (upd H1 a (exo a C none)) dd (exd dd [("code", .str cname)])) a (exo a C (some dd))) a = some (exo a C (some dd)) := upd_same
  have e2 : (upd (upd (upd H1 a (exo a C none)) dd (exd dd [("code", .str cname)])) a (exo a C (some dd))) dd = some (exd dd [("code", .str cname)]) := by rw [upd_ne hne]; exact upd_same
  generalize upd (upd (upd H1 a (exo a C none)) dd (exd dd [("code", .str cname)])) a (exo a C (some dd)) = H2 at s1 e1 e2 ⊢
  refine ⟨_, rfl, x, d, _, rfl, dp_same s1 _ _ hx, rfl, hs, fun H3 y e3 hy => ⟨_, rfl, a, C, rfl, T, n2, .inr ⟨dd, _, e3 _ _ e1, e3 _ _ e2, (by show 1 ≤ 900; decide), ?_⟩⟩⟩
  refine k _ dd y ((s1.trans e3).own hd1) (by rw [upd_ne hne.symm]; exact e3 _ _ e1) upd_same (dp_same (fun b o q => ?_) _ _ hy)
  obtain ⟨q1, q2⟩ := newr_some q
  rw [upd_ne (fun z => by rw [z, e2] at q1; cases q1)]
  exact q2
theorem init_read0 {K : PySem.W.Frag} {C : Addr} {cname : Str} {N : List Str} {vs : List V} {H : Hp} {Q : VK} {E : XK} (T : ExK K C) (n1 : PySem.W.findIn K (.ref C) "code" = some none) (h : spInit0 C cname vs H Q E) (hN : N.length = 1) :
    tStx K "code" (tVar 0) (tC (.str cname)) { nx := fun _ H' => Q .non H', rt := Q } (start N vs) H := by
  obtain ⟨a, H1, rfl, ha, rfl, k⟩ := h
  obtain ⟨n, rfl⟩ : ∃ n, N = [n] := match N, hN with | [n], _ => ⟨n, rfl⟩
  refine ⟨_, rfl, a, C, rfl, T, n1, .inl ⟨upd_same, fun dd hd hne => ?_⟩⟩
  have hd1 : H1 dd = none := by rw [upd_ne hne] at hd; exact hd
  refine k _ dd (fun b o e => ?_) upd_same (by rw [upd_ne hne]; exact upd_same)
  rw [upd_ne (ne_of_none e ha), upd_ne (ne_of_none e hd1), upd_ne (ne_of_none e ha)]; exact e
section
variable {P : Program} {w : World} {K : PySem.W.Frag} {mg : Str → Option Value} {base : Heap}
abbrev sI0 : Stmt := inClass (top 5) 0
theorem scI0 : FnScope ["self", "given"] ["self", "given"] (defScope sI0) := ⟨rfl, rfl, rfl, by decide +kernel, rfl, by decide +kernel, by decide +kernel⟩
theorem ok_i0 {f fC C : Addr} {fd fdC : FuncData} (F : Fun K "__init__" "WrongCount.__init__" sI0 f fd) (G : FnOk P w K mg base CX0 3 fC fdC ["value"] (spCopied K 3)) (mC : mg "copied" = some (.ref fC)) (kC : PySem.W.keepIn K (.ref fC) = true) (bC : Binds K fdC ["value"] []) (T : ExK K C) (n1 : PySem.W.findIn K (.ref C) "code" = some none) (n2 : PySem.W.findIn K (.ref C) "given" = some none) :
    FnOk P w K mg base CX0 4 f fd ["self", "given"] (spInit1 K C "WrongCount" "given") :=
  F.ok scI0 (fun vs H Q E ⟨a, H1, x, d, e, _⟩ => by rw [e]; rfl) (fun cdv A outer s H vs Q E hr h => ⟨_, pss_cons (ps_stx (pv 0) pe_str) (pss_one (ps_stx (pv 0) (pe_call G hr rfl mC kC bC .nil pass0 (pa_cons (pv 1) pa_nil)))), init_read1 T n1 n2 h rfl⟩)
abbrev sI1 : Stmt := inClass (top 6) 0
theorem scI1 : FnScope ["self", "given"] ["self", "given"] (defScope sI1) := ⟨rfl, rfl, rfl, by decide +kernel, rfl, by decide +kernel, by decide +kernel⟩
theorem ok_i1 {f fC C : Addr} {fd fdC : FuncData} (F : Fun K "__init__" "InvalidNumber.__init__" sI1 f fd) (G : FnOk P w K mg base CX0 3 fC fdC ["value"] (spCopied K 3)) (mC : mg "copied" = some (.ref fC)) (kC : PySem.W.keepIn K (.ref fC) = true) (bC : Binds K fdC ["value"] []) (T : ExK K C) (n1 : PySem.W.findIn K (.ref C) "code" = some none) (n2 : PySem.W.findIn K (.ref C) "given" = some none) :
    FnOk P w K mg base CX0 4 f fd ["self", "given"] (spInit1 K C "InvalidNumber" "given") :=
  F.ok scI1 (fun vs H Q E ⟨a, H1, x, d, e, _⟩ => by rw [e]; rfl) (fun cdv A outer s H vs Q E hr h => ⟨_, pss_cons (ps_stx (pv 0) pe_str) (pss_one (ps_stx (pv 0) (pe_call G hr rfl mC kC bC .nil pass0 (pa_cons (pv 1) pa_nil)))), init_read1 T n1 n2 h rfl⟩)
abbrev sI2 : Stmt := inClass (top 7) 0
theorem scI2 : FnScope ["self", "given"] ["self", "given"] (defScope sI2) := ⟨rfl, rfl, rfl, by decide +kernel, rfl, by decide +kernel, by decide +kernel⟩
theorem ok_i2 {f fC C : Addr} {fd fdC : FuncData} (F : Fun K "__init__" "InvalidWord.__init__" sI2 f fd) (G : FnOk P w K mg base CX0 3 fC fdC ["value"] (spCopied K 3)) (mC : mg "copied" = some (.ref fC)) (kC : PySem.W.keepIn K (.ref fC) = true) (bC : Binds K fdC ["value"] []) (T : ExK K C) (n1 : PySem.W.findIn K (.ref C) "code" = some none) (n2 : PySem.W.findIn K (.ref C) "given" = some none) :
    FnOk P w K mg base CX0 4 f fd ["self", "given"] (spInit1 K C "InvalidWord" "given") :=
  F.ok scI2 (fun vs H Q E ⟨a, H1, x, d, e, _⟩ => by rw [e]; rfl) (fun cdv A outer s H vs Q E hr h => ⟨_, pss_cons (ps_stx (pv 0) pe_str) (pss_one (ps_stx (pv 0) (pe_call G hr rfl mC kC bC .nil pass0 (pa_cons (pv 1) pa_nil)))), init_read1 T n1 n2 h rfl⟩)
abbrev sI3 : Stmt := inClass (top 8) 0
theorem scI3 : FnScope ["self", "given"] ["self", "given"] (defScope sI3) := ⟨rfl, rfl, rfl, by decide +kernel, rfl, by decide +kernel, by decide +kernel⟩
theorem ok_i3 {f fC C : Addr} {fd fdC : FuncData} (F : Fun K "__init__" "InvalidPoint.__init__" sI3 f fd) (G : FnOk P w K mg base CX0 3 fC fdC ["value"] (spCopied K 3)) (mC : mg "copied" = some (.ref fC)) (kC : PySem.W.keepIn K (.ref fC) = true) (bC : Binds K fdC ["value"] []) (T : ExK K C) (n1 : PySem.W.findIn K (.ref C) "code" = some none) (n2 : PySem.W.findIn K (.ref C) "given" = some none) :
    FnOk P w K mg base CX0 4 f fd ["self", "given"] (spInit1 K C "InvalidPoint" "given") :=
  F.ok scI3 (fun vs H Q E ⟨a, H1, x, d, e, _⟩ => by rw [e]; rfl) (fun cdv A outer s H vs Q E hr h => ⟨_, pss_cons (ps_stx (pv 0) pe_str) (pss_one (ps_stx (pv 0) (pe_call G hr rfl mC kC bC .nil pass0 (pa_cons (pv 1) pa_nil)))), init_read1 T n1 n2 h rfl⟩)
abbrev sI4 : Stmt := inClass (top 9) 0
theorem scI4 : FnScope ["self", "name"] ["self", "name"] (defScope sI4) := ⟨rfl, rfl, rfl, by decide +kernel, rfl, by decide +kernel, by decide +kernel⟩
theorem ok_i4 {f fC C : Addr} {fd fdC : FuncData} (F : Fun K "__init__" "InvalidField.__init__" sI4 f fd) (G : FnOk P w K mg base CX0 3 fC fdC ["value"] (spCopied K 3)) (mC : mg "copied" = some (.ref fC)) (kC : PySem.W.keepIn K (.ref fC) = true) (bC : Binds K fdC ["value"] []) (T : ExK K C) (n1 : PySem.W.findIn K (.ref C) "code" = some none) (n2 : PySem.W.findIn K (.ref C) "name" = some none) :
    FnOk P w K mg base CX0 4 f fd ["self", "name"] (spInit1 K C "InvalidField" "name") :=
  F.ok scI4 (fun vs H Q E ⟨a, H1, x, d, e, _⟩ => by rw [e]; rfl) (fun cdv A outer s H vs Q E hr h => ⟨_, pss_cons (ps_stx (pv 0) pe_str) (pss_one (ps_stx (pv 0) (pe_call G hr rfl mC kC bC .nil pass0 (pa_cons (pv 1) pa_nil)))), init_read1 T n1 n2 h rfl⟩)
abbrev sI5 : Stmt := inClass (top 10) 0
theorem scI5 : FnScope ["self", "at"] ["self", "at"] (defScope sI5) := ⟨rfl, rfl, rfl, by decide +kernel, rfl, by decide +kernel, by decide +kernel⟩
theorem ok_i5 {f fC C : Addr} {fd fdC : FuncData} (F : Fun K "__init__" "InvalidText.__init__" sI5 f fd) (G : FnOk P w K mg base CX0 3 fC fdC ["value"] (spCopied K 3)) (mC : mg "copied" = some (.ref fC)) (kC : PySem.W.keepIn K (.ref fC) = true) (bC : Binds K fdC ["value"] []) (T : ExK K C) (n1 : PySem.W.findIn K (.ref C) "code" = some none) (n2 : PySem.W.findIn K (.ref C) "at" = some none) :
    FnOk P w K mg base CX0 4 f fd ["self", "at"] (spInit1 K C "InvalidText" "at") :=
  F.ok scI5 (fun vs H Q E ⟨a, H1, x, d, e, _⟩ => by rw [e]; rfl) (fun cdv A outer s H vs Q E hr h => ⟨_, pss_cons (ps_stx (pv 0) pe_str) (pss_one (ps_stx (pv 0) (pe_call G hr rfl mC kC bC .nil pass0 (pa_cons (pv 1) pa_nil)))), init_read1 T n1 n2 h rfl⟩)
abbrev sI6 : Stmt := inClass (top 11) 0
theorem scI6 : FnScope ["self", "at"] ["self", "at"] (defScope sI6) := ⟨rfl, rfl, rfl, by decide +kernel, rfl, by decide +kernel, by decide +kernel⟩
theorem ok_i6 {f fC C : Addr} {fd fdC : FuncData} (F : Fun K "__init__" "InvalidDeed.__init__" sI6 f fd) (G : FnOk P w K mg base CX0 3 fC fdC ["value"] (spCopied K 3)) (mC : mg "copied" = some (.ref fC)) (kC : PySem.W.keepIn K (.ref fC) = true) (bC : Binds K fdC ["value"] []) (T : ExK K C) (n1 : PySem.W.findIn K (.ref C) "code" = some none) (n2 : PySem.W.findIn K (.ref C) "at" = some none) :
    FnOk P w K mg base CX0 4 f fd ["self", "at"] (spInit1 K C "InvalidDeed" "at") :=
  F.ok scI6 (fun vs H Q E ⟨a, H1, x, d, e, _⟩ => by rw [e]; rfl) (fun cdv A outer s H vs Q E hr h => ⟨_, pss_cons (ps_stx (pv 0) pe_str) (pss_one (ps_stx (pv 0) (pe_call G hr rfl mC kC bC .nil pass0 (pa_cons (pv 1) pa_nil)))), init_read1 T n1 n2 h rfl⟩)
abbrev sI7 : Stmt := inClass (top 12) 0
theorem scI7 : FnScope ["self", "at"] ["self", "at"] (defScope sI7) := ⟨rfl, rfl, rfl, by decide +kernel, rfl, by decide +kernel, by decide +kernel⟩
theorem ok_i7 {f fC C : Addr} {fd fdC : FuncData} (F : Fun K "__init__" "NotNow.__init__" sI7 f fd) (G : FnOk P w K mg base CX0 3 fC fdC ["value"] (spCopied K 3)) (mC : mg "copied" = some (.ref fC)) (kC : PySem.W.keepIn K (.ref fC) = true) (bC : Binds K fdC ["value"] []) (T : ExK K C) (n1 : PySem.W.findIn K (.ref C) "code" = some none) (n2 : PySem.W.findIn K (.ref C) "at" = some none) :
    FnOk P w K mg base CX0 4 f fd ["self", "at"] (spInit1 K C "NotNow" "at") :=
  F.ok scI7 (fun vs H Q E ⟨a, H1, x, d, e, _⟩ => by rw [e]; rfl) (fun cdv A outer s H vs Q E hr h => ⟨_, pss_cons (ps_stx (pv 0) pe_str) (pss_one (ps_stx (pv 0) (pe_call G hr rfl mC kC bC .nil pass0 (pa_cons (pv 1) pa_nil)))), init_read1 T n1 n2 h rfl⟩)
abbrev sI8 : Stmt := inClass (top 13) 0
theorem scI8 : FnScope ["self", "given"] ["self", "given"] (defScope sI8) := ⟨rfl, rfl, rfl, by decide +kernel, rfl, by decide +kernel, by decide +kernel⟩
theorem ok_i8 {f fC C : Addr} {fd fdC : FuncData} (F : Fun K "__init__" "InvalidChute.__init__" sI8 f fd) (G : FnOk P w K mg base CX0 3 fC fdC ["value"] (spCopied K 3)) (mC : mg "copied" = some (.ref fC)) (kC : PySem.W.keepIn K (.ref fC) = true) (bC : Binds K fdC ["value"] []) (T : ExK K C) (n1 : PySem.W.findIn K (.ref C) "code" = some none) (n2 : PySem.W.findIn K (.ref C) "given" = some none) :
    FnOk P w K mg base CX0 4 f fd ["self", "given"] (spInit1 K C "InvalidChute" "given") :=
  F.ok scI8 (fun vs H Q E ⟨a, H1, x, d, e, _⟩ => by rw [e]; rfl) (fun cdv A outer s H vs Q E hr h => ⟨_, pss_cons (ps_stx (pv 0) pe_str) (pss_one (ps_stx (pv 0) (pe_call G hr rfl mC kC bC .nil pass0 (pa_cons (pv 1) pa_nil)))), init_read1 T n1 n2 h rfl⟩)
abbrev sI9 : Stmt := inClass (top 14) 0
theorem scI9 : FnScope ["self", "at"] ["self", "at"] (defScope sI9) := ⟨rfl, rfl, rfl, by decide +kernel, rfl, by decide +kernel, by decide +kernel⟩
theorem ok_i9 {f fC C : Addr} {fd fdC : FuncData} (F : Fun K "__init__" "InvalidOffer.__init__" sI9 f fd) (G : FnOk P w K mg base CX0 3 fC fdC ["value"] (spCopied K 3)) (mC : mg "copied" = some (.ref fC)) (kC : PySem.W.keepIn K (.ref fC) = true) (bC : Binds K fdC ["value"] []) (T : ExK K C) (n1 : PySem.W.findIn K (.ref C) "code" = some none) (n2 : PySem.W.findIn K (.ref C) "at" = some none) :
    FnOk P w K mg base CX0 4 f fd ["self", "at"] (spInit1 K C "InvalidOffer" "at") :=
  F.ok scI9 (fun vs H Q E ⟨a, H1, x, d, e, _⟩ => by rw [e]; rfl) (fun cdv A outer s H vs Q E hr h => ⟨_, pss_cons (ps_stx (pv 0) pe_str) (pss_one (ps_stx (pv 0) (pe_call G hr rfl mC kC bC .nil pass0 (pa_cons (pv 1) pa_nil)))), init_read1 T n1 n2 h rfl⟩)
abbrev sI10 : Stmt := inClass (top 15) 0
theorem scI10 : FnScope ["self"] ["self"] (defScope sI10) := ⟨rfl, rfl, rfl, by decide +kernel, rfl, by decide +kernel, by decide +kernel⟩
theorem ok_i10 {f C : Addr} {fd : FuncData} (F : Fun K "__init__" "Unlike.__init__" sI10 f fd) (T : ExK K C) (n1 : PySem.W.findIn K (.ref C) "code" = some none) : FnOk P w K mg base CX0 4 f fd ["self"] (spInit0 C "Unlike") :=
  F.ok scI10 (fun vs H Q E ⟨a, H1, e, _⟩ => by rw [e]; rfl) (fun cdv A outer s H vs Q E hr h => ⟨_, pss_one (ps_stx (pv 0) pe_str), init_read0 T n1 h rfl⟩)
abbrev sI11 : Stmt := inClass (top 16) 0
theorem scI11 : FnScope ["self", "most"] ["self", "most"] (defScope sI11) := ⟨rfl, rfl, rfl, by decide +kernel, rfl, by decide +kernel, by decide +kernel⟩
theorem ok_i11 {f fC C : Addr} {fd fdC : FuncData} (F : Fun K "__init__" "TooMany.__init__" sI11 f fd) (G : FnOk P w K mg base CX0 3 fC fdC ["value"] (spCopied K 3)) (mC : mg "copied" = some (.ref fC)) (kC : PySem.W.keepIn K (.ref fC) = true) (bC : Binds K fdC ["value"] []) (T : ExK K C) (n1 : PySem.W.findIn K (.ref C) "code" = some none) (n2 : PySem.W.findIn K (.ref C) "most" = some none) :
    FnOk P w K mg base CX0 4 f fd ["self", "most"] (spInit1 K C "TooMany" "most") :=
  F.ok scI11 (fun vs H Q E ⟨a, H1, x, d, e, _⟩ => by rw [e]; rfl) (fun cdv A outer s H vs Q E hr h => ⟨_, pss_cons (ps_stx (pv 0) pe_str) (pss_one (ps_stx (pv 0) (pe_call G hr rfl mC kC bC .nil pass0 (pa_cons (pv 1) pa_nil)))), init_read1 T n1 n2 h rfl⟩)
abbrev sI12 : Stmt := inClass (top 17) 0
theorem scI12 : FnScope ["self", "given"] ["self", "given"] (defScope sI12) := ⟨rfl, rfl, rfl, by decide +kernel, rfl, by decide +kernel, by decide +kernel⟩
theorem ok_i12 {f fC C : Addr} {fd fdC : FuncData} (F : Fun K "__init__" "InvalidName.__init__" sI12 f fd) (G : FnOk P w K mg base CX0 3 fC fdC ["value"] (spCopied K 3)) (mC : mg "copied" = some (.ref fC)) (kC : PySem.W.keepIn K (.ref fC) = true) (bC : Binds K fdC ["value"] []) (T : ExK K C) (n1 : PySem.W.findIn K (.ref C) "code" = some none) (n2 : PySem.W.findIn K (.ref C) "given" = some none) :
    FnOk P w K mg base CX0 4 f fd ["self", "given"] (spInit1 K C "InvalidName" "given") :=
  F.ok scI12 (fun vs H Q E ⟨a, H1, x, d, e, _⟩ => by rw [e]; rfl) (fun cdv A outer s H vs Q E hr h => ⟨_, pss_cons (ps_stx (pv 0) pe_str) (pss_one (ps_stx (pv 0) (pe_call G hr rfl mC kC bC .nil pass0 (pa_cons (pv 1) pa_nil)))), init_read1 T n1 n2 h rfl⟩)
abbrev sI13 : Stmt := inClass (top 18) 0
theorem scI13 : FnScope ["self", "name"] ["self", "name"] (defScope sI13) := ⟨rfl, rfl, rfl, by decide +kernel, rfl, by decide +kernel, by decide +kernel⟩
theorem ok_i13 {f fC C : Addr} {fd fdC : FuncData} (F : Fun K "__init__" "DuplicateName.__init__" sI13 f fd) (G : FnOk P w K mg base CX0 3 fC fdC ["value"] (spCopied K 3)) (mC : mg "copied" = some (.ref fC)) (kC : PySem.W.keepIn K (.ref fC) = true) (bC : Binds K fdC ["value"] []) (T : ExK K C) (n1 : PySem.W.findIn K (.ref C) "code" = some none) (n2 : PySem.W.findIn K (.ref C) "name" = some none) :
    FnOk P w K mg base CX0 4 f fd ["self", "name"] (spInit1 K C "DuplicateName" "name") :=
  F.ok scI13 (fun vs H Q E ⟨a, H1, x, d, e, _⟩ => by rw [e]; rfl) (fun cdv A outer s H vs Q E hr h => ⟨_, pss_cons (ps_stx (pv 0) pe_str) (pss_one (ps_stx (pv 0) (pe_call G hr rfl mC kC bC .nil pass0 (pa_cons (pv 1) pa_nil)))), init_read1 T n1 n2 h rfl⟩)
abbrev sI14 : Stmt := inClass (top 19) 0
theorem scI14 : FnScope ["self", "most"] ["self", "most"] (defScope sI14) := ⟨rfl, rfl, rfl, by decide +kernel, rfl, by decide +kernel, by decide +kernel⟩
theorem ok_i14 {f fC C : Addr} {fd fdC : FuncData} (F : Fun K "__init__" "Full.__init__" sI14 f fd) (G : FnOk P w K mg base CX0 3 fC fdC ["value"] (spCopied K 3)) (mC : mg "copied" = some (.ref fC)) (kC : PySem.W.keepIn K (.ref fC) = true) (bC : Binds K fdC ["value"] []) (T : ExK K C) (n1 : PySem.W.findIn K (.ref C) "code" = some none) (n2 : PySem.W.findIn K (.ref C) "most" = some none) :
    FnOk P w K mg base CX0 4 f fd ["self", "most"] (spInit1 K C "Full" "most") :=
  F.ok scI14 (fun vs H Q E ⟨a, H1, x, d, e, _⟩ => by rw [e]; rfl) (fun cdv A outer s H vs Q E hr h => ⟨_, pss_cons (ps_stx (pv 0) pe_str) (pss_one (ps_stx (pv 0) (pe_call G hr rfl mC kC bC .nil pass0 (pa_cons (pv 1) pa_nil)))), init_read1 T n1 n2 h rfl⟩)
abbrev sI15 : Stmt := inClass (top 20) 0
theorem scI15 : FnScope ["self", "given"] ["self", "given"] (defScope sI15) := ⟨rfl, rfl, rfl, by decide +kernel, rfl, by decide +kernel, by decide +kernel⟩
theorem ok_i15 {f fC C : Addr} {fd fdC : FuncData} (F : Fun K "__init__" "InvalidLimit.__init__" sI15 f fd) (G : FnOk P w K mg base CX0 3 fC fdC ["value"] (spCopied K 3)) (mC : mg "copied" = some (.ref fC)) (kC : PySem.W.keepIn K (.ref fC) = true) (bC : Binds K fdC ["value"] []) (T : ExK K C) (n1 : PySem.W.findIn K (.ref C) "code" = some none) (n2 : PySem.W.findIn K (.ref C) "given" = some none) :
    FnOk P w K mg base CX0 4 f fd ["self", "given"] (spInit1 K C "InvalidLimit" "given") :=
  F.ok scI15 (fun vs H Q E ⟨a, H1, x, d, e, _⟩ => by rw [e]; rfl) (fun cdv A outer s H vs Q E hr h => ⟨_, pss_cons (ps_stx (pv 0) pe_str) (pss_one (ps_stx (pv 0) (pe_call G hr rfl mC kC bC .nil pass0 (pa_cons (pv 1) pa_nil)))), init_read1 T n1 n2 h rfl⟩)
abbrev sI16 : Stmt := inClass (top 21) 0
theorem scI16 : FnScope ["self", "at"] ["self", "at"] (defScope sI16) := ⟨rfl, rfl, rfl, by decide +kernel, rfl, by decide +kernel, by decide +kernel⟩
theorem ok_i16 {f fC C : Addr} {fd fdC : FuncData} (F : Fun K "__init__" "InvalidCommand.__init__" sI16 f fd) (G : FnOk P w K mg base CX0 3 fC fdC ["value"] (spCopied K 3)) (mC : mg "copied" = some (.ref fC)) (kC : PySem.W.keepIn K (.ref fC) = true) (bC : Binds K fdC ["value"] []) (T : ExK K C) (n1 : PySem.W.findIn K (.ref C) "code" = some none) (n2 : PySem.W.findIn K (.ref C) "at" = some none) :
    FnOk P w K mg base CX0 4 f fd ["self", "at"] (spInit1 K C "InvalidCommand" "at") :=
  F.ok scI16 (fun vs H Q E ⟨a, H1, x, d, e, _⟩ => by rw [e]; rfl) (fun cdv A outer s H vs Q E hr h => ⟨_, pss_cons (ps_stx (pv 0) pe_str) (pss_one (ps_stx (pv 0) (pe_call G hr rfl mC kC bC .nil pass0 (pa_cons (pv 1) pa_nil)))), init_read1 T n1 n2 h rfl⟩)
abbrev sI17 : Stmt := inClass (top 22) 0
theorem scI17 : FnScope ["self", "at"] ["self", "at"] (defScope sI17) := ⟨rfl, rfl, rfl, by decide +kernel, rfl, by decide +kernel, by decide +kernel⟩
theorem ok_i17 {f fC C : Addr} {fd fdC : FuncData} (F : Fun K "__init__" "InvalidPage.__init__" sI17 f fd) (G : FnOk P w K mg base CX0 3 fC fdC ["value"] (spCopied K 3)) (mC : mg "copied" = some (.ref fC)) (kC : PySem.W.keepIn K (.ref fC) = true) (bC : Binds K fdC ["value"] []) (T : ExK K C) (n1 : PySem.W.findIn K (.ref C) "code" = some none) (n2 : PySem.W.findIn K (.ref C) "at" = some none) :
    FnOk P w K mg base CX0 4 f fd ["self", "at"] (spInit1 K C "InvalidPage" "at") :=
  F.ok scI17 (fun vs H Q E ⟨a, H1, x, d, e, _⟩ => by rw [e]; rfl) (fun cdv A outer s H vs Q E hr h => ⟨_, pss_cons (ps_stx (pv 0) pe_str) (pss_one (ps_stx (pv 0) (pe_call G hr rfl mC kC bC .nil pass0 (pa_cons (pv 1) pa_nil)))), init_read1 T n1 n2 h rfl⟩)
abbrev sI18 : Stmt := inClass (top 23) 0
theorem scI18 : FnScope ["self", "name"] ["self", "name"] (defScope sI18) := ⟨rfl, rfl, rfl, by decide +kernel, rfl, by decide +kernel, by decide +kernel⟩
theorem ok_i18 {f fC C : Addr} {fd fdC : FuncData} (F : Fun K "__init__" "UnknownName.__init__" sI18 f fd) (G : FnOk P w K mg base CX0 3 fC fdC ["value"] (spCopied K 3)) (mC : mg "copied" = some (.ref fC)) (kC : PySem.W.keepIn K (.ref fC) = true) (bC : Binds K fdC ["value"] []) (T : ExK K C) (n1 : PySem.W.findIn K (.ref C) "code" = some none) (n2 : PySem.W.findIn K (.ref C) "name" = some none) :
    FnOk P w K mg base CX0 4 f fd ["self", "name"] (spInit1 K C "UnknownName" "name") :=
  F.ok scI18 (fun vs H Q E ⟨a, H1, x, d, e, _⟩ => by rw [e]; rfl) (fun cdv A outer s H vs Q E hr h => ⟨_, pss_cons (ps_stx (pv 0) pe_str) (pss_one (ps_stx (pv 0) (pe_call G hr rfl mC kC bC .nil pass0 (pa_cons (pv 1) pa_nil)))), init_read1 T n1 n2 h rfl⟩)
abbrev sI19 : Stmt := inClass (top 24) 0
theorem scI19 : FnScope ["self"] ["self"] (defScope sI19) := ⟨rfl, rfl, rfl, by decide +kernel, rfl, by decide +kernel, by decide +kernel⟩
theorem ok_i19 {f C : Addr} {fd : FuncData} (F : Fun K "__init__" "NothingLeft.__init__" sI19 f fd) (T : ExK K C) (n1 : PySem.W.findIn K (.ref C) "code" = some none) : FnOk P w K mg base CX0 4 f fd ["self"] (spInit0 C "NothingLeft") :=
  F.ok scI19 (fun vs H Q E ⟨a, H1, e, _⟩ => by rw [e]; rfl) (fun cdv A outer s H vs Q E hr h => ⟨_, pss_one (ps_stx (pv 0) pe_str), init_read0 T n1 h rfl⟩)
end
end Own

namespace Own
open PySem L2
abbrev sField : Stmt := top 30
abbrev sFirst : Stmt := top 31
abbrev sLate : Stmt := top 32
/-! what evaluates to a value with a property that stays -/
def Stab (P : V → Hp → Prop) : Prop := ∀ v H H', Same H H' → P v H → P v H'
def EvP (te : TE) (σ : L2.St) (H0 : Hp) (P : V → Hp → Prop) : Prop := ∀ H, Same H0 H → ∀ Q : VK, (∀ v H', Same H H' → P v H' → Q v H') → te σ H Q
inductive AllP (H : Hp) : List (V → Hp → Prop) → List V → Prop where
  | nil : AllP H [] []
  | cons {P Ps v vs} (h : P v H) (t : AllP H Ps vs) : AllP H (P :: Ps) (v :: vs)
def EvPs (ta : TA) (σ : L2.St) (H0 : Hp) (Ps : List (V → Hp → Prop)) : Prop := ∀ H, Same H0 H → ∀ Q : List V → Hp → Prop, (∀ vs H', Same H H' → AllP H' Ps vs → Q vs H') → ta σ H Q
theorem AllP.len {H : Hp} : ∀ {Ps vs}, AllP H Ps vs → vs.length = Ps.length
  | _, _, .nil => rfl
  | _, _, .cons _ t => by rw [List.length_cons, List.length_cons, t.len]
theorem AllP.app {H : Hp} : ∀ {Ps vs Ps' vs'}, AllP H Ps vs → AllP H Ps' vs' → AllP H (Ps ++ Ps') (vs ++ vs')
  | _, _, _, _, .nil, k => k
  | _, _, _, _, .cons h t, k => .cons h (t.app k)
theorem AllP.get {H : Hp} : ∀ {Ps vs}, AllP H Ps vs → ∀ (i : Nat) (v : V), vs[i]? = some v → ∃ P, Ps[i]? = some P ∧ P v H
  | _, _, .nil, i, v, e => by cases e
  | _, _, .cons h t, 0, v, e => by cases e; exact ⟨_, rfl, h⟩
  | _, _, .cons h t, i + 1, v, e => t.get i v e
def StabAll (Ps : List (V → Hp → Prop)) : Prop := ∀ P, P ∈ Ps → Stab P
theorem AllP.same {H H' : Hp} (e : Same H H') : ∀ {Ps vs}, StabAll Ps → AllP H Ps vs → AllP H' Ps vs
  | _, _, _, .nil => .nil
  | _, _, st, .cons h t => .cons (st _ List.mem_cons_self _ _ _ e h) (t.same e fun P m => st P (List.mem_cons_of_mem _ m))
theorem evps_nil {σ : L2.St} {H0 : Hp} : EvPs tNil σ H0 [] := fun H _ Q q => q [] H (Same.refl _) .nil
theorem evps_cons {σ : L2.St} {H0 : Hp} {te : TE} {ta : TA} {P : V → Hp → Prop} {Ps : List (V → Hp → Prop)} (s : Stab P) (h : EvP te σ H0 P) (t : EvPs ta σ H0 Ps) : EvPs (tCons te ta) σ H0 (P :: Ps) := fun H e Q q =>
  h H e _ fun v H1 e1 p => t H1 (e.trans e1) _ fun vs H2 e2 a => q (v :: vs) H2 (e1.trans e2) (.cons (s _ _ _ e2 p) a)
theorem evp_lst {σ : L2.St} {H0 : Hp} {ta : TA} {Ps : List (V → Hp → Prop)} (h : EvPs ta σ H0 Ps) (hl : Ps.length ≤ 1000) (st : StabAll Ps) : EvP (tLst ta) σ H0 (fun v H => ∃ l vs, v = .ref l ∧ H l = some (.lst vs) ∧ AllP H Ps vs) := fun H e Q q =>
  h H e _ fun vs H1 e1 a => ⟨Nat.le_trans (by rw [a.len]; exact hl) (by decide), fun l hl => q _ _ (e1.new hl) ⟨l, vs, rfl, upd_same, a.same ((Same.refl _).new hl) st⟩⟩
/-- an exception of the class at C: its code, its attribute -/
def IsErr (K : PySem.W.Frag) (C : Addr) (cname : Str) (attr : Option Str) (d : PyData) (v : V) (H : Hp) : Prop := ∃ (a dd : Addr) (fs : List (Str × V)), v = .ref a ∧ H a = some (exo a C (some dd)) ∧ H dd = some (exd dd fs) ∧ fs.lookup ("code" : Str) = some (.str cname) ∧ ∀ p, attr = some p → ∃ y, fs.lookup p = some y ∧ Dp K H y d
theorem isErr_stab {K : PySem.W.Frag} {C : Addr} {cname : Str} {attr : Option Str} {d : PyData} : Stab (IsErr K C cname attr d) := fun v H H' e ⟨a, dd, fs, h1, h2, h3, h4, h5⟩ =>
  ⟨a, dd, fs, h1, e _ _ h2, e _ _ h3, h4, fun p hp => let ⟨y, y1, y2⟩ := h5 p hp; ⟨y, y1, dp_same e _ _ y2⟩⟩
/-- all that is asked of a class to make its exceptions -/
structure ErrK (P : Program) (w : World) (K : PySem.W.Frag) (mg : Str → Option Value) (base : Heap) (cname attr : Str) (C : Addr) : Prop where
  T : ExK K C
  at_ : mg cname = some (.ref C)
  run : ∃ (fI : Addr) (fd : FuncData), PySem.W.findIn K (.ref C) "__init__" = some (some (.ref fI)) ∧ PySem.W.typeIn K (.ref fI) = some (.type "function") ∧ FnOk P w K mg base CX0 4 fI fd ["self", attr] (spInit1 K C cname attr) ∧ Binds K fd ["self", attr] [] ∧ KBn K fd ["self", attr] 1 [attr] (fun us ws => us ++ ws) (fun vs zs => vs ++ zs)
structure ErrK0 (P : Program) (w : World) (K : PySem.W.Frag) (mg : Str → Option Value) (base : Heap) (cname : Str) (C : Addr) : Prop where
  T : ExK K C
  at_ : mg cname = some (.ref C)
  run : ∃ (fI : Addr) (fd : FuncData), PySem.W.findIn K (.ref C) "__init__" = some (some (.ref fI)) ∧ PySem.W.typeIn K (.ref fI) = some (.type "function") ∧ FnOk P w K mg base CX0 4 fI fd ["self"] (spInit0 C cname) ∧ Binds K fd ["self"] []
section
variable {P : Program} {w : World} {K : PySem.W.Frag} {mg : Str → Option Value} {base : Heap}
theorem evp_mk {σ : L2.St} {H0 : Hp} {C : Addr} {cname attr : Str} {x : V} {d : PyData} (ne : attr ≠ "code") (hσ : σ[0]? = some (some x)) (hx : Dp K H0 x d) (hs : Shal 2 d) : EvP (tMkX C (spInit1 K C cname attr) (tCons (tVar 0) tNil)) σ H0 (IsErr K C cname (some attr) d) := fun H e Q q =>
  ⟨x, hσ, (by show 1 ≤ 1000; decide), fun a ha => ⟨a, H, x, d, rfl, ha, rfl, dp_same e _ _ hx, hs, fun H' dd y s1 h1 h2 hy => ⟨rfl, q _ _ s1 ⟨a, dd, _, rfl, h1, h2, by rw [lookup_put, if_neg (fun z => ne z.symm), lookup_put, if_pos rfl], fun p hp => by cases hp; exact ⟨y, by rw [lookup_put, if_pos rfl], hy⟩⟩⟩⟩⟩
theorem evp_mk0 {σ : L2.St} {H0 : Hp} {C : Addr} {cname : Str} {d : PyData} : EvP (tMkX C (spInit0 C cname) tNil) σ H0 (IsErr K C cname none d) := fun H e Q q =>
  ⟨(by show 0 ≤ 1000; decide), fun a ha => ⟨a, H, rfl, ha, rfl, fun H' dd s1 h1 h2 => ⟨rfl, q _ _ s1 ⟨a, dd, _, rfl, h1, h2, by rw [lookup_put, if_pos rfl], fun p hp => by cases hp⟩⟩⟩⟩
end
end Own

namespace Own
open PySem L2
def tbl : List (Str × Option Str) := [("WrongCount", some ("given" : Str)), ("InvalidNumber", some ("given" : Str)), ("InvalidWord", some ("given" : Str)), ("InvalidPoint", some ("given" : Str)), ("InvalidField", some ("name" : Str)), ("InvalidText", some ("at" : Str)), ("InvalidDeed", some ("at" : Str)), ("NotNow", some ("at" : Str)), ("InvalidChute", some ("given" : Str)), ("InvalidOffer", some ("at" : Str)), ("Unlike", none), ("TooMany", some ("most" : Str)), ("InvalidName", some ("given" : Str)), ("DuplicateName", some ("name" : Str)), ("Full", some ("most" : Str)), ("InvalidLimit", some ("given" : Str)), ("InvalidCommand", some ("at" : Str)), ("InvalidPage", some ("at" : Str)), ("UnknownName", some ("name" : Str)), ("NothingLeft", none)]
def grp1 : List V := [.str "WrongCount", .str "InvalidNumber", .str "InvalidWord", .str "InvalidPoint", .str "InvalidChute", .str "InvalidName", .str "InvalidLimit"]
def grp2 : List V := [.str "InvalidText", .str "InvalidDeed", .str "NotNow", .str "InvalidOffer", .str "InvalidCommand", .str "InvalidPage"]
def grp3 : List V := [.str "InvalidField", .str "DuplicateName", .str "UnknownName"]
def grp4 : List V := [.str "TooMany", .str "Full"]
def chk (p : Str × Option Str) : Bool := bif inV (.str p.1) grp1 then decide (p.2 = some ("given" : Str)) else bif inV (.str p.1) grp2 then decide (p.2 = some ("at" : Str)) else bif inV (.str p.1) grp3 then decide (p.2 = some ("name" : Str)) else bif inV (.str p.1) grp4 then decide (p.2 = some ("most" : Str)) else decide (p.2 = none)
theorem tbl_chk : tbl.all chk = true := by decide +kernel
theorem tbl_facts (p : Str × Option Str) (hp : p ∈ tbl) : (inV (.str p.1) grp1 = true → p.2 = some ("given" : Str)) ∧ (inV (.str p.1) grp1 = false → inV (.str p.1) grp2 = true → p.2 = some ("at" : Str)) ∧ (inV (.str p.1) grp1 = false → inV (.str p.1) grp2 = false → inV (.str p.1) grp3 = true → p.2 = some ("name" : Str)) ∧
    (inV (.str p.1) grp1 = false → inV (.str p.1) grp2 = false → inV (.str p.1) grp3 = false → inV (.str p.1) grp4 = true → p.2 = some ("most" : Str)) ∧ (inV (.str p.1) grp1 = false → inV (.str p.1) grp2 = false → inV (.str p.1) grp3 = false → inV (.str p.1) grp4 = false → p.2 = none) := by
  have h := List.all_eq_true.mp tbl_chk p hp
  unfold chk at h
  refine ⟨fun b => ?_, fun b c => ?_, fun b c e => ?_, fun b c e g => ?_, fun b c e g => ?_⟩
  · rw [b] at h; exact of_decide_eq_true h
  · rw [b, c] at h; exact of_decide_eq_true h
  · rw [b, c, e] at h; exact of_decide_eq_true h
  · rw [b, c, e, g] at h; exact of_decide_eq_true h
  · rw [b, c, e, g] at h; exact of_decide_eq_true h
def spField (K : PySem.W.Frag) : Sp := fun vs H Q _ => ∃ (v : V) (C : Addr) (cname : Str) (attr : Option Str) (d : PyData), vs = [v] ∧ IsErr K C cname attr d v H ∧ (cname, attr) ∈ tbl ∧ ExK K C ∧ PySem.W.findIn K (.ref C) "code" = some none ∧ (∀ p, attr = some p → PySem.W.findIn K (.ref C) p = some none) ∧
  ∀ (H' : Hp) (T : Addr), Same H H' → Dp K H' (.ref T) (.tuple (if attr = none then [] else [d])) → Q (.ref T) H'
section
variable {P : Program} {w : World} {K : PySem.W.Frag} {mg : Str → Option Value} {base : Heap}
theorem scField : FnScope ["_law_e"] ["_law_e"] (defScope sField) := ⟨rfl, rfl, rfl, by decide +kernel, rfl, by decide +kernel, by decide +kernel⟩
/-- e.code in (..) -/
theorem code_in {σ : L2.St} {H : Hp} {C : Addr} {cname : Str} {attr : Option Str} {d : PyData} {v : V} {ta : TA} {xs : List V} {R : Bool → Hp → Prop} (h0 : σ[0]? = some (some v)) (hv : IsErr K C cname attr d v H) (T : ExK K C) (nc : PySem.W.findIn K (.ref C) "code" = some none)
    (hl : xs.length ≤ 1000) (hf : xs.all flatV = true) (ht : ∀ (H : Hp) (Q : List V → Hp → Prop), Q xs H → ta σ H Q) (k : ∀ H', Same H H' → IsErr K C cname attr d v H' → R (inV (.str cname) xs) H') :
    tTest (tOp (rIn K false) (tGex K "code" (tVar 0)) (tTup ta)) σ H R := by
  obtain ⟨a, dd, fs, rfl, h2, h3, h4, h5⟩ := id hv
  exact ⟨_, h0, a, C, dd, fs, _, rfl, h2, h3, T, nc, h4, ht _ _ ⟨Nat.le_trans hl (by decide), fun t ht => ⟨t, xs, rfl, .inr (SqT.of upd_same), rfl, hf, _, rfl, k _ ((Same.refl _).new ht) (isErr_stab _ _ _ ((Same.refl _).new ht) hv)⟩⟩⟩
theorem field_tup {σ : L2.St} {H : Hp} {C : Addr} {cname p : Str} {d : PyData} {v : V} {Q : VK} (h0 : σ[0]? = some (some v)) (hv : IsErr K C cname (some p) d v H) (T : ExK K C) (np : PySem.W.findIn K (.ref C) p = some none)
    (k : ∀ (H' : Hp) (T : Addr), Same H H' → Dp K H' (.ref T) (.tuple [d]) → Q (.ref T) H') : tTup (tCons (tGex K p (tVar 0)) tNil) σ H Q := by
  obtain ⟨a, dd, fs, rfl, h2, h3, h4, h5⟩ := id hv
  obtain ⟨y, y1, y2⟩ := h5 p rfl
  exact ⟨_, h0, a, C, dd, fs, _, rfl, h2, h3, T, np, y1, (by show 1 ≤ sizeLine; decide), fun t ht => k _ t ((Same.refl _).new ht) (.tup (SqT.of upd_same) (.cons (dp_same ((Same.refl _).new ht) _ _ y2) .nil))⟩
theorem ok_field {f : Addr} {fd : FuncData} (F : Fun K "_law_field" "_law_field" sField f fd) : FnOk P w K mg base CX0 1 f fd ["_law_e"] (spField K) := by
  refine F.ok scField (fun vs H Q E h => ?_) (fun cdv A outer s H vs Q E hr h => ?_)
  · obtain ⟨v, C, cname, attr, d, rfl, _⟩ := h
    rfl
  · obtain ⟨v, C, cname, attr, d, rfl, hv, ht, T, nc, np, k⟩ := h
    refine ⟨_, pss_cons (ps_if (pt_cmpR op_in_seq (pe_gex (pv 0)) (pe_tup (pa_cons pe_str (pa_cons pe_str (pa_cons pe_str (pa_cons pe_str (pa_cons pe_str (pa_cons pe_str (pa_cons pe_str pa_nil)))))))) (by rfl)) (pss_one (ps_ret (pe_tup (pa_cons (pe_gex (pv 0)) pa_nil)))) pss_nil)
      (pss_cons (ps_if (pt_cmpR op_in_seq (pe_gex (pv 0)) (pe_tup (pa_cons pe_str (pa_cons pe_str (pa_cons pe_str (pa_cons pe_str (pa_cons pe_str (pa_cons pe_str pa_nil))))))) (by rfl)) (pss_one (ps_ret (pe_tup (pa_cons (pe_gex (pv 0)) pa_nil)))) pss_nil)
      (pss_cons (ps_if (pt_cmpR op_in_seq (pe_gex (pv 0)) (pe_tup (pa_cons pe_str (pa_cons pe_str (pa_cons pe_str pa_nil)))) (by rfl)) (pss_one (ps_ret (pe_tup (pa_cons (pe_gex (pv 0)) pa_nil)))) pss_nil)
      (pss_one (ps_ret (pe_ifExp (pt_cmpR op_in_seq (pe_gex (pv 0)) (pe_tup (pa_cons pe_str (pa_cons pe_str pa_nil))) (by rfl)) (pe_tup (pa_cons (pe_gex (pv 0)) pa_nil)) (pe_tup pa_nil)))))), ?_⟩
    obtain ⟨f1, f2, f3, f4, f5⟩ := tbl_facts _ ht
    refine code_in (xs := grp1) (attr := attr) (d := d) rfl hv T nc (by decide) (by decide +kernel) (fun _ _ q => q) fun H1 s1 hv1 => ite2 (fun b1 => ?_) (fun b1 => ?_)
    · obtain rfl := f1 b1
      exact field_tup rfl hv1 T (np _ rfl) fun H' t e q => k _ t (s1.trans e) q
    have b1 := Bool.eq_false_iff.mpr b1
    refine code_in (xs := grp2) (attr := attr) (d := d) rfl hv1 T nc (by decide) (by decide +kernel) (fun _ _ q => q) fun H2 s2 hv2 => ite2 (fun b2 => ?_) (fun b2 => ?_)
    · obtain rfl := f2 b1 b2
      exact field_tup rfl hv2 T (np _ rfl) fun H' t e q => k _ t ((s1.trans s2).trans e) q
    have b2 := Bool.eq_false_iff.mpr b2
    refine code_in (xs := grp3) (attr := attr) (d := d) rfl hv2 T nc (by decide) (by decide +kernel) (fun _ _ q => q) fun H3 s3 hv3 => ite2 (fun b3 => ?_) (fun b3 => ?_)
    · obtain rfl := f3 b1 b2 b3
      exact field_tup rfl hv3 T (np _ rfl) fun H' t e q => k _ t (((s1.trans s2).trans s3).trans e) q
    have b3 := Bool.eq_false_iff.mpr b3
    refine code_in (xs := grp4) (attr := attr) (d := d) rfl hv3 T nc (by decide) (by decide +kernel) (fun _ _ q => q) fun H4 s4 hv4 => ite2 (fun b4 => ?_) (fun b4 => ?_)
    · obtain rfl := f4 b1 b2 b3 b4
      exact field_tup rfl hv4 T (np _ rfl) fun H' t e q => k _ t ((((s1.trans s2).trans s3).trans s4).trans e) q
    have b4 := Bool.eq_false_iff.mpr b4
    obtain rfl := f5 b1 b2 b3 b4
    exact ⟨(by show 0 ≤ sizeLine; decide), fun t ht => k _ t ((((s1.trans s2).trans s3).trans s4).new ht) (.tup (SqT.of upd_same) .nil)⟩
def prdFirst (K : PySem.W.Frag) (c0 c1 c2 c3 c4 c5 c6 c7 c8 c9 : Addr) (d : PyData) : List (V → Hp → Prop) := [IsErr K c0 "WrongCount" (some ("given" : Str)) d, IsErr K c1 "InvalidNumber" (some ("given" : Str)) d, IsErr K c2 "InvalidWord" (some ("given" : Str)) d, IsErr K c3 "InvalidPoint" (some ("given" : Str)) d, IsErr K c4 "InvalidField" (some ("name" : Str)) d, IsErr K c5 "InvalidText" (some ("at" : Str)) d, IsErr K c6 "InvalidDeed" (some ("at" : Str)) d, IsErr K c7 "NotNow" (some ("at" : Str)) d, IsErr K c8 "InvalidChute" (some ("given" : Str)) d, IsErr K c9 "InvalidOffer" (some ("at" : Str)) d]
theorem prdFirst_stab {c0 c1 c2 c3 c4 c5 c6 c7 c8 c9 : Addr} {d : PyData} : StabAll (prdFirst K c0 c1 c2 c3 c4 c5 c6 c7 c8 c9 d) := by
  intro P hP
  unfold prdFirst at hP
  simp only [List.mem_cons, List.not_mem_nil, or_false] at hP
  rcases hP with rfl | rfl | rfl | rfl | rfl | rfl | rfl | rfl | rfl | rfl <;> exact isErr_stab
def spFirst (K : PySem.W.Frag) (c0 c1 c2 c3 c4 c5 c6 c7 c8 c9 : Addr) : Sp := fun vs H Q _ => ∃ (x : V) (d : PyData), vs = [x] ∧ Dp K H x d ∧ Shal 2 d ∧ ∀ (H' : Hp) (l : Addr) (es : List V), Same H H' → H' l = some (.lst es) → AllP H' (prdFirst K c0 c1 c2 c3 c4 c5 c6 c7 c8 c9 d) es → Q (.ref l) H'
theorem scFirst : FnScope ["_law_far"] ["_law_far"] (defScope sFirst) := ⟨rfl, rfl, rfl, by decide +kernel, rfl, by decide +kernel, by decide +kernel⟩
theorem ok_first {f c0 c1 c2 c3 c4 c5 c6 c7 c8 c9 : Addr} {fd : FuncData} (F : Fun K "_law_first_errors" "_law_first_errors" sFirst f fd) (e0 : ErrK P w K mg base "WrongCount" "given" c0) (e1 : ErrK P w K mg base "InvalidNumber" "given" c1) (e2 : ErrK P w K mg base "InvalidWord" "given" c2) (e3 : ErrK P w K mg base "InvalidPoint" "given" c3) (e4 : ErrK P w K mg base "InvalidField" "name" c4) (e5 : ErrK P w K mg base "InvalidText" "at" c5) (e6 : ErrK P w K mg base "InvalidDeed" "at" c6) (e7 : ErrK P w K mg base "NotNow" "at" c7) (e8 : ErrK P w K mg base "InvalidChute" "given" c8) (e9 : ErrK P w K mg base "InvalidOffer" "at" c9) : FnOk P w K mg base CX0 6 f fd ["_law_far"] (spFirst K c0 c1 c2 c3 c4 c5 c6 c7 c8 c9) := by
  have len1 : ∀ {C : Addr} {cname attr : Str} (vs : List V) (H : Hp) (Q : VK) (E : XK), spInit1 K C cname attr vs H Q E → vs.length = 2 := fun vs H Q E ⟨a, H1, x, d, e, _⟩ => by rw [e]; rfl
  obtain ⟨f0, g0, i0, t0, G0, b0, kb0⟩ := e0.run
  obtain ⟨f1, g1, i1, t1, G1, b1, kb1⟩ := e1.run
  obtain ⟨f2, g2, i2, t2, G2, b2, kb2⟩ := e2.run
  obtain ⟨f3, g3, i3, t3, G3, b3, kb3⟩ := e3.run
  obtain ⟨f4, g4, i4, t4, G4, b4, kb4⟩ := e4.run
  obtain ⟨f5, g5, i5, t5, G5, b5, kb5⟩ := e5.run
  obtain ⟨f6, g6, i6, t6, G6, b6, kb6⟩ := e6.run
  obtain ⟨f7, g7, i7, t7, G7, b7, kb7⟩ := e7.run
  obtain ⟨f8, g8, i8, t8, G8, b8, kb8⟩ := e8.run
  obtain ⟨f9, g9, i9, t9, G9, b9, kb9⟩ := e9.run
  refine F.ok scFirst (fun vs H Q E h => ?_) (fun cdv A outer s H vs Q E hr h => ?_)
  · obtain ⟨x, d, rfl, _⟩ := h
    rfl
  · obtain ⟨x, d, rfl, hx, hs, k⟩ := h
    refine ⟨_, pss_one (ps_ret (pe_lst (pa_cons (pe_mkx e0.T i0 t0 G0 hr b0 pass0 (by rfl) e0.at_ (pa_cons (pv 0) pa_nil) len1) (pa_cons (pe_mkxK e1.T i1 t1 G1 hr kb1 pass0 (by rfl) e1.at_ (pk_cons (pv 0) pk_nil) len1) (pa_cons (pe_mkx e2.T i2 t2 G2 hr b2 pass0 (by rfl) e2.at_ (pa_cons (pv 0) pa_nil) len1) (pa_cons (pe_mkxK e3.T i3 t3 G3 hr kb3 pass0 (by rfl) e3.at_ (pk_cons (pv 0) pk_nil) len1) (pa_cons (pe_mkxK e4.T i4 t4 G4 hr kb4 pass0 (by rfl) e4.at_ (pk_cons (pv 0) pk_nil) len1) (pa_cons (pe_mkxK e5.T i5 t5 G5 hr kb5 pass0 (by rfl) e5.at_ (pk_cons (pv 0) pk_nil) len1) (pa_cons (pe_mkx e6.T i6 t6 G6 hr b6 pass0 (by rfl) e6.at_ (pa_cons (pv 0) pa_nil) len1) (pa_cons (pe_mkxK e7.T i7 t7 G7 hr kb7 pass0 (by rfl) e7.at_ (pk_cons (pv 0) pk_nil) len1) (pa_cons (pe_mkx e8.T i8 t8 G8 hr b8 pass0 (by rfl) e8.at_ (pa_cons (pv 0) pa_nil) len1) (pa_cons (pe_mkxK e9.T i9 t9 G9 hr kb9 pass0 (by rfl) e9.at_ (pk_cons (pv 0) pk_nil) len1) pa_nil)))))))))))), ?_⟩
    have ev : EvPs _ (start ["_law_far"] [x]) H (prdFirst K c0 c1 c2 c3 c4 c5 c6 c7 c8 c9 d) := (evps_cons isErr_stab (evp_mk (by decide +kernel) rfl hx hs) (evps_cons isErr_stab (evp_mk (by decide +kernel) rfl hx hs) (evps_cons isErr_stab (evp_mk (by decide +kernel) rfl hx hs) (evps_cons isErr_stab (evp_mk (by decide +kernel) rfl hx hs) (evps_cons isErr_stab (evp_mk (by decide +kernel) rfl hx hs) (evps_cons isErr_stab (evp_mk (by decide +kernel) rfl hx hs) (evps_cons isErr_stab (evp_mk (by decide +kernel) rfl hx hs) (evps_cons isErr_stab (evp_mk (by decide +kernel) rfl hx hs) (evps_cons isErr_stab (evp_mk (by decide +kernel) rfl hx hs) (evps_cons isErr_stab (evp_mk (by decide +kernel) rfl hx hs) evps_nil))))))))))
    show tLst _ _ H Q
    exact evp_lst ev (show 10 ≤ 1000 by decide) prdFirst_stab H (Same.refl _) Q fun v H1 e1 ⟨l, vs, ev, hl, a⟩ => by rw [ev]; exact k H1 l vs e1 hl a
def prdLate (K : PySem.W.Frag) (c10 c11 c12 c13 c14 c15 c16 c17 c18 c19 : Addr) (d : PyData) : List (V → Hp → Prop) := [IsErr K c10 "Unlike" (none) d, IsErr K c11 "TooMany" (some ("most" : Str)) d, IsErr K c12 "InvalidName" (some ("given" : Str)) d, IsErr K c13 "DuplicateName" (some ("name" : Str)) d, IsErr K c14 "Full" (some ("most" : Str)) d, IsErr K c15 "InvalidLimit" (some ("given" : Str)) d, IsErr K c16 "InvalidCommand" (some ("at" : Str)) d, IsErr K c17 "InvalidPage" (some ("at" : Str)) d, IsErr K c18 "UnknownName" (some ("name" : Str)) d, IsErr K c19 "NothingLeft" (none) d]
theorem prdLate_stab {c10 c11 c12 c13 c14 c15 c16 c17 c18 c19 : Addr} {d : PyData} : StabAll (prdLate K c10 c11 c12 c13 c14 c15 c16 c17 c18 c19 d) := by
  intro P hP
  unfold prdLate at hP
  simp only [List.mem_cons, List.not_mem_nil, or_false] at hP
  rcases hP with rfl | rfl | rfl | rfl | rfl | rfl | rfl | rfl | rfl | rfl <;> exact isErr_stab
def spLate (K : PySem.W.Frag) (c10 c11 c12 c13 c14 c15 c16 c17 c18 c19 : Addr) : Sp := fun vs H Q _ => ∃ (x : V) (d : PyData), vs = [x] ∧ Dp K H x d ∧ Shal 2 d ∧ ∀ (H' : Hp) (l : Addr) (es : List V), Same H H' → H' l = some (.lst es) → AllP H' (prdLate K c10 c11 c12 c13 c14 c15 c16 c17 c18 c19 d) es → Q (.ref l) H'
theorem scLate : FnScope ["_law_far"] ["_law_far"] (defScope sLate) := ⟨rfl, rfl, rfl, by decide +kernel, rfl, by decide +kernel, by decide +kernel⟩
theorem ok_late {f c10 c11 c12 c13 c14 c15 c16 c17 c18 c19 : Addr} {fd : FuncData} (F : Fun K "_law_late_errors" "_law_late_errors" sLate f fd) (e10 : ErrK0 P w K mg base "Unlike" c10) (e11 : ErrK P w K mg base "TooMany" "most" c11) (e12 : ErrK P w K mg base "InvalidName" "given" c12) (e13 : ErrK P w K mg base "DuplicateName" "name" c13) (e14 : ErrK P w K mg base "Full" "most" c14) (e15 : ErrK P w K mg base "InvalidLimit" "given" c15) (e16 : ErrK P w K mg base "InvalidCommand" "at" c16) (e17 : ErrK P w K mg base "InvalidPage" "at" c17) (e18 : ErrK P w K mg base "UnknownName" "name" c18) (e19 : ErrK0 P w K mg base "NothingLeft" c19) : FnOk P w K mg base CX0 6 f fd ["_law_far"] (spLate K c10 c11 c12 c13 c14 c15 c16 c17 c18 c19) := by
  have len1 : ∀ {C : Addr} {cname attr : Str} (vs : List V) (H : Hp) (Q : VK) (E : XK), spInit1 K C cname attr vs H Q E → vs.length = 2 := fun vs H Q E ⟨a, H1, x, d, e, _⟩ => by rw [e]; rfl
  obtain ⟨f10, g10, i10, t10, G10, b10⟩ := e10.run
  obtain ⟨f11, g11, i11, t11, G11, b11, kb11⟩ := e11.run
  obtain ⟨f12, g12, i12, t12, G12, b12, kb12⟩ := e12.run
  obtain ⟨f13, g13, i13, t13, G13, b13, kb13⟩ := e13.run
  obtain ⟨f14, g14, i14, t14, G14, b14, kb14⟩ := e14.run
  obtain ⟨f15, g15, i15, t15, G15, b15, kb15⟩ := e15.run
  obtain ⟨f16, g16, i16, t16, G16, b16, kb16⟩ := e16.run
  obtain ⟨f17, g17, i17, t17, G17, b17, kb17⟩ := e17.run
  obtain ⟨f18, g18, i18, t18, G18, b18, kb18⟩ := e18.run
  obtain ⟨f19, g19, i19, t19, G19, b19⟩ := e19.run
  refine F.ok scLate (fun vs H Q E h => ?_) (fun cdv A outer s H vs Q E hr h => ?_)
  · obtain ⟨x, d, rfl, _⟩ := h
    rfl
  · obtain ⟨x, d, rfl, hx, hs, k⟩ := h
    refine ⟨_, pss_one (ps_ret (pe_lst (pa_cons (pe_mkx0 e10.T i10 t10 G10 hr b10 pass0 (by rfl) e10.at_ rfl) (pa_cons (pe_mkxK e11.T i11 t11 G11 hr kb11 pass0 (by rfl) e11.at_ (pk_cons (pv 0) pk_nil) len1) (pa_cons (pe_mkxK e12.T i12 t12 G12 hr kb12 pass0 (by rfl) e12.at_ (pk_cons (pv 0) pk_nil) len1) (pa_cons (pe_mkxK e13.T i13 t13 G13 hr kb13 pass0 (by rfl) e13.at_ (pk_cons (pv 0) pk_nil) len1) (pa_cons (pe_mkx e14.T i14 t14 G14 hr b14 pass0 (by rfl) e14.at_ (pa_cons (pv 0) pa_nil) len1) (pa_cons (pe_mkxK e15.T i15 t15 G15 hr kb15 pass0 (by rfl) e15.at_ (pk_cons (pv 0) pk_nil) len1) (pa_cons (pe_mkx e16.T i16 t16 G16 hr b16 pass0 (by rfl) e16.at_ (pa_cons (pv 0) pa_nil) len1) (pa_cons (pe_mkxK e17.T i17 t17 G17 hr kb17 pass0 (by rfl) e17.at_ (pk_cons (pv 0) pk_nil) len1) (pa_cons (pe_mkxK e18.T i18 t18 G18 hr kb18 pass0 (by rfl) e18.at_ (pk_cons (pv 0) pk_nil) len1) (pa_cons (pe_mkx0 e19.T i19 t19 G19 hr b19 pass0 (by rfl) e19.at_ rfl) pa_nil)))))))))))), ?_⟩
    have ev : EvPs _ (start ["_law_far"] [x]) H (prdLate K c10 c11 c12 c13 c14 c15 c16 c17 c18 c19 d) := (evps_cons isErr_stab (evp_mk0) (evps_cons isErr_stab (evp_mk (by decide +kernel) rfl hx hs) (evps_cons isErr_stab (evp_mk (by decide +kernel) rfl hx hs) (evps_cons isErr_stab (evp_mk (by decide +kernel) rfl hx hs) (evps_cons isErr_stab (evp_mk (by decide +kernel) rfl hx hs) (evps_cons isErr_stab (evp_mk (by decide +kernel) rfl hx hs) (evps_cons isErr_stab (evp_mk (by decide +kernel) rfl hx hs) (evps_cons isErr_stab (evp_mk (by decide +kernel) rfl hx hs) (evps_cons isErr_stab (evp_mk (by decide +kernel) rfl hx hs) (evps_cons isErr_stab (evp_mk0) evps_nil))))))))))
    show tLst _ _ H Q
    exact evp_lst ev (show 10 ≤ 1000 by decide) prdLate_stab H (Same.refl _) Q fun v H1 e1 ⟨l, vs, ev, hl, a⟩ => by rw [ev]; exact k H1 l vs e1 hl a
end
end Own

namespace Own
open PySem L2
abbrev sLaw : Stmt := top 33
structure ErrI (K : PySem.W.Frag) (cB cM c1 c2 c5 c11 c14 c17 c18 : Addr) (i : Nat) (c : Addr) (a : Option Str) : Prop where
  T : ExK K c
  TI : ExI K c
  nc : PySem.W.findIn K (.ref c) "code" = some none
  np : ∀ p, a = some p → PySem.W.findIn K (.ref c) p = some none
  kB : PySem.W.kitOne K (.ref c) (.ref cB) = some (decide ((i : Int) < 18))
  kV : PySem.W.kitOne K (.ref c) (.type "ValueError") = some (decide ((i : Int) < 18))
  kM : PySem.W.kitOne K (.ref c) (.ref cM) = some (decide (V.int (i : Int) = V.int 18))
  kL : PySem.W.kitOne K (.ref c) (.type "LookupError") = some (decide ((17 : Int) < (i : Int)))
  kI : PySem.W.kitOne K (.ref c) (.type "IndexError") = some (decide (V.int (i : Int) = V.int 19))
  k1 : PySem.W.kitOne K (.ref c) (.ref c1) = some (decide (V.int (i : Int) = V.int 1))
  k2 : PySem.W.kitOne K (.ref c) (.ref c2) = some (decide (V.int (i : Int) = V.int 2))
  k14 : PySem.W.kitOne K (.ref c) (.ref c14) = some (decide (V.int (i : Int) = V.int 14))
  k11 : PySem.W.kitOne K (.ref c) (.ref c11) = some (decide (V.int (i : Int) = V.int 11))
  k5 : PySem.W.kitOne K (.ref c) (.ref c5) = some (decide (V.int (i : Int) = V.int 5))
  k17 : PySem.W.kitOne K (.ref c) (.ref c17) = some (decide (V.int (i : Int) = V.int 17))
  k18 : PySem.W.kitOne K (.ref c) (.ref c18) = some (decide (V.int (i : Int) = V.int 18))
def spLaw (K : PySem.W.Frag) : Sp := fun vs H Q _ => ∃ (a : Addr) (ns : List Int), vs = [.ref a] ∧ SqL K H a (ns.map V.int) ∧ ns.length ≤ 63 ∧ ∀ H', Q (.bl true) H'
theorem for_any {J : It} {n : Nat} {g : TG} {tb : TS} {D : Ends} {σ : L2.St} {H : Hp} (Pv : Nat → L2.St → Hp → Prop) (h0 : Pv 0 σ H)
    (hs : ∀ i σ H, i < n → Pv i σ H → J.go i H ∧ ∀ x H', J.yld i H x H' → g x σ H' fun σ2 H2 => tb { D with nx := Pv (i + 1), ct := Pv (i + 1), bk := D.nx } σ2 H2) (hd : ∀ σ H, Pv n σ H → J.stop n H ∧ D.nx σ H) :
    ∃ W : Nat → Nat → L2.St → Hp → Prop, (∃ m, W 0 m σ H) ∧ ∀ i m σ H, W i m σ H → (J.stop i H ∧ D.nx σ H) ∨ (J.go i H ∧ ∃ N : L2.St → Hp → Prop, (∀ σ' H', N σ' H' → ∃ m', m' < m ∧ W (i + 1) m' σ' H') ∧ ∀ x H', J.yld i H x H' → g x σ H' fun σ2 H2 => tb { D with nx := N, ct := N, bk := D.nx } σ2 H2) := by
  refine ⟨fun i m σ H => m + i = n ∧ Pv i σ H, ⟨n, rfl, h0⟩, fun i m σ H ⟨e, p⟩ => ?_⟩
  rcases Nat.lt_or_ge i n with l | l
  · obtain ⟨q1, q2⟩ := hs i σ H l p
    exact .inr ⟨q1, Pv (i + 1), fun σ' H' p' => ⟨n - (i + 1), by omega, by omega, p'⟩, q2⟩
  · obtain rfl : i = n := by omega
    exact .inl (hd σ H p)
theorem go_seq {t u : TS} {D : Ends} {σ : L2.St} {H : Hp} (h : t { D with nx := u D } σ H) : tSeq t u D σ H := h
theorem go_if {c : TT} {t u : TS} {D : Ends} {σ : L2.St} {H : Hp} (h : c σ H fun b H1 => if b = true then t D σ H1 else u D σ H1) : tIfS c t u D σ H := h
theorem go_enum {K : PySem.W.Frag} {a : Addr} {xs : List V} {H : Hp} {i : Nat} (h : i < xs.length) (h1 : SqL K H a xs) : (Ite K a).go i H ∧ ∀ v H', (Ite K a).yld i H v H' → ∃ T x, v = .ref T ∧ H T = none ∧ H' = upd H T (.tup [.int (i : Nat), x]) ∧ xs[i]? = some x :=
  ⟨⟨xs, _, h1, List.getElem?_eq_getElem h⟩, fun _ _ ⟨T, x, e1, hT, e2, f1⟩ => ⟨T, x, e1, hT, e2, f1 _ h1⟩⟩
def titlesL : List V := tbl.map fun p => .str p.1
def chk2 (i : Nat) : Bool := match tbl[i]? with | some p => inV (.int (i : Int)) [.int 10, .int 19] == decide (p.2 = none) | none => false
theorem chk2_all : (List.range 20).all chk2 = true := by decide +kernel
theorem due_in {i : Nat} {n : Str} {a : Option Str} (hi : i < 20) (h : tbl[i]? = some (n, a)) : inV (.int (i : Int)) [.int 10, .int 19] = decide (a = none) := by
  have z := List.all_eq_true.mp chk2_all i (List.mem_range.mpr hi)
  unfold chk2 at z
  rw [h] at z
  exact eq_of_beq z
theorem ite_no {b : Bool} {A B : Prop} (h : b = false) (k : B) : if b = true then A else B := by rw [h]; exact k
theorem due_ev {K : PySem.W.Frag} {σ : L2.St} {H0 : Hp} {i : Nat} {x : V} {d : PyData} {a : Option Str} (h5 : σ[5]? = some (some (.int (i : Int)))) (h4 : σ[4]? = some (some x)) (hx : Dp K H0 x d) (hin : inV (.int (i : Int)) [.int 10, .int 19] = decide (a = none)) :
    EvP (tIf (tTest (tOp (rIn K false) (tVar 5) (tTup (tCons (tC (.int 10)) (tCons (tC (.int 19)) tNil))))) (tTup tNil) (tTup (tCons (tVar 4) tNil))) σ H0 (fun v H => Dp K H v (.tuple (if a = none then [] else [d]))) := fun H e Q q => by
  refine ⟨_, h5, (by show 2 ≤ sizeLine; decide), fun t ht => ⟨t, _, rfl, .inr (SqT.of upd_same), rfl, rfl, _, rfl, ?_⟩⟩
  have st : Same H (upd H t (.tup [.int 10, .int 19])) := (Same.refl _).new ht
  show if inV (.int (i : Int)) [.int 10, .int 19] = true then _ else _
  rw [hin]
  by_cases ha : a = none
  · rw [decide_eq_true ha]
    refine iteT ⟨(by show 0 ≤ sizeLine; decide), fun u hu => q _ _ (st.new hu) ?_⟩
    rw [if_pos ha]
    exact .tup (SqT.of upd_same) .nil
  · rw [decide_eq_false ha]
    refine iteF ⟨_, h4, (by show 1 ≤ sizeLine; decide), fun u hu => q _ _ (st.new hu) ?_⟩
    rw [if_neg ha]
    exact .tup (SqT.of upd_same) (.cons (dp_same (e.trans (st.new hu)) _ _ hx) .nil)
theorem same_no {K : PySem.W.Frag} {σ : L2.St} {H : Hp} {i : Nat} {c L : Addr} {n : Str} {a : Option Str} {v u : V} {d : PyData} {R : Bool → Hp → Prop} (h2 : σ[2]? = some (some (.ref L))) (h5 : σ[5]? = some (some (.int (i : Int)))) (h6 : σ[6]? = some (some v)) (h7 : σ[7]? = some (some u)) (hL : H L = some (.lst titlesL)) (hi : tbl[i]? = some (n, a))
    (hv : IsErr K c n a d v H) (T : ExK K c) (nc : PySem.W.findIn K (.ref c) "code" = some none) (np : ∀ p, a = some p → PySem.W.findIn K (.ref c) p = some none) (hu : Dp K H u (.tuple (if a = none then [] else [d]))) (hs : Shal 2 d) (k : ∀ H', Same H H' → R false H') :
    tNot (tB (tCall (spSame K 5) [] E0 (tCons (tLst (tCons (tGex K "code" (tVar 6)) (tCons (tCall (spField K) [] E0 (tCons (tVar 6) tNil)) tNil))) (tCons (tLst (tCons (tOp (rIxL K) (tVar 2) (tVar 5)) (tCons (tVar 7) tNil))) tNil)))) σ H R := by
  obtain ⟨ea, dd, fs, rfl, g2, g3, g4, g5⟩ := id hv
  refine ⟨_, h6, ea, c, dd, fs, _, rfl, g2, g3, T, nc, g4, _, h6, _, c, n, a, d, rfl, hv, List.mem_of_getElem? hi, T, nc, np, fun H1 t1 s1 k1 => ⟨(by show 2 ≤ sizeLine; decide), fun l1 hl1 => ?_⟩⟩
  have ti : titlesL[i]? = some (.str n) := by
    unfold titlesL
    rw [List.getElem?_map, hi]
    rfl
  have s2 : Same H (upd H1 l1 (.lst [.str n, .ref t1])) := s1.new hl1
  refine ⟨_, h2, _, h5, L, _, _, _, rfl, rfl, SqL.of (s2 _ _ hL), at_of rfl ti, _, h7, (by show 2 ≤ sizeLine; decide), fun l2 hl2 => ?_⟩
  have s3 : Same (upd H1 l1 (.lst [.str n, .ref t1])) (upd (upd H1 l1 (.lst [.str n, .ref t1])) l2 (.lst [.str n, u])) := (Same.refl _).new hl2
  refine ⟨_, _, .list [.str n, .tuple (if a = none then [] else [d])], 4, rfl, .lst (SqL.of (s3 _ _ upd_same)) (.cons (.str n) (.cons (dp_same ((Same.refl _).new hl1 |>.trans s3) _ _ k1) .nil)), .lst (SqL.of upd_same) (.cons (.str n) (.cons (dp_same (s2.trans s3) _ _ hu) .nil)), rfl, ?_, fun H' e => ⟨true, rfl, k H' ((s2.trans s3).trans e)⟩⟩
  refine .lst (fun z hz => ?_) (by show 2 ≤ 1000; decide)
  rcases List.mem_cons.mp hz with rfl | hz
  · exact .str _
  · obtain rfl := List.mem_singleton.mp hz
    refine .tup (fun y hy => ?_) ?_
    · by_cases ha : a = none
      · rw [if_pos ha] at hy; cases hy
      · rw [if_neg ha] at hy
        obtain rfl := List.mem_singleton.mp hy
        exact hs
    · by_cases ha : a = none
      · rw [if_pos ha]; exact Nat.zero_le _
      · rw [if_neg ha]; show 1 ≤ 1000; decide
section
variable {P : Program} {w : World} {K : PySem.W.Frag} {mg : Str → Option Value} {base : Heap}
theorem scLaw : FnScope ["_law_script", "_law_bag_here", "_law_titles", "_law_turn", "_law_far", "_law_at_z", "_law_e", "_law_due", "_law_kinds", "_law_same_here"] ["_law_script"] (defScope sLaw) := ⟨rfl, rfl, rfl, by decide +kernel, rfl, by decide +kernel, by decide +kernel⟩
theorem ok_law {f fB fD fO fS fT fF fL cB cM c0 c1 c2 c3 c4 c5 c6 c7 c8 c9 c10 c11 c12 c13 c14 c15 c16 c17 c18 c19 : Addr} {fd gB gD gO gS gT gF gL : FuncData} (F : Fun K "law" "law" sLaw f fd) (B : Blt mg) (tEn : mg "enumerate" = none) (tRa : mg "range" = none) (tVE : mg "ValueError" = none) (tLE : mg "LookupError" = none) (tIE : mg "IndexError" = none) (mcB : mg "BeltError" = some (.ref cB)) (mcM : mg "Missing" = some (.ref cM))
    (m1 : mg "InvalidNumber" = some (.ref c1)) (m2 : mg "InvalidWord" = some (.ref c2)) (m14 : mg "Full" = some (.ref c14)) (m11 : mg "TooMany" = some (.ref c11)) (m5 : mg "InvalidText" = some (.ref c5)) (m17 : mg "InvalidPage" = some (.ref c17)) (m18 : mg "UnknownName" = some (.ref c18))
    (GB : FnOk P w K mg base CX0 1 fB gB ["_law_script"] (spBag K)) (mB : mg "_law_bag" = some (.ref fB)) (kB : PySem.W.keepIn K (.ref fB) = true) (bB : Binds K gB ["_law_script"] [])
    (GD : FnOk P w K mg base CX0 1 fD gD ["_law_bag_here", "_law_many"] spDraw) (mD : mg "_law_draw" = some (.ref fD)) (kD : PySem.W.keepIn K (.ref fD) = true) (bD : Binds K gD ["_law_bag_here", "_law_many"] [])
    (GO : FnOk P w K mg base CX0 2 fO gO ["_law_bag_here", "_law_some"] (spOf K)) (mO : mg "_law_of" = some (.ref fO)) (kO : PySem.W.keepIn K (.ref fO) = true) (bO : Binds K gO ["_law_bag_here", "_law_some"] [])
    (GS : FnOk P w K mg base CX0 5 fS gS ["_law_found", "_law_due"] (spSame K 5)) (mS : mg "_law_same" = some (.ref fS)) (kS : PySem.W.keepIn K (.ref fS) = true) (bS : Binds K gS ["_law_found", "_law_due"] [])
    (GT : FnOk P w K mg base CX0 1 fT gT ["_law_e"] (spField K)) (mT : mg "_law_field" = some (.ref fT)) (kT : PySem.W.keepIn K (.ref fT) = true) (bT : Binds K gT ["_law_e"] [])
    (GF : FnOk P w K mg base CX0 6 fF gF ["_law_far"] (spFirst K c0 c1 c2 c3 c4 c5 c6 c7 c8 c9)) (mF : mg "_law_first_errors" = some (.ref fF)) (kF : PySem.W.keepIn K (.ref fF) = true) (bF : Binds K gF ["_law_far"] [])
    (GL : FnOk P w K mg base CX0 6 fL gL ["_law_far"] (spLate K c10 c11 c12 c13 c14 c15 c16 c17 c18 c19)) (mL : mg "_law_late_errors" = some (.ref fL)) (kL : PySem.W.keepIn K (.ref fL) = true) (bL : Binds K gL ["_law_far"] [])
    (EI : ∀ i, i < 20 → ∃ c n a, [c0, c1, c2, c3, c4, c5, c6, c7, c8, c9, c10, c11, c12, c13, c14, c15, c16, c17, c18, c19][i]? = some c ∧ tbl[i]? = some (n, a) ∧ ErrI K cB cM c1 c2 c5 c11 c14 c17 c18 i c a) : FnOk P w K mg base CX0 7 f fd ["_law_script"] (spLaw K) := by
  refine F.ok scLaw (fun vs H Q E h => ?_) (fun cdv A outer s H vs Q E hr h => ?_)
  · obtain ⟨a, ns, rfl, _⟩ := h
    rfl
  · obtain ⟨a, ns, rfl, hS, hlen, k⟩ := h
    refine ⟨_, pss_cons (ps_set (i := 1) scLaw.nd rfl (Or.inl rfl) (pe_call GB (hr.mono (by decide)) rfl mB kB bB .nil pass0 (pa_cons (pv 0) pa_nil))) (pss_cons (ps_set (i := 2) scLaw.nd rfl (Or.inl rfl) (pe_lst (pa_cons pe_str (pa_cons pe_str (pa_cons pe_str (pa_cons pe_str (pa_cons pe_str (pa_cons pe_str (pa_cons pe_str (pa_cons pe_str (pa_cons pe_str (pa_cons pe_str (pa_cons pe_str (pa_cons pe_str (pa_cons pe_str (pa_cons pe_str (pa_cons pe_str (pa_cons pe_str (pa_cons pe_str (pa_cons pe_str (pa_cons pe_str (pa_cons pe_str pa_nil)))))))))))))))))))))) (pss_cons (ps_for PassesOwn.never rfl (pi_range1 (by rfl) tRa (pa_cons pe_int pa_nil)) (pg_name (i := 3) scLaw.nd rfl (Or.inl rfl)) (pss_cons (ps_set (i := 4) scLaw.nd rfl (Or.inl rfl) (pe_call GO (hr.mono (by decide)) rfl mO kO bO .nil pass0 (pa_cons (pv 1) (pa_cons (pe_lst (pa_cons pe_non (pa_cons pe_int (pa_cons pe_str (pa_cons (pe_tup (pa_cons pe_int pa_nil)) (pa_cons (pe_call GD (hr.mono (by decide)) rfl mD kD bD .nil pass0 (pa_cons (pv 1) (pa_cons (pe_op op_pow pe_int pe_int) pa_nil))) pa_nil)))))) pa_nil)))) (pss_one (ps_for PassesOwn.never rfl (pi_enum (by rfl) tEn (pa_cons (pe_op op_cat (pe_call GF (hr.mono (by decide)) rfl mF kF bF .nil pass0 (pa_cons (pv 4) pa_nil)) (pe_call GL (hr.mono (by decide)) rfl mL kL bL .nil pass0 (pa_cons (pv 4) pa_nil))) pa_nil)) (g := gTup K 2 (gCons (gName 5) (gCons (gName 6) gNil))) (pg_tup rfl (pgs_cons (pg_name (i := 5) scLaw.nd rfl (.inl rfl) (hf := Or.inr rfl)) (pgs_cons (pg_name (i := 6) scLaw.nd rfl (.inl rfl) (hf := Or.inr rfl)) pgs_nil))) (pss_cons (ps_set (i := 7) scLaw.nd rfl (Or.inl rfl) (pe_ifExp (pt_cmpR op_in_seq (pv 5) (pe_tup (pa_cons pe_int (pa_cons pe_int pa_nil))) (by rfl)) (pe_tup pa_nil) (pe_tup (pa_cons (pv 4) pa_nil)))) (pss_cons (ps_if (pt_not (pt_val (pe_call GS (hr.mono (by decide)) rfl mS kS bS .nil pass0 (pa_cons (pe_lst (pa_cons (pe_gex (pv 6)) (pa_cons (pe_call GT (hr.mono (by decide)) rfl mT kT bT .nil pass0 (pa_cons (pv 6) pa_nil)) pa_nil))) (pa_cons (pe_lst (pa_cons (pe_ix ix_list (pv 2) (pv 5) (fun _ _ => rfl)) (pa_cons (pv 7) pa_nil))) pa_nil))))) (pss_one (ps_ret pe_bl)) pss_nil) (pss_cons (ps_set (i := 8) scLaw.nd rfl (Or.inl rfl) (pe_lst (pa_cons (pe_callB call_isX (by rfl) B.isi (by decide +kernel) (pa_cons (pv 6) (pa_cons (pe_glob (v := .ref cB) (by rfl) mcB rfl) pa_nil))) (pa_cons (pe_callB call_isX (by rfl) B.isi (by decide +kernel) (pa_cons (pv 6) (pa_cons (pe_bltn (v := .ty "ValueError") (by rfl) tVE (by decide +kernel) rfl) pa_nil))) (pa_cons (pe_callB call_isX (by rfl) B.isi (by decide +kernel) (pa_cons (pv 6) (pa_cons (pe_glob (v := .ref cM) (by rfl) mcM rfl) pa_nil))) (pa_cons (pe_callB call_isX (by rfl) B.isi (by decide +kernel) (pa_cons (pv 6) (pa_cons (pe_bltn (v := .ty "LookupError") (by rfl) tLE (by decide +kernel) rfl) pa_nil))) (pa_cons (pe_callB call_isX (by rfl) B.isi (by decide +kernel) (pa_cons (pv 6) (pa_cons (pe_bltn (v := .ty "IndexError") (by rfl) tIE (by decide +kernel) rfl) pa_nil))) pa_nil))))))) (pss_cons (ps_if (pt_cmpR (op_neD hr.units) (pv 8) (pe_lst (pa_cons (pe_cmpR op_lt (pv 5) pe_int (nomark _)) (pa_cons (pe_cmpR op_lt (pv 5) pe_int (nomark _)) (pa_cons (pe_cmpR op_eq (pv 5) pe_int (nomark _)) (pa_cons (pe_cmpR op_gt (pv 5) pe_int (nomark _)) (pa_cons (pe_cmpR op_eq (pv 5) pe_int (nomark _)) pa_nil)))))) (nomark _)) (pss_one (ps_ret pe_bl)) pss_nil) (pss_cons (ps_set (i := 9) scLaw.nd rfl (Or.inl rfl) (pe_lst (pa_cons (pe_callB call_isX (by rfl) B.isi (by decide +kernel) (pa_cons (pv 6) (pa_cons (pe_glob (v := .ref c1) (by rfl) m1 rfl) pa_nil))) (pa_cons (pe_callB call_isX (by rfl) B.isi (by decide +kernel) (pa_cons (pv 6) (pa_cons (pe_glob (v := .ref c2) (by rfl) m2 rfl) pa_nil))) (pa_cons (pe_callB call_isX (by rfl) B.isi (by decide +kernel) (pa_cons (pv 6) (pa_cons (pe_glob (v := .ref c14) (by rfl) m14 rfl) pa_nil))) (pa_cons (pe_callB call_isX (by rfl) B.isi (by decide +kernel) (pa_cons (pv 6) (pa_cons (pe_glob (v := .ref c11) (by rfl) m11 rfl) pa_nil))) (pa_cons (pe_callB call_isX (by rfl) B.isi (by decide +kernel) (pa_cons (pv 6) (pa_cons (pe_glob (v := .ref c5) (by rfl) m5 rfl) pa_nil))) (pa_cons (pe_callB call_isX (by rfl) B.isi (by decide +kernel) (pa_cons (pv 6) (pa_cons (pe_glob (v := .ref c17) (by rfl) m17 rfl) pa_nil))) (pa_cons (pe_callB call_isX (by rfl) B.isi (by decide +kernel) (pa_cons (pv 6) (pa_cons (pe_glob (v := .ref c18) (by rfl) m18 rfl) pa_nil))) pa_nil))))))))) (pss_one (ps_if (pt_cmpR (op_neD hr.units) (pv 9) (pe_lst (pa_cons (pe_cmpR op_eq (pv 5) pe_int (nomark _)) (pa_cons (pe_cmpR op_eq (pv 5) pe_int (nomark _)) (pa_cons (pe_cmpR op_eq (pv 5) pe_int (nomark _)) (pa_cons (pe_cmpR op_eq (pv 5) pe_int (nomark _)) (pa_cons (pe_cmpR op_eq (pv 5) pe_int (nomark _)) (pa_cons (pe_cmpR op_eq (pv 5) pe_int (nomark _)) (pa_cons (pe_cmpR op_eq (pv 5) pe_int (nomark _)) pa_nil)))))))) (nomark _)) (pss_one (ps_ret pe_bl)) pss_nil))))))))))) (pss_one (ps_ret pe_bl)))), ?_⟩
    refine ⟨_, rfl, a, ns, rfl, hS, hlen, fun H1 p s1 hp0 hb1 => ⟨(by show 20 ≤ sizeLine; decide), fun L hL => ?_⟩⟩
    have b2 : Bag (upd H1 L (.lst titlesL)) p := hb1.same ((Same.refl _).new hL)
    have hL2 : (upd H1 L (.lst titlesL)) L = some (.lst titlesL) := upd_same
    have nLp : L ≠ p := by
      obtain ⟨_, _, _, _, _, z, _⟩ := hb1
      exact fun q => by rw [q, z] at hL; cases hL
    refine ⟨3, rfl, by decide, by decide, for_range (n := 3) (fun i σ H' => ∃ v3 v4 v5 v6 v7 v8 v9 : Option V, σ = [some (.ref a), some (.ref p), some (.ref L), v3, v4, v5, v6, v7, v8, v9] ∧ Bag H' p ∧ H' L = some (.lst titlesL)) ⟨none, none, none, none, none, none, none, rfl, b2, hL2⟩ ?_ ?_⟩
    · rintro i σ H' hi ⟨v3, v4, v5, v6, v7, v8, v9, rfl, hb, hLt⟩
      refine ⟨_, rfl, (by show 1 ≤ sizeLine; decide), fun T hT => ?_⟩
      have sT : Same H' (upd H' T (.tup [.int 1])) := (Same.refl _).new hT
      have nTp : T ≠ p := by
        obtain ⟨_, _, _, _, _, z, _⟩ := hb
        exact fun q => by rw [q, z] at hT; cases hT
      refine ⟨_, rfl, _, _, rfl, rfl, ⟨by decide, by decide, by decide⟩, p, _, rfl, hb.same sT, by decide, by decide, fun H2 r e2 hb2 r0 r1 => ⟨(by show 5 ≤ sizeLine; decide), fun l hl => ?_⟩⟩
      have hT2 : H2 T = some (.tup [.int 1]) := e2 T _ nTp upd_same
      have hLt2 : H2 L = some (.lst titlesL) := e2 L _ nLp (sT _ _ hLt)
      have sl : Same H2 (upd H2 l (.lst [.non, .int 0, .str "x", .ref T, .int r])) := (Same.refl _).new hl
      have nlp : l ≠ p := by
        obtain ⟨_, _, _, _, _, z, _⟩ := hb2
        exact fun q => by rw [q, z] at hl; cases hl
      refine ⟨p, l, _, rfl, hb2.same sl, SqL.of upd_same, nlp, (fun z => by cases z), (by show 5 ≤ 1000; decide), fun H3 x e3 hb3 hx => ?_⟩
      have hT3 : H3 T = some (.tup [.int 1]) := e3 T _ nTp (sl _ _ hT2)
      have hLt3 : H3 L = some (.lst titlesL) := e3 L _ nLp (sl _ _ hLt2)
      obtain ⟨d, hd, hs⟩ : ∃ d, Dp K H3 x d ∧ Shal 2 d := by
        simp only [List.mem_cons, List.not_mem_nil, or_false] at hx
        rcases hx with rfl | rfl | rfl | rfl | rfl
        · exact ⟨.none, .non, .non⟩
        · exact ⟨.int 0, .int 0, .int 0⟩
        · exact ⟨.str "x", .str _, .str _⟩
        · exact ⟨.tuple [.int 1], .tup (SqT.of hT3) (.cons (.int 1) .nil), .tup (fun z hz => by obtain rfl := List.mem_singleton.mp hz; exact .int 1) (by show 1 ≤ 1000; decide)⟩
        · exact ⟨.int r, .int r, .int r⟩
      refine ⟨_, rfl, x, d, rfl, hd, hs, fun H4 l1 es1 s4 h41 a1 => ⟨_, rfl, x, d, rfl, dp_same s4 _ _ hd, hs, fun H5 l2 es2 s5 h52 a2 => ?_⟩⟩
      have n1 : es1.length = 10 := a1.len
      have n2 : es2.length = 10 := a2.len
      refine ⟨l1, l2, _, _, rfl, rfl, s5 _ _ h41, h52, (by rw [n1, n2]; decide), fun q hq => ?_⟩
      have sq : Same H5 (upd H5 q (.lst (es1 ++ es2))) := (Same.refl _).new hq
      have AL : AllP (upd H5 q (.lst (es1 ++ es2))) (prdFirst K c0 c1 c2 c3 c4 c5 c6 c7 c8 c9 d ++ prdLate K c10 c11 c12 c13 c14 c15 c16 c17 c18 c19 d) (es1 ++ es2) := (a1.same (s5.trans sq) prdFirst_stab).app (a2.same sq prdLate_stab)
      have hq2 : (upd H5 q (.lst (es1 ++ es2))) q = some (.lst (es1 ++ es2)) := upd_same
      have hdB := dp_same ((s4.trans s5).trans sq) _ _ hd
      have hbB : Bag (upd H5 q (.lst (es1 ++ es2))) p := hb3.same ((s4.trans s5).trans sq)
      have hLB := ((s4.trans s5).trans sq) _ _ hLt3
      have nes : (es1 ++ es2).length = 20 := by rw [List.length_append, n1, n2]
      refine ⟨q, _, rfl, SqL.of hq2, ?_⟩
      generalize upd H5 q (.lst (es1 ++ es2)) = HB at AL hq2 hdB hbB hLB ⊢
      refine for_any (n := 20) (fun _ σ H => ∃ v5 v6 v7 v8 v9 : Option V, σ = [some (.ref a), some (.ref p), some (.ref L), some (.int (0 + (i : Int))), some x, v5, v6, v7, v8, v9] ∧ Same HB H) ⟨_, _, _, _, _, rfl, Same.refl _⟩ ?_ ?_
      · rintro j σ H6 hj ⟨v5, v6, v7, v8, v9, rfl, sB⟩
        refine ⟨(go_enum (by rw [nes]; exact hj) (SqL.of (sB _ _ hq2))).1, fun v Hv yv => ?_⟩
        obtain ⟨TT, ev, rfl, hTT, rfl, hev⟩ := (go_enum (by rw [nes]; exact hj) (SqL.of (sB _ _ hq2))).2 v Hv yv
        refine ⟨TT, _, rfl, .inl (.inl upd_same), rfl, _, _, rfl, _, _, rfl, rfl, ?_⟩
        have sB2 : Same HB (upd H6 TT (.tup [.int (j : Int), ev])) := sB.new hTT
        generalize upd H6 TT (.tup [.int (j : Int), ev]) = H7 at sB2 ⊢
        obtain ⟨c, n, aa, ec, et, EE⟩ := EI j hj
        have hv : IsErr K c n aa d ev HB := by
          obtain ⟨PP, ep, pp⟩ := AL.get j ev hev
          have e0 : prdFirst K c0 c1 c2 c3 c4 c5 c6 c7 c8 c9 d ++ prdLate K c10 c11 c12 c13 c14 c15 c16 c17 c18 c19 d = ([c0, c1, c2, c3, c4, c5, c6, c7, c8, c9, c10, c11, c12, c13, c14, c15, c16, c17, c18, c19].zip tbl).map fun z => IsErr K z.1 z.2.1 z.2.2 d := rfl
          rw [e0, List.getElem?_map, List.getElem?_zip_eq_some (z := (c, n, aa)) |>.mpr ⟨ec, et⟩] at ep
          cases ep
          exact pp
        have hv7 := isErr_stab _ _ _ sB2 hv
        refine due_ev rfl rfl hdB (due_in hj et) H7 sB2 _ fun u H8 s8 hu => ?_
        have sB8 := sB2.trans s8
        dsimp only [gName]
        refine go_seq (go_if ?_)
        refine same_no (K := K) (L := L) (σ := [some (.ref a), some (.ref p), some (.ref L), some (.int (0 + (i : Int))), some x, some (.int (j : Int)), some ev, some u, v8, v9]) rfl rfl rfl rfl (sB8 _ _ hLB) et (isErr_stab _ _ _ sB8 hv) EE.T EE.nc EE.np hu hs fun H9 s9 => ?_
        refine iteF ?_
        have sB9 := sB8.trans s9
        obtain ⟨ea, dd, fs, rfl, q2, q3, _⟩ := isErr_stab _ _ _ sB9 hv
        refine ⟨_, rfl, ea, c, dd, fs, _, _, _, rfl, q2, q3, EE.T, EE.TI, .own _, EE.kB, _, rfl, ea, c, dd, fs, _, _, _, rfl, q2, q3, EE.T, EE.TI, .ty _, EE.kV, _, rfl, ea, c, dd, fs, _, _, _, rfl, q2, q3, EE.T, EE.TI, .own _, EE.kM, _, rfl, ea, c, dd, fs, _, _, _, rfl, q2, q3, EE.T, EE.TI, .ty _, EE.kL, _, rfl, ea, c, dd, fs, _, _, _, rfl, q2, q3, EE.T, EE.TI, .ty _, EE.kI, (by show 5 ≤ sizeLine; decide), fun m1 hm1 => ?_⟩
        have t1 := (Same.refl _).new (o := .lst [.bl (decide ((j : Int) < 18)), .bl (decide ((j : Int) < 18)), .bl (decide (V.int (j : Int) = V.int 18)), .bl (decide ((17 : Int) < (j : Int))), .bl (decide (V.int (j : Int) = V.int 19))]) hm1
        refine ⟨_, rfl, _, rfl, _, _, rfl, rfl, _, rfl, _, _, rfl, rfl, _, rfl, rfl, _, rfl, _, _, rfl, rfl, _, rfl, rfl, (by show 5 ≤ sizeLine; decide), fun m2 hm2 => ?_⟩
        have t2 := (Same.refl _).new (o := .lst [.bl (decide ((j : Int) < 18)), .bl (decide ((j : Int) < 18)), .bl (decide (V.int (j : Int) = V.int 18)), .bl (decide ((17 : Int) < (j : Int))), .bl (decide (V.int (j : Int) = V.int 19))]) hm2
        refine ⟨.list [.bool (decide ((j : Int) < 18)), .bool (decide ((j : Int) < 18)), .bool (decide (V.int (j : Int) = V.int 18)), .bool (decide ((17 : Int) < (j : Int))), .bool (decide (V.int (j : Int) = V.int 19))], _, .lst (SqL.of (t2 _ _ upd_same)) (.cons (.bl _) (.cons (.bl _) (.cons (.bl _) (.cons (.bl _) (.cons (.bl _) .nil))))), .lst (SqL.of upd_same) (.cons (.bl _) (.cons (.bl _) (.cons (.bl _) (.cons (.bl _) (.cons (.bl _) .nil))))), rfl, rfl, _, rfl, ite_no (by rw [SeqAt.eqv_refl _ rfl]; rfl) ?_⟩
        have t12 := t1.trans t2
        refine ⟨_, rfl, ea, c, dd, fs, _, _, _, rfl, t12 _ _ q2, t12 _ _ q3, EE.T, EE.TI, .own _, EE.k1, _, rfl, ea, c, dd, fs, _, _, _, rfl, t12 _ _ q2, t12 _ _ q3, EE.T, EE.TI, .own _, EE.k2, _, rfl, ea, c, dd, fs, _, _, _, rfl, t12 _ _ q2, t12 _ _ q3, EE.T, EE.TI, .own _, EE.k14, _, rfl, ea, c, dd, fs, _, _, _, rfl, t12 _ _ q2, t12 _ _ q3, EE.T, EE.TI, .own _, EE.k11, _, rfl, ea, c, dd, fs, _, _, _, rfl, t12 _ _ q2, t12 _ _ q3, EE.T, EE.TI, .own _, EE.k5, _, rfl, ea, c, dd, fs, _, _, _, rfl, t12 _ _ q2, t12 _ _ q3, EE.T, EE.TI, .own _, EE.k17, _, rfl, ea, c, dd, fs, _, _, _, rfl, t12 _ _ q2, t12 _ _ q3, EE.T, EE.TI, .own _, EE.k18, (by show 7 ≤ sizeLine; decide), fun m3 hm3 => ?_⟩
        have t3 := (Same.refl _).new (o := .lst [.bl (decide (V.int (j : Int) = V.int 1)), .bl (decide (V.int (j : Int) = V.int 2)), .bl (decide (V.int (j : Int) = V.int 14)), .bl (decide (V.int (j : Int) = V.int 11)), .bl (decide (V.int (j : Int) = V.int 5)), .bl (decide (V.int (j : Int) = V.int 17)), .bl (decide (V.int (j : Int) = V.int 18))]) hm3
        refine ⟨_, rfl, _, rfl, rfl, _, rfl, rfl, _, rfl, rfl, _, rfl, rfl, _, rfl, rfl, _, rfl, rfl, _, rfl, rfl, (by show 7 ≤ sizeLine; decide), fun m4 hm4 => ?_⟩
        have t4 := (Same.refl _).new (o := .lst [.bl (decide (V.int (j : Int) = V.int 1)), .bl (decide (V.int (j : Int) = V.int 2)), .bl (decide (V.int (j : Int) = V.int 14)), .bl (decide (V.int (j : Int) = V.int 11)), .bl (decide (V.int (j : Int) = V.int 5)), .bl (decide (V.int (j : Int) = V.int 17)), .bl (decide (V.int (j : Int) = V.int 18))]) hm4
        refine ⟨.list [.bool (decide (V.int (j : Int) = V.int 1)), .bool (decide (V.int (j : Int) = V.int 2)), .bool (decide (V.int (j : Int) = V.int 14)), .bool (decide (V.int (j : Int) = V.int 11)), .bool (decide (V.int (j : Int) = V.int 5)), .bool (decide (V.int (j : Int) = V.int 17)), .bool (decide (V.int (j : Int) = V.int 18))], _, .lst (SqL.of (t4 _ _ upd_same)) (.cons (.bl _) (.cons (.bl _) (.cons (.bl _) (.cons (.bl _) (.cons (.bl _) (.cons (.bl _) (.cons (.bl _) .nil))))))), .lst (SqL.of upd_same) (.cons (.bl _) (.cons (.bl _) (.cons (.bl _) (.cons (.bl _) (.cons (.bl _) (.cons (.bl _) (.cons (.bl _) .nil))))))), rfl, rfl, _, rfl, ite_no (by rw [SeqAt.eqv_refl _ rfl]; rfl) ?_⟩
        exact ⟨_, _, _, _, _, rfl, sB9.trans (t12.trans (t3.trans t4))⟩
      · rintro σ H6 ⟨v5, v6, v7, v8, v9, rfl, sB⟩
        exact ⟨⟨_, SqL.of (sB _ _ hq2), by rw [nes]; exact Nat.le_refl _⟩, _, _, _, _, _, _, _, rfl, hbB.same sB, sB _ _ hLB⟩
    · rintro σ H' ⟨v3, v4, v5, v6, v7, v8, v9, rfl, hb, hLt⟩
      exact k _
end
end Own

namespace Own
open PySem L2
/-- a class as the top has made it: its chain, its __init__ -/
structure ClsF (K : PySem.W.Frag) (C f : Addr) (newId : String) (bmB : List Value) (attr : Str) : Prop where
  ei : PySem.W.excInitIn K C bmB newId = true
  ov : PySem.W.excOver K C bmB = true
  sa : PySem.W.findIn K (.ref C) "__setattr__" = some (some (.builtin "object.__setattr__"))
  ga : PySem.W.findIn K (.ref C) "__getattribute__" = some (some (.builtin "BaseException.__getattribute__"))
  gg : PySem.W.findIn K (.ref C) "__getattr__" = some none
  exC : PySem.W.subIn K (.ref C) (.type "BaseException") = some true
  tyC : PySem.W.typeIn K (.ref C) = some (.type "type")
  kC : PySem.W.keepIn K (.ref C) = true
  hd : PySem.W.hasDictIn K C = true
  cc : PySem.W.findIn K (.ref C) "__class__" = some (some (.builtin "object.__class__"))
  gn : PySem.W.specialIn K (.builtin "object.__class__") "__get__" = some (some (.builtin "getset_descriptor.__get__"))
  tk : PySem.W.takesIn K (.builtin "object.__class__") = some true
  mo : PySem.W.mroIn K C (.type "object") = some true
  n1 : PySem.W.findIn K (.ref C) "code" = some none
  n2 : PySem.W.findIn K (.ref C) attr = some none
  ic : PySem.W.findIn K (.ref C) "__init__" = some (some (.ref f))
  ti : PySem.W.typeIn K (.ref f) = some (.type "function")
  se : PySem.W.subIn K (.ref C) (.ref C) = some true
structure BasF (K : PySem.W.Frag) (C : Addr) : Prop where
  tyC : PySem.W.typeIn K (.ref C) = some (.type "type")
  hd : PySem.W.hasDictIn K C = true
  se : PySem.W.subIn K (.ref C) (.ref C) = some true
theorem ClsF.bas {K : PySem.W.Frag} {C f : Addr} {newId : String} {bmB : List Value} {attr : Str} (F : ClsF K C f newId bmB attr) : BasF K C := ⟨F.tyC, F.hd, F.se⟩
theorem ClsF.T {K : PySem.W.Frag} {C f : Addr} {B newId initId : String} {bmB : List Value} {attr : Str} (F : ClsF K C f newId bmB attr) (h1 : ExcBaseFacts B newId initId bmB) (h2 : StoreFacts B bmB "object.__setattr__" "object") : ExK K C := ⟨⟨B, newId, initId, bmB, h1, h2, F.ei, F.ov⟩, F.sa, F.ga, F.gg, F.exC, F.tyC, F.kC, F.hd⟩
theorem ClsF.TI {K : PySem.W.Frag} {C f : Addr} {newId : String} {bmB : List Value} {attr : Str} (F : ClsF K C f newId bmB attr) : ExI K C := ⟨F.cc, F.gn, F.tk, F.mo⟩
theorem kit_own {K : PySem.W.Frag} {C D : Addr} {b : Bool} (B : BasF K D) (hs : PySem.W.subIn K (.ref C) (.ref D) = some b) : PySem.W.kitOne K (.ref C) (.ref D) = some b := by
  unfold PySem.W.kitOne
  by_cases e : (Value.ref C == Value.ref D) = true
  · obtain rfl : C = D := by
      have z := eq_of_beq e
      injection z
    rw [if_pos e, ← hs]
    exact B.se.symm
  · rw [if_neg e]
    obtain ⟨cd, hc, _⟩ := PySem.W.any_some B.hd
    have q : ((PySem.W.clsIn K D).isSome && PySem.W.typeIn K (.ref D) == some (.type "type")) = true := by
      rw [hc, B.tyC]; rfl
    show (if ((PySem.W.clsIn K D).isSome && PySem.W.typeIn K (.ref D) == some (.type "type")) = true then PySem.W.subIn K (.ref C) (.ref D) else none) = some b
    rw [if_pos q]
    exact hs
theorem kit_blt {K : PySem.W.Frag} {C : Addr} {T : String} {b : Bool} (hm : PySem.W.kitMeta T = true) (hs : PySem.W.subIn K (.ref C) (.type T) = some b) : PySem.W.kitOne K (.ref C) (.type T) = some b := by
  unfold PySem.W.kitOne
  rw [if_neg (show ¬ (Value.ref C == Value.type T) = true from fun z => by cases z)]
  show (if PySem.W.kitMeta T = true then PySem.W.subIn K (.ref C) (.type T) else none) = some b
  rw [if_pos hm]
  exact hs
structure SubF (K : PySem.W.Frag) (cB cM c1 c2 c5 c11 c14 c17 c18 : Addr) (i : Nat) (c : Addr) : Prop where
  sB : PySem.W.subIn K (.ref c) (.ref cB) = some (decide ((i : Int) < 18))
  sV : PySem.W.subIn K (.ref c) (.type "ValueError") = some (decide ((i : Int) < 18))
  sM : PySem.W.subIn K (.ref c) (.ref cM) = some (decide (V.int (i : Int) = V.int 18))
  sL : PySem.W.subIn K (.ref c) (.type "LookupError") = some (decide ((17 : Int) < (i : Int)))
  sI : PySem.W.subIn K (.ref c) (.type "IndexError") = some (decide (V.int (i : Int) = V.int 19))
  s1 : PySem.W.subIn K (.ref c) (.ref c1) = some (decide (V.int (i : Int) = V.int 1))
  s2 : PySem.W.subIn K (.ref c) (.ref c2) = some (decide (V.int (i : Int) = V.int 2))
  s14 : PySem.W.subIn K (.ref c) (.ref c14) = some (decide (V.int (i : Int) = V.int 14))
  s11 : PySem.W.subIn K (.ref c) (.ref c11) = some (decide (V.int (i : Int) = V.int 11))
  s5 : PySem.W.subIn K (.ref c) (.ref c5) = some (decide (V.int (i : Int) = V.int 5))
  s17 : PySem.W.subIn K (.ref c) (.ref c17) = some (decide (V.int (i : Int) = V.int 17))
  s18 : PySem.W.subIn K (.ref c) (.ref c18) = some (decide (V.int (i : Int) = V.int 18))
theorem errI_of {K : PySem.W.Frag} {cB cM c1 c2 c5 c11 c14 c17 c18 c f : Addr} {i : Nat} {newId : String} {bmB : List Value} {attr : Str} {a : Option Str} (F : ClsF K c f newId bmB attr) (S : SubF K cB cM c1 c2 c5 c11 c14 c17 c18 i c) (bB : BasF K cB) (bM : BasF K cM) (b1 : BasF K c1) (b2 : BasF K c2) (b5 : BasF K c5) (b11 : BasF K c11) (b14 : BasF K c14) (b17 : BasF K c17) (b18 : BasF K c18) (T : ExK K c) (ha : ∀ p, a = some p → p = attr) : ErrI K cB cM c1 c2 c5 c11 c14 c17 c18 i c a :=
  ⟨T, F.TI, F.n1, fun p hp => by rw [ha p hp]; exact F.n2, kit_own bB S.sB, kit_blt (by decide +kernel) S.sV, kit_own bM S.sM, kit_blt (by decide +kernel) S.sL, kit_blt (by decide +kernel) S.sI, kit_own b1 S.s1, kit_own b2 S.s2, kit_own b14 S.s14, kit_own b11 S.s11, kit_own b5 S.s5, kit_own b17 S.s17, kit_own b18 S.s18⟩
theorem all_mk {P : Program} {w : World} {K : PySem.W.Frag} {h : Heap} {mg : Str → Option Value} {fa cB cM c0 c1 c2 c3 c4 c5 c6 c7 c8 c9 c10 c11 c12 c13 c14 c15 c16 c17 c18 c19 f0 f1 f2 f3 f4 f5 f6 f7 f8 f9 f10 f11 f12 f13 f14 f15 f16 f17 f18 f19 fC fBg fD fO fS fT fF fL fW : Addr} {g0 g1 g2 g3 g4 g5 g6 g7 g8 g9 g10 g11 g12 g13 g14 g15 g16 g17 g18 g19 gC gBg gD gO gS gT gF gL gW : FuncData} (X : K.In h) (G : h.Ns mainGlobals mg) (hfa : mg "law" = some (.ref fa))
    (aB : PySem.W.nsIn K mainGlobals "BeltError" = some (some (.ref cB)))
    (aM : PySem.W.nsIn K mainGlobals "Missing" = some (some (.ref cM)))
    (a0 : PySem.W.nsIn K mainGlobals "WrongCount" = some (some (.ref c0)))
    (a1 : PySem.W.nsIn K mainGlobals "InvalidNumber" = some (some (.ref c1)))
    (a2 : PySem.W.nsIn K mainGlobals "InvalidWord" = some (some (.ref c2)))
    (a3 : PySem.W.nsIn K mainGlobals "InvalidPoint" = some (some (.ref c3)))
    (a4 : PySem.W.nsIn K mainGlobals "InvalidField" = some (some (.ref c4)))
    (a5 : PySem.W.nsIn K mainGlobals "InvalidText" = some (some (.ref c5)))
    (a6 : PySem.W.nsIn K mainGlobals "InvalidDeed" = some (some (.ref c6)))
    (a7 : PySem.W.nsIn K mainGlobals "NotNow" = some (some (.ref c7)))
    (a8 : PySem.W.nsIn K mainGlobals "InvalidChute" = some (some (.ref c8)))
    (a9 : PySem.W.nsIn K mainGlobals "InvalidOffer" = some (some (.ref c9)))
    (a10 : PySem.W.nsIn K mainGlobals "Unlike" = some (some (.ref c10)))
    (a11 : PySem.W.nsIn K mainGlobals "TooMany" = some (some (.ref c11)))
    (a12 : PySem.W.nsIn K mainGlobals "InvalidName" = some (some (.ref c12)))
    (a13 : PySem.W.nsIn K mainGlobals "DuplicateName" = some (some (.ref c13)))
    (a14 : PySem.W.nsIn K mainGlobals "Full" = some (some (.ref c14)))
    (a15 : PySem.W.nsIn K mainGlobals "InvalidLimit" = some (some (.ref c15)))
    (a16 : PySem.W.nsIn K mainGlobals "InvalidCommand" = some (some (.ref c16)))
    (a17 : PySem.W.nsIn K mainGlobals "InvalidPage" = some (some (.ref c17)))
    (a18 : PySem.W.nsIn K mainGlobals "UnknownName" = some (some (.ref c18)))
    (a19 : PySem.W.nsIn K mainGlobals "NothingLeft" = some (some (.ref c19)))
    (aC : PySem.W.nsIn K mainGlobals "copied" = some (some (.ref fC)))
    (aBg : PySem.W.nsIn K mainGlobals "_law_bag" = some (some (.ref fBg)))
    (aD : PySem.W.nsIn K mainGlobals "_law_draw" = some (some (.ref fD)))
    (aO : PySem.W.nsIn K mainGlobals "_law_of" = some (some (.ref fO)))
    (aS : PySem.W.nsIn K mainGlobals "_law_same" = some (some (.ref fS)))
    (aT : PySem.W.nsIn K mainGlobals "_law_field" = some (some (.ref fT)))
    (aF : PySem.W.nsIn K mainGlobals "_law_first_errors" = some (some (.ref fF)))
    (aL : PySem.W.nsIn K mainGlobals "_law_late_errors" = some (some (.ref fL)))
    (aW : PySem.W.nsIn K mainGlobals "law" = some (some (.ref fW)))
    (z0 : PySem.W.nsIn K mainGlobals "len" = some none)
    (z1 : PySem.W.nsIn K mainGlobals "int" = some none)
    (z2 : PySem.W.nsIn K mainGlobals "isinstance" = some none)
    (z3 : PySem.W.nsIn K mainGlobals "bool" = some none)
    (z4 : PySem.W.nsIn K mainGlobals "str" = some none)
    (z5 : PySem.W.nsIn K mainGlobals "list" = some none)
    (z6 : PySem.W.nsIn K mainGlobals "tuple" = some none)
    (z7 : PySem.W.nsIn K mainGlobals "all" = some none)
    (z8 : PySem.W.nsIn K mainGlobals "zip" = some none)
    (z9 : PySem.W.nsIn K mainGlobals "enumerate" = some none)
    (z10 : PySem.W.nsIn K mainGlobals "range" = some none)
    (z11 : PySem.W.nsIn K mainGlobals "ValueError" = some none)
    (z12 : PySem.W.nsIn K mainGlobals "LookupError" = some none)
    (z13 : PySem.W.nsIn K mainGlobals "IndexError" = some none)
    (bB : BasF K cB)
    (bM : BasF K cM)
    (E0 : ClsF K c0 f0 "ValueError.__new__" [.type "ValueError", .type "Exception", .type "BaseException", .type "object"] "given")
    (E1 : ClsF K c1 f1 "ValueError.__new__" [.type "ValueError", .type "Exception", .type "BaseException", .type "object"] "given")
    (E2 : ClsF K c2 f2 "ValueError.__new__" [.type "ValueError", .type "Exception", .type "BaseException", .type "object"] "given")
    (E3 : ClsF K c3 f3 "ValueError.__new__" [.type "ValueError", .type "Exception", .type "BaseException", .type "object"] "given")
    (E4 : ClsF K c4 f4 "ValueError.__new__" [.type "ValueError", .type "Exception", .type "BaseException", .type "object"] "name")
    (E5 : ClsF K c5 f5 "ValueError.__new__" [.type "ValueError", .type "Exception", .type "BaseException", .type "object"] "at")
    (E6 : ClsF K c6 f6 "ValueError.__new__" [.type "ValueError", .type "Exception", .type "BaseException", .type "object"] "at")
    (E7 : ClsF K c7 f7 "ValueError.__new__" [.type "ValueError", .type "Exception", .type "BaseException", .type "object"] "at")
    (E8 : ClsF K c8 f8 "ValueError.__new__" [.type "ValueError", .type "Exception", .type "BaseException", .type "object"] "given")
    (E9 : ClsF K c9 f9 "ValueError.__new__" [.type "ValueError", .type "Exception", .type "BaseException", .type "object"] "at")
    (E10 : ClsF K c10 f10 "ValueError.__new__" [.type "ValueError", .type "Exception", .type "BaseException", .type "object"] "code")
    (E11 : ClsF K c11 f11 "ValueError.__new__" [.type "ValueError", .type "Exception", .type "BaseException", .type "object"] "most")
    (E12 : ClsF K c12 f12 "ValueError.__new__" [.type "ValueError", .type "Exception", .type "BaseException", .type "object"] "given")
    (E13 : ClsF K c13 f13 "ValueError.__new__" [.type "ValueError", .type "Exception", .type "BaseException", .type "object"] "name")
    (E14 : ClsF K c14 f14 "ValueError.__new__" [.type "ValueError", .type "Exception", .type "BaseException", .type "object"] "most")
    (E15 : ClsF K c15 f15 "ValueError.__new__" [.type "ValueError", .type "Exception", .type "BaseException", .type "object"] "given")
    (E16 : ClsF K c16 f16 "ValueError.__new__" [.type "ValueError", .type "Exception", .type "BaseException", .type "object"] "at")
    (E17 : ClsF K c17 f17 "ValueError.__new__" [.type "ValueError", .type "Exception", .type "BaseException", .type "object"] "at")
    (E18 : ClsF K c18 f18 "LookupError.__new__" [.type "LookupError", .type "Exception", .type "BaseException", .type "object"] "name")
    (E19 : ClsF K c19 f19 "IndexError.__new__" [.type "IndexError", .type "LookupError", .type "Exception", .type "BaseException", .type "object"] "code")
    (S0 : SubF K cB cM c1 c2 c5 c11 c14 c17 c18 0 c0)
    (S1 : SubF K cB cM c1 c2 c5 c11 c14 c17 c18 1 c1)
    (S2 : SubF K cB cM c1 c2 c5 c11 c14 c17 c18 2 c2)
    (S3 : SubF K cB cM c1 c2 c5 c11 c14 c17 c18 3 c3)
    (S4 : SubF K cB cM c1 c2 c5 c11 c14 c17 c18 4 c4)
    (S5 : SubF K cB cM c1 c2 c5 c11 c14 c17 c18 5 c5)
    (S6 : SubF K cB cM c1 c2 c5 c11 c14 c17 c18 6 c6)
    (S7 : SubF K cB cM c1 c2 c5 c11 c14 c17 c18 7 c7)
    (S8 : SubF K cB cM c1 c2 c5 c11 c14 c17 c18 8 c8)
    (S9 : SubF K cB cM c1 c2 c5 c11 c14 c17 c18 9 c9)
    (S10 : SubF K cB cM c1 c2 c5 c11 c14 c17 c18 10 c10)
    (S11 : SubF K cB cM c1 c2 c5 c11 c14 c17 c18 11 c11)
    (S12 : SubF K cB cM c1 c2 c5 c11 c14 c17 c18 12 c12)
    (S13 : SubF K cB cM c1 c2 c5 c11 c14 c17 c18 13 c13)
    (S14 : SubF K cB cM c1 c2 c5 c11 c14 c17 c18 14 c14)
    (S15 : SubF K cB cM c1 c2 c5 c11 c14 c17 c18 15 c15)
    (S16 : SubF K cB cM c1 c2 c5 c11 c14 c17 c18 16 c16)
    (S17 : SubF K cB cM c1 c2 c5 c11 c14 c17 c18 17 c17)
    (S18 : SubF K cB cM c1 c2 c5 c11 c14 c17 c18 18 c18)
    (S19 : SubF K cB cM c1 c2 c5 c11 c14 c17 c18 19 c19)
    (F0 : Fun K "__init__" "WrongCount.__init__" sI0 f0 g0)
    (F1 : Fun K "__init__" "InvalidNumber.__init__" sI1 f1 g1)
    (F2 : Fun K "__init__" "InvalidWord.__init__" sI2 f2 g2)
    (F3 : Fun K "__init__" "InvalidPoint.__init__" sI3 f3 g3)
    (F4 : Fun K "__init__" "InvalidField.__init__" sI4 f4 g4)
    (F5 : Fun K "__init__" "InvalidText.__init__" sI5 f5 g5)
    (F6 : Fun K "__init__" "InvalidDeed.__init__" sI6 f6 g6)
    (F7 : Fun K "__init__" "NotNow.__init__" sI7 f7 g7)
    (F8 : Fun K "__init__" "InvalidChute.__init__" sI8 f8 g8)
    (F9 : Fun K "__init__" "InvalidOffer.__init__" sI9 f9 g9)
    (F10 : Fun K "__init__" "Unlike.__init__" sI10 f10 g10)
    (F11 : Fun K "__init__" "TooMany.__init__" sI11 f11 g11)
    (F12 : Fun K "__init__" "InvalidName.__init__" sI12 f12 g12)
    (F13 : Fun K "__init__" "DuplicateName.__init__" sI13 f13 g13)
    (F14 : Fun K "__init__" "Full.__init__" sI14 f14 g14)
    (F15 : Fun K "__init__" "InvalidLimit.__init__" sI15 f15 g15)
    (F16 : Fun K "__init__" "InvalidCommand.__init__" sI16 f16 g16)
    (F17 : Fun K "__init__" "InvalidPage.__init__" sI17 f17 g17)
    (F18 : Fun K "__init__" "UnknownName.__init__" sI18 f18 g18)
    (F19 : Fun K "__init__" "NothingLeft.__init__" sI19 f19 g19)
    (FC : Fun K "copied" "copied" sCopied fC gC)
    (FBg : Fun K "_law_bag" "_law_bag" sBag fBg gBg)
    (FD : Fun K "_law_draw" "_law_draw" sDraw fD gD)
    (FO : Fun K "_law_of" "_law_of" sOf fO gO)
    (FS : Fun K "_law_same" "_law_same" sSame fS gS)
    (FT : Fun K "_law_field" "_law_field" sField fT gT)
    (FF : Fun K "_law_first_errors" "_law_first_errors" sFirst fF gF)
    (FL : Fun K "_law_late_errors" "_law_late_errors" sLate fL gL)
    (FW : Fun K "law" "law" sLaw fW gW)
    : ∃ fd : FuncData, (∀ (s : Shared) (v : Value), BindsTo s fd ⟨[v], []⟩ [("_law_script", v)]) ∧ ∀ base : Heap, K.In base → base.Ns mainGlobals mg → FnOk P w K mg base CX0 7 fa fd ["_law_script"] (spLaw K) := by
  have e := hfa.symm.trans (PySem.W.mg_of X G aW)
  cases e
  have B : Blt mg := ⟨PySem.W.mg_none_of X G z0, PySem.W.mg_none_of X G z1, PySem.W.mg_none_of X G z2, PySem.W.mg_none_of X G z3, PySem.W.mg_none_of X G z4, PySem.W.mg_none_of X G z5, PySem.W.mg_none_of X G z6, PySem.W.mg_none_of X G z7, PySem.W.mg_none_of X G z8⟩
  have T0 : ExK K c0 := E0.T PySem.F.excBase_ValueError PySem.F.store_ValueError
  have T1 : ExK K c1 := E1.T PySem.F.excBase_ValueError PySem.F.store_ValueError
  have T2 : ExK K c2 := E2.T PySem.F.excBase_ValueError PySem.F.store_ValueError
  have T3 : ExK K c3 := E3.T PySem.F.excBase_ValueError PySem.F.store_ValueError
  have T4 : ExK K c4 := E4.T PySem.F.excBase_ValueError PySem.F.store_ValueError
  have T5 : ExK K c5 := E5.T PySem.F.excBase_ValueError PySem.F.store_ValueError
  have T6 : ExK K c6 := E6.T PySem.F.excBase_ValueError PySem.F.store_ValueError
  have T7 : ExK K c7 := E7.T PySem.F.excBase_ValueError PySem.F.store_ValueError
  have T8 : ExK K c8 := E8.T PySem.F.excBase_ValueError PySem.F.store_ValueError
  have T9 : ExK K c9 := E9.T PySem.F.excBase_ValueError PySem.F.store_ValueError
  have T10 : ExK K c10 := E10.T PySem.F.excBase_ValueError PySem.F.store_ValueError
  have T11 : ExK K c11 := E11.T PySem.F.excBase_ValueError PySem.F.store_ValueError
  have T12 : ExK K c12 := E12.T PySem.F.excBase_ValueError PySem.F.store_ValueError
  have T13 : ExK K c13 := E13.T PySem.F.excBase_ValueError PySem.F.store_ValueError
  have T14 : ExK K c14 := E14.T PySem.F.excBase_ValueError PySem.F.store_ValueError
  have T15 : ExK K c15 := E15.T PySem.F.excBase_ValueError PySem.F.store_ValueError
  have T16 : ExK K c16 := E16.T PySem.F.excBase_ValueError PySem.F.store_ValueError
  have T17 : ExK K c17 := E17.T PySem.F.excBase_ValueError PySem.F.store_ValueError
  have T18 : ExK K c18 := E18.T PySem.F.excBase_LookupError PySem.F.store_LookupError
  have T19 : ExK K c19 := E19.T PySem.F.excBase_IndexError PySem.F.store_IndexError
  have bC : Binds K gC ["value"] [] := FC.binds fun _ _ _ _ _ _ us hl => match us, hl with | [_], _ => rfl
  have bBg : Binds K gBg ["_law_script"] [] := FBg.binds fun _ _ _ _ _ _ us hl => match us, hl with | [_], _ => rfl
  have bD : Binds K gD ["_law_bag_here", "_law_many"] [] := FD.binds fun _ _ _ _ _ _ us hl => match us, hl with | [_, _], _ => rfl
  have bO : Binds K gO ["_law_bag_here", "_law_some"] [] := FO.binds fun _ _ _ _ _ _ us hl => match us, hl with | [_, _], _ => rfl
  have bS : Binds K gS ["_law_found", "_law_due"] [] := FS.binds fun _ _ _ _ _ _ us hl => match us, hl with | [_, _], _ => rfl
  have bT : Binds K gT ["_law_e"] [] := FT.binds fun _ _ _ _ _ _ us hl => match us, hl with | [_], _ => rfl
  have bF : Binds K gF ["_law_far"] [] := FF.binds fun _ _ _ _ _ _ us hl => match us, hl with | [_], _ => rfl
  have bL : Binds K gL ["_law_far"] [] := FL.binds fun _ _ _ _ _ _ us hl => match us, hl with | [_], _ => rfl
  have b0 : Binds K g0 ["self", "given"] [] := F0.binds fun _ _ _ _ _ _ us hl => match us, hl with | [_, _], _ => rfl
  have kb0 : KBn K g0 ["self", "given"] 1 ["given"] (fun us ws => us ++ ws) (fun vs zs => vs ++ zs) := by
    obtain ⟨⟨oc, od, kV, doc, pm, an, cdv, ct, osl, rfl, _, _⟩, _⟩ := F0
    exact ⟨fun s us ws _ l1 l2 => match us, ws, l1, l2 with | [_], [_], _, _ => .of_eq rfl, fun r1 r2 => r1.append r2⟩
  have b1 : Binds K g1 ["self", "given"] [] := F1.binds fun _ _ _ _ _ _ us hl => match us, hl with | [_, _], _ => rfl
  have kb1 : KBn K g1 ["self", "given"] 1 ["given"] (fun us ws => us ++ ws) (fun vs zs => vs ++ zs) := by
    obtain ⟨⟨oc, od, kV, doc, pm, an, cdv, ct, osl, rfl, _, _⟩, _⟩ := F1
    exact ⟨fun s us ws _ l1 l2 => match us, ws, l1, l2 with | [_], [_], _, _ => .of_eq rfl, fun r1 r2 => r1.append r2⟩
  have b2 : Binds K g2 ["self", "given"] [] := F2.binds fun _ _ _ _ _ _ us hl => match us, hl with | [_, _], _ => rfl
  have kb2 : KBn K g2 ["self", "given"] 1 ["given"] (fun us ws => us ++ ws) (fun vs zs => vs ++ zs) := by
    obtain ⟨⟨oc, od, kV, doc, pm, an, cdv, ct, osl, rfl, _, _⟩, _⟩ := F2
    exact ⟨fun s us ws _ l1 l2 => match us, ws, l1, l2 with | [_], [_], _, _ => .of_eq rfl, fun r1 r2 => r1.append r2⟩
  have b3 : Binds K g3 ["self", "given"] [] := F3.binds fun _ _ _ _ _ _ us hl => match us, hl with | [_, _], _ => rfl
  have kb3 : KBn K g3 ["self", "given"] 1 ["given"] (fun us ws => us ++ ws) (fun vs zs => vs ++ zs) := by
    obtain ⟨⟨oc, od, kV, doc, pm, an, cdv, ct, osl, rfl, _, _⟩, _⟩ := F3
    exact ⟨fun s us ws _ l1 l2 => match us, ws, l1, l2 with | [_], [_], _, _ => .of_eq rfl, fun r1 r2 => r1.append r2⟩
  have b4 : Binds K g4 ["self", "name"] [] := F4.binds fun _ _ _ _ _ _ us hl => match us, hl with | [_, _], _ => rfl
  have kb4 : KBn K g4 ["self", "name"] 1 ["name"] (fun us ws => us ++ ws) (fun vs zs => vs ++ zs) := by
    obtain ⟨⟨oc, od, kV, doc, pm, an, cdv, ct, osl, rfl, _, _⟩, _⟩ := F4
    exact ⟨fun s us ws _ l1 l2 => match us, ws, l1, l2 with | [_], [_], _, _ => .of_eq rfl, fun r1 r2 => r1.append r2⟩
  have b5 : Binds K g5 ["self", "at"] [] := F5.binds fun _ _ _ _ _ _ us hl => match us, hl with | [_, _], _ => rfl
  have kb5 : KBn K g5 ["self", "at"] 1 ["at"] (fun us ws => us ++ ws) (fun vs zs => vs ++ zs) := by
    obtain ⟨⟨oc, od, kV, doc, pm, an, cdv, ct, osl, rfl, _, _⟩, _⟩ := F5
    exact ⟨fun s us ws _ l1 l2 => match us, ws, l1, l2 with | [_], [_], _, _ => .of_eq rfl, fun r1 r2 => r1.append r2⟩
  have b6 : Binds K g6 ["self", "at"] [] := F6.binds fun _ _ _ _ _ _ us hl => match us, hl with | [_, _], _ => rfl
  have kb6 : KBn K g6 ["self", "at"] 1 ["at"] (fun us ws => us ++ ws) (fun vs zs => vs ++ zs) := by
    obtain ⟨⟨oc, od, kV, doc, pm, an, cdv, ct, osl, rfl, _, _⟩, _⟩ := F6
    exact ⟨fun s us ws _ l1 l2 => match us, ws, l1, l2 with | [_], [_], _, _ => .of_eq rfl, fun r1 r2 => r1.append r2⟩
  have b7 : Binds K g7 ["self", "at"] [] := F7.binds fun _ _ _ _ _ _ us hl => match us, hl with | [_, _], _ => rfl
  have kb7 : KBn K g7 ["self", "at"] 1 ["at"] (fun us ws => us ++ ws) (fun vs zs => vs ++ zs) := by
    obtain ⟨⟨oc, od, kV, doc, pm, an, cdv, ct, osl, rfl, _, _⟩, _⟩ := F7
    exact ⟨fun s us ws _ l1 l2 => match us, ws, l1, l2 with | [_], [_], _, _ => .of_eq rfl, fun r1 r2 => r1.append r2⟩
  have b8 : Binds K g8 ["self", "given"] [] := F8.binds fun _ _ _ _ _ _ us hl => match us, hl with | [_, _], _ => rfl
  have kb8 : KBn K g8 ["self", "given"] 1 ["given"] (fun us ws => us ++ ws) (fun vs zs => vs ++ zs) := by
    obtain ⟨⟨oc, od, kV, doc, pm, an, cdv, ct, osl, rfl, _, _⟩, _⟩ := F8
    exact ⟨fun s us ws _ l1 l2 => match us, ws, l1, l2 with | [_], [_], _, _ => .of_eq rfl, fun r1 r2 => r1.append r2⟩
  have b9 : Binds K g9 ["self", "at"] [] := F9.binds fun _ _ _ _ _ _ us hl => match us, hl with | [_, _], _ => rfl
  have kb9 : KBn K g9 ["self", "at"] 1 ["at"] (fun us ws => us ++ ws) (fun vs zs => vs ++ zs) := by
    obtain ⟨⟨oc, od, kV, doc, pm, an, cdv, ct, osl, rfl, _, _⟩, _⟩ := F9
    exact ⟨fun s us ws _ l1 l2 => match us, ws, l1, l2 with | [_], [_], _, _ => .of_eq rfl, fun r1 r2 => r1.append r2⟩
  have b10 : Binds K g10 ["self"] [] := F10.binds fun _ _ _ _ _ _ us hl => match us, hl with | [_], _ => rfl
  have b11 : Binds K g11 ["self", "most"] [] := F11.binds fun _ _ _ _ _ _ us hl => match us, hl with | [_, _], _ => rfl
  have kb11 : KBn K g11 ["self", "most"] 1 ["most"] (fun us ws => us ++ ws) (fun vs zs => vs ++ zs) := by
    obtain ⟨⟨oc, od, kV, doc, pm, an, cdv, ct, osl, rfl, _, _⟩, _⟩ := F11
    exact ⟨fun s us ws _ l1 l2 => match us, ws, l1, l2 with | [_], [_], _, _ => .of_eq rfl, fun r1 r2 => r1.append r2⟩
  have b12 : Binds K g12 ["self", "given"] [] := F12.binds fun _ _ _ _ _ _ us hl => match us, hl with | [_, _], _ => rfl
  have kb12 : KBn K g12 ["self", "given"] 1 ["given"] (fun us ws => us ++ ws) (fun vs zs => vs ++ zs) := by
    obtain ⟨⟨oc, od, kV, doc, pm, an, cdv, ct, osl, rfl, _, _⟩, _⟩ := F12
    exact ⟨fun s us ws _ l1 l2 => match us, ws, l1, l2 with | [_], [_], _, _ => .of_eq rfl, fun r1 r2 => r1.append r2⟩
  have b13 : Binds K g13 ["self", "name"] [] := F13.binds fun _ _ _ _ _ _ us hl => match us, hl with | [_, _], _ => rfl
  have kb13 : KBn K g13 ["self", "name"] 1 ["name"] (fun us ws => us ++ ws) (fun vs zs => vs ++ zs) := by
    obtain ⟨⟨oc, od, kV, doc, pm, an, cdv, ct, osl, rfl, _, _⟩, _⟩ := F13
    exact ⟨fun s us ws _ l1 l2 => match us, ws, l1, l2 with | [_], [_], _, _ => .of_eq rfl, fun r1 r2 => r1.append r2⟩
  have b14 : Binds K g14 ["self", "most"] [] := F14.binds fun _ _ _ _ _ _ us hl => match us, hl with | [_, _], _ => rfl
  have kb14 : KBn K g14 ["self", "most"] 1 ["most"] (fun us ws => us ++ ws) (fun vs zs => vs ++ zs) := by
    obtain ⟨⟨oc, od, kV, doc, pm, an, cdv, ct, osl, rfl, _, _⟩, _⟩ := F14
    exact ⟨fun s us ws _ l1 l2 => match us, ws, l1, l2 with | [_], [_], _, _ => .of_eq rfl, fun r1 r2 => r1.append r2⟩
  have b15 : Binds K g15 ["self", "given"] [] := F15.binds fun _ _ _ _ _ _ us hl => match us, hl with | [_, _], _ => rfl
  have kb15 : KBn K g15 ["self", "given"] 1 ["given"] (fun us ws => us ++ ws) (fun vs zs => vs ++ zs) := by
    obtain ⟨⟨oc, od, kV, doc, pm, an, cdv, ct, osl, rfl, _, _⟩, _⟩ := F15
    exact ⟨fun s us ws _ l1 l2 => match us, ws, l1, l2 with | [_], [_], _, _ => .of_eq rfl, fun r1 r2 => r1.append r2⟩
  have b16 : Binds K g16 ["self", "at"] [] := F16.binds fun _ _ _ _ _ _ us hl => match us, hl with | [_, _], _ => rfl
  have kb16 : KBn K g16 ["self", "at"] 1 ["at"] (fun us ws => us ++ ws) (fun vs zs => vs ++ zs) := by
    obtain ⟨⟨oc, od, kV, doc, pm, an, cdv, ct, osl, rfl, _, _⟩, _⟩ := F16
    exact ⟨fun s us ws _ l1 l2 => match us, ws, l1, l2 with | [_], [_], _, _ => .of_eq rfl, fun r1 r2 => r1.append r2⟩
  have b17 : Binds K g17 ["self", "at"] [] := F17.binds fun _ _ _ _ _ _ us hl => match us, hl with | [_, _], _ => rfl
  have kb17 : KBn K g17 ["self", "at"] 1 ["at"] (fun us ws => us ++ ws) (fun vs zs => vs ++ zs) := by
    obtain ⟨⟨oc, od, kV, doc, pm, an, cdv, ct, osl, rfl, _, _⟩, _⟩ := F17
    exact ⟨fun s us ws _ l1 l2 => match us, ws, l1, l2 with | [_], [_], _, _ => .of_eq rfl, fun r1 r2 => r1.append r2⟩
  have b18 : Binds K g18 ["self", "name"] [] := F18.binds fun _ _ _ _ _ _ us hl => match us, hl with | [_, _], _ => rfl
  have kb18 : KBn K g18 ["self", "name"] 1 ["name"] (fun us ws => us ++ ws) (fun vs zs => vs ++ zs) := by
    obtain ⟨⟨oc, od, kV, doc, pm, an, cdv, ct, osl, rfl, _, _⟩, _⟩ := F18
    exact ⟨fun s us ws _ l1 l2 => match us, ws, l1, l2 with | [_], [_], _, _ => .of_eq rfl, fun r1 r2 => r1.append r2⟩
  have b19 : Binds K g19 ["self"] [] := F19.binds fun _ _ _ _ _ _ us hl => match us, hl with | [_], _ => rfl
  refine ⟨gW, fun s v => ?_, fun base _ _ => ?_⟩
  · obtain ⟨⟨oc, od, kV, doc, pm, an, cdv, ct, osl, rfl, _, _⟩, _⟩ := FW
    exact .of_eq rfl
  have GC := ok_copied (P := P) (w := w) (base := base) FC (PySem.W.mg_of X G aC) bC B 3
  have GD := ok_draw (P := P) (w := w) (base := base) FD B.len B.int
  have M := fun {n : Str} {v : Value} (e : PySem.W.nsIn K mainGlobals n = some (some v)) => PySem.W.mg_of X G e
  have K0 : ErrK P w K mg base "WrongCount" "given" c0 := ⟨T0, M a0, f0, g0, E0.ic, E0.ti, ok_i0 F0 GC (M aC) FC.kp bC T0 E0.n1 E0.n2, b0, kb0⟩
  have K1 : ErrK P w K mg base "InvalidNumber" "given" c1 := ⟨T1, M a1, f1, g1, E1.ic, E1.ti, ok_i1 F1 GC (M aC) FC.kp bC T1 E1.n1 E1.n2, b1, kb1⟩
  have K2 : ErrK P w K mg base "InvalidWord" "given" c2 := ⟨T2, M a2, f2, g2, E2.ic, E2.ti, ok_i2 F2 GC (M aC) FC.kp bC T2 E2.n1 E2.n2, b2, kb2⟩
  have K3 : ErrK P w K mg base "InvalidPoint" "given" c3 := ⟨T3, M a3, f3, g3, E3.ic, E3.ti, ok_i3 F3 GC (M aC) FC.kp bC T3 E3.n1 E3.n2, b3, kb3⟩
  have K4 : ErrK P w K mg base "InvalidField" "name" c4 := ⟨T4, M a4, f4, g4, E4.ic, E4.ti, ok_i4 F4 GC (M aC) FC.kp bC T4 E4.n1 E4.n2, b4, kb4⟩
  have K5 : ErrK P w K mg base "InvalidText" "at" c5 := ⟨T5, M a5, f5, g5, E5.ic, E5.ti, ok_i5 F5 GC (M aC) FC.kp bC T5 E5.n1 E5.n2, b5, kb5⟩
  have K6 : ErrK P w K mg base "InvalidDeed" "at" c6 := ⟨T6, M a6, f6, g6, E6.ic, E6.ti, ok_i6 F6 GC (M aC) FC.kp bC T6 E6.n1 E6.n2, b6, kb6⟩
  have K7 : ErrK P w K mg base "NotNow" "at" c7 := ⟨T7, M a7, f7, g7, E7.ic, E7.ti, ok_i7 F7 GC (M aC) FC.kp bC T7 E7.n1 E7.n2, b7, kb7⟩
  have K8 : ErrK P w K mg base "InvalidChute" "given" c8 := ⟨T8, M a8, f8, g8, E8.ic, E8.ti, ok_i8 F8 GC (M aC) FC.kp bC T8 E8.n1 E8.n2, b8, kb8⟩
  have K9 : ErrK P w K mg base "InvalidOffer" "at" c9 := ⟨T9, M a9, f9, g9, E9.ic, E9.ti, ok_i9 F9 GC (M aC) FC.kp bC T9 E9.n1 E9.n2, b9, kb9⟩
  have K10 : ErrK0 P w K mg base "Unlike" c10 := ⟨T10, M a10, f10, g10, E10.ic, E10.ti, ok_i10 F10 T10 E10.n1, b10⟩
  have K11 : ErrK P w K mg base "TooMany" "most" c11 := ⟨T11, M a11, f11, g11, E11.ic, E11.ti, ok_i11 F11 GC (M aC) FC.kp bC T11 E11.n1 E11.n2, b11, kb11⟩
  have K12 : ErrK P w K mg base "InvalidName" "given" c12 := ⟨T12, M a12, f12, g12, E12.ic, E12.ti, ok_i12 F12 GC (M aC) FC.kp bC T12 E12.n1 E12.n2, b12, kb12⟩
  have K13 : ErrK P w K mg base "DuplicateName" "name" c13 := ⟨T13, M a13, f13, g13, E13.ic, E13.ti, ok_i13 F13 GC (M aC) FC.kp bC T13 E13.n1 E13.n2, b13, kb13⟩
  have K14 : ErrK P w K mg base "Full" "most" c14 := ⟨T14, M a14, f14, g14, E14.ic, E14.ti, ok_i14 F14 GC (M aC) FC.kp bC T14 E14.n1 E14.n2, b14, kb14⟩
  have K15 : ErrK P w K mg base "InvalidLimit" "given" c15 := ⟨T15, M a15, f15, g15, E15.ic, E15.ti, ok_i15 F15 GC (M aC) FC.kp bC T15 E15.n1 E15.n2, b15, kb15⟩
  have K16 : ErrK P w K mg base "InvalidCommand" "at" c16 := ⟨T16, M a16, f16, g16, E16.ic, E16.ti, ok_i16 F16 GC (M aC) FC.kp bC T16 E16.n1 E16.n2, b16, kb16⟩
  have K17 : ErrK P w K mg base "InvalidPage" "at" c17 := ⟨T17, M a17, f17, g17, E17.ic, E17.ti, ok_i17 F17 GC (M aC) FC.kp bC T17 E17.n1 E17.n2, b17, kb17⟩
  have K18 : ErrK P w K mg base "UnknownName" "name" c18 := ⟨T18, M a18, f18, g18, E18.ic, E18.ti, ok_i18 F18 GC (M aC) FC.kp bC T18 E18.n1 E18.n2, b18, kb18⟩
  have K19 : ErrK0 P w K mg base "NothingLeft" c19 := ⟨T19, M a19, f19, g19, E19.ic, E19.ti, ok_i19 F19 T19 E19.n1, b19⟩
  refine ok_law FW B (PySem.W.mg_none_of X G z9) (PySem.W.mg_none_of X G z10) (PySem.W.mg_none_of X G z11) (PySem.W.mg_none_of X G z12) (PySem.W.mg_none_of X G z13) (M aB) (M aM) (M a1) (M a2) (M a14) (M a11) (M a5) (M a17) (M a18)
    (ok_bag FBg B.len B.int) (M aBg) FBg.kp bBg GD (M aD) FD.kp bD (ok_of FO GD (M aD) FD.kp bD B.len) (M aO) FO.kp bO (ok_same FS (M aS) bS B 5) (M aS) FS.kp bS (ok_field FT) (M aT) FT.kp bT
    (ok_first FF K0 K1 K2 K3 K4 K5 K6 K7 K8 K9) (M aF) FF.kp bF (ok_late FL K10 K11 K12 K13 K14 K15 K16 K17 K18 K19) (M aL) FL.kp bL fun i hi => ?_
  match i, hi with
  | 0, _ => exact ⟨c0, _, _, rfl, rfl, errI_of E0 S0 bB bM E1.bas E2.bas E5.bas E11.bas E14.bas E17.bas E18.bas T0 (fun p hp => (Option.some.inj hp).symm)⟩
  | 1, _ => exact ⟨c1, _, _, rfl, rfl, errI_of E1 S1 bB bM E1.bas E2.bas E5.bas E11.bas E14.bas E17.bas E18.bas T1 (fun p hp => (Option.some.inj hp).symm)⟩
  | 2, _ => exact ⟨c2, _, _, rfl, rfl, errI_of E2 S2 bB bM E1.bas E2.bas E5.bas E11.bas E14.bas E17.bas E18.bas T2 (fun p hp => (Option.some.inj hp).symm)⟩
  | 3, _ => exact ⟨c3, _, _, rfl, rfl, errI_of E3 S3 bB bM E1.bas E2.bas E5.bas E11.bas E14.bas E17.bas E18.bas T3 (fun p hp => (Option.some.inj hp).symm)⟩
  | 4, _ => exact ⟨c4, _, _, rfl, rfl, errI_of E4 S4 bB bM E1.bas E2.bas E5.bas E11.bas E14.bas E17.bas E18.bas T4 (fun p hp => (Option.some.inj hp).symm)⟩
  | 5, _ => exact ⟨c5, _, _, rfl, rfl, errI_of E5 S5 bB bM E1.bas E2.bas E5.bas E11.bas E14.bas E17.bas E18.bas T5 (fun p hp => (Option.some.inj hp).symm)⟩
  | 6, _ => exact ⟨c6, _, _, rfl, rfl, errI_of E6 S6 bB bM E1.bas E2.bas E5.bas E11.bas E14.bas E17.bas E18.bas T6 (fun p hp => (Option.some.inj hp).symm)⟩
  | 7, _ => exact ⟨c7, _, _, rfl, rfl, errI_of E7 S7 bB bM E1.bas E2.bas E5.bas E11.bas E14.bas E17.bas E18.bas T7 (fun p hp => (Option.some.inj hp).symm)⟩
  | 8, _ => exact ⟨c8, _, _, rfl, rfl, errI_of E8 S8 bB bM E1.bas E2.bas E5.bas E11.bas E14.bas E17.bas E18.bas T8 (fun p hp => (Option.some.inj hp).symm)⟩
  | 9, _ => exact ⟨c9, _, _, rfl, rfl, errI_of E9 S9 bB bM E1.bas E2.bas E5.bas E11.bas E14.bas E17.bas E18.bas T9 (fun p hp => (Option.some.inj hp).symm)⟩
  | 10, _ => exact ⟨c10, _, _, rfl, rfl, errI_of E10 S10 bB bM E1.bas E2.bas E5.bas E11.bas E14.bas E17.bas E18.bas T10 (fun p hp => by cases hp)⟩
  | 11, _ => exact ⟨c11, _, _, rfl, rfl, errI_of E11 S11 bB bM E1.bas E2.bas E5.bas E11.bas E14.bas E17.bas E18.bas T11 (fun p hp => (Option.some.inj hp).symm)⟩
  | 12, _ => exact ⟨c12, _, _, rfl, rfl, errI_of E12 S12 bB bM E1.bas E2.bas E5.bas E11.bas E14.bas E17.bas E18.bas T12 (fun p hp => (Option.some.inj hp).symm)⟩
  | 13, _ => exact ⟨c13, _, _, rfl, rfl, errI_of E13 S13 bB bM E1.bas E2.bas E5.bas E11.bas E14.bas E17.bas E18.bas T13 (fun p hp => (Option.some.inj hp).symm)⟩
  | 14, _ => exact ⟨c14, _, _, rfl, rfl, errI_of E14 S14 bB bM E1.bas E2.bas E5.bas E11.bas E14.bas E17.bas E18.bas T14 (fun p hp => (Option.some.inj hp).symm)⟩
  | 15, _ => exact ⟨c15, _, _, rfl, rfl, errI_of E15 S15 bB bM E1.bas E2.bas E5.bas E11.bas E14.bas E17.bas E18.bas T15 (fun p hp => (Option.some.inj hp).symm)⟩
  | 16, _ => exact ⟨c16, _, _, rfl, rfl, errI_of E16 S16 bB bM E1.bas E2.bas E5.bas E11.bas E14.bas E17.bas E18.bas T16 (fun p hp => (Option.some.inj hp).symm)⟩
  | 17, _ => exact ⟨c17, _, _, rfl, rfl, errI_of E17 S17 bB bM E1.bas E2.bas E5.bas E11.bas E14.bas E17.bas E18.bas T17 (fun p hp => (Option.some.inj hp).symm)⟩
  | 18, _ => exact ⟨c18, _, _, rfl, rfl, errI_of E18 S18 bB bM E1.bas E2.bas E5.bas E11.bas E14.bas E17.bas E18.bas T18 (fun p hp => (Option.some.inj hp).symm)⟩
  | 19, _ => exact ⟨c19, _, _, rfl, rfl, errI_of E19 S19 bB bM E1.bas E2.bas E5.bas E11.bas E14.bas E17.bas E18.bas T19 (fun p hp => by cases hp)⟩
  | j + 20, hj => exact absurd hj (by omega)
theorem walk {l : PySem.W.OpenLaw} {q : Program} {loose : List Str} {XP : (Str → Option Value) → Heap → Prop} {YP : World → Heap → Prop} {d : DefRec} {K : Params → PySem.W.Frag} (hn : l.most = some 63) (hdf : d.params.defaults = [])
    (hY : ∀ (w : World) (h : Heap), YP w h → (K w.params).In h)
    (F : ∀ (w : World) (mg : Str → Option Value) (fa : Addr) (h : Heap), (K w.params).In h → h.Ns mainGlobals mg → mg d.name = some (.ref fa) → ∃ fd : FuncData, (∀ (s : Shared) (u : Value), BindsTo s fd ⟨[u], []⟩ [("_law_script", u)]) ∧ ∀ base : Heap, (K w.params).In base → base.Ns mainGlobals mg → FnOk l.prog w (K w.params) mg base CX0 7 fa fd ["_law_script"] (spLaw (K w.params))) :
    PySem.W.WalkO q loose XP YP l.row.toRowW d [] (fun f vs => PySem.call f vs) :=
  L2.walk_of (n := 63) (k := 7) (x := "_law_script") (CX := fun _ => CX0) (sp := fun w => spLaw (K w.params)) hn (by decide) hdf ⟨rfl, by decide, by decide⟩ hY F (fun _ _ a ns hl _ hS => ⟨a, ns, rfl, hS, hl, fun _ => rfl⟩) fun _ _ _ _ _ z => z
end Own

open PySem PySem.W PyProof.Rows in
set_option maxRecDepth 100000 in
set_option maxHeartbeats 0 in
theorem PySem.Challenge.cw_ownchute_k01_errors_by_themselves_holds : PySem.Challenge.rw_ownchute_k01_errors_by_themselves.Holds := by
  w_on; o_law; k_head; (case hw => w_witness2)
  k_fill
  refine Own.walk (l := PySem.Challenge.rw_ownchute_k01_errors_by_themselves) rfl rfl (fun w h Y => PySem.W.kIn_of Y) ?F
  case F =>
    intro w mg fa h KX G hmg
    refine' Own.all_mk KX G hmg ?aB ?aM ?a0 ?a1 ?a2 ?a3 ?a4 ?a5 ?a6 ?a7 ?a8 ?a9 ?a10 ?a11 ?a12 ?a13 ?a14 ?a15 ?a16 ?a17 ?a18 ?a19 ?aC ?aBg ?aD ?aO ?aS ?aT ?aF ?aL ?aW ?z0 ?z1 ?z2 ?z3 ?z4 ?z5 ?z6 ?z7 ?z8 ?z9 ?z10 ?z11 ?z12 ?z13 ?bB ?bM ?E0 ?E1 ?E2 ?E3 ?E4 ?E5 ?E6 ?E7 ?E8 ?E9 ?E10 ?E11 ?E12 ?E13 ?E14 ?E15 ?E16 ?E17 ?E18 ?E19 ?S0 ?S1 ?S2 ?S3 ?S4 ?S5 ?S6 ?S7 ?S8 ?S9 ?S10 ?S11 ?S12 ?S13 ?S14 ?S15 ?S16 ?S17 ?S18 ?S19 ?F0 ?F1 ?F2 ?F3 ?F4 ?F5 ?F6 ?F7 ?F8 ?F9 ?F10 ?F11 ?F12 ?F13 ?F14 ?F15 ?F16 ?F17 ?F18 ?F19 ?FC ?FBg ?FD ?FO ?FS ?FT ?FF ?FL ?FW
    (case aB => k_is)
    (case aM => k_is)
    (case a0 => k_is)
    (case a1 => k_is)
    (case a2 => k_is)
    (case a3 => k_is)
    (case a4 => k_is)
    (case a5 => k_is)
    (case a6 => k_is)
    (case a7 => k_is)
    (case a8 => k_is)
    (case a9 => k_is)
    (case a10 => k_is)
    (case a11 => k_is)
    (case a12 => k_is)
    (case a13 => k_is)
    (case a14 => k_is)
    (case a15 => k_is)
    (case a16 => k_is)
    (case a17 => k_is)
    (case a18 => k_is)
    (case a19 => k_is)
    (case aC => k_is)
    (case aBg => k_is)
    (case aD => k_is)
    (case aO => k_is)
    (case aS => k_is)
    (case aT => k_is)
    (case aF => k_is)
    (case aL => k_is)
    (case aW => k_is)
    (case z0 => k_is)
    (case z1 => k_is)
    (case z2 => k_is)
    (case z3 => k_is)
    (case z4 => k_is)
    (case z5 => k_is)
    (case z6 => k_is)
    (case z7 => k_is)
    (case z8 => k_is)
    (case z9 => k_is)
    (case z10 => k_is)
    (case z11 => k_is)
    (case z12 => k_is)
    (case z13 => k_is)
    (case bB => (constructor <;> k_is))
    (case bM => (constructor <;> k_is))
    (case E0 => (constructor <;> first | k_is | kx_is))
    (case E1 => (constructor <;> first | k_is | kx_is))
    (case E2 => (constructor <;> first | k_is | kx_is))
    (case E3 => (constructor <;> first | k_is | kx_is))
    (case E4 => (constructor <;> first | k_is | kx_is))
    (case E5 => (constructor <;> first | k_is | kx_is))
    (case E6 => (constructor <;> first | k_is | kx_is))
    (case E7 => (constructor <;> first | k_is | kx_is))
    (case E8 => (constructor <;> first | k_is | kx_is))
    (case E9 => (constructor <;> first | k_is | kx_is))
    (case E10 => (constructor <;> first | k_is | kx_is))
    (case E11 => (constructor <;> first | k_is | kx_is))
    (case E12 => (constructor <;> first | k_is | kx_is))
    (case E13 => (constructor <;> first | k_is | kx_is))
    (case E14 => (constructor <;> first | k_is | kx_is))
    (case E15 => (constructor <;> first | k_is | kx_is))
    (case E16 => (constructor <;> first | k_is | kx_is))
    (case E17 => (constructor <;> first | k_is | kx_is))
    (case E18 => (constructor <;> first | k_is | kx_is))
    (case E19 => (constructor <;> first | k_is | kx_is))
    (case S0 => (constructor <;> k_is))
    (case S1 => (constructor <;> k_is))
    (case S2 => (constructor <;> k_is))
    (case S3 => (constructor <;> k_is))
    (case S4 => (constructor <;> k_is))
    (case S5 => (constructor <;> k_is))
    (case S6 => (constructor <;> k_is))
    (case S7 => (constructor <;> k_is))
    (case S8 => (constructor <;> k_is))
    (case S9 => (constructor <;> k_is))
    (case S10 => (constructor <;> k_is))
    (case S11 => (constructor <;> k_is))
    (case S12 => (constructor <;> k_is))
    (case S13 => (constructor <;> k_is))
    (case S14 => (constructor <;> k_is))
    (case S15 => (constructor <;> k_is))
    (case S16 => (constructor <;> k_is))
    (case S17 => (constructor <;> k_is))
    (case S18 => (constructor <;> k_is))
    (case S19 => (constructor <;> k_is))
    (case F0 => (refine' L2.fun_mk ?x1 ?x2 ?x3; (case x1 => k_is); (case x2 => k_is); (case x3 => k_is)))
    (case F1 => (refine' L2.fun_mk ?x1 ?x2 ?x3; (case x1 => k_is); (case x2 => k_is); (case x3 => k_is)))
    (case F2 => (refine' L2.fun_mk ?x1 ?x2 ?x3; (case x1 => k_is); (case x2 => k_is); (case x3 => k_is)))
    (case F3 => (refine' L2.fun_mk ?x1 ?x2 ?x3; (case x1 => k_is); (case x2 => k_is); (case x3 => k_is)))
    (case F4 => (refine' L2.fun_mk ?x1 ?x2 ?x3; (case x1 => k_is); (case x2 => k_is); (case x3 => k_is)))
    (case F5 => (refine' L2.fun_mk ?x1 ?x2 ?x3; (case x1 => k_is); (case x2 => k_is); (case x3 => k_is)))
    (case F6 => (refine' L2.fun_mk ?x1 ?x2 ?x3; (case x1 => k_is); (case x2 => k_is); (case x3 => k_is)))
    (case F7 => (refine' L2.fun_mk ?x1 ?x2 ?x3; (case x1 => k_is); (case x2 => k_is); (case x3 => k_is)))
    (case F8 => (refine' L2.fun_mk ?x1 ?x2 ?x3; (case x1 => k_is); (case x2 => k_is); (case x3 => k_is)))
    (case F9 => (refine' L2.fun_mk ?x1 ?x2 ?x3; (case x1 => k_is); (case x2 => k_is); (case x3 => k_is)))
    (case F10 => (refine' L2.fun_mk ?x1 ?x2 ?x3; (case x1 => k_is); (case x2 => k_is); (case x3 => k_is)))
    (case F11 => (refine' L2.fun_mk ?x1 ?x2 ?x3; (case x1 => k_is); (case x2 => k_is); (case x3 => k_is)))
    (case F12 => (refine' L2.fun_mk ?x1 ?x2 ?x3; (case x1 => k_is); (case x2 => k_is); (case x3 => k_is)))
    (case F13 => (refine' L2.fun_mk ?x1 ?x2 ?x3; (case x1 => k_is); (case x2 => k_is); (case x3 => k_is)))
    (case F14 => (refine' L2.fun_mk ?x1 ?x2 ?x3; (case x1 => k_is); (case x2 => k_is); (case x3 => k_is)))
    (case F15 => (refine' L2.fun_mk ?x1 ?x2 ?x3; (case x1 => k_is); (case x2 => k_is); (case x3 => k_is)))
    (case F16 => (refine' L2.fun_mk ?x1 ?x2 ?x3; (case x1 => k_is); (case x2 => k_is); (case x3 => k_is)))
    (case F17 => (refine' L2.fun_mk ?x1 ?x2 ?x3; (case x1 => k_is); (case x2 => k_is); (case x3 => k_is)))
    (case F18 => (refine' L2.fun_mk ?x1 ?x2 ?x3; (case x1 => k_is); (case x2 => k_is); (case x3 => k_is)))
    (case F19 => (refine' L2.fun_mk ?x1 ?x2 ?x3; (case x1 => k_is); (case x2 => k_is); (case x3 => k_is)))
    (case FC => (refine' L2.fun_mk ?x1 ?x2 ?x3; (case x1 => k_is); (case x2 => k_is); (case x3 => k_is)))
    (case FBg => (refine' L2.fun_mk ?x1 ?x2 ?x3; (case x1 => k_is); (case x2 => k_is); (case x3 => k_is)))
    (case FD => (refine' L2.fun_mk ?x1 ?x2 ?x3; (case x1 => k_is); (case x2 => k_is); (case x3 => k_is)))
    (case FO => (refine' L2.fun_mk ?x1 ?x2 ?x3; (case x1 => k_is); (case x2 => k_is); (case x3 => k_is)))
    (case FS => (refine' L2.fun_mk ?x1 ?x2 ?x3; (case x1 => k_is); (case x2 => k_is); (case x3 => k_is)))
    (case FT => (refine' L2.fun_mk ?x1 ?x2 ?x3; (case x1 => k_is); (case x2 => k_is); (case x3 => k_is)))
    (case FF => (refine' L2.fun_mk ?x1 ?x2 ?x3; (case x1 => k_is); (case x2 => k_is); (case x3 => k_is)))
    (case FL => (refine' L2.fun_mk ?x1 ?x2 ?x3; (case x1 => k_is); (case x2 => k_is); (case x3 => k_is)))
    (case FW => (refine' L2.fun_mk ?x1 ?x2 ?x3; (case x1 => k_is); (case x2 => k_is); (case x3 => k_is)))
