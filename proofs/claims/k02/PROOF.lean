import PyProof.Rows.All
import Wide.All
import OpenK.AllK
import Wide.FinOn
import HandS.ForMost
import HandS.Wide
import HandS.IsInst
import HandS.RaiseMore
import HandS.TupLe
import HandS.Codes
import HandS.Walk
import PySem.Challenge.RW_rockbeds_k02_names_and_levels
set_option Elab.async false
set_option linter.all false
set_option maxRecDepth 100000
namespace Rk
open PySem L2
def top (i : Nat) : Stmt := PySem.Challenge.pw_rockbeds_k02_names_and_levels.main.body.getD i (.Pass ⟨0, 0, 0, 0⟩)
abbrev sIsName : Stmt := top 2
abbrev sIsLevel : Stmt := top 3
abbrev sFeed : Stmt := top 5
abbrev sDraw : Stmt := top 6
abbrev sPick : Stmt := top 7
abbrev sAny : Stmt := top 8
abbrev sIsInt : Stmt := top 9
abbrev sIsWord : Stmt := top 10
abbrev sWord : Stmt := top 11
abbrev sLaw : Stmt := top 12
/-! ### the feed -/
abbrev kC : Key := Sum.inr "cells"
abbrev kA : Key := Sum.inr "at"
abbrev kL : Key := Sum.inr "left"
def fk (c : Addr) (n l : Int) : List (Key × V) := [(kC, .ref c), (kA, .int n), (kL, .int l)]
theorem nCA : ¬ kC = kA := by decide +kernel
theorem nCL : ¬ kC = kL := by decide +kernel
theorem nAL : ¬ kA = kL := by decide +kernel
theorem fk_cells (c : Addr) (n l : Int) : valV (fk c n l) kC = some (.ref c) := valV_pos rfl
theorem fk_at (c : Addr) (n l : Int) : valV (fk c n l) kA = some (.int n) := by
  unfold fk
  rw [valV_neg nCA, valV_pos rfl]
theorem fk_left (c : Addr) (n l : Int) : valV (fk c n l) kL = some (.int l) := by
  unfold fk
  rw [valV_neg nCL, valV_neg nAL, valV_pos rfl]
theorem fk_put_left (c : Addr) (n l z : Int) : putK (fk c n l) kL (.int z) = fk c n z := by
  unfold fk putK
  simp only [List.any_cons, List.map_cons, List.map_nil, List.any_nil, nCL, nAL, decide_false, decide_true, Bool.or_true, Bool.true_or, Bool.false_or, if_true, if_false, Bool.or_false]
theorem fk_put_at (c : Addr) (n l z : Int) : putK (fk c n l) kA (.int z) = fk c z l := by
  unfold fk putK
  have e : ¬ kL = kA := fun h => nAL h.symm
  simp only [List.any_cons, List.map_cons, List.map_nil, List.any_nil, nCA, e, decide_false, decide_true, Bool.or_true, Bool.true_or, Bool.false_or, if_true, if_false, Bool.or_false]
structure Feed (H : Hp) (d c : Addr) (ns : List Int) (n : Nat) : Prop where
  fd : ∃ l : Int, 0 ≤ l ∧ H d = some (.dK (fk c n l))
  cl : H c = some (.lst (ns.map V.int))
  ln : ns.length ≤ 63
/-- all but d stands as it stood -/
def Keep (d : Addr) (H H' : Hp) : Prop := ∀ b o, b ≠ d → H b = some o → H' b = some o
theorem Keep.refl (d : Addr) (H : Hp) : Keep d H H := fun _ _ _ h => h
theorem Keep.trans {d : Addr} {H H1 H2 : Hp} (a : Keep d H H1) (b : Keep d H1 H2) : Keep d H H2 := fun x o n h => b x o n (a x o n h)
theorem Keep.new {d p : Addr} {H : Hp} {o : HO} (h : H p = none) : Keep d H (upd H p o) := fun b x _ e => by
  rw [upd_ne (ne_of_none e h)]
  exact e
theorem Keep.put {d : Addr} {H : Hp} {o : HO} : Keep d H (upd H d o) := fun b x n e => by
  rw [upd_ne n]
  exact e
theorem Feed.ne {H : Hp} {d c : Addr} {ns : List Int} {n : Nat} (F : Feed H d c ns n) : c ≠ d := by
  obtain ⟨⟨l, _, h⟩, hc, _⟩ := F
  exact ne_of hc h (by intro z; cases z)
theorem Feed.new {H : Hp} {d c p : Addr} {ns : List Int} {n : Nat} {o : HO} (F : Feed H d c ns n) (h : H p = none) : Feed (upd H p o) d c ns n := by
  obtain ⟨⟨l, l0, e⟩, hc, hl⟩ := F
  exact ⟨⟨l, l0, by rw [upd_ne (ne_of_none e h)]; exact e⟩, by rw [upd_ne (ne_of_none hc h)]; exact hc, hl⟩
theorem Feed.put {H : Hp} {d c : Addr} {ns : List Int} {n m : Nat} {l : Int} (F : Feed H d c ns n) (h : 0 ≤ l) : Feed (upd H d (.dK (fk c m l))) d c ns m :=
  ⟨⟨l, h, upd_same⟩, by rw [upd_ne F.ne]; exact F.cl, F.ln⟩
structure Txt (mg : Str → Option Value) : Prop where
  int : mg "int" = none
  len : mg "len" = none
  abs : mg "abs" = none
  range : mg "range" = none
  tuple : mg "tuple" = none
  list : mg "list" = none
  str : mg "str" = none
  bool : mg "bool" = none
  isinstance : mg "isinstance" = none
  all : mg "all" = none
  min : mg "min" = none
  repr : mg "repr" = none
/-- a def of the top: where it stands, and how its arguments bind -/
structure DefAt (K : PySem.W.Frag) (mg : Str → Option Value) (x : Str) (st : Stmt) (ps : List Str) (f : Addr) (fd : FuncData) : Prop where
  F : Fun K x x st f fd
  M : mg x = some (.ref f)
  B : Binds K fd ps []
/-! ### draw -/
def spDraw : Sp := fun vs H Q _ => ∃ (d c : Addr) (ns : List Int) (n : Nat) (m : Int), vs = [.ref d, .int m] ∧ Feed H d c ns n ∧ n < 1000000000 ∧ 0 < m ∧ m < 1073741824 ∧
  ∀ (r : Int) (H' : Hp) (n' : Nat), 0 ≤ r → r < m → n' ≤ n + 1 → Feed H' d c ns n' → Keep d H H' → Q (.int r) H'
theorem dpInts {K : PySem.W.Frag} {H : Hp} : ∀ ns : List Int, DpAll K H (ns.map V.int) (ns.map PyData.int)
  | [] => .nil
  | n :: r => .cons (.int n) (dpInts r)
theorem shInts : ∀ ns : List Int, SeqAt.shaped (.list (ns.map PyData.int)) = true
  | [] => rfl
  | n :: r => shInts r
theorem map_int {ns : List Int} {i : Nat} {v : V} (h : (ns.map V.int)[i]? = some v) : ∃ z, v = .int z := by
  rw [List.getElem?_map] at h
  cases e : ns[i]? with
  | none => rw [e] at h; cases h
  | some z => rw [e] at h; exact ⟨z, (Option.some.inj h).symm⟩
theorem fdiv_nn {a b : Int} (ha : 0 ≤ a) (hb : 0 < b) : 0 ≤ a.fdiv b := by
  rw [Int.fdiv_eq_ediv_of_nonneg a (Int.le_of_lt hb)]
  exact Int.ediv_nonneg ha (Int.le_of_lt hb)
theorem fmod_lo (a : Int) {b : Int} (hb : 0 < b) : 0 ≤ a.fmod b := by
  rw [Int.fmod_eq_emod_of_nonneg a (Int.le_of_lt hb)]
  exact Int.emod_nonneg a (by omega)
theorem fmod_hi (a : Int) {b : Int} (hb : 0 < b) : a.fmod b < b := by
  rw [Int.fmod_eq_emod_of_nonneg a (Int.le_of_lt hb)]
  exact Int.emod_lt_of_pos a hb
theorem atI_of {xs : List V} {i : Int} (h0 : 0 ≤ i) (h1 : i < xs.length) : ∃ v, xs[i.toNat]? = some v ∧ atI xs i = some v := by
  have h : i.toNat < xs.length := by omega
  refine ⟨xs[i.toNat], List.getElem?_eq_getElem h, ?_⟩
  have e : atI xs ((i.toNat : Nat) : Int) = some xs[i.toNat] := atI_nat (List.getElem?_eq_getElem h)
  rwa [Int.toNat_of_nonneg h0] at e
theorem prime_at (i : Int) (h0 : 0 ≤ i) (h1 : i < 5) : ∃ q : Int, atI ([.int 2147483629, .int 2147483647, .int 2147483587, .int 2147483563, .int 2147483579] : List V) i = some (.int q) ∧ 2147483563 ≤ q ∧ q ≤ 2147483647 := by
  have h : i = 0 ∨ i = 1 ∨ i = 2 ∨ i = 3 ∨ i = 4 := by omega
  rcases h with rfl | rfl | rfl | rfl | rfl
  · exact ⟨_, rfl, by decide, by decide⟩
  · exact ⟨_, rfl, by decide, by decide⟩
  · exact ⟨_, rfl, by decide, by decide⟩
  · exact ⟨_, rfl, by decide, by decide⟩
  · exact ⟨_, rfl, by decide, by decide⟩
theorem scDraw : FnScope ["_law_feed_here", "_law_many", "_law_digit", "_law_at", "_law_cell", "_law_primes", "_law_prime", "_law_mixed"] ["_law_feed_here", "_law_many"] (defScope sDraw) :=
  ⟨rfl, rfl, rfl, by decide +kernel, rfl, by decide +kernel, by decide +kernel⟩
section
variable {P : Program} {w : World} {K : PySem.W.Frag} {mg : Str → Option Value} {base : Heap}
theorem ok_draw {f : Addr} {fd : FuncData} (F : Fun K "_law_draw" "_law_draw" sDraw f fd) (T : Txt mg) : FnOk P w K mg base CX0 1 f fd ["_law_feed_here", "_law_many"] spDraw := by
  refine F.ok scDraw (fun vs H Q E h => ?_) (fun cdv A outer s H vs Q E hr h => ?_)
  · obtain ⟨d, c, ns, n, m, rfl, _⟩ := h
    rfl
  · obtain ⟨d, c, ns, n, m, rfl, FD, hn, hm0, hm, k⟩ := h
    have hu := hu_of hr
    have nd := scDraw.nd
    obtain ⟨⟨l, l0, hd⟩, hc, hl⟩ := id FD
    refine ⟨_, (pss_cons (ps_if (pt_cmpR op_gt (pe_dget hu (pv 0) pe_str (fun _ _ => rfl)) pe_int (nomark _))
      (pss_cons (ps_set (i := 2) nd rfl (.inl rfl) (pe_op op_modN (pe_callTy call_int1 (by rfl) T.int (by decide +kernel) (pa_cons (pe_dget hu (pv 0) pe_str (fun _ _ => rfl)) pa_nil)) (pv 1)))
    (pss_cons (ps_dput hu (pv 0) pe_str (pe_op op_fdivN (pe_dget hu (pv 0) pe_str (fun _ _ => rfl)) (pv 1)) rfl)
    (pss_one (ps_ret (pv 2)))))
      pss_nil)
    (pss_cons (ps_set (i := 3) nd rfl (.inl rfl) (pe_dget hu (pv 0) pe_str (fun _ _ => rfl)))
    (pss_cons (ps_dput hu (pv 0) pe_str (pe_op op_add (pv 3) pe_int) rfl)
    (pss_cons (ps_set (i := 4) nd rfl (.inl rfl) (pe_op op_add (pe_op op_mul pe_int (pv 3)) pe_int))
    (C8.pss_cut (ps_if (pt_cmpR (op_neD hr.units) (pe_dget hu (pv 0) pe_str (fun _ _ => rfl)) (pe_lst pa_nil) (nomark _))
      (pss_one (ps_set (i := 4) nd rfl (.inl rfl) (pe_ix ix_list (pe_dget hu (pv 0) pe_str (fun _ _ => rfl)) (pe_op op_modN (pe_callTy call_int1 (by rfl) T.int (by decide +kernel) (pa_cons (pv 3) pa_nil)) (pe_callB call_len_seq (by rfl) T.len (by decide +kernel) (pa_cons (pe_dget hu (pv 0) pe_str (fun _ _ => rfl)) pa_nil))) (fun _ _ => rfl))))
      pss_nil)
    (C8.pss_cut (ps_if (PW.pt (pw_and (pt_cmpR op_lt (pv 3) (pe_callB call_len_seq (by rfl) T.len (by decide +kernel) (pa_cons (pe_dget hu (pv 0) pe_str (fun _ _ => rfl)) pa_nil)) (nomark _)) (pw_and1 (pt_cmpR op_ge (pe_callB call_abs (by rfl) T.abs (by decide +kernel) (pa_cons (pv 4) pa_nil)) (pe_op op_pow pe_int pe_int) (nomark _)))))
      (pss_cons (ps_dput hu (pv 0) pe_str (pe_op op_fdivN (pe_op op_sub (pe_callB call_abs (by rfl) T.abs (by decide +kernel) (pa_cons (pv 4) pa_nil)) (pe_op op_pow pe_int pe_int)) (pv 1)) rfl)
    (pss_one (ps_ret (pe_op op_modN (pe_op op_sub (pe_callB call_abs (by rfl) T.abs (by decide +kernel) (pa_cons (pv 4) pa_nil)) (pe_op op_pow pe_int pe_int)) (pv 1)))))
      pss_nil)
    (pss_cons (ps_set (i := 5) nd rfl (.inl rfl) (pe_lst (pa_cons pe_int (pa_cons pe_int (pa_cons pe_int (pa_cons pe_int (pa_cons pe_int pa_nil)))))))
    (pss_cons (ps_set (i := 6) nd rfl (.inl rfl) (pe_ix ix_list (pv 5) (pe_op op_modN (pe_callTy call_int1 (by rfl) T.int (by decide +kernel) (pa_cons (pv 3) pa_nil)) pe_int) (fun _ _ => rfl)))
    (pss_cons (ps_set (i := 7) nd rfl (.inl rfl) (pe_op op_modN (pe_callTy call_int1 (by rfl) T.int (by decide +kernel) (pa_cons (pe_op op_add (pe_op op_add (pe_op op_add (pe_op op_mul (pe_op op_modN (pe_callTy call_int1 (by rfl) T.int (by decide +kernel) (pa_cons (pv 4) pa_nil)) (pv 6)) pe_int) (pe_op op_mul (pe_op op_mul pe_int (pv 3)) (pv 3))) (pe_op op_mul pe_int (pv 3))) pe_int) pa_nil)) (pv 6)))
    (pss_cons (ps_set (i := 7) nd rfl (.inl rfl) (pe_op op_modN (pe_callTy call_int1 (by rfl) T.int (by decide +kernel) (pa_cons (pe_op op_mul (pv 7) (pe_op op_add (pv 7) pe_int)) pa_nil)) (pe_ix ix_list (pv 5) (pe_op op_modN (pe_callTy call_int1 (by rfl) T.int (by decide +kernel) (pa_cons (pe_op op_add (pv 3) pe_int) pa_nil)) pe_int) (fun _ _ => rfl))))
    (pss_one (ps_ret (pe_op op_modN (pe_callTy call_int1 (by rfl) T.int (by decide +kernel) (pa_cons (pe_op op_fdivN (pe_op op_modN (pe_callTy call_int1 (by rfl) T.int (by decide +kernel) (pa_cons (pe_op op_mul (pv 7) (pv 7)) pa_nil)) pe_int) pe_int) pa_nil)) (pv 1)))))))))))))), ?_⟩
    have gL : DGet H d (.str "left") (some (.int l)) := by
      have := DGet.k (k := kL) hd
      rwa [fk_left] at this
    -- if feed['left'] > 0
    refine ⟨.ref d, rfl, d, _, rfl, gL, _, _, rfl, rfl, _, rfl, ite2 (fun hpos => ?_) (fun hneg => ?_)⟩
    · have lpos : 0 < l := of_decide_eq_true hpos
      refine ⟨.ref d, rfl, d, _, rfl, gL, .inl ⟨_, rfl, .int m, rfl, _, _, rfl, rfl, (by omega), ?_⟩⟩
      refine ⟨.ref d, rfl, d, _, rfl, gL, .int m, rfl, _, _, rfl, rfl, ⟨by omega, by omega⟩, .ref d, rfl, d, _, rfl, DPut.k (k := kL) hd (small1000 (by show 3 ≤ 1000; decide)), ?_⟩
      refine ⟨_, rfl, ?_⟩
      rw [fk_put_left]
      exact k _ _ n (fmod_lo l hm0) (fmod_hi l hm0) (by omega) (FD.put (fdiv_nn l0 hm0)) Keep.put
    · -- at = feed['at'] ..
      have gA : DGet H d (.str "at") (some (.int n)) := by
        have := DGet.k (k := kA) hd
        rwa [fk_at] at this
      refine ⟨.ref d, rfl, d, _, rfl, gA, ?_⟩
      refine ⟨.int n, rfl, _, _, rfl, rfl, .ref d, rfl, d, _, rfl, DPut.k (k := kA) hd (small1000 (by show 3 ≤ 1000; decide)), ?_⟩
      rw [fk_put_at]
      have F1 : Feed (upd H d (.dK (fk c ((n + 1 : Nat) : Int) l))) d c ns (n + 1) := FD.put l0
      have K1 : Keep d H (upd H d (.dK (fk c ((n + 1 : Nat) : Int) l))) := Keep.put
      rw [show ((n : Int) + 1) = ((n + 1 : Nat) : Int) by omega]
      generalize upd H d (.dK (fk c ((n + 1 : Nat) : Int) l)) = H1 at F1 K1 ⊢
      clear hneg gA gL hd
      obtain ⟨⟨l1, l10, hd⟩, hc1, _⟩ := id F1
      have gC : DGet H1 d (.str "cells") (some (.ref c)) := by
        have := DGet.k (k := kC) hd
        rwa [fk_cells] at this
      -- cell = 37 * at + 11
      refine ⟨.int n, rfl, _, _, rfl, rfl, .inl ⟨by decide, by decide⟩, _, _, rfl, rfl, ?_⟩
      -- if cells != []: cell = ..
      refine ⟨fun σ H2 => ∃ z : Int, σ = [some (.ref d), some (.int m), none, some (.int n), some (.int z), none, none, none] ∧ Feed H2 d c ns (n + 1) ∧ Keep d H H2, ?_, ?_⟩
      · refine ⟨.ref d, rfl, d, _, rfl, gC, Nat.zero_le _, fun p np => ?_⟩
        have F2 := F1.new (o := .lst []) np
        have K2 := K1.trans (Keep.new (d := d) (o := .lst []) np)
        have hp2 : (upd H1 p (.lst [])) p = some (.lst []) := upd_same
        generalize upd H1 p (.lst []) = H2 at F2 K2 hp2 ⊢
        obtain ⟨⟨l2, l20, hd2⟩, hc2, _⟩ := id F2
        have gC2 : DGet H2 d (.str "cells") (some (.ref c)) := by
          have := DGet.k (k := kC) hd2
          rwa [fk_cells] at this
        refine ⟨.list (ns.map PyData.int), .list [], .lst (.inl (.inl hc2)) (dpInts ns), .lst (.inl (.inl hp2)) .nil, shInts ns, rfl, _, rfl, ?_⟩
        cases ns with
        | nil => exact iteF ⟨_, rfl, F2, K2⟩
        | cons z0 zs =>
          refine iteT ?_
          have hlen : 0 < ((z0 :: zs).map V.int).length := by simp
          obtain ⟨v, e1, e2⟩ := atI_of (xs := (z0 :: zs).map V.int) (i := (n : Int).fmod (((z0 :: zs).map V.int).length : Int)) (fmod_lo _ (by omega)) (fmod_hi _ (by omega))
          obtain ⟨z, rfl⟩ := map_int e1
          exact ⟨.ref d, rfl, d, _, rfl, gC2, .int n, rfl, .inl ⟨_, rfl, .ref d, rfl, d, _, rfl, gC2, c, _, rfl, .inl (.inl (.inl hc2)), _, _, rfl, rfl, by omega, c, _, _, _, rfl, rfl, .inl (.inl hc2), e2, z, rfl, F2, K2⟩⟩
      rintro σ H2 ⟨z, rfl, F2, K2⟩
      clear gC hc1 hd K1 F1
      obtain ⟨⟨l2, l20, hd2⟩, hc2, _⟩ := id F2
      have gC2 : DGet H2 d (.str "cells") (some (.ref c)) := by
        have := DGet.k (k := kC) hd2
        rwa [fk_cells] at this
      -- if at < len(cells) and abs(cell) >= 10 ** 18
      refine ⟨fun σ H3 => σ = [some (.ref d), some (.int m), none, some (.int n), some (.int z), none, none, none] ∧ Feed H3 d c ns (n + 1) ∧ Keep d H H3, ?_, ?_⟩
      · have habs : 0 ≤ (if z < 0 then -z else z) := by split <;> omega
        refine ⟨.int n, rfl, .ref d, rfl, d, _, rfl, gC2, c, _, rfl, .inl (.inl (.inl hc2)), _, _, rfl, rfl, _, rfl, ?_⟩
        refine ite2 (fun _ => ?_) (fun hlt => ?_)
        · refine ⟨.int z, rfl, z, rfl, _, _, rfl, rfl, ⟨by decide, by decide, by decide⟩, _, _, rfl, rfl, _, rfl, ?_⟩
          refine ite2 (fun hge => ?_) (fun hlt => ?_)
          · have h10 : (10 : Int) ^ (18 : Int).toNat ≤ (if z < 0 then -z else z) := of_decide_eq_true hge
            have hnn : 0 ≤ (if z < 0 then -z else z) - (10 : Int) ^ (18 : Int).toNat := by omega
            refine ⟨.int z, rfl, z, rfl, _, _, rfl, rfl, ⟨by decide, by decide, by decide⟩, _, _, rfl, rfl, .int m, rfl, _, _, rfl, rfl, ⟨by omega, by omega⟩, .ref d, rfl, d, _, rfl, DPut.k (k := kL) hd2 (small1000 (by show 3 ≤ 1000; decide)), ?_⟩
            rw [fk_put_left]
            refine ⟨.int z, rfl, z, rfl, _, _, rfl, rfl, ⟨by decide, by decide, by decide⟩, _, _, rfl, rfl, .int m, rfl, _, _, rfl, rfl, by omega, ?_⟩
            exact k _ _ (n + 1) (fmod_lo _ hm0) (fmod_hi _ hm0) (by omega) (F2.put (fdiv_nn hnn hm0)) (K2.trans Keep.put)
          · exact ⟨rfl, F2, K2⟩
        · exact iteF ⟨rfl, F2, K2⟩
      rintro σ H3 ⟨rfl, F3, K3⟩
      clear gC2 hc2 hd2 F2 K2
      -- primes
      refine ⟨by show 5 ≤ sizeLine; decide, fun p np => ?_⟩
      have F4 := F3.new (o := .lst [.int 2147483629, .int 2147483647, .int 2147483587, .int 2147483563, .int 2147483579]) np
      have K4 := K3.trans (Keep.new (d := d) (o := .lst [.int 2147483629, .int 2147483647, .int 2147483587, .int 2147483563, .int 2147483579]) np)
      have hp4 : (upd H3 p (.lst [.int 2147483629, .int 2147483647, .int 2147483587, .int 2147483563, .int 2147483579])) p = some (.lst [.int 2147483629, .int 2147483647, .int 2147483587, .int 2147483563, .int 2147483579]) := upd_same
      generalize upd H3 p (.lst [.int 2147483629, .int 2147483647, .int 2147483587, .int 2147483563, .int 2147483579]) = H4 at F4 K4 hp4 ⊢
      obtain ⟨q1, a1, lo1, hi1⟩ := prime_at ((n : Int).fmod 5) (fmod_lo _ (by decide)) (fmod_hi _ (by decide))
      obtain ⟨q2, a2, lo2, hi2⟩ := prime_at (((n : Int) + 2).fmod 5) (fmod_lo _ (by decide)) (fmod_hi _ (by decide))
      -- prime = primes[int(at) % 5]
      refine ⟨.ref p, rfl, .int n, rfl, .inl ⟨_, rfl, _, _, rfl, rfl, (by show (5 : Int) ≠ 0; decide), p, _, _, _, rfl, rfl, .inl (.inl hp4), a1, ?_⟩⟩
      obtain ⟨y0, hy0⟩ : ∃ y, y = z.fmod q1 := ⟨_, rfl⟩
      have m1l : 0 ≤ y0 := by rw [hy0]; exact fmod_lo z (by omega)
      have m1h : y0 < q1 := by rw [hy0]; exact fmod_hi z (by omega)
      obtain ⟨x1, hx1⟩ : ∃ x, x = y0 * 48271 + 40699 * (n : Int) * (n : Int) + 69621 * (n : Int) + 7 := ⟨_, rfl⟩
      obtain ⟨y1, hy1⟩ : ∃ y, y = x1.fmod q1 := ⟨_, rfl⟩
      have m2l : 0 ≤ y1 := by rw [hy1]; exact fmod_lo x1 (by omega)
      have m2h : y1 < q1 := by rw [hy1]; exact fmod_hi x1 (by omega)
      obtain ⟨x2, hx2⟩ : ∃ x, x = y1 * (y1 + 16807) := ⟨_, rfl⟩
      obtain ⟨y2, hy2⟩ : ∃ y, y = x2.fmod q2 := ⟨_, rfl⟩
      have m3l : 0 ≤ y2 := by rw [hy2]; exact fmod_lo x2 (by omega)
      have m3h : y2 < q2 := by rw [hy2]; exact fmod_hi x2 (by omega)
      refine ⟨.int z, rfl, .inl ⟨_, rfl, .int q1, rfl, _, _, rfl, rfl, (by show q1 ≠ 0; omega), y0, _, hy0 ▸ rfl, rfl, .inr ⟨by decide, by decide⟩, .int n, rfl, _, _, rfl, rfl, .inl ⟨by decide, by decide⟩, .int n, rfl, _, n, rfl, rfl, .inr ⟨by omega, by omega⟩,
        _, _, rfl, rfl, .int n, rfl, _, _, rfl, rfl, .inl ⟨by decide, by decide⟩, _, _, rfl, rfl, _, _, rfl, rfl, .inl ⟨x1, hx1 ▸ rfl, .int q1, rfl, _, _, rfl, rfl, (by show q1 ≠ 0; omega), ?_⟩⟩⟩
      refine ⟨.int y1, hy1 ▸ rfl, .int y1, hy1 ▸ rfl, y1, _, rfl, rfl, y1, y1 + 16807, rfl, rfl, .inl ⟨by omega, by omega⟩, .inl ⟨x2, hx2 ▸ rfl, .ref p, rfl, .int n, rfl, _, _, rfl, rfl, .inl ⟨_, rfl, _, _, rfl, rfl, (by show (5 : Int) ≠ 0; decide), p, _, _, _, rfl, rfl, .inl (.inl hp4), a2, _, q2, rfl, rfl, (by show q2 ≠ 0; omega), ?_⟩⟩⟩
      refine ⟨.int y2, hy2 ▸ rfl, .int y2, hy2 ▸ rfl, y2, y2, rfl, rfl, .inl ⟨by omega, by omega⟩, .inl ⟨_, rfl, _, _, rfl, rfl, (by show (2147483549 : Int) ≠ 0; decide), _, _, rfl, rfl, ⟨(by decide), (by decide)⟩, .inl ⟨_, rfl, .int m, rfl, _, m, rfl, rfl, (by show m ≠ 0; omega), ?_⟩⟩⟩
      exact k _ _ (n + 1) (fmod_lo _ hm0) (fmod_hi _ hm0) (by omega) F4 K4
/-! ### pick -/
def spPickL : Sp := fun vs H Q _ => ∃ (d c : Addr) (ns : List Int) (n : Nat) (a : Addr) (xs : List V), vs = [.ref d, .ref a] ∧ Feed H d c ns n ∧ n < 1000000000 ∧ H a = some (.lst xs) ∧ 0 < xs.length ∧ xs.length < 1000000 ∧
  ∀ (x : V) (H' : Hp) (n' : Nat), x ∈ xs → n' ≤ n + 1 → Feed H' d c ns n' → Keep d H H' → Q x H'
def spPickS : Sp := fun vs H Q _ => ∃ (d c : Addr) (ns : List Int) (n : Nat) (z : Str), vs = [.ref d, .str z] ∧ Feed H d c ns n ∧ n < 1000000000 ∧ 0 < z.cps.toList.length ∧ z.cps.toList.length < 10000 ∧
  ∀ (x : Nat) (H' : Hp) (n' : Nat), x ∈ z.cps.toList → n' ≤ n + 1 → Feed H' d c ns n' → Keep d H H' → Q (.str ⟨#[x]⟩) H'
theorem scPick : FnScope ["_law_feed_here", "_law_options"] ["_law_feed_here", "_law_options"] (defScope sPick) := ⟨rfl, rfl, rfl, by decide +kernel, rfl, by decide +kernel, by decide +kernel⟩
theorem ok_pickL {f fD : Addr} {fd fdD : FuncData} (F : Fun K "_law_pick" "_law_pick" sPick f fd) (T : Txt mg) (D : DefAt K mg "_law_draw" sDraw ["_law_feed_here", "_law_many"] fD fdD) : FnOk P w K mg base CX0 2 f fd ["_law_feed_here", "_law_options"] spPickL := by
  have GD : FnOk P w K mg base CX0 1 fD fdD ["_law_feed_here", "_law_many"] spDraw := ok_draw D.F T
  refine F.ok scPick (fun vs H Q E h => ?_) (fun cdv A outer s H vs Q E hr h => ?_)
  · obtain ⟨d, c, ns, n, a, xs, rfl, _⟩ := h
    rfl
  · obtain ⟨d, c, ns, n, a, xs, rfl, FD, hn, ha, h0, hm, k⟩ := h
    have hu := hu_of hr
    have nd := scPick.nd
    refine ⟨_, (pss_one (ps_ret (pe_ix ix_list (pv 1) (pe_call GD (hr.mono (by decide)) (by rfl) D.M D.F.kp D.B .nil pass0 (pa_cons (pv 0) (pa_cons (pe_callB call_len_seq (by rfl) T.len (by decide +kernel) (pa_cons (pv 1) pa_nil)) pa_nil))) (fun _ _ => rfl)))), ?_⟩
    refine ⟨.ref a, rfl, .ref d, rfl, .ref a, rfl, a, xs, rfl, .inl (.inl (.inl ha)), ?_⟩
    refine ⟨d, c, ns, n, _, rfl, FD, hn, (by omega), (by omega), fun r H' n' r0 r1 hn' F' K' => ?_⟩
    have ha' : H' a = some (.lst xs) := K' _ _ (fun e => by
      obtain ⟨l, _, hd⟩ := FD.fd
      rw [e, hd] at ha
      cases ha) ha
    obtain ⟨v, e1, e2⟩ := atI_of r0 r1
    exact ⟨a, xs, r, v, rfl, rfl, .inl (.inl ha'), e2, k v H' n' (List.mem_of_getElem? e1) hn' F' K'⟩
theorem ok_pickS {f fD : Addr} {fd fdD : FuncData} (F : Fun K "_law_pick" "_law_pick" sPick f fd) (T : Txt mg) (D : DefAt K mg "_law_draw" sDraw ["_law_feed_here", "_law_many"] fD fdD) : FnOk P w K mg base CX0 2 f fd ["_law_feed_here", "_law_options"] spPickS := by
  have GD : FnOk P w K mg base CX0 1 fD fdD ["_law_feed_here", "_law_many"] spDraw := ok_draw D.F T
  refine F.ok scPick (fun vs H Q E h => ?_) (fun cdv A outer s H vs Q E hr h => ?_)
  · obtain ⟨d, c, ns, n, z, rfl, _⟩ := h
    rfl
  · obtain ⟨d, c, ns, n, z, rfl, FD, hn, h0, hm, k⟩ := h
    have hu := hu_of hr
    have nd := scPick.nd
    have ez : z.length = z.cps.toList.length := rfl
    refine ⟨_, (pss_one (ps_ret (pe_item_str (pv 1) (pe_call GD (hr.mono (by decide)) (by rfl) D.M D.F.kp D.B .nil pass0 (pa_cons (pv 0) (pa_cons (pe_callB call_len_str (by rfl) T.len (by decide +kernel) (pa_cons (pv 1) pa_nil)) pa_nil))) (fun _ _ => rfl)))), ?_⟩
    refine ⟨.str z, rfl, .ref d, rfl, .str z, rfl, z, rfl, (by rw [ez]; exact Nat.le_of_lt (Nat.lt_of_lt_of_le hm (by decide))), ?_⟩
    refine ⟨d, c, ns, n, _, rfl, FD, hn, (by omega), (by omega), fun r H' n' r0 r1 hn' F' K' => ?_⟩
    have hlt : r.toNat < z.cps.size := by
      have : z.cps.size = z.cps.toList.length := rfl
      omega
    refine ⟨z, r, z.cps[r.toNat], rfl, rfl, r0, by omega, by omega, Array.getElem?_eq_getElem hlt, ?_⟩
    exact k _ H' n' (Array.getElem_mem_toList hlt) hn' F' K'
/-! ### data at an address -/
def kD : Key → PyData
  | .inl i => .int i
  | .inr s => .str s
mutual
/-- v is the datum x; none of its objects is in X -/
inductive DV (X : Addr → Prop) (H : Hp) : V → PyData → Prop
  | non : DV X H .non .none
  | bl (b : Bool) : DV X H (.bl b) (.bool b)
  | int (i : Int) : DV X H (.int i) (.int i)
  | str (x : Str) : DV X H (.str x) (.str x)
  | lst {a : Addr} {xs : List V} {ds : List PyData} : ¬ X a → H a = some (.lst xs) → DVs X H xs ds → DV X H (.ref a) (.list ds)
  | tup {a : Addr} {xs : List V} {ds : List PyData} : ¬ X a → H a = some (.tup xs) → DVs X H xs ds → DV X H (.ref a) (.tuple ds)
  | dic {a : Addr} {kvs : List (Key × V)} {ds : List (PyData × PyData)} : ¬ X a → H a = some (.dK kvs) → DVk X H kvs ds → DV X H (.ref a) (.dict ds)
inductive DVs (X : Addr → Prop) (H : Hp) : List V → List PyData → Prop
  | nil : DVs X H [] []
  | cons {v : V} {r : List V} {x : PyData} {ds : List PyData} : DV X H v x → DVs X H r ds → DVs X H (v :: r) (x :: ds)
inductive DVk (X : Addr → Prop) (H : Hp) : List (Key × V) → List (PyData × PyData) → Prop
  | nil : DVk X H [] []
  | cons {k : Key} {v : V} {r : List (Key × V)} {x : PyData} {ds : List (PyData × PyData)} : DV X H v x → DVk X H r ds → DVk X H ((k, v) :: r) ((kD k, x) :: ds)
end
mutual
theorem DV.keep {X Y : Addr → Prop} {H H' : Hp} (K : ∀ b o, ¬ X b → H b = some o → H' b = some o ∧ ¬ Y b) : ∀ {v : V} {x : PyData}, DV X H v x → DV Y H' v x
  | _, _, .non => .non
  | _, _, .bl b => .bl b
  | _, _, .int i => .int i
  | _, _, .str x => .str x
  | _, _, .lst n h r => .lst (K _ _ n h).2 (K _ _ n h).1 (DVs.keep K r)
  | _, _, .tup n h r => .tup (K _ _ n h).2 (K _ _ n h).1 (DVs.keep K r)
  | _, _, .dic n h r => .dic (K _ _ n h).2 (K _ _ n h).1 (DVk.keep K r)
theorem DVs.keep {X Y : Addr → Prop} {H H' : Hp} (K : ∀ b o, ¬ X b → H b = some o → H' b = some o ∧ ¬ Y b) : ∀ {v : List V} {x : List PyData}, DVs X H v x → DVs Y H' v x
  | _, _, .nil => .nil
  | _, _, .cons h r => .cons (DV.keep K h) (DVs.keep K r)
theorem DVk.keep {X Y : Addr → Prop} {H H' : Hp} (K : ∀ b o, ¬ X b → H b = some o → H' b = some o ∧ ¬ Y b) : ∀ {v : List (Key × V)} {x : List (PyData × PyData)}, DVk X H v x → DVk Y H' v x
  | _, _, .nil => .nil
  | _, _, .cons h r => .cons (DV.keep K h) (DVk.keep K r)
end
theorem DVs.mem {X : Addr → Prop} {H : Hp} {v : V} : ∀ {xs : List V} {ds : List PyData}, DVs X H xs ds → v ∈ xs → ∃ x, x ∈ ds ∧ DV X H v x
  | _, _, .nil, h => by cases h
  | _, _, .cons h r, hm => by
    rcases List.mem_cons.mp hm with rfl | hm
    · exact ⟨_, List.mem_cons_self .., h⟩
    · obtain ⟨x, hx, hd⟩ := DVs.mem r hm
      exact ⟨x, List.mem_cons_of_mem _ hx, hd⟩
theorem DVs.append {X : Addr → Prop} {H : Hp} : ∀ {xs ys : List V} {ds es : List PyData}, DVs X H xs ds → DVs X H ys es → DVs X H (xs ++ ys) (ds ++ es)
  | _, _, _, _, .nil, s => s
  | _, _, _, _, .cons h r, s => .cons h (DVs.append r s)
theorem DVs.length {X : Addr → Prop} {H : Hp} : ∀ {xs : List V} {ds : List PyData}, DVs X H xs ds → xs.length = ds.length
  | _, _, .nil => rfl
  | _, _, .cons _ r => by simp [DVs.length r]
/-- not tracked in H -/
def Old (H : Hp) : Addr → Prop := fun a => H a ≠ none
theorem old_of {H : Hp} {a : Addr} {o : HO} (h : H a = some o) : Old H a := fun e => by rw [h] at e; cases e
theorem Keep.free {d p : Addr} {H H' : Hp} (K : Keep d H H') (nd : p ≠ d) (h : H' p = none) : ¬ Old H p := fun e => by
  cases q : H p with
  | none => exact e q
  | some o => rw [K _ _ nd q] at h; cases h
theorem Keep.old {d : Addr} {H H' : Hp} (K : Keep d H H') {X : Addr → Prop} (hX : X d) : ∀ b o, ¬ X b → H b = some o → H' b = some o ∧ ¬ X b :=
  fun b o n e => ⟨K b o (fun z => n (z ▸ hX)) e, n⟩
theorem Feed.old {H : Hp} {d c : Addr} {ns : List Int} {n : Nat} (F : Feed H d c ns n) : Old H d := by
  obtain ⟨l, _, hd⟩ := F.fd
  exact old_of hd
theorem Old.mono {d : Addr} {H H' : Hp} (K : Keep d H H') {X : Addr → Prop} (hd : Old H' d) {a : Addr} (h : Old H a) : Old H' a := by
  by_cases e : a = d
  · rw [e]; exact hd
  · cases q : H a with
    | none => exact absurd q h
    | some o => exact old_of (K _ _ e q)
/-! ### a new object -/
theorem Feed.nd {H : Hp} {d c p : Addr} {ns : List Int} {n : Nat} (F : Feed H d c ns n) (h : H p = none) : p ≠ d := fun e => by
  obtain ⟨l, _, hd⟩ := F.fd
  rw [e, hd] at h
  cases h
theorem nu {H : Hp} {d c p : Addr} {ns : List Int} {n : Nat} (F : Feed H d c ns n) (np : H p = none) :
    ∃ U : HO → Hp, (∀ o, upd H p o = U o) ∧ (∀ o, Feed (U o) d c ns n) ∧ (∀ o, Keep d H (U o)) ∧ (∀ o, U o p = some o) ∧ p ≠ d :=
  ⟨fun o => upd H p o, fun _ => rfl, fun _ => F.new np, fun _ => Keep.new np, fun _ => upd_same, F.nd np⟩
/-- an object that was laid anew is filled -/
theorem fu {Ha Hc : Hp} {d c p : Addr} {ns : List Int} {n : Nat} (F : Feed Hc d c ns n) (np : Ha p = none) (K : ∀ b o, b ≠ d → b ≠ p → Ha b = some o → Hc b = some o) (nd : p ≠ d) (npc : p ≠ c) :
    ∃ U : HO → Hp, (∀ o, upd Hc p o = U o) ∧ (∀ o, Feed (U o) d c ns n) ∧ (∀ o, Keep d Ha (U o)) ∧ (∀ o, U o p = some o) ∧ ∀ o b, b ≠ p → U o b = Hc b := by
  refine ⟨fun o => upd Hc p o, fun _ => rfl, fun o => ?_, fun o => (fun b x nb e => ?_), fun _ => upd_same, fun o b nb => upd_ne nb⟩
  · obtain ⟨⟨l, l0, e⟩, hc, hl⟩ := F
    exact ⟨⟨l, l0, Eq.trans (upd_ne nd.symm) e⟩, Eq.trans (upd_ne npc.symm) hc, hl⟩
  · have nbp : b ≠ p := ne_of_none e np
    exact Eq.trans (upd_ne nbp) (K b x nb nbp e)
theorem Feed.nc {H : Hp} {d c p : Addr} {ns : List Int} {n : Nat} (F : Feed H d c ns n) (h : H p = none) : p ≠ c := fun e => by
  rw [e, F.cl] at h
  cases h
theorem Feed.kl {H H' : Hp} {d c a : Addr} {ns : List Int} {n : Nat} {xs : List V} (F : Feed H d c ns n) (K : Keep d H H') (h : H a = some (.lst xs)) : H' a = some (.lst xs) := K _ _ (fun e => by
  obtain ⟨l, _, hd⟩ := F.fd
  rw [e, hd] at h
  cases h) h
/-! ### any value -/
def leafs : List PyData := [.none, .bool true, .bool false, .int 0, .int 1, .int (-1), .int 12, .int (10 ^ 29), .str "", .str "a", .str "abcdefgh", .str "abcdefghi", .str "A", .str "a b", .str "a1", .str "0", .str "zz"]
def leafs2 : List PyData := [.str "~", .str "#", .str "a\n", .tuple [], .list [], .dict [], .tuple [.str "a", .int 1, .none], .list [.tuple [.str "a", .int 1, .none]], .tuple [.str "lay", .str "a"], .dict [(.str "a", .int 1)]]
inductive AnyD : Nat → PyData → Prop
  | leaf {k : Nat} {x : PyData} : x ∈ leafs ++ leafs2 → AnyD k x
  | lst {k : Nat} {ds : List PyData} : ds.length ≤ 3 → (∀ x ∈ ds, AnyD k x) → AnyD (k + 1) (.list ds)
  | tup {k : Nat} {ds : List PyData} : ds.length ≤ 3 → (∀ x ∈ ds, AnyD k x) → AnyD (k + 1) (.tuple ds)
  | dic {k : Nat} {ds : List PyData} : ds.length ≤ 3 → (∀ x ∈ ds, AnyD k x) → AnyD (k + 1) (.dict [(.str "a", .tuple ds)])
def cost : Nat → Nat
  | 0 => 1
  | k + 1 => 2 + 3 * cost k
theorem cost_pos : ∀ k : Nat, 1 ≤ cost k
  | 0 => Nat.le_refl _
  | k + 1 => by show 1 ≤ 2 + 3 * cost k; omega
def spAny (k : Nat) : Sp := fun vs H Q _ => ∃ (d c : Addr) (ns : List Int) (n : Nat), vs = [.ref d, .int k] ∧ Feed H d c ns n ∧ n + cost k < 1000000000 ∧
  ∀ (v : V) (x : PyData) (H' : Hp) (n' : Nat), DV (Old H) H' v x → AnyD k x → n' ≤ n + cost k → Feed H' d c ns n' → Keep d H H' → Q v H'
def spAnyP : Nat → Sp
  | 0 => fun _ _ _ _ => False
  | k + 1 => spAny k
theorem scAny : FnScope ["_law_feed_here", "_law_deep", "_law_some", "_law_inner", "_law_k"] ["_law_feed_here", "_law_deep"] (defScope sAny) := ⟨rfl, rfl, rfl, by decide +kernel, rfl, by decide +kernel, by decide +kernel⟩
theorem ok_anyS {f fD fP : Addr} {fd fdD fdP : FuncData} (k : Nat) (DA : DefAt K mg "_law_any" sAny ["_law_feed_here", "_law_deep"] f fd) (T : Txt mg) (D : DefAt K mg "_law_draw" sDraw ["_law_feed_here", "_law_many"] fD fdD) (DP : DefAt K mg "_law_pick" sPick ["_law_feed_here", "_law_options"] fP fdP)
    (GA : FnOk P w K mg base CX0 (k + 2) f fd ["_law_feed_here", "_law_deep"] (spAnyP k)) : FnOk P w K mg base CX0 (k + 3) f fd ["_law_feed_here", "_law_deep"] (spAny k) := by
  have GD : FnOk P w K mg base CX0 1 fD fdD ["_law_feed_here", "_law_many"] spDraw := ok_draw D.F T
  have GPl : FnOk P w K mg base CX0 2 fP fdP ["_law_feed_here", "_law_options"] spPickL := ok_pickL DP.F T D
  refine DA.F.ok scAny (fun vs H Q E h => ?_) (fun cdv A outer s H vs Q E hr h => ?_)
  · obtain ⟨d, c, ns, n, rfl, _⟩ := h
    rfl
  · obtain ⟨d, c, ns, n, rfl, FD, hn, q⟩ := h
    have hu := hu_of hr
    have nd := scAny.nd
    have hr1 : Room 1 _ := hr.mono (by omega)
    have hr2 : Room 2 _ := hr.mono (by omega)
    refine ⟨_, (pss_cons (ps_set (i := 2) nd rfl (.inl rfl) (pe_lst (pa_cons pe_non (pa_cons pe_bl (pa_cons pe_bl (pa_cons pe_int (pa_cons pe_int (pa_cons (pe_un un_neg pe_int) (pa_cons pe_int (pa_cons (pe_op op_pow pe_int pe_int) (pa_cons pe_str (pa_cons pe_str (pa_cons pe_str (pa_cons pe_str (pa_cons pe_str (pa_cons pe_str (pa_cons pe_str (pa_cons pe_str (pa_cons pe_str pa_nil)))))))))))))))))))
    (pss_cons (ps_set (i := 2) nd rfl (.inl rfl) (pe_op op_cat (pv 2) (pe_lst (pa_cons pe_str (pa_cons pe_str (pa_cons pe_str (pa_cons (pe_tup pa_nil) (pa_cons (pe_lst pa_nil) (pa_cons pe_dnewK (pa_cons (pe_tup (pa_cons pe_str (pa_cons pe_int (pa_cons pe_non pa_nil)))) (pa_cons (pe_lst (pa_cons (pe_tup (pa_cons pe_str (pa_cons pe_int (pa_cons pe_non pa_nil)))) pa_nil)) (pa_cons (pe_tup (pa_cons pe_str (pa_cons pe_str pa_nil))) (pa_cons (pe_disp (pps_cons pe_str pe_int pps_nil) (by rfl) (by rfl) (fun z => by cases z) (by decide)) pa_nil)))))))))))))
    (C8.pss_cut (ps_if (pt_cmpR op_gt (pv 1) pe_int (nomark _))
      (pss_cons (ps_setLc (i := 3) (own := [("_law_k", 4)]) (g := gName 4) rfl nd rfl rfl (sw_true rfl rfl rfl (by decide +kernel)) (pi_range1 (by rfl) T.range (pa_cons (pe_call GD hr1 (by rfl) D.M D.F.kp D.B .nil pass0 (pa_cons (pv 0) (pa_cons pe_int pa_nil))) pa_nil)) (blkOk_by (own := [("_law_k", 4)]) (N := ["_law_feed_here", "_law_deep", "_law_some", "_law_inner", "_law_k"]) (sc := defScope sAny) (by decide +kernel)) (fun _ _ _ _ _ => (pg_name (i := 4) nd rfl (Or.inl rfl))) (fun _ _ _ _ _ => pts_nil) (fun _ _ _ _ _ => (pe_call GA hr (by rfl) DA.M DA.F.kp DA.B .nil pass0 (pa_cons (pv 0) (pa_cons (pe_op op_sub (pv 1) pe_int) pa_nil)))))
    (pss_one (ps_set (i := 2) nd rfl (.inl rfl) (pe_op op_cat (pv 2) (pe_lst (pa_cons (pv 3) (pa_cons (pe_callTy call_tuple_of (by rfl) T.tuple (by decide +kernel) (pa_cons (pv 3) pa_nil)) (pa_cons (pe_disp (pps_cons pe_str (pe_callTy call_tuple_of (by rfl) T.tuple (by decide +kernel) (pa_cons (pv 3) pa_nil)) pps_nil) (by rfl) (by rfl) (fun z => by cases z) (by decide)) pa_nil))))))))
      pss_nil)
    (pss_one (ps_ret (pe_call GPl hr2 (by rfl) DP.M DP.F.kp DP.B .nil pass0 (pa_cons (pv 0) (pa_cons (pv 2) pa_nil)))))))), ?_⟩
    -- some = [..]
    refine ⟨1, rfl, 10, 29, rfl, rfl, ⟨by decide, by decide, by decide⟩, (by show 17 ≤ sizeLine; decide), fun p np => ?_⟩
    obtain ⟨U1, r1, F1, k1, h1, n1⟩ := nu FD np
    rw [r1]
    -- some + ['~', ..]
    refine ⟨.ref p, rfl, Nat.zero_le _, fun p1 np1 => ?_⟩
    obtain ⟨U2, r2, F2, k2, h2, n2⟩ := nu (F1 _) np1
    rw [r2]
    refine ⟨Nat.zero_le _, fun p2 np2 => ?_⟩
    obtain ⟨U3, r3, F3, k3, h3, n3⟩ := nu (F2 _) np2
    rw [r3]
    intro p3 np3
    obtain ⟨U4, r4, F4, k4, h4, n4⟩ := nu (F3 _) np3
    rw [r4]
    refine ⟨(by show 3 ≤ sizeLine; decide), fun p4 np4 => ?_⟩
    obtain ⟨U5, r5, F5, k5, h5, n5⟩ := nu (F4 _) np4
    rw [r5]
    refine ⟨(by show 3 ≤ sizeLine; decide), fun p5 np5 => ?_⟩
    obtain ⟨U6, r6, F6, k6, h6, n6⟩ := nu (F5 _) np5
    rw [r6]
    refine ⟨(by show 1 ≤ sizeLine; decide), fun p6 np6 => ?_⟩
    obtain ⟨U7, r7, F7, k7, h7, n7⟩ := nu (F6 _) np6
    rw [r7]
    refine ⟨(by show 2 ≤ sizeLine; decide), fun p7 np7 => ?_⟩
    obtain ⟨U8, r8, F8, k8, h8, n8⟩ := nu (F7 _) np7
    rw [r8]
    intro p8 np8
    have n9 := (F8 _).nd np8
    have e9 := (F8 _).nc np8
    have F9 := (F8 _).new (o := .dK []) np8
    refine ⟨upd_same, [(Sum.inr "a", .int 1)], rfl, (by show 1 ≤ 15; decide), ?_⟩
    obtain ⟨U10, r10, F10, k10, h10, _⟩ := fu F9 np8 (fun b o _ nb e => by rw [upd_ne nb]; exact e) n9 e9
    rw [r10]
    refine ⟨(by show 10 ≤ sizeLine; decide), fun p9 np9 => ?_⟩
    obtain ⟨U11, r11, F11, k11, h11, n11⟩ := nu (F10 _) np9
    rw [r11]
    refine ⟨p, p9, _, _, rfl, rfl, ((k2 _).trans ((k3 _).trans ((k4 _).trans ((k5 _).trans ((k6 _).trans ((k7 _).trans ((k8 _).trans ((k10 _).trans (k11 _))))))))) _ _ n1 (h1 _), h11 _, (by show 17 + 10 ≤ sizeLine; decide), fun p10 np10 => ?_⟩
    obtain ⟨U12, r12, F12, k12, h12, n12⟩ := nu (F11 _) np10
    rw [r12]
    have i10 := fun o => (k11 _).trans (k12 o)
    have i8 := fun o => (k10 _).trans (i10 o)
    have i7 := fun o => (k8 _).trans (i8 o)
    have i6 := fun o => (k7 _).trans (i7 o)
    have i5 := fun o => (k6 _).trans (i6 o)
    have i4 := fun o => (k5 _).trans (i5 o)
    have i3 := fun o => (k4 _).trans (i4 o)
    have i2 := fun o => (k3 _).trans (i3 o)
    have K12 := fun o => (k1 _).trans ((k2 _).trans (i2 o))
    have z1 := (k1 _).free n2 np1
    have t2 := fun o => (k1 _).trans (k2 o)
    have z2 := (t2 _).free n3 np2
    have t3 := fun o => (t2 _).trans (k3 o)
    have z3 := (t3 _).free n4 np3
    have t4 := fun o => (t3 _).trans (k4 o)
    have z4 := (t4 _).free n5 np4
    have t5 := fun o => (t4 _).trans (k5 o)
    have z5 := (t5 _).free n6 np5
    have t6 := fun o => (t5 _).trans (k6 o)
    have z6 := (t6 _).free n7 np6
    have t7 := fun o => (t6 _).trans (k7 o)
    have z7 := (t7 _).free n8 np7
    have t8 := fun o => (t7 _).trans (k8 o)
    have z8 := (t8 _).free n9 np8
    have S : ∀ o, DVs (Old H) (U12 o) _ (leafs ++ leafs2) := fun o => DVs.append
      (.cons .non (.cons (.bl true) (.cons (.bl false) (.cons (.int _) (.cons (.int _) (.cons (.int _) (.cons (.int _) (.cons (.int _) (.cons (.str _) (.cons (.str _) (.cons (.str _) (.cons (.str _) (.cons (.str _) (.cons (.str _) (.cons (.str _) (.cons (.str _) (.cons (.str _) .nil)))))))))))))))))
      (.cons (.str _) (.cons (.str _) (.cons (.str _) (.cons (.tup z1 (i2 o _ _ n2 (h2 _)) .nil) (.cons (.lst z2 (i3 o _ _ n3 (h3 _)) .nil) (.cons (.dic z3 (i4 o _ _ n4 (h4 _)) .nil)
        (.cons (.tup z4 (i5 o _ _ n5 (h5 _)) (.cons (.str _) (.cons (.int _) (.cons .non .nil))))
        (.cons (.lst z6 (i7 o _ _ n7 (h7 _)) (.cons (.tup z5 (i6 o _ _ n6 (h6 _)) (.cons (.str _) (.cons (.int _) (.cons .non .nil)))) .nil))
        (.cons (.tup z7 (i8 o _ _ n8 (h8 _)) (.cons (.str _) (.cons (.str _) .nil)))
        (.cons (.dic z8 (i10 o _ _ n9 (h10 _)) (.cons (k := Sum.inr "a") (.int _) .nil)) .nil))))))))))
    -- if deep > 0
    refine ⟨fun σ H' => ∃ (n' : Nat) (a : Addr) (xs : List V) (ds : List PyData) (y3 y4 : Option V), σ = [some (.ref d), some (.int k), some (.ref a), y3, y4] ∧ n' + 1 ≤ n + cost k ∧ Feed H' d c ns n' ∧ Keep d H H' ∧
      H' a = some (.lst xs) ∧ DVs (Old H) H' xs ds ∧ (∀ x ∈ ds, AnyD k x) ∧ 0 < xs.length ∧ xs.length ≤ 30, ?_, ?_⟩
    · refine ⟨_, rfl, _, _, rfl, rfl, _, rfl, ?_⟩
      cases k with
      | zero => exact iteF ⟨n, p10, _, _, none, none, rfl, Nat.le_refl _, F12 _, K12 _, h12 _, S _, fun x hx => .leaf hx, by show 0 < 27; decide, by show 27 ≤ 30; decide⟩
      | succ k =>
        have hc : cost (k + 1) = 2 + 3 * cost k := rfl
        have hc1 := cost_pos k
        have e1 : ((k + 1 : Nat) : Int) - 1 = (k : Int) := by omega
        refine ite2 (fun _ => ?_) (fun hno => absurd (decide_eq_true (show (0 : Int) < ((k + 1 : Nat) : Int) by omega)) hno)
        -- inner = [any(..) for ..]
        refine ⟨.ref d, rfl, d, c, ns, n, 4, rfl, F12 _, by omega, by decide, by decide, fun r H13 n13 r0 r4 hn13 F13 K13 => ⟨r, rfl, by omega, by omega, fun D nD => ?_⟩⟩
        refine lc_range (lo := 0) (n := r.toNat) (fun i Hi => ∃ (n' : Nat) (acc : List V) (ds : List PyData), n' ≤ n + 1 + i * cost k ∧ Feed Hi d c ns n' ∧ Keep d H13 Hi ∧ Hi D = some (.lst acc) ∧ acc.length = i ∧ DVs (fun a => Old H13 a ∨ a = D) Hi acc ds ∧ ∀ x ∈ ds, AnyD k x) ?_ ?_ ?_
        · obtain ⟨U, r, F, k', h, _⟩ := nu F13 nD
          rw [r]
          exact ⟨n13, [], [], by omega, F _, k' _, h _, rfl, .nil, fun x hx => nomatch hx⟩
        · rintro i Hi hi ⟨n', acc, ds, hn', Fi, ki, hD, hl, Si, Pi⟩
          have hi3 : i + 1 ≤ 3 := by omega
          have hb : i * cost k + cost k ≤ 3 * cost k := by
            have := Nat.mul_le_mul_right (cost k) hi3
            rw [Nat.add_mul, Nat.one_mul] at this
            exact this
          refine ⟨rfl, ?_⟩
          refine ⟨.ref d, rfl, _, rfl, _, _, rfl, rfl, d, c, ns, n', (by show [V.ref d, V.int (((k + 1 : Nat) : Int) - 1)] = _; rw [e1]), Fi, by omega, fun v x H' n'' dv pa hn'' F' K' => ?_⟩
          have hnD : D ≠ d := F13.nd nD
          have nc : D ≠ c := F13.nc nD
          have hD' := K' _ _ hnD hD
          obtain ⟨U, r, F, k', h, ho⟩ := fu F' nD (fun b o nb nb' e => K' _ _ nb (ki _ _ nb e)) hnD nc
          refine ⟨acc, hD', (by rw [hl]; exact small1000 (by omega)), n'', acc ++ [v], ds ++ [x], (by rw [Nat.add_mul]; omega), ?_⟩
          rw [r]
          refine ⟨F _, k' _, h _, (by rw [List.length_append, hl]; rfl), ?_, fun y hy => ?_⟩
          · have oD : Old Hi D := old_of hD
            have o13 : ∀ a, Old H13 a → Old Hi a := fun a => Old.mono (X := fun _ => True) ki Fi.old
            refine (DVs.append (Si.keep fun b o nb e => ⟨K' _ _ (fun z => nb (.inl (z ▸ F13.old))) e, nb⟩) (.cons (dv.keep fun b o nb e => ⟨e, fun z => nb (z.elim (o13 b) fun z => z ▸ oD)⟩) .nil)).keep fun b o nb e => ⟨?_, nb⟩
            exact Eq.trans (ho _ b fun z => nb (.inr z)) e
          · rcases List.mem_append.mp hy with hy | hy
            · exact Pi y hy
            · cases List.mem_singleton.mp hy
              exact pa
        · rintro H14 ⟨n14, acc, ds, hn14, F14, K14, hD, hl, S14, P14⟩
          have hi3 : acc.length * cost k ≤ 3 * cost k := Nat.mul_le_mul_right _ (by omega)
          rw [hl] at hi3
          have hl3 : acc.length ≤ 3 := by omega
          have hnD : D ≠ d := F13.nd nD
          have K013 : Keep d H H14 := (K12 _).trans (K13.trans K14)
          have fD : ¬ Old H D := ((K12 _).trans K13).free hnD nD
          have o13 : ∀ a, Old H a → Old H13 a := fun a => Old.mono (X := fun _ => True) ((K12 _).trans K13) F13.old
          have SA : DVs (Old H) H14 acc ds := S14.keep fun b o nb e => ⟨e, fun z => nb (.inl (o13 b z))⟩
          have SP := (S _).keep fun b o nb e => ⟨(K13.trans K14) b o (fun z => nb (z ▸ FD.old)) e, nb⟩
          have hp := (K13.trans K14) _ _ n12 (h12 _)
          clear S r1 r2 r3 r4 r5 r6 r7 r8 r10 r11 r12
          -- some + [inner, tuple(inner), {'a': tuple(inner)}]
          refine ⟨.ref p10, rfl, .ref D, rfl, .ref D, rfl, D, acc, rfl, .inl ⟨.inl (.inl hD), fun l1 nl1 => ?_⟩⟩
          obtain ⟨V1, r1, G1, j1, g1, m1⟩ := nu F14 nl1
          rw [r1]
          intro l2 nl2
          have m2 := (G1 _).nd nl2
          have e2 := (G1 _).nc nl2
          have G2 := (G1 _).new (o := .dK []) nl2
          have hD2 := (Keep.new (o := .dK []) nl2) _ _ hnD ((j1 _) _ _ hnD hD)
          refine ⟨.ref D, rfl, D, acc, rfl, .inl ⟨.inl (.inl hD2), fun l3 nl3 => ?_⟩⟩
          obtain ⟨V3, r3, G3, j3, g3, m3⟩ := nu G2 nl3
          rw [r3]
          have nl32 : l3 ≠ l2 := fun e => by rw [e, upd_same] at nl3; cases nl3
          refine ⟨(j3 _) _ _ m2 upd_same, [(Sum.inr "a", .ref l3)], rfl, (by show 1 ≤ 15; decide), ?_⟩
          obtain ⟨V4, r4, G4, j4, g4, ho4⟩ := fu (G3 _) nl2 (fun b o nb nb' e => (j3 _) _ _ nb (by rw [upd_ne nb']; exact e)) m2 e2
          rw [r4]
          refine ⟨(by show 3 ≤ sizeLine; decide), fun l5 nl5 => ?_⟩
          obtain ⟨V5, r5, G5, j5, g5, m5⟩ := nu (G4 _) nl5
          rw [r5]
          refine ⟨p10, l5, _, _, rfl, rfl, ((j1 _).trans ((j4 _).trans (j5 _))) _ _ n12 hp, g5 _, (by show 27 + 3 ≤ sizeLine; decide), fun l6 nl6 => ?_⟩
          obtain ⟨V6, r6, G6, j6, g6, m6⟩ := nu (G5 _) nl6
          rw [r6]
          have K6 := fun o => (j1 _).trans ((j4 _).trans ((j5 _).trans (j6 o)))
          have K46 := fun o => (j5 _).trans (j6 o)
          have K16 := fun o => (j4 _).trans (K46 o)
          have kk := fun o => (fun (b : Addr) (x : HO) (nb : ¬ Old H b) (e : H14 b = some x) => (⟨K6 o b x (fun z => nb (z ▸ FD.old)) e, nb⟩ : V6 o b = some x ∧ ¬ Old H b))
          have fl1 : ¬ Old H l1 := K013.free m1 nl1
          have fl2 : ¬ Old H l2 := (K013.trans (j1 _)).free m2 nl2
          have fl3 : ¬ Old H l3 := ((K013.trans (j1 _)).trans (Keep.new (o := .dK []) nl2)).free m3 nl3
          have g43 := Eq.trans (ho4 (.dK (mergeK [] [(Sum.inr "a", .ref l3)])) l3 nl32) (g3 _)
          have hD6 := fun o => K6 o _ _ hnD hD
          have S3 := fun o => (DVs.cons (X := Old H) (H := V6 o) (.lst fD (hD6 o) (SA.keep (kk o))) (.cons (.tup fl1 (K16 o _ _ m1 (g1 _)) (SA.keep (kk o)))
            (.cons (.dic fl2 (K46 o _ _ m2 (g4 _)) (.cons (k := Sum.inr "a") (.tup fl3 (K46 o _ _ m3 g43) (SA.keep (kk o))) .nil)) .nil)))
          have hds : ds.length ≤ 3 := by rw [← S14.length]; exact hl3
          refine ⟨n14, l6, _, _, _, _, rfl, by omega, G6 _, K013.trans (K6 _), g6 _, (SP.keep (kk _)).append (S3 _), fun x hx => ?_, by show 0 < 27 + 3; decide, by show 27 + 3 ≤ 30; decide⟩
          rcases List.mem_append.mp hx with hx | hx
          · exact .leaf hx
          · rcases List.mem_cons.mp hx with rfl | hx
            · exact .lst hds P14
            · rcases List.mem_cons.mp hx with rfl | hx
              · exact .tup hds P14
              · cases List.mem_singleton.mp hx
                exact .dic hds P14
    · rintro σ H' ⟨n', a, xs, ds, y3, y4, rfl, hn', F', K', ha, S', P', h0, h30⟩
      refine ⟨.ref d, rfl, .ref a, rfl, d, c, ns, n', a, xs, rfl, F', by omega, ha, h0, by omega, fun x H2 n2 hx hn2 F2 K2 => ?_⟩
      obtain ⟨y, hy, dy⟩ := S'.mem hx
      exact q x y H2 n2 (dy.keep (K2.old FD.old)) (P' y hy) (by omega) F2 (K'.trans K2)
theorem ok_any {f fD fP : Addr} {fd fdD fdP : FuncData} (DA : DefAt K mg "_law_any" sAny ["_law_feed_here", "_law_deep"] f fd) (T : Txt mg) (D : DefAt K mg "_law_draw" sDraw ["_law_feed_here", "_law_many"] fD fdD) (DP : DefAt K mg "_law_pick" sPick ["_law_feed_here", "_law_options"] fP fdP) :
    ∀ k : Nat, FnOk P w K mg base CX0 (k + 3) f fd ["_law_feed_here", "_law_deep"] (spAny k)
  | 0 => ok_anyS 0 DA T D DP ⟨fun _ _ _ _ h => h.elim, fun _ _ _ _ _ _ _ _ _ _ _ _ _ h => h.elim⟩
  | k + 1 => ok_anyS (k + 1) DA T D DP (ok_any DA T D DP k)
/-! ### names and levels -/
def lowB (c : Nat) : Bool := decide (97 ≤ c) && decide (c ≤ 122)
def wordB (z : Str) : Bool := decide (1 ≤ z.cps.toList.length) && decide (z.cps.toList.length ≤ 8) && z.cps.toList.all lowB
def nameD : PyData → Bool
  | .str z => wordB z
  | _ => false
def levelD : PyData → Bool
  | .int _ => true
  | _ => false
def tyD : PyData → String
  | .none => "NoneType"
  | .bool _ => "bool"
  | .int _ => "int"
  | .str _ => "str"
  | .list _ => "list"
  | .tuple _ => "tuple"
  | .dict _ => "dict"
def Sm : PyData → Prop
  | .str z => z.cps.toList.length ≤ 1000 ∧ ∀ c ∈ z.cps.toList, c < 1114112
  | _ => True
theorem DV.ty {X : Addr → Prop} {K : PySem.W.Frag} {H : Hp} {v : V} {x : PyData} (h : DV X H v x) : TyX K H v (.type (tyD x)) := by
  cases h with
  | non => exact .base .non
  | bl b => exact .base (.bl b)
  | int i => exact .base (.int i)
  | str x => exact .base (.str x)
  | lst _ e _ => exact .base (.lst e)
  | tup _ e _ => exact .base (.tup e)
  | dic _ e _ => exact .base (.dK e)
def isstrB : PyData → Bool
  | .str _ => true
  | _ => false
theorem is_strD {K : PySem.W.Frag} : ∀ x : PyData, PySem.W.kitOne K (.type (tyD x)) (.type "str") = some (isstrB x)
  | .none => kit_ty (show kitB "NoneType" "str" = some false by decide +kernel)
  | .bool _ => kit_ty (show kitB "bool" "str" = some false by decide +kernel)
  | .int _ => kit_ty (show kitB "int" "str" = some false by decide +kernel)
  | .str _ => kit_ty (show kitB "str" "str" = some true by decide +kernel)
  | .list _ => kit_ty (show kitB "list" "str" = some false by decide +kernel)
  | .tuple _ => kit_ty (show kitB "tuple" "str" = some false by decide +kernel)
  | .dict _ => kit_ty (show kitB "dict" "str" = some false by decide +kernel)
def isintB : PyData → Bool
  | .bool _ => true
  | .int _ => true
  | _ => false
theorem is_intD {K : PySem.W.Frag} : ∀ x : PyData, PySem.W.kitOne K (.type (tyD x)) (.type "int") = some (isintB x)
  | .none => kit_ty (show kitB "NoneType" "int" = some false by decide +kernel)
  | .bool _ => kit_ty (show kitB "bool" "int" = some true by decide +kernel)
  | .int _ => kit_ty (show kitB "int" "int" = some true by decide +kernel)
  | .str _ => kit_ty (show kitB "str" "int" = some false by decide +kernel)
  | .list _ => kit_ty (show kitB "list" "int" = some false by decide +kernel)
  | .tuple _ => kit_ty (show kitB "tuple" "int" = some false by decide +kernel)
  | .dict _ => kit_ty (show kitB "dict" "int" = some false by decide +kernel)
def isboolB : PyData → Bool
  | .bool _ => true
  | _ => false
theorem is_boolD {K : PySem.W.Frag} : ∀ x : PyData, PySem.W.kitOne K (.type (tyD x)) (.type "bool") = some (isboolB x)
  | .none => kit_ty (show kitB "NoneType" "bool" = some false by decide +kernel)
  | .bool _ => kit_ty (show kitB "bool" "bool" = some true by decide +kernel)
  | .int _ => kit_ty (show kitB "int" "bool" = some false by decide +kernel)
  | .str _ => kit_ty (show kitB "str" "bool" = some false by decide +kernel)
  | .list _ => kit_ty (show kitB "list" "bool" = some false by decide +kernel)
  | .tuple _ => kit_ty (show kitB "tuple" "bool" = some false by decide +kernel)
  | .dict _ => kit_ty (show kitB "dict" "bool" = some false by decide +kernel)
def islistB : PyData → Bool
  | .list _ => true
  | _ => false
theorem is_listD {K : PySem.W.Frag} : ∀ x : PyData, PySem.W.kitOne K (.type (tyD x)) (.type "list") = some (islistB x)
  | .none => kit_ty (show kitB "NoneType" "list" = some false by decide +kernel)
  | .bool _ => kit_ty (show kitB "bool" "list" = some false by decide +kernel)
  | .int _ => kit_ty (show kitB "int" "list" = some false by decide +kernel)
  | .str _ => kit_ty (show kitB "str" "list" = some false by decide +kernel)
  | .list _ => kit_ty (show kitB "list" "list" = some true by decide +kernel)
  | .tuple _ => kit_ty (show kitB "tuple" "list" = some false by decide +kernel)
  | .dict _ => kit_ty (show kitB "dict" "list" = some false by decide +kernel)
def istupleB : PyData → Bool
  | .tuple _ => true
  | _ => false
theorem is_tupleD {K : PySem.W.Frag} : ∀ x : PyData, PySem.W.kitOne K (.type (tyD x)) (.type "tuple") = some (istupleB x)
  | .none => kit_ty (show kitB "NoneType" "tuple" = some false by decide +kernel)
  | .bool _ => kit_ty (show kitB "bool" "tuple" = some false by decide +kernel)
  | .int _ => kit_ty (show kitB "int" "tuple" = some false by decide +kernel)
  | .str _ => kit_ty (show kitB "str" "tuple" = some false by decide +kernel)
  | .list _ => kit_ty (show kitB "list" "tuple" = some false by decide +kernel)
  | .tuple _ => kit_ty (show kitB "tuple" "tuple" = some true by decide +kernel)
  | .dict _ => kit_ty (show kitB "dict" "tuple" = some false by decide +kernel)
def isdictB : PyData → Bool
  | .dict _ => true
  | _ => false
theorem is_dictD {K : PySem.W.Frag} : ∀ x : PyData, PySem.W.kitOne K (.type (tyD x)) (.type "dict") = some (isdictB x)
  | .none => kit_ty (show kitB "NoneType" "dict" = some false by decide +kernel)
  | .bool _ => kit_ty (show kitB "bool" "dict" = some false by decide +kernel)
  | .int _ => kit_ty (show kitB "int" "dict" = some false by decide +kernel)
  | .str _ => kit_ty (show kitB "str" "dict" = some false by decide +kernel)
  | .list _ => kit_ty (show kitB "list" "dict" = some false by decide +kernel)
  | .tuple _ => kit_ty (show kitB "tuple" "dict" = some false by decide +kernel)
  | .dict _ => kit_ty (show kitB "dict" "dict" = some true by decide +kernel)
def spTest (g : PyData → Bool) : Sp := fun vs H Q _ => ∃ (v : V) (x : PyData) (X : Addr → Prop), vs = [v] ∧ DV X H v x ∧ Sm x ∧ ∀ H', Same H H' → Q (.bl (g x)) H'
theorem lt_one (a b : Nat) : decide ([a] < [b]) = decide (a < b) := by
  by_cases h : a < b
  · have : [a] < [b] := List.Lex.rel h
    rw [decide_eq_true this, decide_eq_true h]
  · have : ¬ [a] < [b] := fun z => by
      cases z with
      | rel z => exact h z
      | cons z => cases z
    rw [decide_eq_false this, decide_eq_false h]
theorem chr_a : (Str.ofString "a").cps.toList = [97] := by decide +kernel
theorem chr_z : (Str.ofString "z").cps.toList = [122] := by decide +kernel
theorem not_lt_le (a b : Nat) : (!decide (a < b)) = decide (b ≤ a) := by
  by_cases h : a < b
  · rw [decide_eq_true h, decide_eq_false (by omega)]; rfl
  · rw [decide_eq_false h, decide_eq_true (by omega)]; rfl
theorem new_same {H : Hp} {p : Addr} {o : HO} (h : H p = none) : Same H (upd H p o) := fun b x e => by
  rw [upd_ne (ne_of_none e h)]
  exact e
theorem fill_same {H H' : Hp} {p : Addr} {o : HO} (h : H p = none) (k : ∀ b x, b ≠ p → H b = some x → H' b = some x) : Same H (upd H' p o) := fun b x e => by
  have nb : b ≠ p := ne_of_none e h
  rw [upd_ne nb]
  exact k b x nb e
theorem len_le {z : Str} {k : Nat} (h : z.cps.toList.length ≤ k) (hk : k ≤ 1000) : z.length ≤ sizeLine := by
  have e : z.length = z.cps.toList.length := rfl
  rw [e]
  exact Nat.le_of_lt (small1000 (Nat.le_trans h hk))
theorem scIsName : FnScope ["value", "letter"] ["value"] (defScope sIsName) := ⟨rfl, rfl, rfl, by decide +kernel, rfl, by decide +kernel, by decide +kernel⟩
theorem ok_is_name {f : Addr} {fd : FuncData} {tN : Tok} (F : Fun K "is_name" "is_name" sIsName f fd) (T : Txt mg) (mgLONGEST_NAME : mg "LONGEST_NAME" = some (.int 8 tN)) : FnOk P w K mg base CX0 1 f fd ["value"] (spTest nameD) := by
  refine F.ok scIsName (fun vs H Q E h => ?_) (fun cdv A outer s H vs Q E hr h => ?_)
  · obtain ⟨v, x, X, rfl, _⟩ := h
    rfl
  · obtain ⟨v, x, X, rfl, hv, sm, q⟩ := h
    have hu := hu_of hr
    have nd := scIsName.nd
    refine ⟨_, (C8.pss_cut (ps_if (PW.pt (pw_or (pt_not (pt_val (pe_callB call_isi (by rfl) T.isinstance (by decide +kernel) (pa_cons (pv 0) (pa_cons (pe_bltn (v := .ty "str") (by rfl) T.str (by decide +kernel) rfl) pa_nil))))) (pw_or1 (pt_not (pt_chain op_le op_le pe_int (pe_callB call_len_str (by rfl) T.len (by decide +kernel) (pa_cons (pv 0) pa_nil)) (pe_glob (v := .int 8) rfl mgLONGEST_NAME ⟨_, rfl⟩))))))
      (pss_one (ps_ret pe_bl))
      pss_nil)
    (pss_one (ps_ret (pe_callB (cr_all rfl) (by rfl) T.all (by decide +kernel) (pa_cons (pe_lc (own := [("letter", 1)]) (g := gName 1) (by rfl) nd (pi_str (pv 0)) (blkOk_by (own := [("letter", 1)]) (N := ["value", "letter"]) (sc := defScope sIsName) (by decide +kernel)) (fun _ _ _ _ _ => (pg_name (i := 1) nd rfl (Or.inl rfl))) (fun _ _ _ _ _ => pts_nil) (fun _ _ _ _ _ => (pe_chain op_le_str op_le_str pe_str (pv 1) pe_str))) pa_nil))))), ?_⟩
    refine ⟨fun σ H' => H' = H ∧ ∃ z : Str, x = .str z ∧ v = .str z ∧ σ = [some (.str z), none] ∧ 1 ≤ z.cps.toList.length ∧ z.cps.toList.length ≤ 8, ?_, ?_⟩
    · refine ⟨v, rfl, v, .ty "str", _, _, _, rfl, .ty "str", hv.ty, is_strD x, _, rfl, ?_⟩
      cases hv with
      | str z =>
        refine iteF ?_
        refine ⟨.str z, rfl, z, rfl, len_le sm.1 (by decide), _, _, rfl, rfl, _, rfl, ite2 (fun h1 => ?_) (fun h1 => ?_)⟩
        · have e1 : (1 : Int) ≤ z.length := of_decide_eq_true h1
          have e2 : z.length = z.cps.toList.length := rfl
          refine ⟨_, _, rfl, rfl, _, rfl, ?_⟩
          by_cases h8 : (z.length : Int) ≤ 8
          · rw [decide_eq_true h8]
            refine iteF ?_
            exact ⟨rfl, z, rfl, rfl, rfl, by omega, by omega⟩
          · rw [decide_eq_false h8]
            refine iteT ?_
            have e : nameD (.str z) = false := by
              show (decide (1 ≤ z.cps.toList.length) && decide (z.cps.toList.length ≤ 8) && z.cps.toList.all lowB) = false
              rw [decide_eq_false (show ¬ z.cps.toList.length ≤ 8 by omega), Bool.and_false, Bool.false_and]
            have := q H (Same.refl H)
            rw [e] at this
            exact this
        · refine ⟨_, rfl, iteT ?_⟩
          have e1 : ¬ (1 : Int) ≤ z.length := fun z => h1 (decide_eq_true z)
          have e2 : z.length = z.cps.toList.length := rfl
          have e : nameD (.str z) = false := by
            show (decide (1 ≤ z.cps.toList.length) && decide (z.cps.toList.length ≤ 8) && z.cps.toList.all lowB) = false
            rw [decide_eq_false (show ¬ 1 ≤ z.cps.toList.length by omega), Bool.false_and, Bool.false_and]
          have := q H (Same.refl H)
          rw [e] at this
          exact this
      | _ => exact iteT (q H (Same.refl H))
    · rintro σ H' ⟨rfl, z, rfl, rfl, rfl, h1, h8⟩
      refine ⟨.str z, rfl, z, rfl, fun D nD => ?_⟩
      refine lc_it walk_str (fun i Hi => ∃ acc : List Bool, Hi D = some (.lst (acc.map V.bl)) ∧ acc = (z.cps.toList.take i).map lowB ∧ ∀ b x, b ≠ D → H' b = some x → Hi b = some x) ⟨[], upd_same, rfl, fun b x nb e => by rw [upd_ne nb]; exact e⟩ (fun _ _ _ _ => trivial) ?_ ?_
      · rintro i y Hi Hj hi ⟨acc, hD, ea, hk⟩ ⟨rfl, c, hc, rfl⟩
        refine ⟨rfl, ?_⟩
        refine ⟨.str ⟨#[c]⟩, rfl, _, _, rfl, rfl, _, rfl, ?_⟩
        have el : acc.length ≤ 8 := by rw [ea, List.length_map, List.length_take]; omega
        have hci : z.cps.toList[i]? = some c := by rw [Array.getElem?_toList]; exact hc
        have ek : (z.cps.toList.take (i + 1)).map lowB = acc ++ [lowB c] := by
          rw [List.take_add_one, hci, List.map_append, ea]
          rfl
        have fin : ∀ b : Bool, b = lowB c → ∃ acc0, Hj D = some (.lst acc0) ∧ acc0.length < sizeLine ∧ ∃ acc1 : List Bool, (upd Hj D (.lst (acc0 ++ [V.bl b]))) D = some (.lst (acc1.map V.bl)) ∧ acc1 = (z.cps.toList.take (i + 1)).map lowB ∧ ∀ b' x, b' ≠ D → H' b' = some x → (upd Hj D (.lst (acc0 ++ [V.bl b]))) b' = some x := by
          intro b hb
          refine ⟨_, hD, by rw [List.length_map]; exact small1000 (by omega), acc ++ [b], by rw [upd_same, List.map_append]; rfl, by rw [ek, hb], fun b' x nb e => by rw [upd_ne nb]; exact hk b' x nb e⟩
        rw [chr_a, lt_one]
        refine ite2 (fun ha => ?_) (fun ha => ?_)
        · refine ⟨_, _, rfl, rfl, ?_⟩
          rw [chr_z, lt_one]
          rw [not_lt_le] at ha ⊢
          refine fin _ ?_
          unfold lowB
          rw [ha, Bool.true_and]
        · refine fin false ?_
          rw [not_lt_le] at ha
          unfold lowB
          cases hx : decide (97 ≤ c) with
          | true => exact absurd hx ha
          | false => rfl
      · rintro Hi ⟨acc, hD, ea, hk⟩
        refine ⟨D, acc, rfl, .inl (.inl hD), ?_⟩
        have e : acc.all id = nameD (.str z) := by
          show _ = (decide (1 ≤ z.cps.toList.length) && decide (z.cps.toList.length ≤ 8) && z.cps.toList.all lowB)
          rw [decide_eq_true h1, decide_eq_true h8, ea, show z.cps.size = z.cps.toList.length from rfl, List.take_length, List.all_map]
          rfl
        rw [e]
        exact q Hi fun b x e => hk b x (ne_of_none e nD) e
theorem scIsLevel : FnScope ["value"] ["value"] (defScope sIsLevel) := ⟨rfl, rfl, rfl, by decide +kernel, rfl, by decide +kernel, by decide +kernel⟩
theorem ok_is_level {f : Addr} {fd : FuncData} (F : Fun K "is_level" "is_level" sIsLevel f fd) (T : Txt mg) : FnOk P w K mg base CX0 1 f fd ["value"] (spTest levelD) := by
  refine F.ok scIsLevel (fun vs H Q E h => ?_) (fun cdv A outer s H vs Q E hr h => ?_)
  · obtain ⟨v, x, X, rfl, _⟩ := h
    rfl
  · obtain ⟨v, x, X, rfl, hv, sm, q⟩ := h
    have nd := scIsLevel.nd
    refine ⟨_, (pss_one (ps_ret (pe_and (pe_callB call_isi (by rfl) T.isinstance (by decide +kernel) (pa_cons (pv 0) (pa_cons (pe_bltn (v := .ty "int") (by rfl) T.int (by decide +kernel) rfl) pa_nil))) (pe_one (pe_not (pe_callB call_isi (by rfl) T.isinstance (by decide +kernel) (pa_cons (pv 0) (pa_cons (pe_bltn (v := .ty "bool") (by rfl) T.bool (by decide +kernel) rfl) pa_nil)))))))), ?_⟩
    refine ⟨v, rfl, v, .ty "int", _, _, _, rfl, .ty "int", hv.ty, is_intD x, _, rfl, ?_⟩
    have rest : ∀ b : Bool, b = levelD x → Q (.bl b) H := fun b e => e ▸ q H (Same.refl H)
    cases hb : isintB x with
    | true =>
      refine iteT ⟨v, rfl, v, .ty "bool", _, _, _, rfl, .ty "bool", hv.ty, is_boolD x, _, rfl, rest _ ?_⟩
      cases x <;> first | rfl | cases hb
    | false =>
      refine iteF (rest false ?_)
      cases x <;> first | rfl | cases hb
/-! ### the law's own look -/
theorem scIsInt : FnScope ["_law_thing"] ["_law_thing"] (defScope sIsInt) := ⟨rfl, rfl, rfl, by decide +kernel, rfl, by decide +kernel, by decide +kernel⟩
theorem ok_law_is_int {f : Addr} {fd : FuncData} (F : Fun K "_law_is_int" "_law_is_int" sIsInt f fd) (T : Txt mg) : FnOk P w K mg base CX0 1 f fd ["_law_thing"] (spTest levelD) := by
  refine F.ok scIsInt (fun vs H Q E h => ?_) (fun cdv A outer s H vs Q E hr h => ?_)
  · obtain ⟨v, x, X, rfl, _⟩ := h
    rfl
  · obtain ⟨v, x, X, rfl, hv, sm, q⟩ := h
    have nd := scIsInt.nd
    refine ⟨_, (pss_one (ps_ret (pe_and (pe_callB call_isi (by rfl) T.isinstance (by decide +kernel) (pa_cons (pv 0) (pa_cons (pe_bltn (v := .ty "int") (by rfl) T.int (by decide +kernel) rfl) pa_nil))) (pe_one (pe_not (pe_callB call_isi (by rfl) T.isinstance (by decide +kernel) (pa_cons (pv 0) (pa_cons (pe_bltn (v := .ty "bool") (by rfl) T.bool (by decide +kernel) rfl) pa_nil)))))))), ?_⟩
    refine ⟨v, rfl, v, .ty "int", _, _, _, rfl, .ty "int", hv.ty, is_intD x, _, rfl, ?_⟩
    have rest : ∀ b : Bool, b = levelD x → Q (.bl b) H := fun b e => e ▸ q H (Same.refl H)
    cases hb : isintB x with
    | true =>
      refine iteT ⟨v, rfl, v, .ty "bool", _, _, _, rfl, .ty "bool", hv.ty, is_boolD x, _, rfl, rest _ ?_⟩
      cases x <;> first | rfl | cases hb
    | false =>
      refine iteF (rest false ?_)
      cases x <;> first | rfl | cases hb
theorem abc_low (c : Nat) : decide (c ∈ (Str.ofString "abcdefghijklmnopqrstuvwxyz").cps.toList) = lowB c := by
  have e : (Str.ofString "abcdefghijklmnopqrstuvwxyz").cps.toList = [97, 98, 99, 100, 101, 102, 103, 104, 105, 106, 107, 108, 109, 110, 111, 112, 113, 114, 115, 116, 117, 118, 119, 120, 121, 122] := by decide +kernel
  rw [e]
  unfold lowB
  rw [← Bool.decide_and]
  refine decide_eq_decide.mpr ?_
  simp only [List.mem_cons, List.not_mem_nil, or_false]
  omega
def chV (c : Nat) : V := .str ⟨#[c]⟩
theorem dvStrs {X : Addr → Prop} {K : PySem.W.Frag} {H : Hp} : ∀ l : List Nat, DpAll K H (l.map chV) (l.map fun c => PyData.str ⟨#[c]⟩)
  | [] => .nil
  | c :: r => .cons (.str _) (dvStrs (X := X) r)
theorem layStrs : ∀ l : List Nat, (∀ c ∈ l, c < 1114112) → PyData.canLayAll0 (l.map fun c => PyData.str ⟨#[c]⟩) = true ∧ PyData.depthAll (l.map fun c => PyData.str ⟨#[c]⟩) = 0
  | [], _ => ⟨by simp only [List.map_nil, PyData.canLayAll0], by simp only [List.map_nil, PyData.depthAll]⟩
  | c :: r, h => by
    obtain ⟨h1, h2⟩ := layStrs r fun x hx => h x (List.mem_cons_of_mem _ hx)
    have hc : PyData.strOk ⟨#[c]⟩ = true := by
      simp only [PyData.strOk, List.all_toArray, List.all_cons, List.all_nil, Bool.and_true, decide_eq_true_eq]
      exact h c (List.mem_cons_self ..)
    refine ⟨?_, ?_⟩
    · simp only [List.map_cons, PyData.canLayAll0, PyData.canLay0, hc, h1, Bool.and_true]
    · simp only [List.map_cons, PyData.depthAll, PyData.depth, h2]
      rfl
theorem shStrs (l : List Nat) (h : ∀ c ∈ l, c < 1114112) : SeqAt.shaped (.list (l.map fun c => PyData.str ⟨#[c]⟩)) = true := by
  obtain ⟨h1, h2⟩ := layStrs l h
  simp only [SeqAt.shaped, PyData.canLay0, PyData.depth, h1, h2]
  decide
theorem scIsWord : FnScope ["_law_thing", "_law_sign"] ["_law_thing"] (defScope sIsWord) := ⟨rfl, rfl, rfl, by decide +kernel, rfl, by decide +kernel, by decide +kernel⟩
theorem ok_law_is_word {f : Addr} {fd : FuncData} (F : Fun K "_law_is_word" "_law_is_word" sIsWord f fd) (T : Txt mg) : FnOk P w K mg base CX0 1 f fd ["_law_thing"] (spTest nameD) := by
  refine F.ok scIsWord (fun vs H Q E h => ?_) (fun cdv A outer s H vs Q E hr h => ?_)
  · obtain ⟨v, x, X, rfl, _⟩ := h
    rfl
  · obtain ⟨v, x, X, rfl, hv, sm, q⟩ := h
    have hu := hu_of hr
    have nd := scIsWord.nd
    refine ⟨_, (C8.pss_cut (ps_if (PW.pt (pw_or (pt_not (pt_val (pe_callB call_isi (by rfl) T.isinstance (by decide +kernel) (pa_cons (pv 0) (pa_cons (pe_bltn (v := .ty "str") (by rfl) T.str (by decide +kernel) rfl) pa_nil))))) (pw_or1 (pt_not (pt_chain op_le op_le pe_int (pe_callB call_len_str (by rfl) T.len (by decide +kernel) (pa_cons (pv 0) pa_nil)) pe_int)))))
      (pss_one (ps_ret pe_bl))
      pss_nil)
    (pss_one (ps_ret (pe_cmpR (op_eqD hr.units) (pe_lc (own := [("_law_sign", 1)]) (g := gName 1) (by rfl) nd (pi_str (pv 0)) (blkOk_by (own := [("_law_sign", 1)]) (N := ["_law_thing", "_law_sign"]) (sc := defScope sIsWord) (by decide +kernel)) (fun _ _ _ _ _ => (pg_name (i := 1) nd rfl (Or.inl rfl))) (fun _ _ _ _ _ => (pts_one (pt_cmpR op_notIn_sign (pv 1) pe_str rfl))) (fun _ _ _ _ _ => (pv 1))) (pe_lst pa_nil) (nomark _))))), ?_⟩
    refine ⟨fun σ H' => H' = H ∧ ∃ z : Str, x = .str z ∧ v = .str z ∧ σ = [some (.str z), none] ∧ 1 ≤ z.cps.toList.length ∧ z.cps.toList.length ≤ 8 ∧ ∀ c ∈ z.cps.toList, c < 1114112, ?_, ?_⟩
    · refine ⟨v, rfl, v, .ty "str", _, _, _, rfl, .ty "str", hv.ty, is_strD x, _, rfl, ?_⟩
      cases hv with
      | str z =>
        refine iteF ?_
        refine ⟨.str z, rfl, z, rfl, len_le sm.1 (by decide), _, _, rfl, rfl, _, rfl, ite2 (fun h1 => ?_) (fun h1 => ?_)⟩
        · have e1 : (1 : Int) ≤ z.length := of_decide_eq_true h1
          have e2 : z.length = z.cps.toList.length := rfl
          refine ⟨_, _, rfl, rfl, _, rfl, ?_⟩
          by_cases h8 : (z.length : Int) ≤ 8
          · rw [decide_eq_true h8]
            refine iteF ?_
            exact ⟨rfl, z, rfl, rfl, rfl, by omega, by omega, sm.2⟩
          · rw [decide_eq_false h8]
            refine iteT ?_
            have e : nameD (.str z) = false := by
              show (decide (1 ≤ z.cps.toList.length) && decide (z.cps.toList.length ≤ 8) && z.cps.toList.all lowB) = false
              rw [decide_eq_false (show ¬ z.cps.toList.length ≤ 8 by omega), Bool.and_false, Bool.false_and]
            have := q H (Same.refl H)
            rw [e] at this
            exact this
        · refine ⟨_, rfl, iteT ?_⟩
          have e1 : ¬ (1 : Int) ≤ z.length := fun z => h1 (decide_eq_true z)
          have e2 : z.length = z.cps.toList.length := rfl
          have e : nameD (.str z) = false := by
            show (decide (1 ≤ z.cps.toList.length) && decide (z.cps.toList.length ≤ 8) && z.cps.toList.all lowB) = false
            rw [decide_eq_false (show ¬ 1 ≤ z.cps.toList.length by omega), Bool.false_and, Bool.false_and]
          have := q H (Same.refl H)
          rw [e] at this
          exact this
      | _ => exact iteT (q H (Same.refl H))
    · rintro σ H' ⟨rfl, z, rfl, rfl, rfl, h1, h8, sm⟩
      refine ⟨.str z, rfl, z, rfl, fun D nD => ?_⟩
      refine lc_it walk_str (fun i Hi => Hi D = some (.lst (((z.cps.toList.take i).filter fun c => !lowB c).map chV)) ∧ ∀ b x, b ≠ D → H' b = some x → Hi b = some x) ⟨upd_same, fun b x nb e => by rw [upd_ne nb]; exact e⟩ (fun _ _ _ _ => trivial) ?_ ?_
      · rintro i y Hi Hj hi ⟨hD, hk⟩ ⟨rfl, c, hc, rfl⟩
        have hci : z.cps.toList[i]? = some c := by rw [Array.getElem?_toList]; exact hc
        have et : z.cps.toList.take (i + 1) = z.cps.toList.take i ++ [c] := by rw [List.take_add_one, hci]; rfl
        refine ⟨rfl, .str ⟨#[c]⟩, rfl, c, _, rfl, rfl, _, rfl, ?_⟩
        rw [abc_low]
        cases hc : lowB c with
        | true =>
          refine iteF ⟨?_, hk⟩
          rw [et, List.filter_append]
          simp only [List.filter_cons, hc, List.filter_nil, Bool.not_true, Bool.false_eq_true, if_false, List.append_nil]
          exact hD
        | false =>
          refine iteT ⟨.str ⟨#[c]⟩, rfl, _, hD, ?_, ?_, fun b x nb e => by rw [upd_ne nb]; exact hk b x nb e⟩
          · rw [List.length_map]
            have h1 := List.length_filter_le (fun c => !lowB c) (z.cps.toList.take i)
            have h2 : (z.cps.toList.take i).length ≤ 8 := by rw [List.length_take]; omega
            exact small1000 (by omega)
          · rw [upd_same, et, List.filter_append]
            simp only [List.filter_cons, hc, List.filter_nil, Bool.not_false, if_true, List.map_append]
            rfl
      · rintro Hi ⟨hD, hk⟩
        rw [show z.cps.size = z.cps.toList.length from rfl, List.take_length] at hD
        refine ⟨Nat.zero_le _, fun p np => ?_⟩
        have e1 : (upd Hi p (.lst [])) D = some (.lst ((z.cps.toList.filter fun c => !lowB c).map chV)) := new_same np _ _ hD
        refine ⟨_, .list [], .lst (.inl (.inl e1)) (dvStrs (X := X) _), .lst (.inl (.inl upd_same)) .nil, shStrs _ (fun c hc => sm c (List.mem_filter.mp hc).1), rfl, ?_⟩
        have e : PyData.eqv (.list ((z.cps.toList.filter fun c => !lowB c).map fun c => PyData.str ⟨#[c]⟩)) (.list []) = nameD (.str z) := by
          show _ = (decide (1 ≤ z.cps.toList.length) && decide (z.cps.toList.length ≤ 8) && z.cps.toList.all lowB)
          rw [decide_eq_true h1, decide_eq_true h8]
          cases hf : z.cps.toList.filter (fun c => !lowB c) with
          | nil =>
            have : z.cps.toList.all lowB = true := List.all_eq_true.mpr fun c hc => by
              cases hl : lowB c with
              | true => rfl
              | false =>
                have : c ∈ z.cps.toList.filter (fun c => !lowB c) := List.mem_filter.mpr ⟨hc, by rw [hl]; rfl⟩
                rw [hf] at this
                cases this
            rw [this]
            rfl
          | cons c r =>
            have hm : c ∈ z.cps.toList.filter (fun c => !lowB c) := by rw [hf]; exact List.mem_cons_self ..
            obtain ⟨h3, h4⟩ := List.mem_filter.mp hm
            have : z.cps.toList.all lowB = false := by
              cases hl : z.cps.toList.all lowB with
              | false => rfl
              | true => rw [List.all_eq_true.mp hl c h3] at h4; cases h4
            rw [this]
            rfl
        rw [e]
        exact q _ fun b x e => new_same np _ _ (hk b x (ne_of_none e nD) e)
/-! ### feed, word -/
theorem Feed.same {H H' : Hp} {d c : Addr} {ns : List Int} {n : Nat} (F : Feed H d c ns n) (S : Same H H') : Feed H' d c ns n := by
  obtain ⟨⟨l, l0, e⟩, hc, hl⟩ := F
  exact ⟨⟨l, l0, S _ _ e⟩, S _ _ hc, hl⟩
def spFeed (K : PySem.W.Frag) : Sp := fun vs H Q _ => ∃ (a : Addr) (ns : List Int), vs = [.ref a] ∧ SqL K H a (ns.map V.int) ∧ ns.length ≤ 63 ∧
  ∀ (d c : Addr) (H' : Hp), Feed H' d c ns 0 → Same H H' → H d = none → Q (.ref d) H'
theorem merge_fk (c : Addr) (n l : Int) : mergeK [] (fk c n l) = fk c n l := by
  have e1 : ¬ kA = kC := fun h => nCA h.symm
  unfold fk mergeK putK
  simp only [List.foldl_cons, List.foldl_nil, List.any_nil, List.any_cons, Bool.false_eq_true, if_false, List.nil_append, nCA, nCL, nAL, decide_false, Bool.or_false, List.cons_append, Bool.or_self]
theorem scFeed : FnScope ["_law_script"] ["_law_script"] (defScope sFeed) := ⟨rfl, rfl, rfl, by decide +kernel, rfl, by decide +kernel, by decide +kernel⟩
theorem ok_feed {f : Addr} {fd : FuncData} (F : Fun K "_law_feed" "_law_feed" sFeed f fd) (T : Txt mg) : FnOk P w K mg base CX0 1 f fd ["_law_script"] (spFeed K) := by
  refine F.ok scFeed (fun vs H Q E h => ?_) (fun cdv A outer s H vs Q E hr h => ?_)
  · obtain ⟨a, ns, rfl, _⟩ := h
    rfl
  · obtain ⟨a, ns, rfl, hS, hl, q⟩ := h
    have hu := hu_of hr
    have nd := scFeed.nd
    refine ⟨_, (pss_one (ps_ret (pe_disp (pps_cons pe_str (pe_callTy call_list_of (by rfl) T.list (by decide +kernel) (pa_cons (pe_slice sl_list (pv 0) po_none (po_some pe_int)) pa_nil)) (pps_cons pe_str pe_int (pps_cons pe_str pe_int pps_nil))) (by rfl) (by rfl) (fun z => by cases z) (by decide)))), ?_⟩
    intro p np
    have s0 : Same H (upd H p (.dK [])) := new_same np
    refine ⟨.ref a, rfl, 63, rfl, a, _, rfl, s0.seq hS, fun c0 nc0 => ?_⟩
    have ec : cutV (ns.map V.int) none (some 63) = ns.map V.int := by
      unfold cutV
      rw [HT.sIx_none, show HT.sIx (ns.map V.int).length (ns.map V.int).length (some 63) = min 63 (ns.map V.int).length from HT.sIx_nat _ _ 63, List.drop_zero, List.length_map, Nat.min_eq_right hl, Nat.sub_zero]
      exact List.take_of_length_le (by rw [List.length_map]; exact Nat.le_refl _)
    rw [ec]
    refine ⟨c0, ns.map V.int, rfl, .inl (.inl (.inl upd_same)), fun c nc => ?_⟩
    have s1 := new_same (o := .lst (ns.map V.int)) nc0
    have s2 := new_same (o := .lst (ns.map V.int)) nc
    have hp2 := s2 _ _ (s1 _ _ (upd_same (H := H) (a := p) (o := .dK [])))
    refine ⟨hp2, fk c 0 0, rfl, (by show 3 ≤ 15; decide), ?_⟩
    rw [merge_fk]
    have ncp : c ≠ p := fun e => by rw [e] at nc; rw [s1 _ _ upd_same] at nc; cases nc
    refine q p c _ ⟨⟨0, Int.le_refl _, upd_same⟩, by rw [upd_ne ncp, upd_same], hl⟩ (fill_same np fun b x nb e => s2 _ _ (s1 _ _ (by rw [upd_ne nb]; exact e))) np
/-- a short text -/
def Sh (z : Str) : Prop := z.cps.toList.length ≤ 30 ∧ ∀ c ∈ z.cps.toList, c < 1114112
def spWord : Sp := fun vs H Q _ => ∃ (d c : Addr) (ns : List Int) (n : Nat), vs = [.ref d] ∧ Feed H d c ns n ∧ n + 20 < 1000000000 ∧
  ∀ (z : Str) (H' : Hp) (n' : Nat), Sh z → n' ≤ n + 20 → Feed H' d c ns n' → Keep d H H' → Q (.str z) H'
theorem Sh.app {a b : Str} {m k : Nat} (ha : a.cps.toList.length ≤ m) (hb : b.cps.toList.length ≤ k) (hm : m + k ≤ 30) (ca : ∀ c ∈ a.cps.toList, c < 1114112) (cb : ∀ c ∈ b.cps.toList, c < 1114112) : Sh (a ++ b) := by
  have e : (a ++ b).cps.toList = a.cps.toList ++ b.cps.toList := by
    show (a.cps ++ b.cps).toList = _
    exact Array.toList_append
  refine ⟨by rw [e, List.length_append]; omega, fun c hc => ?_⟩
  rw [e] at hc
  rcases List.mem_append.mp hc with h | h
  · exact ca c h
  · exact cb c h
theorem cut_mem {z : Str} {lo hi : Option Int} {c : Nat} (h : c ∈ (cutS z lo hi).cps.toList) : c ∈ z.cps.toList := List.mem_of_mem_drop (List.mem_of_mem_take h)
theorem cut_len (z : Str) (lo hi : Option Int) : (cutS z lo hi).cps.toList.length ≤ z.cps.toList.length := by
  show (List.take _ (List.drop _ _)).length ≤ _
  rw [List.length_take, List.length_drop]
  omega
theorem app_len (a b : Str) : (a ++ b).cps.toList.length = a.cps.toList.length + b.cps.toList.length := by
  show (a.cps ++ b.cps).toList.length = _
  rw [Array.toList_append, List.length_append]
theorem joinL_one : ∀ cs : List Nat, TL.joinL [] (cs.map fun c => [c]) = cs
  | [] => rfl
  | [c] => rfl
  | c :: x :: r => by
    show [c] ++ ([] ++ TL.joinL [] ((x :: r).map fun c => [c])) = _
    rw [joinL_one (x :: r)]
    rfl
theorem join_chars (cs : List Nat) : Txt.join "" (cs.map fun c => (⟨#[c]⟩ : Str)) = ⟨cs.toArray⟩ := by
  have h := SX.join_S [] (cs.map fun c => [c])
  rw [joinL_one, List.map_map] at h
  exact h
theorem scWord : FnScope ["_law_feed_here", "_law_signs", "_law_found", "_law_k", "_law_odd"] ["_law_feed_here"] (defScope sWord) := ⟨rfl, rfl, rfl, by decide +kernel, rfl, by decide +kernel, by decide +kernel⟩
theorem ok_word {f fD fP : Addr} {fd fdD fdP : FuncData} (F : Fun K "_law_word" "_law_word" sWord f fd) (T : Txt mg) (D : DefAt K mg "_law_draw" sDraw ["_law_feed_here", "_law_many"] fD fdD) (DP : DefAt K mg "_law_pick" sPick ["_law_feed_here", "_law_options"] fP fdP) : FnOk P w K mg base CX0 3 f fd ["_law_feed_here"] spWord := by
  have GD : FnOk P w K mg base CX0 1 fD fdD ["_law_feed_here", "_law_many"] spDraw := ok_draw D.F T
  have GPl : FnOk P w K mg base CX0 2 fP fdP ["_law_feed_here", "_law_options"] spPickL := ok_pickL DP.F T D
  have GPs : FnOk P w K mg base CX0 2 fP fdP ["_law_feed_here", "_law_options"] spPickS := ok_pickS DP.F T D
  refine F.ok scWord (fun vs H Q E h => ?_) (fun cdv A outer s H vs Q E hr h => ?_)
  · obtain ⟨d, c, ns, n, rfl, _⟩ := h
    rfl
  · obtain ⟨d, c, ns, n, rfl, FD, hn, q⟩ := h
    have hu := hu_of hr
    have nd := scWord.nd
    refine ⟨_, (pss_cons (ps_set (i := 1) nd rfl (.inl rfl) pe_str)
    (pss_cons (ps_set (i := 2) nd rfl (.inl rfl) (pe_join pe_str (pe_lc (own := [("_law_k", 3)]) (g := gName 3) (by rfl) nd (pi_range1 (by rfl) T.range (pa_cons (pe_call GD (hr.mono (by decide)) (by rfl) D.M D.F.kp D.B .nil pass0 (pa_cons (pv 0) (pa_cons pe_int pa_nil))) pa_nil)) (blkOk_by (own := [("_law_k", 3)]) (N := ["_law_feed_here", "_law_signs", "_law_found", "_law_k", "_law_odd"]) (sc := defScope sWord) (by decide +kernel)) (fun _ _ _ _ _ => (pg_name (i := 3) nd rfl (Or.inl rfl))) (fun _ _ _ _ _ => pts_nil) (fun _ _ _ _ _ => (pe_call GPs (hr.mono (by decide)) (by rfl) DP.M DP.F.kp DP.B .nil pass0 (pa_cons (pv 0) (pa_cons pe_str pa_nil)))))))
    (pss_cons (ps_set (i := 3) nd rfl (.inl rfl) (pe_call GD (hr.mono (by decide)) (by rfl) D.M D.F.kp D.B .nil pass0 (pa_cons (pv 0) (pa_cons (pe_op op_add (pe_callB call_len_str (by rfl) T.len (by decide +kernel) (pa_cons (pv 2) pa_nil)) pe_int) pa_nil))))
    (pss_cons (ps_set (i := 4) nd rfl (.inl rfl) (pe_call GPs (hr.mono (by decide)) (by rfl) DP.M DP.F.kp DP.B .nil pass0 (pa_cons (pv 0) (pa_cons (pv 1) pa_nil))))
    (pss_one (ps_ret (pe_call GPl (hr.mono (by decide)) (by rfl) DP.M DP.F.kp DP.B .nil pass0 (pa_cons (pv 0) (pa_cons (pe_lst (pa_cons (pv 2) (pa_cons (pv 2) (pa_cons (pe_op op_add_str (pe_op op_add_str (pe_slice sl_str (pv 2) po_none (po_some (pv 3))) (pv 4)) (pe_slice sl_str (pv 2) (po_some (pv 3)) po_none)) (pa_cons (pe_op op_add_str (pe_op op_add_str (pe_slice sl_str (pv 2) po_none (po_some (pv 3))) (pv 4)) (pe_slice sl_str (pv 2) (po_some (pe_op op_add (pv 3) pe_int)) po_none)) pa_nil))))) pa_nil))))))))), ?_⟩
    -- found = ''.join([..])
    refine ⟨⟨_, rfl⟩, .ref d, rfl, d, c, ns, n, 11, rfl, FD, by omega, by decide, by decide, fun r H1 n1 r0 r1 hn1 F1 K1 => ⟨r, rfl, by omega, by omega, fun D nD => ?_⟩⟩
    refine lc_range (lo := 0) (n := r.toNat) (fun i Hi => ∃ (n' : Nat) (cs : List Nat), n' ≤ n + 1 + i ∧ Feed Hi d c ns n' ∧ Keep d H1 Hi ∧ Hi D = some (.lst ((cs.map fun c => (⟨#[c]⟩ : Str)).map V.str)) ∧ cs.length = i ∧ ∀ c ∈ cs, c < 1114112) ?_ ?_ ?_
    · obtain ⟨U, r, F, k', h, _⟩ := nu F1 nD
      rw [r]
      exact ⟨n1, [], by omega, F _, k' _, h _, rfl, fun x hx => nomatch hx⟩
    · rintro i Hi hi ⟨n', cs, hn', Fi, ki, hD, hl, hc⟩
      refine ⟨rfl, .ref d, rfl, d, c, ns, n', _, rfl, Fi, by omega, (by decide +kernel), (by decide +kernel), fun x H' n'' hx hn'' F' K' => ?_⟩
      have hnD : D ≠ d := F1.nd nD
      have nc : D ≠ c := F1.nc nD
      obtain ⟨U, r, F, k', h, ho⟩ := fu F' nD (fun b o nb nb' e => K' _ _ nb (ki _ _ nb e)) hnD nc
      refine ⟨_, K' _ _ hnD hD, (by rw [List.length_map, List.length_map, hl]; exact small1000 (by omega)), n'', cs ++ [x], by omega, ?_⟩
      rw [r]
      refine ⟨F _, k' _, (by rw [h, List.map_append, List.map_append]; rfl), (by rw [List.length_append, hl]; rfl), fun y hy => ?_⟩
      rcases List.mem_append.mp hy with hy | hy
      · exact hc y hy
      · cases List.mem_singleton.mp hy
        exact Nat.lt_trans ((show ∀ c ∈ (Str.ofString "abcdefghijklmnopqrstuvwxyz").cps.toList, c < 128 by decide +kernel) _ hx) (by decide)
    · rintro H2 ⟨n2, cs, hn2, F2, k2, hD, hl, hc⟩
      have hl10 : cs.length ≤ 10 := by omega
      refine ⟨_, D, cs.map fun c => (⟨#[c]⟩ : Str), rfl, rfl, .inl (.inl (.inl hD)), ?_, ?_⟩
      · have e1 : ((cs.map fun c => (⟨#[c]⟩ : Str)).map (·.length)).sum = cs.length := by
          rw [List.map_map]
          have : ∀ l : List Nat, (l.map ((·.length) ∘ fun c => (⟨#[c]⟩ : Str))).sum = l.length := fun l => by
            induction l with
            | nil => rfl
            | cons a r ih => rw [List.map_cons, List.sum_cons, ih, List.length_cons]; show 1 + r.length = _; omega
          exact this cs
        rw [e1, List.length_map]
        have : (Str.ofString "").length = 0 := by decide +kernel
        rw [this]
        omega
      rw [join_chars]
      -- k = draw(feed, len(found) + 1)
      have eF : (⟨cs.toArray⟩ : Str).cps.toList = cs := rfl
      generalize (⟨cs.toArray⟩ : Str) = z at eF ⊢
      have zl : z.cps.toList.length ≤ 10 := by rw [eF]; exact hl10
      have zc : ∀ c ∈ z.cps.toList, c < 1114112 := by rw [eF]; exact hc
      have zs : z.length ≤ sizeLine := len_le zl (by decide)
      have ez : z.length = z.cps.toList.length := rfl
      refine ⟨.ref d, rfl, .str z, rfl, z, rfl, zs, _, _, rfl, rfl, d, c, ns, n2, _, rfl, F2, by omega, by omega, by omega, fun r3 H3 n3 r30 r31 hn3 F3 K3 => ?_⟩
      -- odd = pick(feed, signs)
      refine ⟨.ref d, rfl, _, rfl, d, c, ns, n3, _, rfl, F3, by omega, (by decide +kernel), (by decide +kernel), fun x H4 n4 hx hn4 F4 K4 => ?_⟩
      have hx' : x < 1114112 := Nat.lt_trans ((show ∀ c ∈ (Str.ofString " !\"#$&'()*+,-./0123456789:;<=>?@ABCDEFGHIJKLMNOPQRSTUVWXYZ[]^_`abcdefghijklmnopqrstuvwxyz{|}~\\\n").cps.toList, c < 128 by decide +kernel) _ hx) (by decide)
      have ox : (⟨#[x]⟩ : Str).cps.toList = [x] := rfl
      have oc : ∀ c ∈ (⟨#[x]⟩ : Str).cps.toList, c < 1114112 := fun c h => by cases List.mem_singleton.mp h; exact hx'
      have small : ∀ y : Str, y.cps.toList.length ≤ 30 → y.length ≤ sizeLine := fun y h => len_le h (by decide)
      have l1 := cut_len z none (some r3)
      have l2 := cut_len z (some r3) none
      have l3 := cut_len z (some (r3 + 1)) none
      have s1 : Sh (cutS z none (some r3) ++ ⟨#[x]⟩) := Sh.app (m := 10) (k := 1) (by omega) (Nat.le_refl _) (by decide) (fun c h => zc c (cut_mem h)) oc
      have s1l : (cutS z none (some r3) ++ (⟨#[x]⟩ : Str)).cps.toList.length ≤ 11 := by rw [app_len, ox]; show _ + 1 ≤ 11; omega
      have s2 : Sh (cutS z none (some r3) ++ ⟨#[x]⟩ ++ cutS z (some r3) none) := Sh.app (m := 11) (k := 10) s1l (by omega) (by decide) s1.2 (fun c h => zc c (cut_mem h))
      have s3 : Sh (cutS z none (some r3) ++ ⟨#[x]⟩ ++ cutS z (some (r3 + 1)) none) := Sh.app (m := 11) (k := 10) s1l (by omega) (by decide) s1.2 (fun c h => zc c (cut_mem h))
      have n1000 : ∀ a b : Str, a.cps.toList.length + b.cps.toList.length ≤ 1000 → a.length + b.length ≤ sizeLine := fun a b h => Nat.le_of_lt (small1000 (show a.cps.toList.length + b.cps.toList.length ≤ 1000 from h))
      have g1 := n1000 (cutS z none (some r3)) ⟨#[x]⟩ (by rw [ox]; show _ + 1 ≤ 1000; omega)
      have g2 := n1000 (cutS z none (some r3) ++ ⟨#[x]⟩) (cutS z (some r3) none) (by omega)
      have g3 := n1000 (cutS z none (some r3) ++ ⟨#[x]⟩) (cutS z (some (r3 + 1)) none) (by omega)
      refine ⟨.ref d, rfl, .str z, rfl, .str z, rfl, .str z, rfl, .int r3, rfl, r3, rfl, z, rfl, zs, .str ⟨#[x]⟩, rfl, _, _, rfl, rfl, g1, .str z, rfl, .int r3, rfl, r3, rfl, z, rfl, zs, _, _, rfl, rfl, g2,
        .str z, rfl, .int r3, rfl, r3, rfl, z, rfl, zs, .str ⟨#[x]⟩, rfl, _, _, rfl, rfl, g1, .str z, rfl, .int r3, rfl, _, _, rfl, rfl, r3 + 1, rfl, z, rfl, zs, _, _, rfl, rfl, g3, (by show 4 ≤ sizeLine; decide), fun p np => ?_⟩
      obtain ⟨U5, r5, F5, k5, h5, n5⟩ := nu F4 np
      rw [r5]
      refine ⟨d, c, ns, n4, p, _, rfl, F5 _, by omega, h5 _, (by show 0 < 4; decide), (by show 4 < 1000000; decide), fun y H6 n6 hy hn6 F6 K6 => ?_⟩
      have zS : Sh z := ⟨by omega, zc⟩
      have K46 := (K1.trans (k2.trans (K3.trans K4))).trans ((k5 _).trans K6)
      rcases List.mem_cons.mp hy with rfl | hy
      · exact q _ H6 n6 zS (by omega) F6 K46
      · rcases List.mem_cons.mp hy with rfl | hy
        · exact q _ H6 n6 zS (by omega) F6 K46
        · rcases List.mem_cons.mp hy with rfl | hy
          · exact q _ H6 n6 s2 (by omega) F6 K46
          · cases List.mem_singleton.mp hy
            exact q _ H6 n6 s3 (by omega) F6 K46
/-! ### the law -/
theorem call_repr_bool {X : Cx} : CallR X (.builtin "repr") (fun xs H Q => ∃ b : Bool, xs = [.bl b] ∧ Q (.str (if b then "True" else "False")) H) := by
  intro pins s σ H xs us Q I r h
  obtain ⟨b, rfl, q⟩ := h
  obtain ⟨u, rfl, e⟩ := vals1 r
  cases (show u = Value.bool b from e)
  exact PySem.P.repr_of_bool ⟨.str _, H, I.tok _, ⟨_, rfl⟩, q⟩
section
variable {X : Cx} {CX : CXT} {k : Nat} {f : Addr} {fd : FuncData} {ps ks : List Str} {sp : Sp} {E : XK} {x : Str} {p pos : Pos} {kws : List Keyword} {tk : TA} {g : List Value → List Value → List Value} {gV : List V → List V → List V}
def tCallK0 (sp : Sp) (gV : List V → List V → List V) (E : XK) (tk : TA) : TE := fun σ H Q => tk σ H fun zs H2 => sp (gV [] zs) H2 Q E
/-- f(k = v, ..), nothing by position -/
theorem pe_callK0 (F : FnOk X.prog X.w X.K X.mg X.base CX k f fd ps sp) (hr : Room k X.A) (hg : Gl X x) (hm : X.mg x = some (.ref f)) (hk : PySem.W.keepIn X.K (.ref f) = true) (hb : KBinds X.K fd ps ks g gV) (hx : Passes CX X E)
    (hkw : PK X kws tk) (hall : (backToKw pos (keywordEach kws X.env)).all (·.1.isSome) = true := by rfl) (hks : (backToKw pos (keywordEach kws X.env)).filterMap (·.1) = ks := by rfl)
    (hdb : (x == ("__debug__" : Str)) = false := by decide)
    (hpl : ((backTo pos (starEach [] X.env)).any (·.1) || (backToKw pos (keywordEach kws X.env)).any (·.1.isNone)) = false := by rfl) :
    PE X (.Call (.Name x p) [] kws pos) (tCallK0 sp gV E tk) := by
  refine ⟨fun pins s σ H Q I h => ?_⟩
  refine wpAny_Call_Name_kw (ld_glob I hg hm ?_ hdb)
  refine PySem.W.callWith_KW0 (h₀ := X.base) I.ok.mod.kin hk hall (thn (hkw.run pos pins s σ H _ I h) fun ws s2 ⟨zs, H2, I2, rz, q2⟩ => ⟨I2.kIn, ?_⟩) hpl
  rw [hks]
  exact run_fnk (us := []) (vs := []) F hr hb hx I2 .nil rz q2
end
/-- a def of one parameter, called by its name -/
theorem kb_one {x qual : Str} {st : Stmt} {f : Addr} {fd : FuncData} {y : Str} (F : Fun K x qual st f fd)
    (h1 : ∀ (kV doc pm : Value) (an : Option Addr) (cdv ct u : Value), bindArgs (PySem.W.fnOf x qual (defArgs st) (defBody st) (defScope st) .none kV doc pm an cdv ct) ⟨[], [(y, u)]⟩ = pure [(y, u)])
    (h2 : ∀ (kV doc pm : Value) (an : Option Addr) (cdv ct u : Value), bindArgs (PySem.W.fnOf x qual (defArgs st) (defBody st) (defScope st) .none kV doc pm an cdv ct) ⟨[u], []⟩ = pure [(y, u)])
    (h3 : ∀ (kV doc pm : Value) (an : Option Addr) (cdv ct u v : Value), False → bindArgs (PySem.W.fnOf x qual (defArgs st) (defBody st) (defScope st) .none kV doc pm an cdv ct) ⟨[u], [(y, v)]⟩ = pure [(y, u)]) :
    KBinds K fd [y] [y] (fun us ws => us ++ ws) (fun vs zs => vs ++ zs) := by
  obtain ⟨oc, od, kV, doc, pm, an, cdv, ct, osl, rfl, lk, hcd⟩ := F.ex
  refine ⟨fun s us ws X hl => ?_, fun r s => r.append s⟩
  match us, ws, hl with
  | [], [u], _ => exact .of_eq (h1 kV doc pm an cdv ct u)
  | [u], [], _ => exact .of_eq (h2 kV doc pm an cdv ct u)
theorem Sh.sm {z : Str} (h : Sh z) : Sm (.str z) := ⟨Nat.le_trans h.1 (by decide), h.2⟩
theorem AnyD.sm {k : Nat} {x : PyData} (h : AnyD k x) : Sm x := by
  cases h with
  | leaf h =>
    have all : ∀ y ∈ leafs ++ leafs2, (match y with | .str z => decide (z.cps.toList.length ≤ 1000) && z.cps.toList.all (fun c => decide (c < 1114112)) | _ => true) = true := by decide +kernel
    have := all x h
    cases x with
    | str z =>
      have := Bool.and_eq_true_iff.mp this
      exact ⟨of_decide_eq_true this.1, fun c hc => of_decide_eq_true (List.all_eq_true.mp this.2 c hc)⟩
    | _ => trivial
  | lst _ _ => trivial
  | tup _ _ => trivial
  | dic _ _ => trivial
theorem scLaw : FnScope ["_law_script", "_law_feed_here", "_law_turn", "_law_number", "_law_thing"] ["_law_script"] (defScope sLaw) := ⟨rfl, rfl, rfl, by decide +kernel, rfl, by decide +kernel, by decide +kernel⟩
def spLaw (K : PySem.W.Frag) : Sp := fun vs H Q _ => ∃ (a : Addr) (ns : List Int), vs = [.ref a] ∧ SqL K H a (ns.map V.int) ∧ ns.length ≤ 63 ∧ ∀ H', Q (.bl true) H'
theorem ok_law {f fN fL fF fD fP fA fII fIW fW : Addr} {fd fdN fdL fdF fdD fdP fdA fdII fdIW fdW : FuncData} {tN : Tok} (F : Fun K "law" "law" sLaw f fd) (T : Txt mg)
    (DN : DefAt K mg "is_name" sIsName ["value"] fN fdN) (DL : DefAt K mg "is_level" sIsLevel ["value"] fL fdL) (DF : DefAt K mg "_law_feed" sFeed ["_law_script"] fF fdF) (D : DefAt K mg "_law_draw" sDraw ["_law_feed_here", "_law_many"] fD fdD) (DP : DefAt K mg "_law_pick" sPick ["_law_feed_here", "_law_options"] fP fdP)
    (DA : DefAt K mg "_law_any" sAny ["_law_feed_here", "_law_deep"] fA fdA) (DII : DefAt K mg "_law_is_int" sIsInt ["_law_thing"] fII fdII) (DIW : DefAt K mg "_law_is_word" sIsWord ["_law_thing"] fIW fdIW) (DW : DefAt K mg "_law_word" sWord ["_law_feed_here"] fW fdW)
    (mN : mg "LONGEST_NAME" = some (.int 8 tN)) : FnOk P w K mg base CX0 6 f fd ["_law_script"] (spLaw K) := by
  have GD : FnOk P w K mg base CX0 1 fD fdD ["_law_feed_here", "_law_many"] spDraw := ok_draw D.F T
  have GPl : FnOk P w K mg base CX0 2 fP fdP ["_law_feed_here", "_law_options"] spPickL := ok_pickL DP.F T D
  have GPs : FnOk P w K mg base CX0 2 fP fdP ["_law_feed_here", "_law_options"] spPickS := ok_pickS DP.F T D
  have GA : FnOk P w K mg base CX0 5 fA fdA ["_law_feed_here", "_law_deep"] (spAny 2) := ok_any DA T D DP 2
  have GF : FnOk P w K mg base CX0 1 fF fdF ["_law_script"] (spFeed K) := ok_feed DF.F T
  have GW : FnOk P w K mg base CX0 3 fW fdW ["_law_feed_here"] spWord := ok_word DW.F T D DP
  have GN : FnOk P w K mg base CX0 1 fN fdN ["value"] (spTest nameD) := ok_is_name DN.F T mN
  have GL : FnOk P w K mg base CX0 1 fL fdL ["value"] (spTest levelD) := ok_is_level DL.F T
  have GII : FnOk P w K mg base CX0 1 fII fdII ["_law_thing"] (spTest levelD) := ok_law_is_int DII.F T
  have GIW : FnOk P w K mg base CX0 1 fIW fdIW ["_law_thing"] (spTest nameD) := ok_law_is_word DIW.F T
  have KBGN : KBinds K fdN ["value"] ["value"] (fun us ws => us ++ ws) (fun vs zs => vs ++ zs) := kb_one DN.F (fun _ _ _ _ _ _ _ => rfl) (fun _ _ _ _ _ _ _ => rfl) (fun _ _ _ _ _ _ _ _ h => h.elim)
  have KBGL : KBinds K fdL ["value"] ["value"] (fun us ws => us ++ ws) (fun vs zs => vs ++ zs) := kb_one DL.F (fun _ _ _ _ _ _ _ => rfl) (fun _ _ _ _ _ _ _ => rfl) (fun _ _ _ _ _ _ _ _ h => h.elim)
  refine F.ok scLaw (fun vs H Q E h => ?_) (fun cdv A outer s H vs Q E hr h => ?_)
  · obtain ⟨a, ns, rfl, _⟩ := h
    rfl
  · obtain ⟨a, ns, rfl, hS, hl, q⟩ := h
    have hu := hu_of hr
    have nd := scLaw.nd
    refine ⟨_, (pss_cons (ps_set (i := 1) nd rfl (.inl rfl) (pe_call GF (hr.mono (by decide)) (by rfl) DF.M DF.F.kp DF.B .nil pass0 (pa_cons (pv 0) pa_nil)))
    (pss_cons (ps_for PassesOwn.never rfl (pi_range1 (by rfl) T.range (pa_cons (pe_op op_add pe_int (pe_callB (call_min2 rfl) (by rfl) T.min (by decide +kernel) (pa_cons pe_int (pa_cons (pe_callB call_len_seq (by rfl) T.len (by decide +kernel) (pa_cons (pv 0) pa_nil)) pa_nil)))) pa_nil)) (pg_name (i := 2) nd rfl (.inl rfl))
      (pss_cons (ps_set (i := 3) nd rfl (.inl rfl) (pe_op op_mul (pe_call GD (hr.mono (by decide)) (by rfl) D.M D.F.kp D.B .nil pass0 (pa_cons (pv 1) (pa_cons (pe_op op_pow pe_int pe_int) pa_nil))) (pe_call GPl (hr.mono (by decide)) (by rfl) DP.M DP.F.kp DP.B .nil pass0 (pa_cons (pv 1) (pa_cons (pe_lst (pa_cons pe_int (pa_cons (pe_un un_neg pe_int) (pa_cons (pe_op op_pow pe_int pe_int) (pa_cons (pe_op op_pow pe_int pe_int) (pa_cons (pe_op op_sub pe_int (pe_op op_pow pe_int pe_int)) pa_nil)))))) pa_nil)))))
    (pss_one (ps_for PassesOwn.never rfl (pi_list (pe_lst (pa_cons (pe_call GW (hr.mono (by decide)) (by rfl) DW.M DW.F.kp DW.B .nil pass0 (pa_cons (pv 1) pa_nil)) (pa_cons (pe_call GW (hr.mono (by decide)) (by rfl) DW.M DW.F.kp DW.B .nil pass0 (pa_cons (pv 1) pa_nil)) (pa_cons (pe_call GA (hr.mono (by decide)) (by rfl) DA.M DA.F.kp DA.B .nil pass0 (pa_cons (pv 1) (pa_cons pe_int pa_nil))) (pa_cons (pv 3) pa_nil)))))) (pg_name (i := 4) nd rfl (.inl rfl))
      (pss_one (ps_if (PW.pt (pw_or (pt_cmpR op_ne (pe_callB call_repr_bool (by rfl) T.repr (by decide +kernel) (pa_cons (pe_call GN (hr.mono (by decide)) (by rfl) DN.M DN.F.kp DN.B .nil pass0 (pa_cons (pv 4) pa_nil)) pa_nil)) (pe_callB call_repr_bool (by rfl) T.repr (by decide +kernel) (pa_cons (pe_call GIW (hr.mono (by decide)) (by rfl) DIW.M DIW.F.kp DIW.B .nil pass0 (pa_cons (pv 4) pa_nil)) pa_nil)) (nomark _)) (pw_or1 (pt_cmpR op_ne (pe_callB call_repr_bool (by rfl) T.repr (by decide +kernel) (pa_cons (pe_call GL (hr.mono (by decide)) (by rfl) DL.M DL.F.kp DL.B .nil pass0 (pa_cons (pv 4) pa_nil)) pa_nil)) (pe_callB call_repr_bool (by rfl) T.repr (by decide +kernel) (pa_cons (pe_call GII (hr.mono (by decide)) (by rfl) DII.M DII.F.kp DII.B .nil pass0 (pa_cons (pv 4) pa_nil)) pa_nil)) (nomark _)))))
      (pss_one (ps_ret pe_bl))
      pss_nil))))))
    (pss_one (ps_ret (pe_and (pe_cmpR op_is_bl (pe_callK0 GN (hr.mono (by decide)) (by rfl) DN.M DN.F.kp KBGN pass0 (pk_cons pe_str pk_nil)) pe_bl (nomark _)) (pe_one (pe_cmpR op_is_bl (pe_callK0 GL (hr.mono (by decide)) (by rfl) DL.M DL.F.kp KBGL pass0 (pk_cons pe_bl pk_nil)) pe_bl (nomark _)))))))), ?_⟩
    -- feed = _law_feed(script)
    refine ⟨.ref a, rfl, a, ns, rfl, hS, hl, fun d c H1 F1 S1 nd1 => ?_⟩
    have hA : SqL K H1 a (ns.map V.int) := S1.seq hS
    -- for turn in range(8 + min(20, len(script)))
    refine ⟨.ref a, rfl, a, _, rfl, .inl hA, _, _, rfl, _, _, rfl, rfl, ?_⟩
    have hb : ∃ m : Nat, m ≤ 28 ∧ (8 : Int) + (if ((ns.map V.int).length : Int) < 20 then ((ns.map V.int).length : Int) else 20) = (m : Int) := by
      by_cases h : ((ns.map V.int).length : Int) < 20
      · rw [if_pos h]
        exact ⟨8 + (ns.map V.int).length, by omega, by omega⟩
      · rw [if_neg h]
        exact ⟨28, by omega, rfl⟩
    obtain ⟨m, hm, em⟩ := hb
    refine ⟨m, em ▸ rfl, by omega, by omega, ?_⟩
    refine for_range (lo := 0) (n := m) (fun i σ Hi => ∃ (n' : Nat) (y2 y3 y4 : Option V), σ = [some (.ref a), some (.ref d), y2, y3, y4] ∧ n' ≤ i * 100 ∧ Feed Hi d c ns n') ⟨0, none, none, none, rfl, by omega, F1⟩ ?_ ?_
    · rintro i σ Hi hi ⟨n', y2, y3, y4, rfl, hn', Fi⟩
      -- number
      refine ⟨.ref d, rfl, 10, 9, rfl, rfl, ⟨by decide, by decide, by decide⟩, d, c, ns, n', _, rfl, Fi, by omega, by decide, by decide, fun r H2 n2 r0 r1 hn2 F2 K2 => ?_⟩
      have r1' : r < 1000000000 := r1
      refine ⟨.ref d, rfl, 1, rfl, 10, 9, rfl, rfl, ⟨by decide, by decide, by decide⟩, 10, 29, rfl, rfl, ⟨by decide, by decide, by decide⟩, 10, 45, rfl, rfl, ⟨by decide, by decide, by decide⟩, _, _, rfl, rfl, (by show 5 ≤ sizeLine; decide), fun p np => ?_⟩
      obtain ⟨U3, r3, F3, k3, h3, n3⟩ := nu F2 np
      rw [r3]
      refine ⟨d, c, ns, n2, p, _, rfl, F3 _, by omega, h3 _, (by show 0 < 5; decide), (by show 5 < 1000000; decide), fun y H4 n4 hy hn4 F4 K4 => ?_⟩
      have hy' : ∃ z : Int, y = .int z := by
        rcases List.mem_cons.mp hy with rfl | hy
        · exact ⟨_, rfl⟩
        · rcases List.mem_cons.mp hy with rfl | hy
          · exact ⟨_, rfl⟩
          · rcases List.mem_cons.mp hy with rfl | hy
            · exact ⟨_, rfl⟩
            · rcases List.mem_cons.mp hy with rfl | hy
              · exact ⟨_, rfl⟩
              · cases List.mem_singleton.mp hy
                exact ⟨_, rfl⟩
      obtain ⟨y, rfl⟩ := hy'
      refine ⟨r, y, rfl, rfl, .inl ⟨by omega, by omega⟩, ?_⟩
      -- the four things
      refine ⟨.ref d, rfl, d, c, ns, n4, rfl, F4, by omega, fun z1 H5 n5 s1 hn5 F5 K5 => ?_⟩
      refine ⟨.ref d, rfl, d, c, ns, n5, rfl, F5, by omega, fun z2 H6 n6 s2 hn6 F6 K6 => ?_⟩
      have ec : cost 2 = 17 := rfl
      refine ⟨.ref d, rfl, d, c, ns, n6, rfl, F6, by omega, fun v x H7 n7 dv pv hn7 F7 K7 => ?_⟩
      refine ⟨_, rfl, (by show 4 ≤ sizeLine; decide), fun p8 np8 => ?_⟩
      obtain ⟨U8, r8, F8, k8, h8, n8⟩ := nu F7 np8
      rw [r8]
      refine ⟨p8, rfl, ⟨_, .inl (.inl (h8 _))⟩, ?_⟩
      have DX : ∀ o, DV (fun a => a = d) (U8 o) v x := fun o => dv.keep fun b x' nb e => ⟨k8 o _ _ (fun z => nb (z ▸ F6.old)) e, fun z => nb (z ▸ F6.old)⟩
      refine for_list (K := K) (a := p8) (xs := [.str z1, .str z2, v, .int (r * y)]) (fun j σ Hj => ∃ y4, σ = [some (.ref a), some (.ref d), some (.int (0 + (i : Int))), some (.int (r * y)), y4] ∧ Same (U8 (.lst [.str z1, .str z2, v, .int (r * y)])) Hj) ⟨_, rfl, Same.refl _⟩ (fun j σ Hj _ ⟨_, _, sj⟩ => .inl (.inl (sj _ _ (h8 _)))) ?_ ?_
      · rintro j t σ Hj hj ⟨y4, rfl, sj⟩
        have ht : ∃ xt : PyData, DV (fun a => a = d) Hj t xt ∧ Sm xt := by
          have hm := List.mem_of_getElem? hj
          rcases List.mem_cons.mp hm with rfl | hm
          · exact ⟨_, .str _, s1.sm⟩
          · rcases List.mem_cons.mp hm with rfl | hm
            · exact ⟨_, .str _, s2.sm⟩
            · rcases List.mem_cons.mp hm with rfl | hm
              · exact ⟨x, (DX _).keep fun b o nb e => ⟨sj _ _ e, nb⟩, pv.sm⟩
              · cases List.mem_singleton.mp hm
                exact ⟨_, .int _, trivial⟩
        obtain ⟨xt, dt, smt⟩ := ht
        have dk : ∀ {Hk : Hp}, Same Hj Hk → DV (fun a => a = d) Hk t xt := fun s => dt.keep fun b o nb e => ⟨s _ _ e, nb⟩
        refine ⟨t, rfl, t, xt, _, rfl, dt, smt, fun G1 e1 => ⟨_, rfl, ?_⟩⟩
        refine ⟨t, rfl, t, xt, _, rfl, dk e1, smt, fun G2 e2 => ⟨_, rfl, rfl, _, rfl, ?_⟩⟩
        refine iteNS rfl ?_
        refine ⟨t, rfl, t, xt, _, rfl, dk (e1.trans e2), smt, fun G3 e3 => ⟨_, rfl, ?_⟩⟩
        refine ⟨t, rfl, t, xt, _, rfl, dk ((e1.trans e2).trans e3), smt, fun G4 e4 => ⟨_, rfl, rfl, _, rfl, ?_⟩⟩
        refine iteNS rfl ?_
        exact ⟨some t, rfl, sj.trans (((e1.trans e2).trans e3).trans e4)⟩
      · rintro σ Hj ⟨y4, rfl, sj⟩
        exact ⟨n7, _, _, y4, rfl, by omega, (F8 _).same sj⟩
    · rintro σ Hi ⟨n', y2, y3, y4, rfl, hn', Fi⟩
      refine ⟨_, _, fun _ => False, rfl, .str (Str.ofString "abcdefgh"), ⟨(by decide +kernel), (by decide +kernel)⟩, fun G1 e1 => ⟨_, _, rfl, rfl, _, rfl, ?_⟩⟩
      have e : decide (nameD (.str (Str.ofString "abcdefgh")) = true) = true := by decide +kernel
      rw [e]
      refine iteT ⟨_, _, fun _ => False, rfl, .bl false, trivial, fun G2 e2 => ⟨_, _, rfl, rfl, ?_⟩⟩
      exact q _
end
theorem all_mk {l : PySem.W.OpenLaw} {w : World} {K : PySem.W.Frag} {h : Heap} {mg : Str → Option Value} {fa : Addr} (X : K.In h) (G : h.Ns mainGlobals mg) (hfa : mg "law" = some (.ref fa))
    {tN : Tok} {f0 f1 f2 f3 f4 f5 f6 f7 f8 f9 : Addr} {od0 an0 od1 an1 od2 an2 od3 an3 od4 an4 od5 an5 od6 an6 od7 an7 od8 an8 od9 an9 : Option Addr} {sl0 sl1 sl2 sl3 sl4 sl5 sl6 sl7 sl8 sl9 : Array (Option Value)} {oc0 kV0 dc0 pm0 cd0 ct0 oc1 kV1 dc1 pm1 cd1 ct1 oc2 kV2 dc2 pm2 cd2 ct2 oc3 kV3 dc3 pm3 cd3 ct3 oc4 kV4 dc4 pm4 cd4 ct4 oc5 kV5 dc5 pm5 cd5 ct5 oc6 kV6 dc6 pm6 cd6 ct6 oc7 kV7 dc7 pm7 cd7 ct7 oc8 kV8 dc8 pm8 cd8 ct8 oc9 kV9 dc9 pm9 cd9 ct9 : Value}
    (a0 : PySem.W.nsIn K mainGlobals "is_name" = some (some (.ref f0))) (l0 : K.lookup f0 = some ⟨oc0, od0, .func (PySem.W.fnOf "is_name" "is_name" (defArgs sIsName) (defBody sIsName) (defScope sIsName) .none kV0 dc0 pm0 an0 cd0 ct0), sl0⟩) (c0 : PySem.W.codeIn K cd0 "is_name" = true) (k0 : PySem.W.keepIn K (.ref f0) = true)
    (a1 : PySem.W.nsIn K mainGlobals "is_level" = some (some (.ref f1))) (l1 : K.lookup f1 = some ⟨oc1, od1, .func (PySem.W.fnOf "is_level" "is_level" (defArgs sIsLevel) (defBody sIsLevel) (defScope sIsLevel) .none kV1 dc1 pm1 an1 cd1 ct1), sl1⟩) (c1 : PySem.W.codeIn K cd1 "is_level" = true) (k1 : PySem.W.keepIn K (.ref f1) = true)
    (a2 : PySem.W.nsIn K mainGlobals "_law_feed" = some (some (.ref f2))) (l2 : K.lookup f2 = some ⟨oc2, od2, .func (PySem.W.fnOf "_law_feed" "_law_feed" (defArgs sFeed) (defBody sFeed) (defScope sFeed) .none kV2 dc2 pm2 an2 cd2 ct2), sl2⟩) (c2 : PySem.W.codeIn K cd2 "_law_feed" = true) (k2 : PySem.W.keepIn K (.ref f2) = true)
    (a3 : PySem.W.nsIn K mainGlobals "_law_draw" = some (some (.ref f3))) (l3 : K.lookup f3 = some ⟨oc3, od3, .func (PySem.W.fnOf "_law_draw" "_law_draw" (defArgs sDraw) (defBody sDraw) (defScope sDraw) .none kV3 dc3 pm3 an3 cd3 ct3), sl3⟩) (c3 : PySem.W.codeIn K cd3 "_law_draw" = true) (k3 : PySem.W.keepIn K (.ref f3) = true)
    (a4 : PySem.W.nsIn K mainGlobals "_law_pick" = some (some (.ref f4))) (l4 : K.lookup f4 = some ⟨oc4, od4, .func (PySem.W.fnOf "_law_pick" "_law_pick" (defArgs sPick) (defBody sPick) (defScope sPick) .none kV4 dc4 pm4 an4 cd4 ct4), sl4⟩) (c4 : PySem.W.codeIn K cd4 "_law_pick" = true) (k4 : PySem.W.keepIn K (.ref f4) = true)
    (a5 : PySem.W.nsIn K mainGlobals "_law_any" = some (some (.ref f5))) (l5 : K.lookup f5 = some ⟨oc5, od5, .func (PySem.W.fnOf "_law_any" "_law_any" (defArgs sAny) (defBody sAny) (defScope sAny) .none kV5 dc5 pm5 an5 cd5 ct5), sl5⟩) (c5 : PySem.W.codeIn K cd5 "_law_any" = true) (k5 : PySem.W.keepIn K (.ref f5) = true)
    (a6 : PySem.W.nsIn K mainGlobals "_law_is_int" = some (some (.ref f6))) (l6 : K.lookup f6 = some ⟨oc6, od6, .func (PySem.W.fnOf "_law_is_int" "_law_is_int" (defArgs sIsInt) (defBody sIsInt) (defScope sIsInt) .none kV6 dc6 pm6 an6 cd6 ct6), sl6⟩) (c6 : PySem.W.codeIn K cd6 "_law_is_int" = true) (k6 : PySem.W.keepIn K (.ref f6) = true)
    (a7 : PySem.W.nsIn K mainGlobals "_law_is_word" = some (some (.ref f7))) (l7 : K.lookup f7 = some ⟨oc7, od7, .func (PySem.W.fnOf "_law_is_word" "_law_is_word" (defArgs sIsWord) (defBody sIsWord) (defScope sIsWord) .none kV7 dc7 pm7 an7 cd7 ct7), sl7⟩) (c7 : PySem.W.codeIn K cd7 "_law_is_word" = true) (k7 : PySem.W.keepIn K (.ref f7) = true)
    (a8 : PySem.W.nsIn K mainGlobals "_law_word" = some (some (.ref f8))) (l8 : K.lookup f8 = some ⟨oc8, od8, .func (PySem.W.fnOf "_law_word" "_law_word" (defArgs sWord) (defBody sWord) (defScope sWord) .none kV8 dc8 pm8 an8 cd8 ct8), sl8⟩) (c8 : PySem.W.codeIn K cd8 "_law_word" = true) (k8 : PySem.W.keepIn K (.ref f8) = true)
    (a9 : PySem.W.nsIn K mainGlobals "law" = some (some (.ref f9))) (l9 : K.lookup f9 = some ⟨oc9, od9, .func (PySem.W.fnOf "law" "law" (defArgs sLaw) (defBody sLaw) (defScope sLaw) .none kV9 dc9 pm9 an9 cd9 ct9), sl9⟩) (c9 : PySem.W.codeIn K cd9 "law" = true) (k9 : PySem.W.keepIn K (.ref f9) = true)
    (z_int : PySem.W.nsIn K mainGlobals "int" = some none)
    (z_len : PySem.W.nsIn K mainGlobals "len" = some none)
    (z_abs : PySem.W.nsIn K mainGlobals "abs" = some none)
    (z_range : PySem.W.nsIn K mainGlobals "range" = some none)
    (z_tuple : PySem.W.nsIn K mainGlobals "tuple" = some none)
    (z_list : PySem.W.nsIn K mainGlobals "list" = some none)
    (z_str : PySem.W.nsIn K mainGlobals "str" = some none)
    (z_bool : PySem.W.nsIn K mainGlobals "bool" = some none)
    (z_isinstance : PySem.W.nsIn K mainGlobals "isinstance" = some none)
    (z_all : PySem.W.nsIn K mainGlobals "all" = some none)
    (z_min : PySem.W.nsIn K mainGlobals "min" = some none)
    (z_repr : PySem.W.nsIn K mainGlobals "repr" = some none)
    (x0 : PySem.W.nsIn K mainGlobals "LONGEST_NAME" = some (some (.int 8 tN)))
    : ∃ fd : FuncData, (∀ (s : Shared) (v : Value), BindsTo s fd ⟨[v], []⟩ [("_law_script", v)]) ∧ ∀ base : Heap, K.In base → base.Ns mainGlobals mg → FnOk l.prog w K mg base CX0 6 fa fd ["_law_script"] (spLaw K) := by
  have e := hfa.symm.trans (PySem.W.mg_of X G a9)
  cases e
  have T : Txt mg := ⟨PySem.W.mg_none_of X G z_int, PySem.W.mg_none_of X G z_len, PySem.W.mg_none_of X G z_abs, PySem.W.mg_none_of X G z_range, PySem.W.mg_none_of X G z_tuple, PySem.W.mg_none_of X G z_list, PySem.W.mg_none_of X G z_str, PySem.W.mg_none_of X G z_bool, PySem.W.mg_none_of X G z_isinstance, PySem.W.mg_none_of X G z_all, PySem.W.mg_none_of X G z_min, PySem.W.mg_none_of X G z_repr⟩
  have F0 := fun_mk (st := sIsName) l0 c0 k0
  have D0 : DefAt K mg "is_name" sIsName ["value"] _ _ := ⟨F0, PySem.W.mg_of X G a0, F0.binds (ps := ["value"]) fun _ _ _ _ _ _ us hl => match us, hl with | [_], _ => rfl⟩
  have F1 := fun_mk (st := sIsLevel) l1 c1 k1
  have D1 : DefAt K mg "is_level" sIsLevel ["value"] _ _ := ⟨F1, PySem.W.mg_of X G a1, F1.binds (ps := ["value"]) fun _ _ _ _ _ _ us hl => match us, hl with | [_], _ => rfl⟩
  have F2 := fun_mk (st := sFeed) l2 c2 k2
  have D2 : DefAt K mg "_law_feed" sFeed ["_law_script"] _ _ := ⟨F2, PySem.W.mg_of X G a2, F2.binds (ps := ["_law_script"]) fun _ _ _ _ _ _ us hl => match us, hl with | [_], _ => rfl⟩
  have F3 := fun_mk (st := sDraw) l3 c3 k3
  have D3 : DefAt K mg "_law_draw" sDraw ["_law_feed_here", "_law_many"] _ _ := ⟨F3, PySem.W.mg_of X G a3, F3.binds (ps := ["_law_feed_here", "_law_many"]) fun _ _ _ _ _ _ us hl => match us, hl with | [_, _], _ => rfl⟩
  have F4 := fun_mk (st := sPick) l4 c4 k4
  have D4 : DefAt K mg "_law_pick" sPick ["_law_feed_here", "_law_options"] _ _ := ⟨F4, PySem.W.mg_of X G a4, F4.binds (ps := ["_law_feed_here", "_law_options"]) fun _ _ _ _ _ _ us hl => match us, hl with | [_, _], _ => rfl⟩
  have F5 := fun_mk (st := sAny) l5 c5 k5
  have D5 : DefAt K mg "_law_any" sAny ["_law_feed_here", "_law_deep"] _ _ := ⟨F5, PySem.W.mg_of X G a5, F5.binds (ps := ["_law_feed_here", "_law_deep"]) fun _ _ _ _ _ _ us hl => match us, hl with | [_, _], _ => rfl⟩
  have F6 := fun_mk (st := sIsInt) l6 c6 k6
  have D6 : DefAt K mg "_law_is_int" sIsInt ["_law_thing"] _ _ := ⟨F6, PySem.W.mg_of X G a6, F6.binds (ps := ["_law_thing"]) fun _ _ _ _ _ _ us hl => match us, hl with | [_], _ => rfl⟩
  have F7 := fun_mk (st := sIsWord) l7 c7 k7
  have D7 : DefAt K mg "_law_is_word" sIsWord ["_law_thing"] _ _ := ⟨F7, PySem.W.mg_of X G a7, F7.binds (ps := ["_law_thing"]) fun _ _ _ _ _ _ us hl => match us, hl with | [_], _ => rfl⟩
  have F8 := fun_mk (st := sWord) l8 c8 k8
  have D8 : DefAt K mg "_law_word" sWord ["_law_feed_here"] _ _ := ⟨F8, PySem.W.mg_of X G a8, F8.binds (ps := ["_law_feed_here"]) fun _ _ _ _ _ _ us hl => match us, hl with | [_], _ => rfl⟩
  have F9 := fun_mk (st := sLaw) l9 c9 k9
  exact ⟨PySem.W.fnOf "law" "law" (defArgs sLaw) (defBody sLaw) (defScope sLaw) .none kV9 dc9 pm9 an9 cd9 ct9, fun s v => .of_eq rfl, fun base _ _ => ok_law F9 T D0 D1 D2 D3 D4 D5 D6 D7 D8 (PySem.W.mg_of X G x0)⟩
end Rk
open PySem PySem.W PyProof.Rows
set_option maxHeartbeats 0 in
theorem PySem.Challenge.cw_rockbeds_k02_names_and_levels_holds : PySem.Challenge.rw_rockbeds_k02_names_and_levels.Holds := by
  w_on; o_law; k_head; (case hw => w_witness2)
  k_fill
  refine L2.walk_of (l := PySem.Challenge.rw_rockbeds_k02_names_and_levels) (n := 63) (k := 6) (x := "_law_script") (CX := fun _ => L2.CX0) (sp := fun w => Rk.spLaw _) rfl (by decide) rfl ⟨rfl, by decide, by decide⟩ (fun w h Y => PySem.W.kIn_of Y) ?F (fun _ _ a ns hl _ hS => ⟨a, ns, rfl, hS, hl, fun _ => rfl⟩) (fun _ _ _ _ _ h => h)
  case F =>
    intro w mg fa h KX G hmg
    refine' Rk.all_mk KX G hmg ?a0 ?l0 ?c0 ?k0 ?a1 ?l1 ?c1 ?k1 ?a2 ?l2 ?c2 ?k2 ?a3 ?l3 ?c3 ?k3 ?a4 ?l4 ?c4 ?k4 ?a5 ?l5 ?c5 ?k5 ?a6 ?l6 ?c6 ?k6 ?a7 ?l7 ?c7 ?k7 ?a8 ?l8 ?c8 ?k8 ?a9 ?l9 ?c9 ?k9 ?z_int ?z_len ?z_abs ?z_range ?z_tuple ?z_list ?z_str ?z_bool ?z_isinstance ?z_all ?z_min ?z_repr ?x0
    (case a0 => k_is)
    (case l0 => k_is)
    (case c0 => k_is)
    (case k0 => k_is)
    (case a1 => k_is)
    (case l1 => k_is)
    (case c1 => k_is)
    (case k1 => k_is)
    (case a2 => k_is)
    (case l2 => k_is)
    (case c2 => k_is)
    (case k2 => k_is)
    (case a3 => k_is)
    (case l3 => k_is)
    (case c3 => k_is)
    (case k3 => k_is)
    (case a4 => k_is)
    (case l4 => k_is)
    (case c4 => k_is)
    (case k4 => k_is)
    (case a5 => k_is)
    (case l5 => k_is)
    (case c5 => k_is)
    (case k5 => k_is)
    (case a6 => k_is)
    (case l6 => k_is)
    (case c6 => k_is)
    (case k6 => k_is)
    (case a7 => k_is)
    (case l7 => k_is)
    (case c7 => k_is)
    (case k7 => k_is)
    (case a8 => k_is)
    (case l8 => k_is)
    (case c8 => k_is)
    (case k8 => k_is)
    (case a9 => k_is)
    (case l9 => k_is)
    (case c9 => k_is)
    (case k9 => k_is)
    (case z_int => k_is)
    (case z_len => k_is)
    (case z_abs => k_is)
    (case z_range => k_is)
    (case z_tuple => k_is)
    (case z_list => k_is)
    (case z_str => k_is)
    (case z_bool => k_is)
    (case z_isinstance => k_is)
    (case z_all => k_is)
    (case z_min => k_is)
    (case z_repr => k_is)
    (case x0 => k_is)

